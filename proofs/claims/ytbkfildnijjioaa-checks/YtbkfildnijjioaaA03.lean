import Derived.Test.YtbkfildnijjioaaA01
import Derived.Deep.QuietTactic
import Derived.BigQuiet
import Derived.Test.YtbkfildnijjioaaA02
import Derived.Deep.RegionHeld3
import Derived.ProofKit
import Derived.SizedLaws
import Derived.Deep.Slices
import Derived.Deep.Fields
import Derived.Deep.Strs
/-
  Walks: the lists of a set, looked through by package check.
-/
namespace Go.Proofs.Ytbkfildnijjioaa
open Go.RowKit

set_option maxHeartbeats 400000 in
theorem firstBadMutex_any (ao : Option Addr) (cap : Nat) (l : List PairD) (w : World) (hl : PairsIn w.heap.size w ao l) (hn : (l.length : Int) ≤ 8) :
    Calls Try.prog 21 #[.slice ao l.length cap] w fun e w' => e = .returned (.int .i64 (P3.badOr P3.mutexP l)) ∧ Below w.heap.size w w' := by
  go_enter Try.func21, Try.ntmps21
  go_wp2
  go_loopw [7] (fun i wr => ∃ k : Nat, k ≤ l.length ∧ i = .int .i64 k ∧ (∀ j (h : j < k), (hl : j < l.length) → P3.mutexP l[j] = true) ∧ Below w.heap.size w wr) (fun i _ => l.length - (intOf i).toNat)
  case atStart => exact ⟨0, Nat.zero_le _, rfl, fun j h => absurd h (Nat.not_lt_zero _), Below.refl _ _⟩
  case round =>
    obtain ⟨k, hk, rfl, hall, hb⟩ := hrel
    by_cases hlt : k < l.length
    · obtain ⟨b, o, rfl, hbb, hx, hy⟩ := hl k hlt
      have H1 : Hid (∀ j (h : j < k), (hl : j < l.length) → P3.mutexP l[j] = true) := hall
      have HL : Hid (PairsIn w.heap.size w (some ⟨b, o, none⟩) l) := hl
      have hx' := (hb.cell (p := ⟨b, o + k * 2, none⟩) hbb).trans hx
      have hy' := (hb.cell (p := ⟨b, o + k * 2 + 1, none⟩) hbb).trans hy
      have hsz := hb.size
      clear hall hl hx hy
      go_wp2_with (go_at_call 43; refine (mutexFits_any _ _ _).mono ?_; rintro e w1 ⟨rfl, hb1⟩)
      · go_ret
        refine ⟨ret_int (P3.badOr_at P3.mutexP l k hlt ?_ (fun j h => H1.out j h (by omega))).symm, via (hb.alloc hb.size _) (by simp; omega) hb1⟩
        simpa [P3.mutexP] using ‹(!P3.mutexB l[k].x l[k].y) = true›
      · go_roundw
        case rel =>
          refine ⟨k + 1, by omega, by go_num, ?_, via (hb.alloc hb.size _) (by simp; omega) hb1⟩
          intro j h h'
          rcases Nat.lt_succ_iff_lt_or_eq.1 h with h1 | rfl
          · exact H1.out j h1 h'
          · simpa [P3.mutexP] using ‹(!P3.mutexB l[j].x l[j].y) = false›
        case measure => simp [intOf]; omega
    · have H1 : Hid (∀ j (h : j < k), (hl : j < l.length) → P3.mutexP l[j] = true) := hall
      have HL : Hid (PairsIn w.heap.size w ao l) := hl
      clear hall hl
      go_wp2
      go_ret
      exact ⟨ret_int (P3.badOr_none P3.mutexP l (fun j h => H1.out j (by omega) h)).symm, hb⟩

set_option maxHeartbeats 400000 in
theorem firstBadSem_any (ao : Option Addr) (cap : Nat) (l : List PairD) (w : World) (hl : PairsIn w.heap.size w ao l) (hn : (l.length : Int) ≤ 4) :
    Calls Try.prog 22 #[.slice ao l.length cap] w fun e w' => e = .returned (.int .i64 (P3.badOr P3.semP l)) ∧ Below w.heap.size w w' := by
  go_enter Try.func22, Try.ntmps22
  go_wp2
  go_loopw [7] (fun i wr => ∃ k : Nat, k ≤ l.length ∧ i = .int .i64 k ∧ (∀ j (h : j < k), (hl : j < l.length) → P3.semP l[j] = true) ∧ Below w.heap.size w wr) (fun i _ => l.length - (intOf i).toNat)
  case atStart => exact ⟨0, Nat.zero_le _, rfl, fun j h => absurd h (Nat.not_lt_zero _), Below.refl _ _⟩
  case round =>
    obtain ⟨k, hk, rfl, hall, hb⟩ := hrel
    have H1 : Hid (∀ j (h : j < k), (hl : j < l.length) → P3.semP l[j] = true) := hall
    clear hall
    by_cases hlt : k < l.length
    · obtain ⟨b, o, rfl, hbb, hx, hy⟩ := hl k hlt
      have hx' := (hb.cell (p := ⟨b, o + k * 2, none⟩) hbb).trans hx
      have hy' := (hb.cell (p := ⟨b, o + k * 2 + 1, none⟩) hbb).trans hy
      have hsz := hb.size
      clear hl hx hy
      cases hok : P3.semB l[k].x l[k].y
      · have HB : Hid (P3.semB l[k].x l[k].y = false) := hok
        clear hok
        have hB := HB.out
        unfold P3.semB at hB
        rw [decide_eq_false_iff_not] at hB
        have hor : l[k].y < 1 ∨ (1 ≤ l[k].y ∧ 100 < l[k].y) ∨ (1 ≤ l[k].y ∧ l[k].y ≤ 100 ∧ l[k].x < 0) ∨ (1 ≤ l[k].y ∧ l[k].y ≤ 100 ∧ 0 ≤ l[k].x ∧ l[k].y < l[k].x) := by omega
        clear hB
        rcases hor with h1 | ⟨h1, h2⟩ | ⟨h1, h2, h3⟩ | ⟨h1, h2, h3, h4⟩
        all_goals
          go_wp2
          go_ret
          exact ⟨ret_int (P3.badOr_at P3.semP l k hlt HB.out (fun j h => H1.out j h (by omega))).symm, hb.alloc hb.size _⟩
      · have HB : Hid (P3.semB l[k].x l[k].y = true) := hok
        clear hok
        have hB := HB.out
        unfold P3.semB at hB
        rw [decide_eq_true_iff] at hB
        obtain ⟨h1, h2, h3, h4⟩ := hB
        go_wp2
        go_roundw
        case rel =>
          refine ⟨k + 1, by omega, by go_num, ?_, hb.alloc hb.size _⟩
          intro j h h'
          rcases Nat.lt_succ_iff_lt_or_eq.1 h with h1 | rfl
          · exact H1.out j h1 h'
          · exact HB.out
        case measure => simp [intOf]; omega
    · clear hl
      go_wp2
      go_ret
      exact ⟨ret_int (P3.badOr_none P3.semP l (fun j h => H1.out j (by omega) h)).symm, hb⟩

set_option maxHeartbeats 400000 in
theorem firstBadQueue_any (ao : Option Addr) (cap : Nat) (l : List Int) (w : World) (hl : IntsIn w.heap.size w ao l) (hn : (l.length : Int) ≤ 4) :
    Calls Try.prog 23 #[.slice ao l.length cap] w fun e w' => e = .returned (.int .i64 (P3.badOr P3.queueB l)) ∧ Below w.heap.size w w' := by
  go_enter Try.func23, Try.ntmps23
  go_wp2
  go_loopw [7] (fun i wr => ∃ k : Nat, k ≤ l.length ∧ i = .int .i64 k ∧ (∀ j (h : j < k), (hl : j < l.length) → P3.queueB l[j] = true) ∧ Below w.heap.size w wr) (fun i _ => l.length - (intOf i).toNat)
  case atStart => exact ⟨0, Nat.zero_le _, rfl, fun j h => absurd h (Nat.not_lt_zero _), Below.refl _ _⟩
  case round =>
    obtain ⟨k, hk, rfl, hall, hb⟩ := hrel
    have H1 : Hid (∀ j (h : j < k), (hl : j < l.length) → P3.queueB l[j] = true) := hall
    clear hall
    by_cases hlt : k < l.length
    · obtain ⟨b, o, rfl, hbb, hx⟩ := hl k hlt
      have hx' := (hb.cell (p := ⟨b, o + k, none⟩) hbb).trans hx
      have hsz := hb.size
      clear hl hx
      cases hok : P3.queueB l[k]
      · have HB : Hid (P3.queueB l[k] = false) := hok
        clear hok
        have hB := HB.out
        unfold P3.queueB at hB
        rw [decide_eq_false_iff_not] at hB
        have hor : l[k] < 1 ∨ (1 ≤ l[k] ∧ 8 < l[k]) := by omega
        clear hB
        rcases hor with h1 | ⟨h1, h2⟩
        all_goals
          go_wp2
          go_ret
          exact ⟨ret_int (P3.badOr_at P3.queueB l k hlt HB.out (fun j h => H1.out j h (by omega))).symm, hb⟩
      · have HB : Hid (P3.queueB l[k] = true) := hok
        clear hok
        have hB := HB.out
        unfold P3.queueB at hB
        rw [decide_eq_true_iff] at hB
        obtain ⟨h1, h2⟩ := hB
        go_wp2
        go_roundw
        case rel =>
          refine ⟨k + 1, by omega, by go_num, ?_, hb⟩
          intro j h h'
          rcases Nat.lt_succ_iff_lt_or_eq.1 h with h1 | rfl
          · exact H1.out j h1 h'
          · exact HB.out
        case measure => simp [intOf]; omega
    · clear hl
      go_wp2
      go_ret
      exact ⟨ret_int (P3.badOr_none P3.queueB l (fun j h => H1.out j (by omega) h)).symm, hb⟩

set_option maxHeartbeats 400000 in
theorem firstBadThread_any (ao : Option Addr) (cap : Nat) (l : List ThreadD) (w : World) (hl : ThreadsIn w.heap.size w ao l) (hn : (l.length : Int) ≤ 16) :
    Calls Try.prog 24 #[.slice ao l.length cap] w fun e w' => e = .returned (.int .i64 (P3.badOr P3.threadP l)) ∧ Below w.heap.size w w' := by
  go_enter Try.func24, Try.ntmps24
  go_wp2
  go_loopw [7] (fun i wr => ∃ k : Nat, k ≤ l.length ∧ i = .int .i64 k ∧ (∀ j (h : j < k), (hl : j < l.length) → P3.threadP l[j] = true) ∧ Below w.heap.size w wr) (fun i _ => l.length - (intOf i).toNat)
  case atStart => exact ⟨0, Nat.zero_le _, rfl, fun j h => absurd h (Nat.not_lt_zero _), Below.refl _ _⟩
  case round =>
    obtain ⟨k, hk, rfl, hall, hb⟩ := hrel
    have H1 : Hid (∀ j (h : j < k), (hl : j < l.length) → P3.threadP l[j] = true) := hall
    clear hall
    by_cases hlt : k < l.length
    · obtain ⟨b, o, cv, cc, rfl, hbb, c0, c1, c2, c3, c4, _⟩ := hl k hlt
      have c0' := (hb.cell (p := ⟨b, o + k * 5, none⟩) hbb).trans c0
      have c1' := (hb.cell (p := ⟨b, o + k * 5 + 1, none⟩) hbb).trans c1
      have c2' := (hb.cell (p := ⟨b, o + k * 5 + 2, none⟩) hbb).trans c2
      have c3' := (hb.cell (p := ⟨b, o + k * 5 + 3, none⟩) hbb).trans c3
      have c4' := (hb.cell (p := ⟨b, o + k * 5 + 4, none⟩) hbb).trans c4
      have hsz := hb.size
      clear hl c0 c1 c2 c3 c4
      go_wp2_with (go_at_call 44; refine (threadFits_any _ _ _ _ _ _ _ _).mono ?_; rintro e w1 ⟨rfl, hb1⟩)
      · go_ret
        refine ⟨ret_int (P3.badOr_at P3.threadP l k hlt ?_ (fun j h => H1.out j h (by omega))).symm, via (hb.alloc hb.size _) (by simp; omega) hb1⟩
        simpa [P3.threadP] using ‹(!P3.threadB _ _ _ _ _) = true›
      · go_roundw
        case rel =>
          refine ⟨k + 1, by omega, by go_num, ?_, via (hb.alloc hb.size _) (by simp; omega) hb1⟩
          intro j h h'
          rcases Nat.lt_succ_iff_lt_or_eq.1 h with h1 | rfl
          · exact H1.out j h1 h'
          · simpa [P3.threadP] using ‹(!P3.threadB _ _ _ _ _) = false›
        case measure => simp [intOf]; omega
    · clear hl
      go_wp2
      go_ret
      exact ⟨ret_int (P3.badOr_none P3.threadP l (fun j h => H1.out j (by omega) h)).symm, hb⟩

end Go.Proofs.Ytbkfildnijjioaa

/-
  Walks: the codes of a set, looked through by package check.
-/
namespace Go.Proofs.Ytbkfildnijjioaa
open Go.RowKit

/-- What the two loops have seen so far: threads ahead of t have good codes. -/
def CodesTo (S : SetD) (t : Nat) : Prop := ∀ j (_ : j < t), (hl : j < S.threads.length) → P3.codeP S S.threads[j] = true
def CodeTo (S : SetD) (c : List InstrD) (i : Nat) : Prop := ∀ j (_ : j < i), (hl : j < c.length) → P3.instrP S c.length c[j] = true

theorem CodesTo.step {S : SetD} {t : Nat} (h : CodesTo S t) (ht : t < S.threads.length) (hc : CodeTo S S.threads[t].code S.threads[t].code.length) : CodesTo S (t + 1) := by
  intro j hj hl
  rcases Nat.lt_succ_iff_lt_or_eq.1 hj with h1 | rfl
  · exact h j h1 hl
  · unfold P3.codeP
    rw [decide_eq_true_iff]
    exact P3.bad_all _ _ (fun i hi => hc i hi hi)

theorem badCode_none {S : SetD} (h : CodesTo S S.threads.length) : P3.badCode S = -1 := by
  unfold P3.badCode
  rw [P3.bad_all (P3.codeP S) S.threads (fun j hj => h j hj hj), if_neg (by omega)]

theorem badCode_at {S : SetD} {t i : Nat} (h : CodesTo S t) (ht : t < S.threads.length) (hc : CodeTo S S.threads[t].code i) (hi : i < S.threads[t].code.length)
    (hb : P3.instrP S S.threads[t].code.length S.threads[t].code[i] = false) : P3.badCode S = 100 * (t : Int) + i := by
  have e1 : P3.bad (P3.instrP S S.threads[t].code.length) S.threads[t].code = i := P3.bad_eq _ _ i hi hb (fun j hj => hc j hj (by omega))
  have e2 : P3.bad (P3.codeP S) S.threads = t := by
    refine P3.bad_eq _ _ t ht ?_ (fun j hj => h j hj (by omega))
    unfold P3.codeP
    rw [decide_eq_false_iff_not, e1]
    omega
  unfold P3.badCode
  have e3 : S.threads.getD t P3.none0 = S.threads[t] := by simp [List.getD, ht]
  rw [e2, if_pos ht, e3, e1]

set_option maxHeartbeats 1000000 in
theorem firstBadInstr_any (tv mv sv qv : Option Addr) (tc mc sc qc : Nat) (S : SetD) (w : World) (hl : ThreadsIn w.heap.size w tv S.threads)
    (h1 : (S.threads.length : Int) ≤ 16) (h2 : (S.mutexes.length : Int) ≤ 8) (h3 : (S.sems.length : Int) ≤ 4) (h4 : (S.queues.length : Int) ≤ 4) (h5 : ∀ j (h : j < S.threads.length), (S.threads[j].code.length : Int) ≤ 32) :
    Calls Try.prog 25 #[.agg #[.int .i64 S.workers, .int .i64 S.start, .slice tv S.threads.length tc, .slice mv S.mutexes.length mc, .slice sv S.sems.length sc, .slice qv S.queues.length qc]] w fun e w' =>
      e = .returned (.int .i64 (P3.badCode S)) ∧ Below w.heap.size w w' := by
  have H5 : Hid (∀ j (h : j < S.threads.length), (S.threads[j].code.length : Int) ≤ 32) := h5
  have HL : Hid (ThreadsIn w.heap.size w tv S.threads) := hl
  clear h5 hl
  go_enter Try.func25, Try.ntmps25
  go_wp2
  generalize hw0 : w.alloc (.cells #[.int .i64 S.workers, .int .i64 S.start, .slice tv S.threads.length tc, .slice mv S.mutexes.length mc, .slice sv S.sems.length sc, .slice qv S.queues.length qc] 27) = w0
  have hs0 : w.heap.size < w0.heap.size := by rw [← hw0]; simp
  have b0 : w0.cell? ⟨w.heap.size, 0, none⟩ = some (.int .i64 S.workers) := by rw [← hw0]; simp
  have b1 : w0.cell? ⟨w.heap.size, 1, none⟩ = some (.int .i64 S.start) := by rw [← hw0]; simp
  have b2 : w0.cell? ⟨w.heap.size, 2, none⟩ = some (.slice tv S.threads.length tc) := by rw [← hw0]; simp
  have b3 : w0.cell? ⟨w.heap.size, 3, none⟩ = some (.slice mv S.mutexes.length mc) := by rw [← hw0]; simp
  have b4 : w0.cell? ⟨w.heap.size, 4, none⟩ = some (.slice sv S.sems.length sc) := by rw [← hw0]; simp
  have b5 : w0.cell? ⟨w.heap.size, 5, none⟩ = some (.slice qv S.queues.length qc) := by rw [← hw0]; simp
  have hl0 : ThreadsIn w.heap.size w0 tv S.threads := HL.out.stays (by rw [← hw0]; exact (Below.refl _ _).alloc (Nat.le_refl _) _)
  have hb0 : Below w.heap.size w w0 := by rw [← hw0]; exact (Below.refl _ _).alloc (Nat.le_refl _) _
  clear hw0 HL
  have HL : Hid (ThreadsIn w.heap.size w0 tv S.threads) := hl0
  clear hl0
  go_loopw [11] (fun i wr => ∃ k : Nat, k ≤ S.threads.length ∧ i = .int .i64 k ∧ CodesTo S k ∧ Below w0.heap.size w0 wr) (fun i _ => S.threads.length - (intOf i).toNat)
  case atStart => exact ⟨0, Nat.zero_le _, rfl, fun j h => absurd h (Nat.not_lt_zero _), Below.refl _ _⟩
  case round =>
    obtain ⟨k, hk, rfl, hall, hb⟩ := hrel
    by_cases hlt : k < S.threads.length
    · obtain ⟨b, o, cv, cc, rfl, hbb, c0, c1, c2, c3, c4, hcode, _⟩ := HL.out k hlt
      have c0' := (hb.cell (p := ⟨b, o + k * 5, none⟩) (Nat.lt_trans hbb hs0)).trans c0
      have c1' := (hb.cell (p := ⟨b, o + k * 5 + 1, none⟩) (Nat.lt_trans hbb hs0)).trans c1
      have c2' := (hb.cell (p := ⟨b, o + k * 5 + 2, none⟩) (Nat.lt_trans hbb hs0)).trans c2
      have c3' := (hb.cell (p := ⟨b, o + k * 5 + 3, none⟩) (Nat.lt_trans hbb hs0)).trans c3
      have c4' := (hb.cell (p := ⟨b, o + k * 5 + 4, none⟩) (Nat.lt_trans hbb hs0)).trans c4
      have hlen := H5.out k hlt
      have hsz := hb.size
      clear c0 c1 c2 c3 c4
      have HC : Hid (InstrsIn w.heap.size w0 cv S.threads[k].code) := hcode
      clear hcode
      go_wp2
      generalize hw1 : wr.alloc (.cells #[.int .i64 S.threads[k].base, .int .i64 S.threads[k].offset, .int .i64 S.threads[k].period, .int .i64 S.threads[k].deadline, .slice cv S.threads[k].code.length cc] 41) = w1
      have hs1 : wr.heap.size < w1.heap.size := by rw [← hw1]; simp
      have d4 : w1.cell? ⟨wr.heap.size, 4, none⟩ = some (.slice cv S.threads[k].code.length cc) := by rw [← hw1]; simp
      have hb1 : Below w0.heap.size w0 w1 := by rw [← hw1]; exact hb.alloc hb.size _
      have e0 := (hb1.cell (p := ⟨w.heap.size, 0, none⟩) hs0).trans b0
      have e1 := (hb1.cell (p := ⟨w.heap.size, 1, none⟩) hs0).trans b1
      have e2 := (hb1.cell (p := ⟨w.heap.size, 2, none⟩) hs0).trans b2
      have e3 := (hb1.cell (p := ⟨w.heap.size, 3, none⟩) hs0).trans b3
      have e4 := (hb1.cell (p := ⟨w.heap.size, 4, none⟩) hs0).trans b4
      have e5 := (hb1.cell (p := ⟨w.heap.size, 5, none⟩) hs0).trans b5
      clear c0' c1' c2' c3' c4' hw1
      generalize wr.heap.size = g at *
      go_loopw [19] (fun i wx => ∃ m : Nat, m ≤ S.threads[k].code.length ∧ i = .int .i64 m ∧ CodeTo S S.threads[k].code m ∧ Below w1.heap.size w1 wx) (fun i _ => S.threads[k].code.length - (intOf i).toNat)
      case atStart => exact ⟨0, Nat.zero_le _, rfl, fun j h => absurd h (Nat.not_lt_zero _), Below.refl _ _⟩
      case round =>
        obtain ⟨m, hm, rfl, hall2, hb2⟩ := hrel
        have HA : Hid (CodeTo S S.threads[k].code m) := hall2
        have HB : Hid (CodesTo S k) := hall
        clear hall2 hall
        by_cases hlt2 : m < S.threads[k].code.length
        · obtain ⟨b', o', rfl, hbb', x0, x1, x2⟩ := HC.out m hlt2
          have y0 := (hb2.cell (p := ⟨b', o' + m * 3, none⟩) (by show b' < _; omega)).trans ((hb1.cell (p := ⟨b', o' + m * 3, none⟩) (by show b' < _; omega)).trans x0)
          have y1 := (hb2.cell (p := ⟨b', o' + m * 3 + 1, none⟩) (by show b' < _; omega)).trans ((hb1.cell (p := ⟨b', o' + m * 3 + 1, none⟩) (by show b' < _; omega)).trans x1)
          have y2 := (hb2.cell (p := ⟨b', o' + m * 3 + 2, none⟩) (by show b' < _; omega)).trans ((hb1.cell (p := ⟨b', o' + m * 3 + 2, none⟩) (by show b' < _; omega)).trans x2)
          have f0 := (hb2.cell (p := ⟨w.heap.size, 0, none⟩) (by show w.heap.size < _; omega)).trans e0
          have f1 := (hb2.cell (p := ⟨w.heap.size, 1, none⟩) (by show w.heap.size < _; omega)).trans e1
          have f2 := (hb2.cell (p := ⟨w.heap.size, 2, none⟩) (by show w.heap.size < _; omega)).trans e2
          have f3 := (hb2.cell (p := ⟨w.heap.size, 3, none⟩) (by show w.heap.size < _; omega)).trans e3
          have f4 := (hb2.cell (p := ⟨w.heap.size, 4, none⟩) (by show w.heap.size < _; omega)).trans e4
          have f5 := (hb2.cell (p := ⟨w.heap.size, 5, none⟩) (by show w.heap.size < _; omega)).trans e5
          have g4 := (hb2.cell (p := ⟨g, 4, none⟩) (by show g < _; omega)).trans d4
          have hsz2 := hb2.size
          clear x0 x1 x2 e0 e1 e2 e3 e4 e5 d4 b0 b1 b2 b3 b4 b5
          have q1 : w.heap.size < wr.heap.size := by omega
          have q2 : g < wr.heap.size := by omega
          go_wp2_with (first
            | (go_at_call 45; refine (boundsOf_any _ _ _ _ _ _ _ _ _ _ _ _ _ _ _ _ _ h1 h2 h3 h4).mono ?_; rintro e w3 ⟨rfl, hb3⟩; obtain ⟨hc3, hf3⟩ := bcell hb3; have hz3 : wr.heap.size < w3.heap.size := (by have := hb3.size; simp at this; omega))
            | (go_at_call 46; refine (instrFits_any _ _ _ _ _ _ _ _ _).mono ?_; rintro e w4 ⟨rfl, hb4⟩))
          · go_ret
            refine ⟨ret_int (badCode_at HB.out hlt HA.out hlt2 ?_).symm, via hb0 (Nat.le_of_lt hs0) (via hb1 (by omega) (via (via (hb2.alloc hb2.size _) (by simp; omega) hb3 |>.alloc (by omega) _) (by simp; omega) hb4))⟩
            simpa [P3.instrP, P3.instrB] using ‹(!P3.fitsB _ _ _ _ _ _ _) = true›
          · go_roundw
            case rel =>
              refine ⟨m + 1, by omega, by go_num, ?_, via (via (hb2.alloc hb2.size _) (by simp; omega) hb3 |>.alloc (by omega) _) (by simp; omega) hb4⟩
              intro j h h'
              rcases Nat.lt_succ_iff_lt_or_eq.1 h with h1 | rfl
              · exact HA.out j h1 h'
              · simpa [P3.instrP, P3.instrB] using ‹(!P3.fitsB _ _ _ _ _ _ _) = false›
            case measure => simp [intOf]; omega
        · have hmm : m = S.threads[k].code.length := by omega
          have HA' : Hid (CodeTo S S.threads[k].code S.threads[k].code.length) := hmm ▸ HA.out
          have hsz2 := hb2.size
          clear hmm
          go_wp2
          go_roundw
          case rel => exact ⟨k + 1, by omega, by go_num, HB.out.step hlt HA'.out, via hb1 (by omega) hb2⟩
          case measure => simp [intOf]; omega
    · go_wp2
      go_ret
      have e : k = S.threads.length := by omega
      subst e
      exact ⟨ret_int (badCode_none hall).symm, via hb0 hb0.size hb⟩

end Go.Proofs.Ytbkfildnijjioaa

/-
  Walks: check.Set and donate.Check: the program's own answer to P3 is the plain one.
-/
namespace Go.Proofs.Ytbkfildnijjioaa
open Go.RowKit

theorem bdrew {B : Nat} {a w : World} (h : Below B a w) (n : Nat) : Below B a (w.drewN n) := ⟨h.os, h.tape, h.output, h.size, h.block⟩

set_option maxHeartbeats 1000000 in
theorem checkSet_any (tv mv sv qv : Option Addr) (tc mc sc qc : Nat) (S : SetD) (w : World) (hS : SetIn w.heap.size w tv mv sv qv S) :
    Calls Try.prog 11 #[.agg #[.int .i64 S.workers, .int .i64 S.start, .slice tv S.threads.length tc, .slice mv S.mutexes.length mc, .slice sv S.sems.length sc, .slice qv S.queues.length qc]] w fun e w' =>
      e = .returned (.agg #[.int .i64 (P3.err S), .int .i64 (P3.place S)]) ∧ Below w.heap.size w w' := by
  have HS : Hid (SetIn w.heap.size w tv mv sv qv S) := hS
  clear hS
  go_enter Try.func11, Try.ntmps11
  go_wp2_with fail
  generalize hw0 : (w.alloc (.cells #[.int .i64 S.workers, .int .i64 S.start, .slice tv S.threads.length tc, .slice mv S.mutexes.length mc, .slice sv S.sems.length sc, .slice qv S.queues.length qc] 27)).alloc (.cells #[.int .i64 0, .int .i64 0] 43) = w0
  have hs0 : w0.heap.size = w.heap.size + 2 := by rw [← hw0]; simp
  have b0 : w0.cell? ⟨w.heap.size, 0, none⟩ = some (.int .i64 S.workers) := by rw [← hw0]; simp
  have b1 : w0.cell? ⟨w.heap.size, 1, none⟩ = some (.int .i64 S.start) := by rw [← hw0]; simp
  have b2 : w0.cell? ⟨w.heap.size, 2, none⟩ = some (.slice tv S.threads.length tc) := by rw [← hw0]; simp
  have b3 : w0.cell? ⟨w.heap.size, 3, none⟩ = some (.slice mv S.mutexes.length mc) := by rw [← hw0]; simp
  have b4 : w0.cell? ⟨w.heap.size, 4, none⟩ = some (.slice sv S.sems.length sc) := by rw [← hw0]; simp
  have b5 : w0.cell? ⟨w.heap.size, 5, none⟩ = some (.slice qv S.queues.length qc) := by rw [← hw0]; simp
  have r0 : w0.cell? ⟨w.heap.size + 1, 0, none⟩ = some (.int .i64 0) := by rw [← hw0]; simp
  have r1 : w0.cell? ⟨w.heap.size + 1, 1, none⟩ = some (.int .i64 0) := by rw [← hw0]; simp
  have z0 : w0.frozen? ⟨w.heap.size + 1, 0, none⟩ = false := by rw [← hw0]; simp
  have z1 : w0.frozen? ⟨w.heap.size + 1, 1, none⟩ = false := by rw [← hw0]; simp
  have hb0 : Below w.heap.size w w0 := by rw [← hw0]; exact ((Below.refl _ _).alloc (Nat.le_refl _) _).alloc (by simp) _
  clear hw0
  have hs1 : w.heap.size < w0.heap.size := by omega
  have hs2 : w.heap.size + 1 < w0.heap.size := by omega
  clear hs0
  refine (sizesFit_any _ _ _ _ _ _ _ _ S _).mono ?_
  rintro e w1 ⟨rfl, hb1⟩
  obtain ⟨hc1, hf1⟩ := bcell hb1
  cases hz : P3.sizesB S
  · go_wp2_with fail
    refine bodyPost_ret (v := .agg #[.int .i64 (P3.err S), .int .i64 (P3.place S)]) ?_ rfl ⟨rfl, ?_⟩
    · simp [results, Try.results11, go_sem, hc1, r0, r1, hs2, P3.err, P3.place, hz]
    · exact ((via hb0 (Nat.le_of_lt hs1) hb1).setCell (by simp) _).setCell (by simp) _
  · obtain ⟨n1, n2, n3, n4⟩ := sizes_of hz
    have g1 := via hb0 (Nat.le_of_lt hs1) hb1
    have k1 := hb1.size
    go_wp2_with fail
    refine (firstBadMutex_any _ _ S.mutexes _ (HS.out.later g1).mutexes n2).mono ?_
    rintro e w2 ⟨rfl, hb2⟩
    have hB2 := via hb1 k1 hb2
    have g2 := via hb0 (Nat.le_of_lt hs1) hB2
    have k2 := hB2.size
    clear hc1 hf1
    obtain ⟨hc2, hf2⟩ := bcell hB2
    cases h1 : (P3.badOr P3.mutexP S.mutexes != -1)
    · go_wp2_with fail
      refine (firstBadSem_any _ _ S.sems _ (HS.out.later g2).sems n3).mono ?_
      rintro e w3 ⟨rfl, hb3⟩
      have hB3 := via hB2 k2 hb3
      have g3 := via hb0 (Nat.le_of_lt hs1) hB3
      have k3 := hB3.size
      clear hc2 hf2
      obtain ⟨hc3, hf3⟩ := bcell hB3
      cases h2 : (P3.badOr P3.semP S.sems != -1)
      · go_wp2_with fail
        refine (firstBadQueue_any _ _ S.queues _ (HS.out.later g3).queues n4).mono ?_
        rintro e w4 ⟨rfl, hb4⟩
        have hB4 := via hB3 k3 hb4
        have g4 := via hb0 (Nat.le_of_lt hs1) hB4
        have k4 := hB4.size
        clear hc3 hf3
        obtain ⟨hc4, hf4⟩ := bcell hB4
        cases h3 : (P3.badOr P3.queueB S.queues != -1)
        · go_wp2_with fail
          refine (firstBadThread_any _ _ S.threads _ (HS.out.later g4).threads n1).mono ?_
          rintro e w5 ⟨rfl, hb5⟩
          have hB5 := via hB4 k4 hb5
          have g5 := via hb0 (Nat.le_of_lt hs1) hB5
          have k5 := hB5.size
          clear hc4 hf4
          obtain ⟨hc5, hf5⟩ := bcell hB5
          cases h4 : (P3.badOr P3.threadP S.threads != -1)
          · go_wp2_with fail
            refine (firstBadInstr_any _ _ _ _ _ _ _ _ S _ (HS.out.later g5).threads n1 n2 n3 n4 (codes_of (by simpa using h4))).mono ?_
            rintro e w6 ⟨rfl, hb6⟩
            have hB6 := via hB5 k5 hb6
            have g6 := via hb0 (Nat.le_of_lt hs1) hB6
            have k6 := hB6.size
            clear hc5 hf5
            obtain ⟨hc6, hf6⟩ := bcell hB6
            cases h5 : (P3.badCode S != -1)
            · go_wp2_with fail
              refine bodyPost_ret (v := .agg #[.int .i64 (P3.err S), .int .i64 (P3.place S)]) ?_ rfl ⟨rfl, ?_⟩
              · rw [bne_eq_false_iff_eq] at h1; rw [bne_eq_false_iff_eq] at h2; rw [bne_eq_false_iff_eq] at h3; rw [bne_eq_false_iff_eq] at h4; rw [bne_eq_false_iff_eq] at h5
                simp [results, Try.results11, go_sem, hc6, r0, r1, hs2, P3.err, P3.place, hz, h1, h2, h3, h4, h5]
              · exact (g6.setCell (by simp) _).setCell (by simp) _
            · go_wp2_with fail
              refine bodyPost_ret (v := .agg #[.int .i64 (P3.err S), .int .i64 (P3.place S)]) ?_ rfl ⟨rfl, ?_⟩
              · rw [bne_eq_false_iff_eq] at h1; rw [bne_eq_false_iff_eq] at h2; rw [bne_eq_false_iff_eq] at h3; rw [bne_eq_false_iff_eq] at h4; rw [bne_iff_ne] at h5
                simp [results, Try.results11, go_sem, hc6, r0, r1, hs2, P3.err, P3.place, hz, h1, h2, h3, h4, h5]
              · exact (g6.setCell (by simp) _).setCell (by simp) _
          · go_wp2_with fail
            refine bodyPost_ret (v := .agg #[.int .i64 (P3.err S), .int .i64 (P3.place S)]) ?_ rfl ⟨rfl, ?_⟩
            · rw [bne_eq_false_iff_eq] at h1; rw [bne_eq_false_iff_eq] at h2; rw [bne_eq_false_iff_eq] at h3; rw [bne_iff_ne] at h4
              simp [results, Try.results11, go_sem, hc5, r0, r1, hs2, P3.err, P3.place, hz, h1, h2, h3, h4]
            · exact (g5.setCell (by simp) _).setCell (by simp) _
        · go_wp2_with fail
          refine bodyPost_ret (v := .agg #[.int .i64 (P3.err S), .int .i64 (P3.place S)]) ?_ rfl ⟨rfl, ?_⟩
          · rw [bne_eq_false_iff_eq] at h1; rw [bne_eq_false_iff_eq] at h2; rw [bne_iff_ne] at h3
            simp [results, Try.results11, go_sem, hc4, r0, r1, hs2, P3.err, P3.place, hz, h1, h2, h3]
          · exact (g4.setCell (by simp) _).setCell (by simp) _
      · go_wp2_with fail
        refine bodyPost_ret (v := .agg #[.int .i64 (P3.err S), .int .i64 (P3.place S)]) ?_ rfl ⟨rfl, ?_⟩
        · rw [bne_eq_false_iff_eq] at h1; rw [bne_iff_ne] at h2
          simp [results, Try.results11, go_sem, hc3, r0, r1, hs2, P3.err, P3.place, hz, h1, h2]
        · exact (g3.setCell (by simp) _).setCell (by simp) _
    · go_wp2_with fail
      refine bodyPost_ret (v := .agg #[.int .i64 (P3.err S), .int .i64 (P3.place S)]) ?_ rfl ⟨rfl, ?_⟩
      · rw [bne_iff_ne] at h1
        simp [results, Try.results11, go_sem, hc2, r0, r1, hs2, P3.err, P3.place, hz, h1]
      · exact (g2.setCell (by simp) _).setCell (by simp) _

end Go.Proofs.Ytbkfildnijjioaa

/-
  Walks: donateref.Check: the document's answer to P3 is the plain one.
-/
namespace Go.Proofs.Ytbkfildnijjioaa
open Go.RowKit

namespace P3
theorem e_size {S : SetD} (h : sizesB S = false) : err S = 1 ∧ place S = 0 := by simp [err, place, h]
theorem e_table {S : SetD} (h : sizesB S = true) (ht : (terr S != 0) = true) : err S = terr S ∧ place S = tplace S := by
  rw [bne_iff_ne] at ht
  unfold terr at ht
  unfold err place terr tplace
  by_cases a : badOr mutexP S.mutexes = -1 <;> by_cases b : badOr semP S.sems = -1 <;> by_cases c : badOr queueB S.queues = -1 <;> simp_all
theorem t_none {S : SetD} (ht : (terr S != 0) = false) : badOr mutexP S.mutexes = -1 ∧ badOr semP S.sems = -1 ∧ badOr queueB S.queues = -1 := by
  rw [bne_eq_false_iff_eq] at ht
  unfold terr at ht
  by_cases a : badOr mutexP S.mutexes = -1 <;> by_cases b : badOr semP S.sems = -1 <;> by_cases c : badOr queueB S.queues = -1 <;> simp_all
theorem e_thread {S : SetD} {k : Nat} (h : sizesB S = true) (ht : (terr S != 0) = false) (hk : badOr threadP S.threads = k) : err S = 5 ∧ place S = k := by
  obtain ⟨a, b, c⟩ := t_none ht
  have e : (k : Int) ≠ -1 := by omega
  simp [err, place, h, a, b, c, hk, e]
theorem e_code {S : SetD} {n : Int} (h : sizesB S = true) (ht : (terr S != 0) = false) (hk : badOr threadP S.threads = -1) (hn : badCode S = n) (h0 : 0 ≤ n) : err S = 6 ∧ place S = n := by
  obtain ⟨a, b, c⟩ := t_none ht
  have e : n ≠ -1 := by omega
  simp [err, place, h, a, b, c, hk, hn, e]
theorem e_ok {S : SetD} (h : sizesB S = true) (ht : (terr S != 0) = false) (hk : badOr threadP S.threads = -1) (hn : badCode S = -1) : err S = 0 ∧ place S = 0 := by
  obtain ⟨a, b, c⟩ := t_none ht
  simp [err, place, h, a, b, c, hk, hn]
end P3

set_option maxHeartbeats 1000000 in
theorem rCheck_any (tv mv sv qv : Option Addr) (tc mc sc qc : Nat) (S : SetD) (w : World) (hS : SetIn w.heap.size w tv mv sv qv S) :
    Calls Try.prog 7 #[.agg #[.int .i64 S.workers, .int .i64 S.start, .slice tv S.threads.length tc, .slice mv S.mutexes.length mc, .slice sv S.sems.length sc, .slice qv S.queues.length qc]] w fun e w' =>
      e = .returned (.tuple #[.int .i64 (P3.err S), .int .i64 (P3.place S)]) ∧ Below w.heap.size w w' := by
  have HS : Hid (SetIn w.heap.size w tv mv sv qv S) := hS
  clear hS
  go_enter Try.func7, Try.ntmps7
  go_wp2_with fail
  generalize hw0 : w.alloc (.cells #[.int .i64 S.workers, .int .i64 S.start, .slice tv S.threads.length tc, .slice mv S.mutexes.length mc, .slice sv S.sems.length sc, .slice qv S.queues.length qc] 27) = w0
  have hs0 : w.heap.size < w0.heap.size := by rw [← hw0]; simp
  have b0 : w0.cell? ⟨w.heap.size, 0, none⟩ = some (.int .i64 S.workers) := by rw [← hw0]; simp
  have b1 : w0.cell? ⟨w.heap.size, 1, none⟩ = some (.int .i64 S.start) := by rw [← hw0]; simp
  have b2 : w0.cell? ⟨w.heap.size, 2, none⟩ = some (.slice tv S.threads.length tc) := by rw [← hw0]; simp
  have b3 : w0.cell? ⟨w.heap.size, 3, none⟩ = some (.slice mv S.mutexes.length mc) := by rw [← hw0]; simp
  have b4 : w0.cell? ⟨w.heap.size, 4, none⟩ = some (.slice sv S.sems.length sc) := by rw [← hw0]; simp
  have b5 : w0.cell? ⟨w.heap.size, 5, none⟩ = some (.slice qv S.queues.length qc) := by rw [← hw0]; simp
  have hb0 : Below w.heap.size w w0 := by rw [← hw0]; exact (Below.refl _ _).alloc (Nat.le_refl _) _
  clear hw0
  have HS0 : Hid (SetIn w.heap.size w0 tv mv sv qv S) := HS.out.stays hb0
  clear HS
  refine (rSizes_any _ _ _ _ _ _ _ _ S _).mono ?_
  rintro e w1 ⟨rfl, hb1⟩
  cases hz : P3.sizesB S
  · go_wp2_with fail
    go_ret2
    exact ⟨ret_two (P3.e_size hz), via hb0 (by omega) hb1⟩
  · obtain ⟨n1, n2, n3, n4⟩ := sizes_of hz
    have HZ : Hid (P3.sizesB S = true) := hz
    clear hz
    obtain ⟨hc1, hf1⟩ := bcell hb1
    have k1 := hb1.size
    go_wp2_with fail
    refine (rTables_any _ _ _ _ _ _ _ _ S _ ((HS0.out.stays (hb1.mono (Nat.le_of_lt hs0))).mono (by omega)) n2 n3 n4).mono ?_
    rintro e w2 ⟨rfl, hb2⟩
    have hB2 := via hb1 k1 hb2
    have k2 := hB2.size
    clear hc1 hf1
    cases ht : (P3.terr S != 0)
    · have HT : Hid ((P3.terr S != 0) = false) := ht
      go_wp2
      clear ht
      go_loopw [7] (fun i wr => ∃ k : Nat, k ≤ S.threads.length ∧ i = .int .i64 k ∧ P3.GoodTo P3.threadP S.threads k ∧ Below w0.heap.size w0 wr) (fun i _ => S.threads.length - (intOf i).toNat)
      case atStart => exact ⟨0, Nat.zero_le _, rfl, P3.GoodTo.zero _ _, hB2⟩
      case round =>
        obtain ⟨k, hk, rfl, hall, hb⟩ := hrel
        have hsz := hb.size
        have q1 : w.heap.size < wr.heap.size := by omega
        have c2 := (hb.cell (p := ⟨w.heap.size, 2, none⟩) hs0).trans b2
        by_cases hlt : k < S.threads.length
        · obtain ⟨b, o, cv, cc, rfl, hbb, x0, x1, x2, x3, x4, _⟩ := HS0.out.threads k hlt
          have x0' := (hb.cell (p := ⟨b, o + k * 5, none⟩) (by show b < _; omega)).trans x0
          have x1' := (hb.cell (p := ⟨b, o + k * 5 + 1, none⟩) (by show b < _; omega)).trans x1
          have x2' := (hb.cell (p := ⟨b, o + k * 5 + 2, none⟩) (by show b < _; omega)).trans x2
          have x3' := (hb.cell (p := ⟨b, o + k * 5 + 3, none⟩) (by show b < _; omega)).trans x3
          have x4' := (hb.cell (p := ⟨b, o + k * 5 + 4, none⟩) (by show b < _; omega)).trans x4
          clear x0 x1 x2 x3 x4
          go_wp2_with (go_at_call 14; refine (rThreadFits_any _ _ _ _ _ _ _ _).mono ?_; rintro e w3 ⟨rfl, hb3⟩)
          · go_ret2
            refine ⟨ret_two (P3.e_thread HZ.out HT.out (hall.at hlt ?_)), via hb0 (by omega) (via hb hsz hb3)⟩
            simpa [P3.threadP] using ‹(!P3.threadB _ _ _ _ _) = true›
          · go_roundw
            case rel =>
              refine ⟨k + 1, by omega, by go_num, hall.step hlt ?_, via hb hsz hb3⟩
              simpa [P3.threadP] using ‹(!P3.threadB _ _ _ _ _) = false›
            case measure => simp [intOf]; omega
        · have HM : Hid (P3.badOr P3.threadP S.threads = -1) := hall.none hlt
          clear hall
          have H5 : Hid (∀ j (_ : j < S.threads.length), (S.threads[j].code.length : Int) ≤ 32) := codes_of HM.out
          go_wp2
          clear c2
          go_loopw [8] (fun i wr => ∃ k : Nat, k ≤ S.threads.length ∧ i = .int .i64 k ∧ CodesTo S k ∧ Below w0.heap.size w0 wr) (fun i _ => S.threads.length - (intOf i).toNat)
          case atStart => exact ⟨0, Nat.zero_le _, rfl, fun j h => absurd h (Nat.not_lt_zero _), hb⟩
          case round =>
            clear hb hsz q1 hlt hk
            obtain ⟨k, hk, rfl, hall, hb⟩ := hrel
            have hsz := hb.size
            have q1 : w.heap.size < wr.heap.size := by omega
            have c2 := (hb.cell (p := ⟨w.heap.size, 2, none⟩) hs0).trans b2
            have HB : Hid (CodesTo S k) := hall
            clear hall
            by_cases hlt : k < S.threads.length
            · obtain ⟨b, o, cv, cc, rfl, hbb, x0, x1, x2, x3, x4, hcode, _⟩ := HS0.out.threads k hlt
              have x4' := (hb.cell (p := ⟨b, o + k * 5 + 4, none⟩) (by show b < _; omega)).trans x4
              have hlen := H5.out k hlt
              have HC : Hid (InstrsIn w.heap.size w0 cv S.threads[k].code) := hcode
              clear x0 x1 x2 x3 x4 hcode
              go_wp2
              clear c2 x4'
              go_loopw [10] (fun i wr => ∃ m : Nat, m ≤ S.threads[k].code.length ∧ i = .int .i64 m ∧ CodeTo S S.threads[k].code m ∧ Below w0.heap.size w0 wr) (fun i _ => S.threads[k].code.length - (intOf i).toNat)
              case atStart => exact ⟨0, Nat.zero_le _, rfl, fun j h => absurd h (Nat.not_lt_zero _), hb⟩
              case round =>
                clear hb hsz q1
                obtain ⟨m, hm, rfl, hall, hb⟩ := hrel
                have hsz := hb.size
                have q1 : w.heap.size < wr.heap.size := by omega
                have HA : Hid (CodeTo S S.threads[k].code m) := hall
                clear hall
                by_cases hlt2 : m < S.threads[k].code.length
                · obtain ⟨b', o', rfl, hbb', x0, x1, x2⟩ := HC.out m hlt2
                  have y0 := (hb.cell (p := ⟨b', o' + m * 3, none⟩) (by show b' < _; omega)).trans x0
                  have y1 := (hb.cell (p := ⟨b', o' + m * 3 + 1, none⟩) (by show b' < _; omega)).trans x1
                  have y2 := (hb.cell (p := ⟨b', o' + m * 3 + 2, none⟩) (by show b' < _; omega)).trans x2
                  have f0 := (hb.cell (p := ⟨w.heap.size, 0, none⟩) hs0).trans b0
                  have f1 := (hb.cell (p := ⟨w.heap.size, 1, none⟩) hs0).trans b1
                  have f2 := (hb.cell (p := ⟨w.heap.size, 2, none⟩) hs0).trans b2
                  have f3 := (hb.cell (p := ⟨w.heap.size, 3, none⟩) hs0).trans b3
                  have f4 := (hb.cell (p := ⟨w.heap.size, 4, none⟩) hs0).trans b4
                  have f5 := (hb.cell (p := ⟨w.heap.size, 5, none⟩) hs0).trans b5
                  clear x0 x1 x2 b0 b1 b2 b3 b4 b5
                  have hmi : (m : Int) < (S.threads[k].code.length : Int) := by omega
                  go_wp2_with fail
                  go_region_held3 (fun w' => w'.cell? ⟨w.heap.size, 0, none⟩ = some (.int .i64 S.workers) ∧ w'.cell? ⟨w.heap.size, 1, none⟩ = some (.int .i64 S.start) ∧ w'.cell? ⟨w.heap.size, 2, none⟩ = some (.slice (some ⟨b, o, none⟩) S.threads.length tc) ∧ w'.cell? ⟨w.heap.size, 3, none⟩ = some (.slice mv S.mutexes.length mc) ∧ w'.cell? ⟨w.heap.size, 4, none⟩ = some (.slice sv S.sems.length sc) ∧ w'.cell? ⟨w.heap.size, 5, none⟩ = some (.slice qv S.queues.length qc) ∧ w'.cell? ⟨b', o' + m * 3, none⟩ = some (.int .i64 S.threads[k].code[m].op) ∧ w'.cell? ⟨b', o' + m * 3 + 1, none⟩ = some (.int .i64 S.threads[k].code[m].a) ∧ w'.cell? ⟨b', o' + m * 3 + 2, none⟩ = some (.int .i64 S.threads[k].code[m].b)) (simp [*])
                    (first
                      | (go_at_call 15; refine (rInstrFits_any _ _ _ _ _ _ _ _ _ _ _ _ _ _ _ _ _ _ _ n1 n2 n3 n4).mono ?_; rintro e w3 ⟨rfl, hb3⟩; have d0 := cell_later hb3 f0; have d1 := cell_later hb3 f1; have d2 := cell_later hb3 f2; have d3 := cell_later hb3 f3; have d4 := cell_later hb3 f4; have d5 := cell_later hb3 f5; have e0 := cell_later hb3 y0; have e1 := cell_later hb3 y1; have e2 := cell_later hb3 y2))
                  go_wp2
                  · go_ret2
                    refine ⟨ret_two (P3.e_code HZ.out HT.out HM.out (badCode_at HB.out hlt HA.out hlt2 ?_) (by omega)), via hb0 (by omega) (via hb.drew hsz hb3)⟩
                    simpa [P3.instrP] using ‹(!P3.instrB _ _ _ _ _ _ _ _) = true›
                  · go_roundw
                    case rel =>
                      refine ⟨m + 1, by omega, by go_num, ?_, via hb.drew hsz hb3⟩
                      intro j h h'
                      rcases Nat.lt_succ_iff_lt_or_eq.1 h with h1 | rfl
                      · exact HA.out j h1 h'
                      · simpa [P3.instrP] using ‹(!P3.instrB _ _ _ _ _ _ _ _) = false›
                    case measure => simp [intOf]; omega
                · have hmm : m = S.threads[k].code.length := by omega
                  have HA' : Hid (CodeTo S S.threads[k].code S.threads[k].code.length) := hmm ▸ HA.out
                  clear hmm
                  go_wp2
                  go_roundw
                  case rel => exact ⟨k + 1, by omega, by go_num, HB.out.step hlt HA'.out, hb⟩
                  case measure => simp [intOf]; omega
            · go_wp2
              go_ret2
              have e : k = S.threads.length := by omega
              subst e
              exact ⟨ret_two (P3.e_ok HZ.out HT.out HM.out (badCode_none HB.out)), via hb0 (by omega) hb⟩
    · have HT : Hid ((P3.terr S != 0) = true) := ht
      go_wp2
      go_ret2
      exact ⟨ret_two (P3.e_table HZ.out HT.out), via hb0 (by omega) hB2⟩

end Go.Proofs.Ytbkfildnijjioaa

/-
  A set that came in, opened: what the form's reader reads is plain data in memory.
-/
namespace Go.Proofs.Ytbkfildnijjioaa
open Go.ChangeShapes Go.WideShapes Go.ChangeAt Go.RowKit Go.Deep

section
variable {H : Type} {enc : TypeId × Value → H} {w : World} {held : Bool}

/-- Every weight of a datum is within the form's reach. -/
def Light (d : DataW H) (t : TypeId) : Prop := ∀ n ∈ d.weights Try.prog t, n ≤ reachBytes

/-- A list, opened: its elements by R. -/
theorem open_list {α : Type} (d0 : α) {t e : TypeId} {size bytes : Nat} (ht : Try.prog.underlying t = some (.slice e)) (hc : Try.prog.cellsOf e = size) (hby : Try.prog.bytesOf e = bytes) (hpos : 0 < size)
    {R : α → List Value → DataW H → Prop} (hR : ∀ n cs x, DataW.trod enc Try.prog w 0 (fun _ => true) held n e cs = some x → ∃ a, R a cs x.1)
    {fuel : Nat} {cs : List Value} {x : DataW H × List MemPlace} (h : DataW.trod enc Try.prog w 0 (fun _ => true) held fuel t cs = some x) :
    ∃ (ao : Option Addr) (cap : Nat) (l : List α), cs = [.slice ao l.length cap] ∧ (ao = none → cap = 0) ∧
      (∀ i (hi : i < l.length), ∃ b o cs' d, ao = some ⟨b, o, none⟩ ∧ b < w.heap.size ∧ cs'.length = size ∧ (∀ j, j < size → w.cell? ⟨b, o + i * size + j, none⟩ = cs'[j]?) ∧ R l[i] cs' d ∧ (Light x.1 t → Light d e)) ∧
      (Light x.1 t → l.length * bytes ≤ reachBytes) := by
  subst hc; subst hby
  rcases open_slice ht h with ⟨rfl, rfl⟩ | ⟨a, len, cap, m, n, D, Pl, rfl, _, hl, _, hm, rfl, hel⟩
  · exact ⟨none, 0, [], rfl, fun _ => rfl, fun i hi => absurd hi (Nat.not_lt_zero _), fun _ => by simp⟩
  · simp only [if_true] at hm
    subst hm
    have hA : ∀ i, i < len → ∃ y : α, ∀ cs', DataW.trod enc Try.prog w 0 (fun _ => true) held n e cs' = some (D i, Pl i) → w.cells? 0 (a.add (i * Try.prog.cellsOf e)) (Try.prog.cellsOf e) = some cs' → R y cs' (D i) := by
      intro i hi
      obtain ⟨cs', h1, h2⟩ := hel i (by omega)
      obtain ⟨y, hy⟩ := hR n cs' _ h2
      refine ⟨y, fun cs'' _ h4 => ?_⟩
      rw [h1] at h4
      cases h4
      exact hy
    haveI : Inhabited α := ⟨d0⟩
    obtain ⟨A, hA⟩ := choose_lt hA
    refine ⟨some a, m, (List.range len).map A, by simp, fun hh => (by cases hh), fun i hi => ?_, fun hw => ?_⟩
    · have hi' : i < len := by simpa using hi
      obtain ⟨cs', h1, h2⟩ := hel i (by omega)
      obtain ⟨_, hlen, hcell⟩ := World.cells?_some h1
      have h0 := hcell 0 hpos
      rw [add_add, Nat.add_zero, List.getElem?_eq_getElem (by omega)] at h0
      have hspot : (a.add (i * Try.prog.cellsOf e)).spot = none := World.cell?_spot h0
      have hlt := World.block_lt_of_cell? _ _ h0
      obtain ⟨b, o, spot⟩ := a
      have hsp : spot = none := by
        by_cases hz : i * Try.prog.cellsOf e = 0
        · rw [hz, Addr.add_zero'] at h0
          exact World.cell?_spot h0
        · -- the first element tells it
          obtain ⟨cs0, g1, _⟩ := hel 0 (by omega)
          obtain ⟨_, gl, gc⟩ := World.cells?_some g1
          have g0 := gc 0 hpos
          rw [Nat.zero_mul, Addr.add_zero', Addr.add_zero', List.getElem?_eq_getElem (by omega)] at g0
          exact World.cell?_spot g0
      subst hsp
      refine ⟨b, o, cs', D i, rfl, by simpa [Addr.add_lit] using hlt, hlen, fun j hj => ?_, ?_, fun hw => ?_⟩
      · have := hcell j hj
        rw [Addr.add_lit, Addr.add_lit] at this
        exact this
      · have := hA i hi' cs' h2 h1
        simpa using this
      · intro q hq
        refine hw q ?_
        simp only [DataW.weights, ht]
        refine List.mem_cons_of_mem _ (List.mem_append_left _ ?_)
        have mem_all : ∀ (L : List (DataW H)) (d : DataW H), d ∈ L → ∀ q ∈ d.weights Try.prog e, q ∈ DataW.weightsAll Try.prog e L := by
          intro L
          induction L with
          | nil => intro d hd; cases hd
          | cons d0 L ih =>
            intro d hd q hq
            simp only [DataW.weightsAll, List.mem_append]
            rcases List.mem_cons.1 hd with rfl | hd
            · exact Or.inl hq
            · exact Or.inr (ih d hd q hq)
        exact mem_all _ (D i) (List.mem_map.2 ⟨i, List.mem_range.2 hi', rfl⟩) q hq
    · have := hw ((((List.range len).map D).length + ((List.range (m - len)).map fun j => D (len + j)).length) * Try.prog.bytesOf e) (by simp [DataW.weights, ht])
      simp only [List.length_map, List.length_range] at this ⊢
      exact Nat.le_trans (Nat.mul_le_mul_right _ (Nat.le_add_right _ _)) this

theorem c3 : Try.prog.cellsOf 3 = 1 := by kernel_rfl
theorem cMutex : Try.prog.cellsOf 66 = 2 := by kernel_rfl
theorem cSem : Try.prog.cellsOf 68 = 2 := by kernel_rfl
theorem cInstr : Try.prog.cellsOf 48 = 3 := by kernel_rfl
theorem cThread : Try.prog.cellsOf 41 = 5 := by kernel_rfl
theorem cCode : Try.prog.cellsOf 39 = 1 := by kernel_rfl
theorem cSet : Try.prog.cellsOf 27 = 6 := by kernel_rfl
theorem cThreads : Try.prog.cellsOf 22 = 1 := by kernel_rfl
theorem cMutexes : Try.prog.cellsOf 23 = 1 := by kernel_rfl
theorem cSems : Try.prog.cellsOf 24 = 1 := by kernel_rfl
theorem cInts : Try.prog.cellsOf 25 = 1 := by kernel_rfl
theorem b3 : Try.prog.bytesOf 3 = 8 := by kernel_rfl
theorem bMutex : Try.prog.bytesOf 66 = 16 := by kernel_rfl
theorem bSem : Try.prog.bytesOf 68 = 16 := by kernel_rfl
theorem bInstr : Try.prog.bytesOf 48 = 24 := by kernel_rfl
theorem bThread : Try.prog.bytesOf 41 = 56 := by kernel_rfl

theorem list2 {l : List Value} (h : l.length = 2) : ∃ a b, l = [a, b] := by
  match l, h with
  | [a, b], _ => exact ⟨a, b, rfl⟩
theorem list3 {l : List Value} (h : l.length = 3) : ∃ a b c, l = [a, b, c] := by
  match l, h with
  | [a, b, c], _ => exact ⟨a, b, c, rfl⟩
theorem list5 {α : Type} {l : List α} (h : l.length = 5) : ∃ a b c d e, l = [a, b, c, d, e] := by
  match l, h with
  | [a, b, c, d, e], _ => exact ⟨a, b, c, d, e, rfl⟩
theorem list6 {α : Type} {l : List α} (h : l.length = 6) : ∃ a b c d e f, l = [a, b, c, d, e, f] := by
  match l, h with
  | [a, b, c, d, e, f], _ => exact ⟨a, b, c, d, e, f, rfl⟩

theorem open_mutex {n : Nat} {cs : List Value} {x : DataW H × List MemPlace} (h : DataW.trod enc Try.prog w 0 (fun _ => true) held n 66 cs = some x) : ∃ a : PairD, cs = [.int .i64 a.x, .int .i64 a.y] := by
  obtain ⟨y0, y1, m, _, hl, h0, h1⟩ := trod_struct2 Try.underlying66 h
  rw [cMutex] at hl
  obtain ⟨a, b, rfl⟩ := list2 hl
  simp only [c3] at h0 h1
  obtain ⟨p, hp, _⟩ := DataW.trod_int Try.underlying3 h0
  obtain ⟨q, hq, _⟩ := DataW.trod_int Try.underlying3 h1
  simp at hp hq
  exact ⟨⟨p, q⟩, by simp [hp, hq]⟩
theorem open_sem {n : Nat} {cs : List Value} {x : DataW H × List MemPlace} (h : DataW.trod enc Try.prog w 0 (fun _ => true) held n 68 cs = some x) : ∃ a : PairD, cs = [.int .i64 a.x, .int .i64 a.y] := by
  obtain ⟨y0, y1, m, _, hl, h0, h1⟩ := trod_struct2 Try.underlying68 h
  rw [cSem] at hl
  obtain ⟨a, b, rfl⟩ := list2 hl
  simp only [c3] at h0 h1
  obtain ⟨p, hp, _⟩ := DataW.trod_int Try.underlying3 h0
  obtain ⟨q, hq, _⟩ := DataW.trod_int Try.underlying3 h1
  simp at hp hq
  exact ⟨⟨p, q⟩, by simp [hp, hq]⟩
theorem open_instr {n : Nat} {cs : List Value} {x : DataW H × List MemPlace} (h : DataW.trod enc Try.prog w 0 (fun _ => true) held n 48 cs = some x) : ∃ a : InstrD, cs = [.int .i64 a.op, .int .i64 a.a, .int .i64 a.b] := by
  obtain ⟨y0, y1, y2, m, _, hl, h0, h1, h2⟩ := trod_struct3 Try.underlying48 h
  rw [cInstr] at hl
  obtain ⟨a, b, c, rfl⟩ := list3 hl
  simp only [c3] at h0 h1 h2
  obtain ⟨p, hp, _⟩ := DataW.trod_int Try.underlying3 h0
  obtain ⟨q, hq, _⟩ := DataW.trod_int Try.underlying3 h1
  obtain ⟨r, hr, _⟩ := DataW.trod_int Try.underlying3 h2
  simp at hp hq hr
  exact ⟨⟨p, q, r⟩, by simp [hp, hq, hr]⟩

theorem open_code {n : Nat} {cs : List Value} {x : DataW H × List MemPlace} (h : DataW.trod enc Try.prog w 0 (fun _ => true) held n 39 cs = some x) :
    ∃ (ao : Option Addr) (cap : Nat) (l : List InstrD), cs = [.slice ao l.length cap] ∧ (ao = none → cap = 0) ∧ InstrsIn w.heap.size w ao l ∧ (Light x.1 39 → l.length * 24 ≤ reachBytes) := by
  obtain ⟨ao, cap, l, h1, h2, h3, h4⟩ := open_list (α := InstrD) ⟨0, 0, 0⟩ (R := fun a cs _ => cs = [.int .i64 a.op, .int .i64 a.a, .int .i64 a.b]) Try.underlying39 cInstr bInstr (by decide) (fun _ _ _ hh => open_instr hh) h
  refine ⟨ao, cap, l, h1, h2, fun i hi => ?_, h4⟩
  obtain ⟨b, o, cs', d, ha, hb, hl, hc, rfl, _⟩ := h3 i hi
  exact ⟨b, o, ha, hb, by simpa using hc 0 (by decide), by simpa using hc 1 (by decide), by simpa using hc 2 (by decide)⟩

theorem open_pairsM {n : Nat} {cs : List Value} {x : DataW H × List MemPlace} (h : DataW.trod enc Try.prog w 0 (fun _ => true) held n 23 cs = some x) :
    ∃ (ao : Option Addr) (cap : Nat) (l : List PairD), cs = [.slice ao l.length cap] ∧ (ao = none → cap = 0) ∧ PairsIn w.heap.size w ao l ∧ (Light x.1 23 → l.length * 16 ≤ reachBytes) := by
  obtain ⟨ao, cap, l, h1, h2, h3, h4⟩ := open_list (α := PairD) ⟨0, 0⟩ (R := fun a cs _ => cs = [.int .i64 a.x, .int .i64 a.y]) Try.underlying23 cMutex bMutex (by decide) (fun _ _ _ hh => open_mutex hh) h
  refine ⟨ao, cap, l, h1, h2, fun i hi => ?_, h4⟩
  obtain ⟨b, o, cs', d, ha, hb, hl, hc, rfl, _⟩ := h3 i hi
  exact ⟨b, o, ha, hb, by simpa using hc 0 (by decide), by simpa using hc 1 (by decide)⟩
theorem open_pairsS {n : Nat} {cs : List Value} {x : DataW H × List MemPlace} (h : DataW.trod enc Try.prog w 0 (fun _ => true) held n 24 cs = some x) :
    ∃ (ao : Option Addr) (cap : Nat) (l : List PairD), cs = [.slice ao l.length cap] ∧ (ao = none → cap = 0) ∧ PairsIn w.heap.size w ao l ∧ (Light x.1 24 → l.length * 16 ≤ reachBytes) := by
  obtain ⟨ao, cap, l, h1, h2, h3, h4⟩ := open_list (α := PairD) ⟨0, 0⟩ (R := fun a cs _ => cs = [.int .i64 a.x, .int .i64 a.y]) Try.underlying24 cSem bSem (by decide) (fun _ _ _ hh => open_sem hh) h
  refine ⟨ao, cap, l, h1, h2, fun i hi => ?_, h4⟩
  obtain ⟨b, o, cs', d, ha, hb, hl, hc, rfl, _⟩ := h3 i hi
  exact ⟨b, o, ha, hb, by simpa using hc 0 (by decide), by simpa using hc 1 (by decide)⟩
theorem open_numbers {n : Nat} {cs : List Value} {x : DataW H × List MemPlace} (h : DataW.trod enc Try.prog w 0 (fun _ => true) held n 25 cs = some x) :
    ∃ (ao : Option Addr) (cap : Nat) (l : List Int), cs = [.slice ao l.length cap] ∧ (ao = none → cap = 0) ∧ IntsIn w.heap.size w ao l ∧ (Light x.1 25 → l.length * 8 ≤ reachBytes) := by
  obtain ⟨ao, cap, l, h1, h2, h3, h4⟩ := open_list (α := Int) 0 (R := fun a cs _ => cs = [.int .i64 a]) Try.underlying25 c3 b3 (by decide) (fun _ _ _ hh => by obtain ⟨z, hz, _⟩ := DataW.trod_int Try.underlying3 hh; exact ⟨z, hz⟩) h
  refine ⟨ao, cap, l, h1, h2, fun i hi => ?_, h4⟩
  obtain ⟨b, o, cs', d, ha, hb, hl, hc, rfl, _⟩ := h3 i hi
  exact ⟨b, o, ha, hb, by simpa using hc 0 (by decide)⟩

theorem trod_struct5 {t : TypeId} {f0 f1 f2 f3 f4 : Field} {fuel : Nat} {cs : List Value} {x : DataW H × List MemPlace} (ht : Try.prog.underlying t = some (.struct #[f0, f1, f2, f3, f4])) (h : DataW.trod enc Try.prog w 0 (fun _ => true) held fuel t cs = some x) :
    ∃ y0 y1 y2 y3 y4 n, x.1 = .agg [y0.1, y1.1, y2.1, y3.1, y4.1] ∧ cs.length = Try.prog.cellsOf t ∧ DataW.trod enc Try.prog w 0 (fun _ => true) held n f0.type ((cs.drop f0.offset).take (Try.prog.cellsOf f0.type)) = some y0 ∧
      DataW.trod enc Try.prog w 0 (fun _ => true) held n f1.type ((cs.drop f1.offset).take (Try.prog.cellsOf f1.type)) = some y1 ∧ DataW.trod enc Try.prog w 0 (fun _ => true) held n f2.type ((cs.drop f2.offset).take (Try.prog.cellsOf f2.type)) = some y2 ∧
      DataW.trod enc Try.prog w 0 (fun _ => true) held n f3.type ((cs.drop f3.offset).take (Try.prog.cellsOf f3.type)) = some y3 ∧ DataW.trod enc Try.prog w 0 (fun _ => true) held n f4.type ((cs.drop f4.offset).take (Try.prog.cellsOf f4.type)) = some y4 := by
  obtain ⟨xs, n, _, rfl, hl, hlen, hf⟩ := DataW.trod_struct ht h
  obtain ⟨y0, y1, y2, y3, y4, rfl⟩ := list5 (hlen.trans rfl)
  exact ⟨y0, y1, y2, y3, y4, n, by simp, hl, by simpa using hf 0 f0 rfl, by simpa using hf 1 f1 rfl, by simpa using hf 2 f2 rfl, by simpa using hf 3 f3 rfl, by simpa using hf 4 f4 rfl⟩
theorem trod_struct6 {t : TypeId} {f0 f1 f2 f3 f4 f5 : Field} {fuel : Nat} {cs : List Value} {x : DataW H × List MemPlace} (ht : Try.prog.underlying t = some (.struct #[f0, f1, f2, f3, f4, f5])) (h : DataW.trod enc Try.prog w 0 (fun _ => true) held fuel t cs = some x) :
    ∃ y0 y1 y2 y3 y4 y5 n, x.1 = .agg [y0.1, y1.1, y2.1, y3.1, y4.1, y5.1] ∧ cs.length = Try.prog.cellsOf t ∧ DataW.trod enc Try.prog w 0 (fun _ => true) held n f0.type ((cs.drop f0.offset).take (Try.prog.cellsOf f0.type)) = some y0 ∧
      DataW.trod enc Try.prog w 0 (fun _ => true) held n f1.type ((cs.drop f1.offset).take (Try.prog.cellsOf f1.type)) = some y1 ∧ DataW.trod enc Try.prog w 0 (fun _ => true) held n f2.type ((cs.drop f2.offset).take (Try.prog.cellsOf f2.type)) = some y2 ∧
      DataW.trod enc Try.prog w 0 (fun _ => true) held n f3.type ((cs.drop f3.offset).take (Try.prog.cellsOf f3.type)) = some y3 ∧ DataW.trod enc Try.prog w 0 (fun _ => true) held n f4.type ((cs.drop f4.offset).take (Try.prog.cellsOf f4.type)) = some y4 ∧
      DataW.trod enc Try.prog w 0 (fun _ => true) held n f5.type ((cs.drop f5.offset).take (Try.prog.cellsOf f5.type)) = some y5 := by
  obtain ⟨xs, n, _, rfl, hl, hlen, hf⟩ := DataW.trod_struct ht h
  obtain ⟨y0, y1, y2, y3, y4, y5, rfl⟩ := list6 (hlen.trans rfl)
  exact ⟨y0, y1, y2, y3, y4, y5, n, by simp, hl, by simpa using hf 0 f0 rfl, by simpa using hf 1 f1 rfl, by simpa using hf 2 f2 rfl, by simpa using hf 3 f3 rfl, by simpa using hf 4 f4 rfl, by simpa using hf 5 f5 rfl⟩

theorem open_thread {n : Nat} {cs : List Value} {x : DataW H × List MemPlace} (h : DataW.trod enc Try.prog w 0 (fun _ => true) held n 41 cs = some x) :
    ∃ a : ThreadD, ∃ cv cc, cs = [.int .i64 a.base, .int .i64 a.offset, .int .i64 a.period, .int .i64 a.deadline, .slice cv a.code.length cc] ∧ (cv = none → cc = 0) ∧ InstrsIn w.heap.size w cv a.code ∧ (Light x.1 41 → a.code.length * 24 ≤ reachBytes) := by
  obtain ⟨y0, y1, y2, y3, y4, m, hx, hl, h0, h1, h2, h3, h4⟩ := trod_struct5 Try.underlying41 h
  rw [cThread] at hl
  obtain ⟨a, b, c, d, e, rfl⟩ := list5 hl
  simp only [c3, cCode] at h0 h1 h2 h3 h4
  obtain ⟨p0, e0, _⟩ := DataW.trod_int Try.underlying3 h0
  obtain ⟨p1, e1, _⟩ := DataW.trod_int Try.underlying3 h1
  obtain ⟨p2, e2, _⟩ := DataW.trod_int Try.underlying3 h2
  obtain ⟨p3, e3, _⟩ := DataW.trod_int Try.underlying3 h3
  obtain ⟨cv, cc, l, e4, hn, hin, hw⟩ := open_code h4
  simp at e0 e1 e2 e3 e4
  refine ⟨⟨p0, p1, p2, p3, l⟩, cv, cc, by simp [e0, e1, e2, e3, e4], hn, hin, fun hlight => hw ?_⟩
  intro q hq
  refine hlight q ?_
  rw [hx]
  simp only [DataW.weights, Try.underlying41]
  exact DataW.weights_mem_each (j := 4) rfl rfl q hq

theorem open_threads {n : Nat} {cs : List Value} {x : DataW H × List MemPlace} (h : DataW.trod enc Try.prog w 0 (fun _ => true) held n 22 cs = some x) :
    ∃ (ao : Option Addr) (cap : Nat) (l : List ThreadD), cs = [.slice ao l.length cap] ∧ (ao = none → cap = 0) ∧ ThreadsIn w.heap.size w ao l ∧ (Light x.1 22 → l.length * 56 ≤ reachBytes ∧ ∀ j (hj : j < l.length), l[j].code.length * 24 ≤ reachBytes) := by
  obtain ⟨ao, cap, l, h1, h2, h3, h4⟩ := open_list (α := ThreadD) P3.none0 (R := fun a cs d => ∃ cv cc, cs = [.int .i64 a.base, .int .i64 a.offset, .int .i64 a.period, .int .i64 a.deadline, .slice cv a.code.length cc] ∧ (cv = none → cc = 0) ∧ InstrsIn w.heap.size w cv a.code ∧ (Light d 41 → a.code.length * 24 ≤ reachBytes)) Try.underlying22 cThread bThread (by decide) (fun _ _ _ hh => open_thread hh) h
  refine ⟨ao, cap, l, h1, h2, fun i hi => ?_, fun hw => ⟨h4 hw, fun j hj => ?_⟩⟩
  · obtain ⟨b, o, cs', d, ha, hb, hl, hc, ⟨cv, cc, rfl, hn, hin, _⟩, _⟩ := h3 i hi
    exact ⟨b, o, cv, cc, ha, hb, by simpa using hc 0 (by decide), by simpa using hc 1 (by decide), by simpa using hc 2 (by decide), by simpa using hc 3 (by decide), by simpa using hc 4 (by decide), hin, hn⟩
  · obtain ⟨b, o, cs', d, ha, hb, hl, hc, ⟨cv, cc, rfl, hn, hin, hlight⟩, hd⟩ := h3 j hj
    exact hlight (hd hw)

set_option maxRecDepth 100000 in
/-- A SET THAT CAME IN. -/
theorem open_set {r : Reach} {b0 : Nat} {v : Value} {d : DataW H} {p : List MemPlace} (hv : Value.okWide Try.prog w r b0 27 v) (h : DataW.Trod enc Try.prog w 0 (fun _ => true) held 27 v d p) (hw : Light d 27) :
    ∃ (S : SetD) (tv mv sv qv : Option Addr) (tc mc sc qc : Nat), v = .agg #[.int .i64 S.workers, .int .i64 S.start, .slice tv S.threads.length tc, .slice mv S.mutexes.length mc, .slice sv S.sems.length sc, .slice qv S.queues.length qc] ∧
      SetIn w.heap.size w tv mv sv qv S ∧ Fits S ∧ (tv = none → tc = 0) ∧ (mv = none → mc = 0) ∧ (sv = none → sc = 0) ∧ (qv = none → qc = 0) := by
  obtain ⟨cs, rfl, hsz⟩ := okWide_struct Try.underlying27 hv
  obtain ⟨fuel, hf⟩ := h
  obtain ⟨y0, y1, y2, y3, y4, y5, m, hx, hl, h0, h1, h2, h3, h4, h5⟩ := trod_struct6 Try.underlying27 hf
  simp only at hx
  rw [cSet] at hl
  obtain ⟨a, b, c, dd, e, f, hcs⟩ := list6 hl
  have hcs' : cs = #[a, b, c, dd, e, f] := by
    have : cs.toList = [a, b, c, dd, e, f] := by simpa [Value.cells] using hcs
    exact Array.ext' (by simpa using this)
  subst hcs'
  simp only [Value.cells, c3, cThreads, cMutexes, cSems, cInts] at h0 h1 h2 h3 h4 h5
  simp at h0 h1 h2 h3 h4 h5
  obtain ⟨p0, e0, _⟩ := DataW.trod_int Try.underlying3 h0
  obtain ⟨p1, e1, _⟩ := DataW.trod_int Try.underlying3 h1
  obtain ⟨tv, tc, ts, e2, n2, i2, w2⟩ := open_threads h2
  obtain ⟨mv, mc, ms, e3, n3, i3, w3⟩ := open_pairsM h3
  obtain ⟨sv, sc, ss, e4, n4, i4, w4⟩ := open_pairsS h4
  obtain ⟨qv, qc, qs, e5, n5, i5, w5⟩ := open_numbers h5
  simp at e0 e1 e2 e3 e4 e5
  subst e0 e1 e2 e3 e4 e5
  have part : ∀ (j : Nat) (t : TypeId) (y : DataW H), [(3 : TypeId), 3, 22, 23, 24, 25][j]? = some t → [y0.1, y1.1, y2.1, y3.1, y4.1, y5.1][j]? = some y → Light y t := by
    intro j t y hj hy q hq
    refine hw q ?_
    rw [hx]
    simp only [DataW.weights, Try.underlying27]
    exact DataW.weights_mem_each hj hy q hq
  have l2 := w2 (part 2 _ _ rfl rfl)
  have l3 := w3 (part 3 _ _ rfl rfl)
  have l4 := w4 (part 4 _ _ rfl rfl)
  have l5 := w5 (part 5 _ _ rfl rfl)
  exact ⟨⟨p0, p1, ts, ms, ss, qs⟩, tv, mv, sv, qv, tc, mc, sc, qc, rfl, ⟨i2, i3, i4, i5⟩, ⟨l2.1, l3, l4, l5, l2.2⟩, n2, n3, n4, n5⟩

end
end Go.Proofs.Ytbkfildnijjioaa
