import Derived.Test.YtbkfildnijjioaaGreatA15
import Derived.Test.YtbkfildnijjioaaGreatA01
import Derived.Test.YtbkfildnijjioaaGreatA12
import Derived.Deep.RegionHeld3
import Derived.ProofKit
import Derived.SizedLaws
import Derived.Deep.Slices
import Derived.Deep.Fields
import Derived.Deep.Strs
/-
  Walks: does an instruction fit (package donateref)?
-/
namespace Go.Proofs.YtbkfildnijjioaaGreat
open Go.RowKit

set_option maxHeartbeats 400000 in
theorem rInstrFits_any (wk st : Int) (tv mv sv qv : Option Addr) (tn tc mn mc sn sc qn qc : Nat) (len op a b : Int) (w : World) (h1 : (tn : Int) ≤ 16) (h2 : (mn : Int) ≤ 8) (h3 : (sn : Int) ≤ 4) (h4 : (qn : Int) ≤ 4) :
    Calls Tryz.prog 67 #[.agg #[.int .i64 wk, .int .i64 st, .slice tv tn tc, .slice mv mn mc, .slice sv sn sc, .slice qv qn qc], .int .i64 len, .agg #[.int .i64 op, .int .i64 a, .int .i64 b]] w fun e w' =>
      e = .returned (.bool (P3.instrB tn mn sn qn len op a b)) ∧ Below w.heap.size w w' := by
  go_enter Tryz.func67, Tryz.ntmps67
  go_wp2_with (go_at_call 108; refine (rBounds_any _ _ _ _ _ _ _ _ _ _ _ _ _ _ _ _ _ h1 h2 h3 h4).mono ?_; rintro e w1 ⟨rfl, hb1⟩; obtain ⟨hc1, hf1⟩ := bcell hb1; have hz1 : w.heap.size + 1 < w1.heap.size := (by have := hb1.size; simp at this; omega))
  all_goals
    go_ret
    refine ⟨ret_bool ?_, (via (((Below.refl _ _).alloc (Nat.le_refl _) _).alloc (by simp) _) (by simp; omega) hb1).alloc (by omega) _⟩
    unfold P3.instrB P3.fitsB
    rw [Bool.eq_iff_iff]
    simp_all
    try omega

end Go.Proofs.YtbkfildnijjioaaGreat

/-
  Walks: donateref.tables: P3's mutexes, semaphores and queues.
-/
namespace Go.Proofs.YtbkfildnijjioaaGreat
open Go.RowKit

namespace P3
def terr (S : SetD) : Int := if badOr mutexP S.mutexes ≠ -1 then 2 else if badOr semP S.sems ≠ -1 then 3 else if badOr queueB S.queues ≠ -1 then 4 else 0
def tplace (S : SetD) : Int :=
  if badOr mutexP S.mutexes ≠ -1 then badOr mutexP S.mutexes else if badOr semP S.sems ≠ -1 then badOr semP S.sems else if badOr queueB S.queues ≠ -1 then badOr queueB S.queues else 0
def GoodTo {α : Type} (p : α → Bool) (l : List α) (k : Nat) : Prop := ∀ j (_ : j < k), (hl : j < l.length) → p l[j] = true
theorem GoodTo.zero {α : Type} (p : α → Bool) (l : List α) : GoodTo p l 0 := fun _ h => absurd h (Nat.not_lt_zero _)
theorem GoodTo.step {α : Type} {p : α → Bool} {l : List α} {k : Nat} (h : GoodTo p l k) (hk : k < l.length) (hp : p l[k] = true) : GoodTo p l (k + 1) := by
  intro j hj hl
  rcases Nat.lt_succ_iff_lt_or_eq.1 hj with h1 | rfl
  · exact h j h1 hl
  · exact hp
theorem GoodTo.none {α : Type} {p : α → Bool} {l : List α} {k : Nat} (h : GoodTo p l k) (hk : ¬ k < l.length) : badOr p l = -1 := badOr_none p l (fun j hj => h j (by omega) hj)
theorem GoodTo.at {α : Type} {p : α → Bool} {l : List α} {k : Nat} (h : GoodTo p l k) (hk : k < l.length) (hp : p l[k] = false) : badOr p l = k := badOr_at p l k hk hp (fun j hj => h j hj (by omega))
theorem t_mutex {S : SetD} {k : Nat} (h : badOr mutexP S.mutexes = k) : terr S = 2 ∧ tplace S = k := by
  have e : (k : Int) ≠ -1 := by omega
  simp [terr, tplace, h, e]
theorem t_sem {S : SetD} {k : Nat} (h0 : badOr mutexP S.mutexes = -1) (h : badOr semP S.sems = k) : terr S = 3 ∧ tplace S = k := by
  have e : (k : Int) ≠ -1 := by omega
  simp [terr, tplace, h0, h, e]
theorem t_queue {S : SetD} {k : Nat} (h0 : badOr mutexP S.mutexes = -1) (h1 : badOr semP S.sems = -1) (h : badOr queueB S.queues = k) : terr S = 4 ∧ tplace S = k := by
  have e : (k : Int) ≠ -1 := by omega
  simp [terr, tplace, h0, h1, h, e]
theorem t_ok {S : SetD} (h0 : badOr mutexP S.mutexes = -1) (h1 : badOr semP S.sems = -1) (h : badOr queueB S.queues = -1) : terr S = 0 ∧ tplace S = 0 := by
  simp [terr, tplace, h0, h1, h]
end P3

theorem ret_two {a b c d : Int} (h : a = c ∧ b = d) : Ending.returned (.tuple #[.int .i64 c, .int .i64 d]) = .returned (.tuple #[.int .i64 a, .int .i64 b]) := by rw [h.1, h.2]

set_option maxHeartbeats 1000000 in
theorem rTables_any (tv mv sv qv : Option Addr) (tc mc sc qc : Nat) (S : SetD) (w : World) (hS : SetIn w.heap.size w tv mv sv qv S)
    (n2 : (S.mutexes.length : Int) ≤ 8) (n3 : (S.sems.length : Int) ≤ 4) (n4 : (S.queues.length : Int) ≤ 4) :
    Calls Tryz.prog 65 #[.agg #[.int .i64 S.workers, .int .i64 S.start, .slice tv S.threads.length tc, .slice mv S.mutexes.length mc, .slice sv S.sems.length sc, .slice qv S.queues.length qc]] w fun e w' =>
      e = .returned (.tuple #[.int .i64 (P3.terr S), .int .i64 (P3.tplace S)]) ∧ Below w.heap.size w w' := by
  have HS : Hid (SetIn w.heap.size w tv mv sv qv S) := hS
  clear hS
  go_enter Tryz.func65, Tryz.ntmps65
  go_wp2
  generalize hw0 : w.alloc (.cells #[.int .i64 S.workers, .int .i64 S.start, .slice tv S.threads.length tc, .slice mv S.mutexes.length mc, .slice sv S.sems.length sc, .slice qv S.queues.length qc] 27) = w0
  have hs0 : w.heap.size < w0.heap.size := by rw [← hw0]; simp
  have b3 : w0.cell? ⟨w.heap.size, 3, none⟩ = some (.slice mv S.mutexes.length mc) := by rw [← hw0]; simp
  have b4 : w0.cell? ⟨w.heap.size, 4, none⟩ = some (.slice sv S.sems.length sc) := by rw [← hw0]; simp
  have b5 : w0.cell? ⟨w.heap.size, 5, none⟩ = some (.slice qv S.queues.length qc) := by rw [← hw0]; simp
  have hb0 : Below w.heap.size w w0 := by rw [← hw0]; exact (Below.refl _ _).alloc (Nat.le_refl _) _
  clear hw0
  have HS0 : Hid (SetIn w.heap.size w0 tv mv sv qv S) := HS.out.stays hb0
  clear HS
  go_loopw [4] (fun i wr => ∃ k : Nat, k ≤ S.mutexes.length ∧ i = .int .i64 k ∧ P3.GoodTo P3.mutexP S.mutexes k ∧ Below w0.heap.size w0 wr) (fun i _ => S.mutexes.length - (intOf i).toNat)
  case atStart => exact ⟨0, Nat.zero_le _, rfl, P3.GoodTo.zero _ _, Below.refl _ _⟩
  case round =>
    obtain ⟨k, hk, rfl, hall, hb⟩ := hrel
    have hsz := hb.size
    have q1 : w.heap.size < wr.heap.size := by omega
    have c3 := (hb.cell (p := ⟨w.heap.size, 3, none⟩) hs0).trans b3
    by_cases hlt : k < S.mutexes.length
    · obtain ⟨b, o, rfl, hbb, hx, hy⟩ := HS0.out.mutexes k hlt
      have hx' := (hb.cell (p := ⟨b, o + k * 2, none⟩) (by show b < _; omega)).trans hx
      have hy' := (hb.cell (p := ⟨b, o + k * 2 + 1, none⟩) (by show b < _; omega)).trans hy
      clear hx hy
      go_wp2_with (go_at_call 107; refine (rMutexFits_any _ _ _).mono ?_; rintro e w1 ⟨rfl, hb1⟩)
      · go_ret2
        refine ⟨ret_two (P3.t_mutex (hall.at hlt ?_)), via hb0 (by omega) (via hb hsz hb1)⟩
        simpa [P3.mutexP] using ‹(!P3.mutexB _ _) = true›
      · go_roundw
        case rel =>
          refine ⟨k + 1, by omega, by go_num, hall.step hlt ?_, via hb hsz hb1⟩
          simpa [P3.mutexP] using ‹(!P3.mutexB _ _) = false›
        case measure => simp [intOf]; omega
    · have HM : Hid (P3.badOr P3.mutexP S.mutexes = -1) := hall.none hlt
      clear hall
      go_wp2
      clear c3
      go_loopw [6] (fun i wr => ∃ k : Nat, k ≤ S.sems.length ∧ i = .int .i64 k ∧ P3.GoodTo P3.semP S.sems k ∧ Below w0.heap.size w0 wr) (fun i _ => S.sems.length - (intOf i).toNat)
      case atStart => exact ⟨0, Nat.zero_le _, rfl, P3.GoodTo.zero _ _, hb⟩
      case round =>
        clear hb hsz q1 hlt hk
        obtain ⟨k, hk, rfl, hall, hb⟩ := hrel
        have hsz := hb.size
        have q1 : w.heap.size < wr.heap.size := by omega
        have c4 := (hb.cell (p := ⟨w.heap.size, 4, none⟩) hs0).trans b4
        by_cases hlt : k < S.sems.length
        · obtain ⟨b, o, rfl, hbb, hx, hy⟩ := HS0.out.sems k hlt
          have hx' := (hb.cell (p := ⟨b, o + k * 2, none⟩) (by show b < _; omega)).trans hx
          have hy' := (hb.cell (p := ⟨b, o + k * 2 + 1, none⟩) (by show b < _; omega)).trans hy
          clear hx hy
          cases hok : P3.semB S.sems[k].x S.sems[k].y
          · have HB : Hid (P3.semB S.sems[k].x S.sems[k].y = false) := hok
            clear hok
            have hB := HB.out
            unfold P3.semB at hB
            rw [decide_eq_false_iff_not] at hB
            have hor : S.sems[k].y < 1 ∨ (1 ≤ S.sems[k].y ∧ 100 < S.sems[k].y) ∨ (1 ≤ S.sems[k].y ∧ S.sems[k].y ≤ 100 ∧ S.sems[k].x < 0) ∨ (1 ≤ S.sems[k].y ∧ S.sems[k].y ≤ 100 ∧ 0 ≤ S.sems[k].x ∧ S.sems[k].y < S.sems[k].x) := by omega
            clear hB
            rcases hor with h1 | ⟨h1, h2⟩ | ⟨h1, h2, h3⟩ | ⟨h1, h2, h3, h4⟩
            all_goals
              go_wp2
              go_ret2
              exact ⟨ret_two (P3.t_sem HM.out (hall.at hlt HB.out)), via hb0 (by omega) (hb.alloc hsz _)⟩
          · have HB : Hid (P3.semB S.sems[k].x S.sems[k].y = true) := hok
            clear hok
            have hB := HB.out
            unfold P3.semB at hB
            rw [decide_eq_true_iff] at hB
            obtain ⟨h1, h2, h3, h4⟩ := hB
            go_wp2
            go_roundw
            case rel => exact ⟨k + 1, by omega, by go_num, hall.step hlt HB.out, hb.alloc hsz _⟩
            case measure => simp [intOf]; omega
        · have HN : Hid (P3.badOr P3.semP S.sems = -1) := hall.none hlt
          clear hall
          go_wp2
          clear c4
          go_loopw [8] (fun i wr => ∃ k : Nat, k ≤ S.queues.length ∧ i = .int .i64 k ∧ P3.GoodTo P3.queueB S.queues k ∧ Below w0.heap.size w0 wr) (fun i _ => S.queues.length - (intOf i).toNat)
          case atStart => exact ⟨0, Nat.zero_le _, rfl, P3.GoodTo.zero _ _, hb⟩
          case round =>
            clear hb hsz q1 hlt hk
            obtain ⟨k, hk, rfl, hall, hb⟩ := hrel
            have hsz := hb.size
            have q1 : w.heap.size < wr.heap.size := by omega
            have c5 := (hb.cell (p := ⟨w.heap.size, 5, none⟩) hs0).trans b5
            by_cases hlt : k < S.queues.length
            · obtain ⟨b, o, rfl, hbb, hx⟩ := HS0.out.queues k hlt
              have hx' := (hb.cell (p := ⟨b, o + k, none⟩) (by show b < _; omega)).trans hx
              clear hx
              cases hok : P3.queueB S.queues[k]
              · have HB : Hid (P3.queueB S.queues[k] = false) := hok
                clear hok
                have hB := HB.out
                unfold P3.queueB at hB
                rw [decide_eq_false_iff_not] at hB
                have hor : S.queues[k] < 1 ∨ (1 ≤ S.queues[k] ∧ 8 < S.queues[k]) := by omega
                clear hB
                rcases hor with h1 | ⟨h1, h2⟩
                all_goals
                  go_wp2
                  go_ret2
                  exact ⟨ret_two (P3.t_queue HM.out HN.out (hall.at hlt HB.out)), via hb0 (by omega) hb⟩
              · have HB : Hid (P3.queueB S.queues[k] = true) := hok
                clear hok
                have hB := HB.out
                unfold P3.queueB at hB
                rw [decide_eq_true_iff] at hB
                obtain ⟨h1, h2⟩ := hB
                go_wp2
                go_roundw
                case rel => exact ⟨k + 1, by omega, by go_num, hall.step hlt HB.out, hb⟩
                case measure => simp [intOf]; omega
            · have HQ : Hid (P3.badOr P3.queueB S.queues = -1) := hall.none hlt
              clear hall
              go_wp2
              go_ret2
              exact ⟨ret_two (P3.t_ok HM.out HN.out HQ.out), via hb0 (by omega) hb⟩

end Go.Proofs.YtbkfildnijjioaaGreat

/-
  Walks: donateref.Check: the document's answer to P3 is the plain one.
-/
namespace Go.Proofs.YtbkfildnijjioaaGreat
open Go.RowKit

namespace P3
theorem e_size {S : SetD} (h : sizesB S = false) : err S = 1 ∧ place S = 0 := by simp [err, place, h]
theorem e_table {S : SetD} (h : sizesB S = true) (ht : (terr S != 0) = true) : err S = terr S ∧ place S = tplace S := by
  rw [bne_iff_ne] at ht
  unfold terr at ht
  unfold err place terr tplace
  by_cases a : badOr mutexP S.mutexes = -1 <;> by_cases b : badOr semP S.sems = -1 <;> by_cases c : badOr queueB S.queues = -1 <;> simp_all
theorem t_none {S : SetD} (ht : (terr S != 0) = false) : badOr mutexP S.mutexes = -1 ∧ badOr semP S.sems = -1 ∧ badOr queueB S.queues = -1 := by
  rw [bne_eq_false_iff_eq] at ht
  unfold terr at ht
  by_cases a : badOr mutexP S.mutexes = -1 <;> by_cases b : badOr semP S.sems = -1 <;> by_cases c : badOr queueB S.queues = -1 <;> simp_all
theorem e_thread {S : SetD} {k : Nat} (h : sizesB S = true) (ht : (terr S != 0) = false) (hk : badOr threadP S.threads = k) : err S = 5 ∧ place S = k := by
  obtain ⟨a, b, c⟩ := t_none ht
  have e : (k : Int) ≠ -1 := by omega
  simp [err, place, h, a, b, c, hk, e]
theorem e_code {S : SetD} {n : Int} (h : sizesB S = true) (ht : (terr S != 0) = false) (hk : badOr threadP S.threads = -1) (hn : badCode S = n) (h0 : 0 ≤ n) : err S = 6 ∧ place S = n := by
  obtain ⟨a, b, c⟩ := t_none ht
  have e : n ≠ -1 := by omega
  simp [err, place, h, a, b, c, hk, hn, e]
theorem e_ok {S : SetD} (h : sizesB S = true) (ht : (terr S != 0) = false) (hk : badOr threadP S.threads = -1) (hn : badCode S = -1) : err S = 0 ∧ place S = 0 := by
  obtain ⟨a, b, c⟩ := t_none ht
  simp [err, place, h, a, b, c, hk, hn]
end P3

set_option maxHeartbeats 1000000 in
theorem rCheck_any (tv mv sv qv : Option Addr) (tc mc sc qc : Nat) (S : SetD) (w : World) (hS : SetIn w.heap.size w tv mv sv qv S) :
    Calls Tryz.prog 27 #[.agg #[.int .i64 S.workers, .int .i64 S.start, .slice tv S.threads.length tc, .slice mv S.mutexes.length mc, .slice sv S.sems.length sc, .slice qv S.queues.length qc]] w fun e w' =>
      e = .returned (.tuple #[.int .i64 (P3.err S), .int .i64 (P3.place S)]) ∧ Below w.heap.size w w' := by
  have HS : Hid (SetIn w.heap.size w tv mv sv qv S) := hS
  clear hS
  go_enter Tryz.func27, Tryz.ntmps27
  go_wp2_with fail
  generalize hw0 : w.alloc (.cells #[.int .i64 S.workers, .int .i64 S.start, .slice tv S.threads.length tc, .slice mv S.mutexes.length mc, .slice sv S.sems.length sc, .slice qv S.queues.length qc] 27) = w0
  have hs0 : w.heap.size < w0.heap.size := by rw [← hw0]; simp
  have b0 : w0.cell? ⟨w.heap.size, 0, none⟩ = some (.int .i64 S.workers) := by rw [← hw0]; simp
  have b1 : w0.cell? ⟨w.heap.size, 1, none⟩ = some (.int .i64 S.start) := by rw [← hw0]; simp
  have b2 : w0.cell? ⟨w.heap.size, 2, none⟩ = some (.slice tv S.threads.length tc) := by rw [← hw0]; simp
  have b3 : w0.cell? ⟨w.heap.size, 3, none⟩ = some (.slice mv S.mutexes.length mc) := by rw [← hw0]; simp
  have b4 : w0.cell? ⟨w.heap.size, 4, none⟩ = some (.slice sv S.sems.length sc) := by rw [← hw0]; simp
  have b5 : w0.cell? ⟨w.heap.size, 5, none⟩ = some (.slice qv S.queues.length qc) := by rw [← hw0]; simp
  have hb0 : Below w.heap.size w w0 := by rw [← hw0]; exact (Below.refl _ _).alloc (Nat.le_refl _) _
  clear hw0
  have HS0 : Hid (SetIn w.heap.size w0 tv mv sv qv S) := HS.out.stays hb0
  clear HS
  refine (rSizes_any _ _ _ _ _ _ _ _ S _).mono ?_
  rintro e w1 ⟨rfl, hb1⟩
  cases hz : P3.sizesB S
  · go_wp2_with fail
    go_ret2
    exact ⟨ret_two (P3.e_size hz), via hb0 (by omega) hb1⟩
  · obtain ⟨n1, n2, n3, n4⟩ := sizes_of hz
    have HZ : Hid (P3.sizesB S = true) := hz
    clear hz
    obtain ⟨hc1, hf1⟩ := bcell hb1
    have k1 := hb1.size
    go_wp2_with fail
    refine (rTables_any _ _ _ _ _ _ _ _ S _ ((HS0.out.stays (hb1.mono (Nat.le_of_lt hs0))).mono (by omega)) n2 n3 n4).mono ?_
    rintro e w2 ⟨rfl, hb2⟩
    have hB2 := via hb1 k1 hb2
    have k2 := hB2.size
    clear hc1 hf1
    cases ht : (P3.terr S != 0)
    · have HT : Hid ((P3.terr S != 0) = false) := ht
      go_wp2
      clear ht
      go_loopw [7] (fun i wr => ∃ k : Nat, k ≤ S.threads.length ∧ i = .int .i64 k ∧ P3.GoodTo P3.threadP S.threads k ∧ Below w0.heap.size w0 wr) (fun i _ => S.threads.length - (intOf i).toNat)
      case atStart => exact ⟨0, Nat.zero_le _, rfl, P3.GoodTo.zero _ _, hB2⟩
      case round =>
        obtain ⟨k, hk, rfl, hall, hb⟩ := hrel
        have hsz := hb.size
        have q1 : w.heap.size < wr.heap.size := by omega
        have c2 := (hb.cell (p := ⟨w.heap.size, 2, none⟩) hs0).trans b2
        by_cases hlt : k < S.threads.length
        · obtain ⟨b, o, cv, cc, rfl, hbb, x0, x1, x2, x3, x4, _⟩ := HS0.out.threads k hlt
          have x0' := (hb.cell (p := ⟨b, o + k * 5, none⟩) (by show b < _; omega)).trans x0
          have x1' := (hb.cell (p := ⟨b, o + k * 5 + 1, none⟩) (by show b < _; omega)).trans x1
          have x2' := (hb.cell (p := ⟨b, o + k * 5 + 2, none⟩) (by show b < _; omega)).trans x2
          have x3' := (hb.cell (p := ⟨b, o + k * 5 + 3, none⟩) (by show b < _; omega)).trans x3
          have x4' := (hb.cell (p := ⟨b, o + k * 5 + 4, none⟩) (by show b < _; omega)).trans x4
          clear x0 x1 x2 x3 x4
          go_wp2_with (go_at_call 66; refine (rThreadFits_any _ _ _ _ _ _ _ _).mono ?_; rintro e w3 ⟨rfl, hb3⟩)
          · go_ret2
            refine ⟨ret_two (P3.e_thread HZ.out HT.out (hall.at hlt ?_)), via hb0 (by omega) (via hb hsz hb3)⟩
            simpa [P3.threadP] using ‹(!P3.threadB _ _ _ _ _) = true›
          · go_roundw
            case rel =>
              refine ⟨k + 1, by omega, by go_num, hall.step hlt ?_, via hb hsz hb3⟩
              simpa [P3.threadP] using ‹(!P3.threadB _ _ _ _ _) = false›
            case measure => simp [intOf]; omega
        · have HM : Hid (P3.badOr P3.threadP S.threads = -1) := hall.none hlt
          clear hall
          have H5 : Hid (∀ j (_ : j < S.threads.length), (S.threads[j].code.length : Int) ≤ 32) := codes_of HM.out
          go_wp2
          clear c2
          go_loopw [8] (fun i wr => ∃ k : Nat, k ≤ S.threads.length ∧ i = .int .i64 k ∧ CodesTo S k ∧ Below w0.heap.size w0 wr) (fun i _ => S.threads.length - (intOf i).toNat)
          case atStart => exact ⟨0, Nat.zero_le _, rfl, fun j h => absurd h (Nat.not_lt_zero _), hb⟩
          case round =>
            clear hb hsz q1 hlt hk
            obtain ⟨k, hk, rfl, hall, hb⟩ := hrel
            have hsz := hb.size
            have q1 : w.heap.size < wr.heap.size := by omega
            have c2 := (hb.cell (p := ⟨w.heap.size, 2, none⟩) hs0).trans b2
            have HB : Hid (CodesTo S k) := hall
            clear hall
            by_cases hlt : k < S.threads.length
            · obtain ⟨b, o, cv, cc, rfl, hbb, x0, x1, x2, x3, x4, hcode, _⟩ := HS0.out.threads k hlt
              have x4' := (hb.cell (p := ⟨b, o + k * 5 + 4, none⟩) (by show b < _; omega)).trans x4
              have hlen := H5.out k hlt
              have HC : Hid (InstrsIn w.heap.size w0 cv S.threads[k].code) := hcode
              clear x0 x1 x2 x3 x4 hcode
              go_wp2
              clear c2 x4'
              go_loopw [10] (fun i wr => ∃ m : Nat, m ≤ S.threads[k].code.length ∧ i = .int .i64 m ∧ CodeTo S S.threads[k].code m ∧ Below w0.heap.size w0 wr) (fun i _ => S.threads[k].code.length - (intOf i).toNat)
              case atStart => exact ⟨0, Nat.zero_le _, rfl, fun j h => absurd h (Nat.not_lt_zero _), hb⟩
              case round =>
                clear hb hsz q1
                obtain ⟨m, hm, rfl, hall, hb⟩ := hrel
                have hsz := hb.size
                have q1 : w.heap.size < wr.heap.size := by omega
                have HA : Hid (CodeTo S S.threads[k].code m) := hall
                clear hall
                by_cases hlt2 : m < S.threads[k].code.length
                · obtain ⟨b', o', rfl, hbb', x0, x1, x2⟩ := HC.out m hlt2
                  have y0 := (hb.cell (p := ⟨b', o' + m * 3, none⟩) (by show b' < _; omega)).trans x0
                  have y1 := (hb.cell (p := ⟨b', o' + m * 3 + 1, none⟩) (by show b' < _; omega)).trans x1
                  have y2 := (hb.cell (p := ⟨b', o' + m * 3 + 2, none⟩) (by show b' < _; omega)).trans x2
                  have f0 := (hb.cell (p := ⟨w.heap.size, 0, none⟩) hs0).trans b0
                  have f1 := (hb.cell (p := ⟨w.heap.size, 1, none⟩) hs0).trans b1
                  have f2 := (hb.cell (p := ⟨w.heap.size, 2, none⟩) hs0).trans b2
                  have f3 := (hb.cell (p := ⟨w.heap.size, 3, none⟩) hs0).trans b3
                  have f4 := (hb.cell (p := ⟨w.heap.size, 4, none⟩) hs0).trans b4
                  have f5 := (hb.cell (p := ⟨w.heap.size, 5, none⟩) hs0).trans b5
                  clear x0 x1 x2 b0 b1 b2 b3 b4 b5
                  have hmi : (m : Int) < (S.threads[k].code.length : Int) := by omega
                  go_wp2_with fail
                  go_region_held3 (fun w' => w'.cell? ⟨w.heap.size, 0, none⟩ = some (.int .i64 S.workers) ∧ w'.cell? ⟨w.heap.size, 1, none⟩ = some (.int .i64 S.start) ∧ w'.cell? ⟨w.heap.size, 2, none⟩ = some (.slice (some ⟨b, o, none⟩) S.threads.length tc) ∧ w'.cell? ⟨w.heap.size, 3, none⟩ = some (.slice mv S.mutexes.length mc) ∧ w'.cell? ⟨w.heap.size, 4, none⟩ = some (.slice sv S.sems.length sc) ∧ w'.cell? ⟨w.heap.size, 5, none⟩ = some (.slice qv S.queues.length qc) ∧ w'.cell? ⟨b', o' + m * 3, none⟩ = some (.int .i64 S.threads[k].code[m].op) ∧ w'.cell? ⟨b', o' + m * 3 + 1, none⟩ = some (.int .i64 S.threads[k].code[m].a) ∧ w'.cell? ⟨b', o' + m * 3 + 2, none⟩ = some (.int .i64 S.threads[k].code[m].b)) (simp [*])
                    (first
                      | (go_at_call 67; refine (rInstrFits_any _ _ _ _ _ _ _ _ _ _ _ _ _ _ _ _ _ _ _ n1 n2 n3 n4).mono ?_; rintro e w3 ⟨rfl, hb3⟩; have d0 := cell_later hb3 f0; have d1 := cell_later hb3 f1; have d2 := cell_later hb3 f2; have d3 := cell_later hb3 f3; have d4 := cell_later hb3 f4; have d5 := cell_later hb3 f5; have e0 := cell_later hb3 y0; have e1 := cell_later hb3 y1; have e2 := cell_later hb3 y2))
                  go_wp2
                  · go_ret2
                    refine ⟨ret_two (P3.e_code HZ.out HT.out HM.out (badCode_at HB.out hlt HA.out hlt2 ?_) (by omega)), via hb0 (by omega) (via hb.drew hsz hb3)⟩
                    simpa [P3.instrP] using ‹(!P3.instrB _ _ _ _ _ _ _ _) = true›
                  · go_roundw
                    case rel =>
                      refine ⟨m + 1, by omega, by go_num, ?_, via hb.drew hsz hb3⟩
                      intro j h h'
                      rcases Nat.lt_succ_iff_lt_or_eq.1 h with h1 | rfl
                      · exact HA.out j h1 h'
                      · simpa [P3.instrP] using ‹(!P3.instrB _ _ _ _ _ _ _ _) = false›
                    case measure => simp [intOf]; omega
                · have hmm : m = S.threads[k].code.length := by omega
                  have HA' : Hid (CodeTo S S.threads[k].code S.threads[k].code.length) := hmm ▸ HA.out
                  clear hmm
                  go_wp2
                  go_roundw
                  case rel => exact ⟨k + 1, by omega, by go_num, HB.out.step hlt HA'.out, hb⟩
                  case measure => simp [intOf]; omega
            · go_wp2
              go_ret2
              have e : k = S.threads.length := by omega
              subst e
              exact ⟨ret_two (P3.e_ok HZ.out HT.out HM.out (badCode_none HB.out)), via hb0 (by omega) hb⟩
    · have HT : Hid ((P3.terr S != 0) = true) := ht
      go_wp2
      go_ret2
      exact ⟨ret_two (P3.e_table HZ.out HT.out), via hb0 (by omega) hB2⟩

end Go.Proofs.YtbkfildnijjioaaGreat

/-
  A set that came in, opened: what the form's reader reads is plain data in memory.
-/
namespace Go.Proofs.YtbkfildnijjioaaGreat
open Go.ChangeShapes Go.WideShapes Go.ChangeAt Go.RowKit Go.Deep

section
variable {H : Type} {enc : TypeId × Value → H} {w : World} {held : Bool}

/-- Every weight of a datum is within the form's reach. -/
def Light (d : DataW H) (t : TypeId) : Prop := ∀ n ∈ d.weights Tryz.prog t, n ≤ reachBytes

/-- A list, opened: its elements by R. -/
theorem open_list {α : Type} (d0 : α) {t e : TypeId} {size bytes : Nat} (ht : Tryz.prog.underlying t = some (.slice e)) (hc : Tryz.prog.cellsOf e = size) (hby : Tryz.prog.bytesOf e = bytes) (hpos : 0 < size)
    {R : α → List Value → DataW H → Prop} (hR : ∀ n cs x, DataW.trod enc Tryz.prog w 0 (fun _ => true) held n e cs = some x → ∃ a, R a cs x.1)
    {fuel : Nat} {cs : List Value} {x : DataW H × List MemPlace} (h : DataW.trod enc Tryz.prog w 0 (fun _ => true) held fuel t cs = some x) :
    ∃ (ao : Option Addr) (cap : Nat) (l : List α), cs = [.slice ao l.length cap] ∧ (ao = none → cap = 0) ∧
      (∀ i (hi : i < l.length), ∃ b o cs' d, ao = some ⟨b, o, none⟩ ∧ b < w.heap.size ∧ cs'.length = size ∧ (∀ j, j < size → w.cell? ⟨b, o + i * size + j, none⟩ = cs'[j]?) ∧ R l[i] cs' d ∧ (Light x.1 t → Light d e)) ∧
      (Light x.1 t → l.length * bytes ≤ reachBytes) := by
  subst hc; subst hby
  rcases open_slice ht h with ⟨rfl, rfl⟩ | ⟨a, len, cap, m, n, D, Pl, rfl, _, hl, _, hm, rfl, hel⟩
  · exact ⟨none, 0, [], rfl, fun _ => rfl, fun i hi => absurd hi (Nat.not_lt_zero _), fun _ => by simp⟩
  · simp only [if_true] at hm
    subst hm
    have hA : ∀ i, i < len → ∃ y : α, ∀ cs', DataW.trod enc Tryz.prog w 0 (fun _ => true) held n e cs' = some (D i, Pl i) → w.cells? 0 (a.add (i * Tryz.prog.cellsOf e)) (Tryz.prog.cellsOf e) = some cs' → R y cs' (D i) := by
      intro i hi
      obtain ⟨cs', h1, h2⟩ := hel i (by omega)
      obtain ⟨y, hy⟩ := hR n cs' _ h2
      refine ⟨y, fun cs'' _ h4 => ?_⟩
      rw [h1] at h4
      cases h4
      exact hy
    haveI : Inhabited α := ⟨d0⟩
    obtain ⟨A, hA⟩ := choose_lt hA
    refine ⟨some a, m, (List.range len).map A, by simp, fun hh => (by cases hh), fun i hi => ?_, fun hw => ?_⟩
    · have hi' : i < len := by simpa using hi
      obtain ⟨cs', h1, h2⟩ := hel i (by omega)
      obtain ⟨_, hlen, hcell⟩ := World.cells?_some h1
      have h0 := hcell 0 hpos
      rw [add_add, Nat.add_zero, List.getElem?_eq_getElem (by omega)] at h0
      have hspot : (a.add (i * Tryz.prog.cellsOf e)).spot = none := World.cell?_spot h0
      have hlt := World.block_lt_of_cell? _ _ h0
      obtain ⟨b, o, spot⟩ := a
      have hsp : spot = none := by
        by_cases hz : i * Tryz.prog.cellsOf e = 0
        · rw [hz, Addr.add_zero'] at h0
          exact World.cell?_spot h0
        · -- the first element tells it
          obtain ⟨cs0, g1, _⟩ := hel 0 (by omega)
          obtain ⟨_, gl, gc⟩ := World.cells?_some g1
          have g0 := gc 0 hpos
          rw [Nat.zero_mul, Addr.add_zero', Addr.add_zero', List.getElem?_eq_getElem (by omega)] at g0
          exact World.cell?_spot g0
      subst hsp
      refine ⟨b, o, cs', D i, rfl, by simpa [Addr.add_lit] using hlt, hlen, fun j hj => ?_, ?_, fun hw => ?_⟩
      · have := hcell j hj
        rw [Addr.add_lit, Addr.add_lit] at this
        exact this
      · have := hA i hi' cs' h2 h1
        simpa using this
      · intro q hq
        refine hw q ?_
        simp only [DataW.weights, ht]
        refine List.mem_cons_of_mem _ (List.mem_append_left _ ?_)
        have mem_all : ∀ (L : List (DataW H)) (d : DataW H), d ∈ L → ∀ q ∈ d.weights Tryz.prog e, q ∈ DataW.weightsAll Tryz.prog e L := by
          intro L
          induction L with
          | nil => intro d hd; cases hd
          | cons d0 L ih =>
            intro d hd q hq
            simp only [DataW.weightsAll, List.mem_append]
            rcases List.mem_cons.1 hd with rfl | hd
            · exact Or.inl hq
            · exact Or.inr (ih d hd q hq)
        exact mem_all _ (D i) (List.mem_map.2 ⟨i, List.mem_range.2 hi', rfl⟩) q hq
    · have := hw ((((List.range len).map D).length + ((List.range (m - len)).map fun j => D (len + j)).length) * Tryz.prog.bytesOf e) (by simp [DataW.weights, ht])
      simp only [List.length_map, List.length_range] at this ⊢
      exact Nat.le_trans (Nat.mul_le_mul_right _ (Nat.le_add_right _ _)) this

theorem c3 : Tryz.prog.cellsOf 3 = 1 := by kernel_rfl
theorem cMutex : Tryz.prog.cellsOf 125 = 2 := by kernel_rfl
theorem cSem : Tryz.prog.cellsOf 116 = 2 := by kernel_rfl
theorem cInstr : Tryz.prog.cellsOf 61 = 3 := by kernel_rfl
theorem cThread : Tryz.prog.cellsOf 59 = 5 := by kernel_rfl
theorem cCode : Tryz.prog.cellsOf 57 = 1 := by kernel_rfl
theorem cSet : Tryz.prog.cellsOf 27 = 6 := by kernel_rfl
theorem cThreads : Tryz.prog.cellsOf 22 = 1 := by kernel_rfl
theorem cMutexes : Tryz.prog.cellsOf 23 = 1 := by kernel_rfl
theorem cSems : Tryz.prog.cellsOf 24 = 1 := by kernel_rfl
theorem cInts : Tryz.prog.cellsOf 25 = 1 := by kernel_rfl
theorem b3 : Tryz.prog.bytesOf 3 = 8 := by kernel_rfl
theorem bMutex : Tryz.prog.bytesOf 125 = 16 := by kernel_rfl
theorem bSem : Tryz.prog.bytesOf 116 = 16 := by kernel_rfl
theorem bInstr : Tryz.prog.bytesOf 61 = 24 := by kernel_rfl
theorem bThread : Tryz.prog.bytesOf 59 = 56 := by kernel_rfl

theorem list2 {l : List Value} (h : l.length = 2) : ∃ a b, l = [a, b] := by
  match l, h with
  | [a, b], _ => exact ⟨a, b, rfl⟩
theorem list3 {l : List Value} (h : l.length = 3) : ∃ a b c, l = [a, b, c] := by
  match l, h with
  | [a, b, c], _ => exact ⟨a, b, c, rfl⟩
theorem list5 {α : Type} {l : List α} (h : l.length = 5) : ∃ a b c d e, l = [a, b, c, d, e] := by
  match l, h with
  | [a, b, c, d, e], _ => exact ⟨a, b, c, d, e, rfl⟩
theorem list6 {α : Type} {l : List α} (h : l.length = 6) : ∃ a b c d e f, l = [a, b, c, d, e, f] := by
  match l, h with
  | [a, b, c, d, e, f], _ => exact ⟨a, b, c, d, e, f, rfl⟩

theorem open_mutex {n : Nat} {cs : List Value} {x : DataW H × List MemPlace} (h : DataW.trod enc Tryz.prog w 0 (fun _ => true) held n 125 cs = some x) : ∃ a : PairD, cs = [.int .i64 a.x, .int .i64 a.y] := by
  obtain ⟨y0, y1, m, _, hl, h0, h1⟩ := trod_struct2 Tryz.underlying125 h
  rw [cMutex] at hl
  obtain ⟨a, b, rfl⟩ := list2 hl
  simp only [c3] at h0 h1
  obtain ⟨p, hp, _⟩ := DataW.trod_int Tryz.underlying3 h0
  obtain ⟨q, hq, _⟩ := DataW.trod_int Tryz.underlying3 h1
  simp at hp hq
  exact ⟨⟨p, q⟩, by simp [hp, hq]⟩
theorem open_sem {n : Nat} {cs : List Value} {x : DataW H × List MemPlace} (h : DataW.trod enc Tryz.prog w 0 (fun _ => true) held n 116 cs = some x) : ∃ a : PairD, cs = [.int .i64 a.x, .int .i64 a.y] := by
  obtain ⟨y0, y1, m, _, hl, h0, h1⟩ := trod_struct2 Tryz.underlying116 h
  rw [cSem] at hl
  obtain ⟨a, b, rfl⟩ := list2 hl
  simp only [c3] at h0 h1
  obtain ⟨p, hp, _⟩ := DataW.trod_int Tryz.underlying3 h0
  obtain ⟨q, hq, _⟩ := DataW.trod_int Tryz.underlying3 h1
  simp at hp hq
  exact ⟨⟨p, q⟩, by simp [hp, hq]⟩
theorem open_instr {n : Nat} {cs : List Value} {x : DataW H × List MemPlace} (h : DataW.trod enc Tryz.prog w 0 (fun _ => true) held n 61 cs = some x) : ∃ a : InstrD, cs = [.int .i64 a.op, .int .i64 a.a, .int .i64 a.b] := by
  obtain ⟨y0, y1, y2, m, _, hl, h0, h1, h2⟩ := trod_struct3 Tryz.underlying61 h
  rw [cInstr] at hl
  obtain ⟨a, b, c, rfl⟩ := list3 hl
  simp only [c3] at h0 h1 h2
  obtain ⟨p, hp, _⟩ := DataW.trod_int Tryz.underlying3 h0
  obtain ⟨q, hq, _⟩ := DataW.trod_int Tryz.underlying3 h1
  obtain ⟨r, hr, _⟩ := DataW.trod_int Tryz.underlying3 h2
  simp at hp hq hr
  exact ⟨⟨p, q, r⟩, by simp [hp, hq, hr]⟩

theorem open_code {n : Nat} {cs : List Value} {x : DataW H × List MemPlace} (h : DataW.trod enc Tryz.prog w 0 (fun _ => true) held n 57 cs = some x) :
    ∃ (ao : Option Addr) (cap : Nat) (l : List InstrD), cs = [.slice ao l.length cap] ∧ (ao = none → cap = 0) ∧ InstrsIn w.heap.size w ao l ∧ (Light x.1 57 → l.length * 24 ≤ reachBytes) := by
  obtain ⟨ao, cap, l, h1, h2, h3, h4⟩ := open_list (α := InstrD) ⟨0, 0, 0⟩ (R := fun a cs _ => cs = [.int .i64 a.op, .int .i64 a.a, .int .i64 a.b]) Tryz.underlying57 cInstr bInstr (by decide) (fun _ _ _ hh => open_instr hh) h
  refine ⟨ao, cap, l, h1, h2, fun i hi => ?_, h4⟩
  obtain ⟨b, o, cs', d, ha, hb, hl, hc, rfl, _⟩ := h3 i hi
  exact ⟨b, o, ha, hb, by simpa using hc 0 (by decide), by simpa using hc 1 (by decide), by simpa using hc 2 (by decide)⟩

theorem open_pairsM {n : Nat} {cs : List Value} {x : DataW H × List MemPlace} (h : DataW.trod enc Tryz.prog w 0 (fun _ => true) held n 23 cs = some x) :
    ∃ (ao : Option Addr) (cap : Nat) (l : List PairD), cs = [.slice ao l.length cap] ∧ (ao = none → cap = 0) ∧ PairsIn w.heap.size w ao l ∧ (Light x.1 23 → l.length * 16 ≤ reachBytes) := by
  obtain ⟨ao, cap, l, h1, h2, h3, h4⟩ := open_list (α := PairD) ⟨0, 0⟩ (R := fun a cs _ => cs = [.int .i64 a.x, .int .i64 a.y]) Tryz.underlying23 cMutex bMutex (by decide) (fun _ _ _ hh => open_mutex hh) h
  refine ⟨ao, cap, l, h1, h2, fun i hi => ?_, h4⟩
  obtain ⟨b, o, cs', d, ha, hb, hl, hc, rfl, _⟩ := h3 i hi
  exact ⟨b, o, ha, hb, by simpa using hc 0 (by decide), by simpa using hc 1 (by decide)⟩
theorem open_pairsS {n : Nat} {cs : List Value} {x : DataW H × List MemPlace} (h : DataW.trod enc Tryz.prog w 0 (fun _ => true) held n 24 cs = some x) :
    ∃ (ao : Option Addr) (cap : Nat) (l : List PairD), cs = [.slice ao l.length cap] ∧ (ao = none → cap = 0) ∧ PairsIn w.heap.size w ao l ∧ (Light x.1 24 → l.length * 16 ≤ reachBytes) := by
  obtain ⟨ao, cap, l, h1, h2, h3, h4⟩ := open_list (α := PairD) ⟨0, 0⟩ (R := fun a cs _ => cs = [.int .i64 a.x, .int .i64 a.y]) Tryz.underlying24 cSem bSem (by decide) (fun _ _ _ hh => open_sem hh) h
  refine ⟨ao, cap, l, h1, h2, fun i hi => ?_, h4⟩
  obtain ⟨b, o, cs', d, ha, hb, hl, hc, rfl, _⟩ := h3 i hi
  exact ⟨b, o, ha, hb, by simpa using hc 0 (by decide), by simpa using hc 1 (by decide)⟩
theorem open_numbers {n : Nat} {cs : List Value} {x : DataW H × List MemPlace} (h : DataW.trod enc Tryz.prog w 0 (fun _ => true) held n 25 cs = some x) :
    ∃ (ao : Option Addr) (cap : Nat) (l : List Int), cs = [.slice ao l.length cap] ∧ (ao = none → cap = 0) ∧ IntsIn w.heap.size w ao l ∧ (Light x.1 25 → l.length * 8 ≤ reachBytes) := by
  obtain ⟨ao, cap, l, h1, h2, h3, h4⟩ := open_list (α := Int) 0 (R := fun a cs _ => cs = [.int .i64 a]) Tryz.underlying25 c3 b3 (by decide) (fun _ _ _ hh => by obtain ⟨z, hz, _⟩ := DataW.trod_int Tryz.underlying3 hh; exact ⟨z, hz⟩) h
  refine ⟨ao, cap, l, h1, h2, fun i hi => ?_, h4⟩
  obtain ⟨b, o, cs', d, ha, hb, hl, hc, rfl, _⟩ := h3 i hi
  exact ⟨b, o, ha, hb, by simpa using hc 0 (by decide)⟩

theorem trod_struct5 {t : TypeId} {f0 f1 f2 f3 f4 : Field} {fuel : Nat} {cs : List Value} {x : DataW H × List MemPlace} (ht : Tryz.prog.underlying t = some (.struct #[f0, f1, f2, f3, f4])) (h : DataW.trod enc Tryz.prog w 0 (fun _ => true) held fuel t cs = some x) :
    ∃ y0 y1 y2 y3 y4 n, x.1 = .agg [y0.1, y1.1, y2.1, y3.1, y4.1] ∧ cs.length = Tryz.prog.cellsOf t ∧ DataW.trod enc Tryz.prog w 0 (fun _ => true) held n f0.type ((cs.drop f0.offset).take (Tryz.prog.cellsOf f0.type)) = some y0 ∧
      DataW.trod enc Tryz.prog w 0 (fun _ => true) held n f1.type ((cs.drop f1.offset).take (Tryz.prog.cellsOf f1.type)) = some y1 ∧ DataW.trod enc Tryz.prog w 0 (fun _ => true) held n f2.type ((cs.drop f2.offset).take (Tryz.prog.cellsOf f2.type)) = some y2 ∧
      DataW.trod enc Tryz.prog w 0 (fun _ => true) held n f3.type ((cs.drop f3.offset).take (Tryz.prog.cellsOf f3.type)) = some y3 ∧ DataW.trod enc Tryz.prog w 0 (fun _ => true) held n f4.type ((cs.drop f4.offset).take (Tryz.prog.cellsOf f4.type)) = some y4 := by
  obtain ⟨xs, n, _, rfl, hl, hlen, hf⟩ := DataW.trod_struct ht h
  obtain ⟨y0, y1, y2, y3, y4, rfl⟩ := list5 (hlen.trans rfl)
  exact ⟨y0, y1, y2, y3, y4, n, by simp, hl, by simpa using hf 0 f0 rfl, by simpa using hf 1 f1 rfl, by simpa using hf 2 f2 rfl, by simpa using hf 3 f3 rfl, by simpa using hf 4 f4 rfl⟩
theorem trod_struct6 {t : TypeId} {f0 f1 f2 f3 f4 f5 : Field} {fuel : Nat} {cs : List Value} {x : DataW H × List MemPlace} (ht : Tryz.prog.underlying t = some (.struct #[f0, f1, f2, f3, f4, f5])) (h : DataW.trod enc Tryz.prog w 0 (fun _ => true) held fuel t cs = some x) :
    ∃ y0 y1 y2 y3 y4 y5 n, x.1 = .agg [y0.1, y1.1, y2.1, y3.1, y4.1, y5.1] ∧ cs.length = Tryz.prog.cellsOf t ∧ DataW.trod enc Tryz.prog w 0 (fun _ => true) held n f0.type ((cs.drop f0.offset).take (Tryz.prog.cellsOf f0.type)) = some y0 ∧
      DataW.trod enc Tryz.prog w 0 (fun _ => true) held n f1.type ((cs.drop f1.offset).take (Tryz.prog.cellsOf f1.type)) = some y1 ∧ DataW.trod enc Tryz.prog w 0 (fun _ => true) held n f2.type ((cs.drop f2.offset).take (Tryz.prog.cellsOf f2.type)) = some y2 ∧
      DataW.trod enc Tryz.prog w 0 (fun _ => true) held n f3.type ((cs.drop f3.offset).take (Tryz.prog.cellsOf f3.type)) = some y3 ∧ DataW.trod enc Tryz.prog w 0 (fun _ => true) held n f4.type ((cs.drop f4.offset).take (Tryz.prog.cellsOf f4.type)) = some y4 ∧
      DataW.trod enc Tryz.prog w 0 (fun _ => true) held n f5.type ((cs.drop f5.offset).take (Tryz.prog.cellsOf f5.type)) = some y5 := by
  obtain ⟨xs, n, _, rfl, hl, hlen, hf⟩ := DataW.trod_struct ht h
  obtain ⟨y0, y1, y2, y3, y4, y5, rfl⟩ := list6 (hlen.trans rfl)
  exact ⟨y0, y1, y2, y3, y4, y5, n, by simp, hl, by simpa using hf 0 f0 rfl, by simpa using hf 1 f1 rfl, by simpa using hf 2 f2 rfl, by simpa using hf 3 f3 rfl, by simpa using hf 4 f4 rfl, by simpa using hf 5 f5 rfl⟩

theorem open_thread {n : Nat} {cs : List Value} {x : DataW H × List MemPlace} (h : DataW.trod enc Tryz.prog w 0 (fun _ => true) held n 59 cs = some x) :
    ∃ a : ThreadD, ∃ cv cc, cs = [.int .i64 a.base, .int .i64 a.offset, .int .i64 a.period, .int .i64 a.deadline, .slice cv a.code.length cc] ∧ (cv = none → cc = 0) ∧ InstrsIn w.heap.size w cv a.code ∧ (Light x.1 59 → a.code.length * 24 ≤ reachBytes) := by
  obtain ⟨y0, y1, y2, y3, y4, m, hx, hl, h0, h1, h2, h3, h4⟩ := trod_struct5 Tryz.underlying59 h
  rw [cThread] at hl
  obtain ⟨a, b, c, d, e, rfl⟩ := list5 hl
  simp only [c3, cCode] at h0 h1 h2 h3 h4
  obtain ⟨p0, e0, _⟩ := DataW.trod_int Tryz.underlying3 h0
  obtain ⟨p1, e1, _⟩ := DataW.trod_int Tryz.underlying3 h1
  obtain ⟨p2, e2, _⟩ := DataW.trod_int Tryz.underlying3 h2
  obtain ⟨p3, e3, _⟩ := DataW.trod_int Tryz.underlying3 h3
  obtain ⟨cv, cc, l, e4, hn, hin, hw⟩ := open_code h4
  simp at e0 e1 e2 e3 e4
  refine ⟨⟨p0, p1, p2, p3, l⟩, cv, cc, by simp [e0, e1, e2, e3, e4], hn, hin, fun hlight => hw ?_⟩
  intro q hq
  refine hlight q ?_
  rw [hx]
  simp only [DataW.weights, Tryz.underlying59]
  exact DataW.weights_mem_each (j := 4) rfl rfl q hq

theorem open_threads {n : Nat} {cs : List Value} {x : DataW H × List MemPlace} (h : DataW.trod enc Tryz.prog w 0 (fun _ => true) held n 22 cs = some x) :
    ∃ (ao : Option Addr) (cap : Nat) (l : List ThreadD), cs = [.slice ao l.length cap] ∧ (ao = none → cap = 0) ∧ ThreadsIn w.heap.size w ao l ∧ (Light x.1 22 → l.length * 56 ≤ reachBytes ∧ ∀ j (hj : j < l.length), l[j].code.length * 24 ≤ reachBytes) := by
  obtain ⟨ao, cap, l, h1, h2, h3, h4⟩ := open_list (α := ThreadD) P3.none0 (R := fun a cs d => ∃ cv cc, cs = [.int .i64 a.base, .int .i64 a.offset, .int .i64 a.period, .int .i64 a.deadline, .slice cv a.code.length cc] ∧ (cv = none → cc = 0) ∧ InstrsIn w.heap.size w cv a.code ∧ (Light d 59 → a.code.length * 24 ≤ reachBytes)) Tryz.underlying22 cThread bThread (by decide) (fun _ _ _ hh => open_thread hh) h
  refine ⟨ao, cap, l, h1, h2, fun i hi => ?_, fun hw => ⟨h4 hw, fun j hj => ?_⟩⟩
  · obtain ⟨b, o, cs', d, ha, hb, hl, hc, ⟨cv, cc, rfl, hn, hin, _⟩, _⟩ := h3 i hi
    exact ⟨b, o, cv, cc, ha, hb, by simpa using hc 0 (by decide), by simpa using hc 1 (by decide), by simpa using hc 2 (by decide), by simpa using hc 3 (by decide), by simpa using hc 4 (by decide), hin, hn⟩
  · obtain ⟨b, o, cs', d, ha, hb, hl, hc, ⟨cv, cc, rfl, hn, hin, hlight⟩, hd⟩ := h3 j hj
    exact hlight (hd hw)

set_option maxRecDepth 100000 in
/-- A SET THAT CAME IN. -/
theorem open_set {r : Reach} {b0 : Nat} {v : Value} {d : DataW H} {p : List MemPlace} (hv : Value.okWide Tryz.prog w r b0 27 v) (h : DataW.Trod enc Tryz.prog w 0 (fun _ => true) held 27 v d p) (hw : Light d 27) :
    ∃ (S : SetD) (tv mv sv qv : Option Addr) (tc mc sc qc : Nat), v = .agg #[.int .i64 S.workers, .int .i64 S.start, .slice tv S.threads.length tc, .slice mv S.mutexes.length mc, .slice sv S.sems.length sc, .slice qv S.queues.length qc] ∧
      SetIn w.heap.size w tv mv sv qv S ∧ Fits S ∧ (tv = none → tc = 0) ∧ (mv = none → mc = 0) ∧ (sv = none → sc = 0) ∧ (qv = none → qc = 0) := by
  obtain ⟨cs, rfl, hsz⟩ := okWide_struct Tryz.underlying27 hv
  obtain ⟨fuel, hf⟩ := h
  obtain ⟨y0, y1, y2, y3, y4, y5, m, hx, hl, h0, h1, h2, h3, h4, h5⟩ := trod_struct6 Tryz.underlying27 hf
  simp only at hx
  rw [cSet] at hl
  obtain ⟨a, b, c, dd, e, f, hcs⟩ := list6 hl
  have hcs' : cs = #[a, b, c, dd, e, f] := by
    have : cs.toList = [a, b, c, dd, e, f] := by simpa [Value.cells] using hcs
    exact Array.ext' (by simpa using this)
  subst hcs'
  simp only [Value.cells, c3, cThreads, cMutexes, cSems, cInts] at h0 h1 h2 h3 h4 h5
  simp at h0 h1 h2 h3 h4 h5
  obtain ⟨p0, e0, _⟩ := DataW.trod_int Tryz.underlying3 h0
  obtain ⟨p1, e1, _⟩ := DataW.trod_int Tryz.underlying3 h1
  obtain ⟨tv, tc, ts, e2, n2, i2, w2⟩ := open_threads h2
  obtain ⟨mv, mc, ms, e3, n3, i3, w3⟩ := open_pairsM h3
  obtain ⟨sv, sc, ss, e4, n4, i4, w4⟩ := open_pairsS h4
  obtain ⟨qv, qc, qs, e5, n5, i5, w5⟩ := open_numbers h5
  simp at e0 e1 e2 e3 e4 e5
  subst e0 e1 e2 e3 e4 e5
  have part : ∀ (j : Nat) (t : TypeId) (y : DataW H), [(3 : TypeId), 3, 22, 23, 24, 25][j]? = some t → [y0.1, y1.1, y2.1, y3.1, y4.1, y5.1][j]? = some y → Light y t := by
    intro j t y hj hy q hq
    refine hw q ?_
    rw [hx]
    simp only [DataW.weights, Tryz.underlying27]
    exact DataW.weights_mem_each hj hy q hq
  have l2 := w2 (part 2 _ _ rfl rfl)
  have l3 := w3 (part 3 _ _ rfl rfl)
  have l4 := w4 (part 4 _ _ rfl rfl)
  have l5 := w5 (part 5 _ _ rfl rfl)
  exact ⟨⟨p0, p1, ts, ms, ss, qs⟩, tv, mv, sv, qv, tc, mc, sc, qc, rfl, ⟨i2, i3, i4, i5⟩, ⟨l2.1, l3, l4, l5, l2.2⟩, n2, n3, n4, n5⟩

end
end Go.Proofs.YtbkfildnijjioaaGreat
