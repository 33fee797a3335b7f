/-
  Walks: the lists of a set, looked through by package check.
-/
import Derived.Test.YthnjabnlocpoaaaMem
namespace Go.Proofs.Ythnjabnlocpoaaa
open Go.RowKit

set_option maxHeartbeats 400000 in
theorem firstBadMutex_any (ao : Option Addr) (cap : Nat) (l : List PairD) (w : World) (hl : PairsIn w.heap.size w ao l) (hn : (l.length : Int) ≤ 8) :
    Calls Try.prog 21 #[.slice ao l.length cap] w fun e w' => e = .returned (.int .i64 (P3.badOr P3.mutexP l)) ∧ Below w.heap.size w w' := by
  go_enter Try.func21, Try.ntmps21
  go_wp2
  go_loopw [7] (fun i wr => ∃ k : Nat, k ≤ l.length ∧ i = .int .i64 k ∧ (∀ j (h : j < k), (hl : j < l.length) → P3.mutexP l[j] = true) ∧ Below w.heap.size w wr) (fun i _ => l.length - (intOf i).toNat)
  case atStart => exact ⟨0, Nat.zero_le _, rfl, fun j h => absurd h (Nat.not_lt_zero _), Below.refl _ _⟩
  case round =>
    obtain ⟨k, hk, rfl, hall, hb⟩ := hrel
    by_cases hlt : k < l.length
    · obtain ⟨b, o, rfl, hbb, hx, hy⟩ := hl k hlt
      have H1 : Hid (∀ j (h : j < k), (hl : j < l.length) → P3.mutexP l[j] = true) := hall
      have HL : Hid (PairsIn w.heap.size w (some ⟨b, o, none⟩) l) := hl
      have hx' := (hb.cell (p := ⟨b, o + k * 2, none⟩) hbb).trans hx
      have hy' := (hb.cell (p := ⟨b, o + k * 2 + 1, none⟩) hbb).trans hy
      have hsz := hb.size
      clear hall hl hx hy
      go_wp2_with (go_at_call 41; refine (mutexFits_any _ _ _).mono ?_; rintro e w1 ⟨rfl, hb1⟩)
      · go_ret
        refine ⟨ret_int (P3.badOr_at P3.mutexP l k hlt ?_ (fun j h => H1.out j h (by omega))).symm, via (hb.alloc hb.size _) (by simp; omega) hb1⟩
        simpa [P3.mutexP] using ‹(!P3.mutexB l[k].x l[k].y) = true›
      · go_roundw
        case rel =>
          refine ⟨k + 1, by omega, by go_num, ?_, via (hb.alloc hb.size _) (by simp; omega) hb1⟩
          intro j h h'
          rcases Nat.lt_succ_iff_lt_or_eq.1 h with h1 | rfl
          · exact H1.out j h1 h'
          · simpa [P3.mutexP] using ‹(!P3.mutexB l[j].x l[j].y) = false›
        case measure => simp [intOf]; omega
    · have H1 : Hid (∀ j (h : j < k), (hl : j < l.length) → P3.mutexP l[j] = true) := hall
      have HL : Hid (PairsIn w.heap.size w ao l) := hl
      clear hall hl
      go_wp2
      go_ret
      exact ⟨ret_int (P3.badOr_none P3.mutexP l (fun j h => H1.out j (by omega) h)).symm, hb⟩

set_option maxHeartbeats 400000 in
theorem firstBadSem_any (ao : Option Addr) (cap : Nat) (l : List PairD) (w : World) (hl : PairsIn w.heap.size w ao l) (hn : (l.length : Int) ≤ 4) :
    Calls Try.prog 22 #[.slice ao l.length cap] w fun e w' => e = .returned (.int .i64 (P3.badOr P3.semP l)) ∧ Below w.heap.size w w' := by
  go_enter Try.func22, Try.ntmps22
  go_wp2
  go_loopw [7] (fun i wr => ∃ k : Nat, k ≤ l.length ∧ i = .int .i64 k ∧ (∀ j (h : j < k), (hl : j < l.length) → P3.semP l[j] = true) ∧ Below w.heap.size w wr) (fun i _ => l.length - (intOf i).toNat)
  case atStart => exact ⟨0, Nat.zero_le _, rfl, fun j h => absurd h (Nat.not_lt_zero _), Below.refl _ _⟩
  case round =>
    obtain ⟨k, hk, rfl, hall, hb⟩ := hrel
    have H1 : Hid (∀ j (h : j < k), (hl : j < l.length) → P3.semP l[j] = true) := hall
    clear hall
    by_cases hlt : k < l.length
    · obtain ⟨b, o, rfl, hbb, hx, hy⟩ := hl k hlt
      have hx' := (hb.cell (p := ⟨b, o + k * 2, none⟩) hbb).trans hx
      have hy' := (hb.cell (p := ⟨b, o + k * 2 + 1, none⟩) hbb).trans hy
      have hsz := hb.size
      clear hl hx hy
      cases hok : P3.semB l[k].x l[k].y
      · have HB : Hid (P3.semB l[k].x l[k].y = false) := hok
        clear hok
        have hB := HB.out
        unfold P3.semB at hB
        rw [decide_eq_false_iff_not] at hB
        have hor : l[k].y < 1 ∨ (1 ≤ l[k].y ∧ 100 < l[k].y) ∨ (1 ≤ l[k].y ∧ l[k].y ≤ 100 ∧ l[k].x < 0) ∨ (1 ≤ l[k].y ∧ l[k].y ≤ 100 ∧ 0 ≤ l[k].x ∧ l[k].y < l[k].x) := by omega
        clear hB
        rcases hor with h1 | ⟨h1, h2⟩ | ⟨h1, h2, h3⟩ | ⟨h1, h2, h3, h4⟩
        all_goals
          go_wp2
          go_ret
          exact ⟨ret_int (P3.badOr_at P3.semP l k hlt HB.out (fun j h => H1.out j h (by omega))).symm, hb.alloc hb.size _⟩
      · have HB : Hid (P3.semB l[k].x l[k].y = true) := hok
        clear hok
        have hB := HB.out
        unfold P3.semB at hB
        rw [decide_eq_true_iff] at hB
        obtain ⟨h1, h2, h3, h4⟩ := hB
        go_wp2
        go_roundw
        case rel =>
          refine ⟨k + 1, by omega, by go_num, ?_, hb.alloc hb.size _⟩
          intro j h h'
          rcases Nat.lt_succ_iff_lt_or_eq.1 h with h1 | rfl
          · exact H1.out j h1 h'
          · exact HB.out
        case measure => simp [intOf]; omega
    · clear hl
      go_wp2
      go_ret
      exact ⟨ret_int (P3.badOr_none P3.semP l (fun j h => H1.out j (by omega) h)).symm, hb⟩

set_option maxHeartbeats 400000 in
theorem firstBadQueue_any (ao : Option Addr) (cap : Nat) (l : List Int) (w : World) (hl : IntsIn w.heap.size w ao l) (hn : (l.length : Int) ≤ 4) :
    Calls Try.prog 23 #[.slice ao l.length cap] w fun e w' => e = .returned (.int .i64 (P3.badOr P3.queueB l)) ∧ Below w.heap.size w w' := by
  go_enter Try.func23, Try.ntmps23
  go_wp2
  go_loopw [7] (fun i wr => ∃ k : Nat, k ≤ l.length ∧ i = .int .i64 k ∧ (∀ j (h : j < k), (hl : j < l.length) → P3.queueB l[j] = true) ∧ Below w.heap.size w wr) (fun i _ => l.length - (intOf i).toNat)
  case atStart => exact ⟨0, Nat.zero_le _, rfl, fun j h => absurd h (Nat.not_lt_zero _), Below.refl _ _⟩
  case round =>
    obtain ⟨k, hk, rfl, hall, hb⟩ := hrel
    have H1 : Hid (∀ j (h : j < k), (hl : j < l.length) → P3.queueB l[j] = true) := hall
    clear hall
    by_cases hlt : k < l.length
    · obtain ⟨b, o, rfl, hbb, hx⟩ := hl k hlt
      have hx' := (hb.cell (p := ⟨b, o + k, none⟩) hbb).trans hx
      have hsz := hb.size
      clear hl hx
      cases hok : P3.queueB l[k]
      · have HB : Hid (P3.queueB l[k] = false) := hok
        clear hok
        have hB := HB.out
        unfold P3.queueB at hB
        rw [decide_eq_false_iff_not] at hB
        have hor : l[k] < 1 ∨ (1 ≤ l[k] ∧ 8 < l[k]) := by omega
        clear hB
        rcases hor with h1 | ⟨h1, h2⟩
        all_goals
          go_wp2
          go_ret
          exact ⟨ret_int (P3.badOr_at P3.queueB l k hlt HB.out (fun j h => H1.out j h (by omega))).symm, hb⟩
      · have HB : Hid (P3.queueB l[k] = true) := hok
        clear hok
        have hB := HB.out
        unfold P3.queueB at hB
        rw [decide_eq_true_iff] at hB
        obtain ⟨h1, h2⟩ := hB
        go_wp2
        go_roundw
        case rel =>
          refine ⟨k + 1, by omega, by go_num, ?_, hb⟩
          intro j h h'
          rcases Nat.lt_succ_iff_lt_or_eq.1 h with h1 | rfl
          · exact H1.out j h1 h'
          · exact HB.out
        case measure => simp [intOf]; omega
    · clear hl
      go_wp2
      go_ret
      exact ⟨ret_int (P3.badOr_none P3.queueB l (fun j h => H1.out j (by omega) h)).symm, hb⟩

set_option maxHeartbeats 400000 in
theorem firstBadThread_any (ao : Option Addr) (cap : Nat) (l : List ThreadD) (w : World) (hl : ThreadsIn w.heap.size w ao l) (hn : (l.length : Int) ≤ 16) :
    Calls Try.prog 24 #[.slice ao l.length cap] w fun e w' => e = .returned (.int .i64 (P3.badOr P3.threadP l)) ∧ Below w.heap.size w w' := by
  go_enter Try.func24, Try.ntmps24
  go_wp2
  go_loopw [7] (fun i wr => ∃ k : Nat, k ≤ l.length ∧ i = .int .i64 k ∧ (∀ j (h : j < k), (hl : j < l.length) → P3.threadP l[j] = true) ∧ Below w.heap.size w wr) (fun i _ => l.length - (intOf i).toNat)
  case atStart => exact ⟨0, Nat.zero_le _, rfl, fun j h => absurd h (Nat.not_lt_zero _), Below.refl _ _⟩
  case round =>
    obtain ⟨k, hk, rfl, hall, hb⟩ := hrel
    have H1 : Hid (∀ j (h : j < k), (hl : j < l.length) → P3.threadP l[j] = true) := hall
    clear hall
    by_cases hlt : k < l.length
    · obtain ⟨b, o, cv, cc, rfl, hbb, c0, c1, c2, c3, c4, _⟩ := hl k hlt
      have c0' := (hb.cell (p := ⟨b, o + k * 5, none⟩) hbb).trans c0
      have c1' := (hb.cell (p := ⟨b, o + k * 5 + 1, none⟩) hbb).trans c1
      have c2' := (hb.cell (p := ⟨b, o + k * 5 + 2, none⟩) hbb).trans c2
      have c3' := (hb.cell (p := ⟨b, o + k * 5 + 3, none⟩) hbb).trans c3
      have c4' := (hb.cell (p := ⟨b, o + k * 5 + 4, none⟩) hbb).trans c4
      have hsz := hb.size
      clear hl c0 c1 c2 c3 c4
      go_wp2_with (go_at_call 42; refine (threadFits_any _ _ _ _ _ _ _ _).mono ?_; rintro e w1 ⟨rfl, hb1⟩)
      · go_ret
        refine ⟨ret_int (P3.badOr_at P3.threadP l k hlt ?_ (fun j h => H1.out j h (by omega))).symm, via (hb.alloc hb.size _) (by simp; omega) hb1⟩
        simpa [P3.threadP] using ‹(!P3.threadB _ _ _ _ _) = true›
      · go_roundw
        case rel =>
          refine ⟨k + 1, by omega, by go_num, ?_, via (hb.alloc hb.size _) (by simp; omega) hb1⟩
          intro j h h'
          rcases Nat.lt_succ_iff_lt_or_eq.1 h with h1 | rfl
          · exact H1.out j h1 h'
          · simpa [P3.threadP] using ‹(!P3.threadB _ _ _ _ _) = false›
        case measure => simp [intOf]; omega
    · clear hl
      go_wp2
      go_ret
      exact ⟨ret_int (P3.badOr_none P3.threadP l (fun j h => H1.out j (by omega) h)).symm, hb⟩

end Go.Proofs.Ythnjabnlocpoaaa
