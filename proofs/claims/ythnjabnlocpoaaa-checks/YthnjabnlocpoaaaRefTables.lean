/-
  Walks: donateref.tables: P3's mutexes, semaphores and queues.
-/
import Derived.Test.YthnjabnlocpoaaaRefLeafC
namespace Go.Proofs.Ythnjabnlocpoaaa
open Go.RowKit

namespace P3
def terr (S : SetD) : Int := if badOr mutexP S.mutexes ≠ -1 then 2 else if badOr semP S.sems ≠ -1 then 3 else if badOr queueB S.queues ≠ -1 then 4 else 0
def tplace (S : SetD) : Int :=
  if badOr mutexP S.mutexes ≠ -1 then badOr mutexP S.mutexes else if badOr semP S.sems ≠ -1 then badOr semP S.sems else if badOr queueB S.queues ≠ -1 then badOr queueB S.queues else 0
def GoodTo {α : Type} (p : α → Bool) (l : List α) (k : Nat) : Prop := ∀ j (_ : j < k), (hl : j < l.length) → p l[j] = true
theorem GoodTo.zero {α : Type} (p : α → Bool) (l : List α) : GoodTo p l 0 := fun _ h => absurd h (Nat.not_lt_zero _)
theorem GoodTo.step {α : Type} {p : α → Bool} {l : List α} {k : Nat} (h : GoodTo p l k) (hk : k < l.length) (hp : p l[k] = true) : GoodTo p l (k + 1) := by
  intro j hj hl
  rcases Nat.lt_succ_iff_lt_or_eq.1 hj with h1 | rfl
  · exact h j h1 hl
  · exact hp
theorem GoodTo.none {α : Type} {p : α → Bool} {l : List α} {k : Nat} (h : GoodTo p l k) (hk : ¬ k < l.length) : badOr p l = -1 := badOr_none p l (fun j hj => h j (by omega) hj)
theorem GoodTo.at {α : Type} {p : α → Bool} {l : List α} {k : Nat} (h : GoodTo p l k) (hk : k < l.length) (hp : p l[k] = false) : badOr p l = k := badOr_at p l k hk hp (fun j hj => h j hj (by omega))
theorem t_mutex {S : SetD} {k : Nat} (h : badOr mutexP S.mutexes = k) : terr S = 2 ∧ tplace S = k := by
  have e : (k : Int) ≠ -1 := by omega
  simp [terr, tplace, h, e]
theorem t_sem {S : SetD} {k : Nat} (h0 : badOr mutexP S.mutexes = -1) (h : badOr semP S.sems = k) : terr S = 3 ∧ tplace S = k := by
  have e : (k : Int) ≠ -1 := by omega
  simp [terr, tplace, h0, h, e]
theorem t_queue {S : SetD} {k : Nat} (h0 : badOr mutexP S.mutexes = -1) (h1 : badOr semP S.sems = -1) (h : badOr queueB S.queues = k) : terr S = 4 ∧ tplace S = k := by
  have e : (k : Int) ≠ -1 := by omega
  simp [terr, tplace, h0, h1, h, e]
theorem t_ok {S : SetD} (h0 : badOr mutexP S.mutexes = -1) (h1 : badOr semP S.sems = -1) (h : badOr queueB S.queues = -1) : terr S = 0 ∧ tplace S = 0 := by
  simp [terr, tplace, h0, h1, h]
end P3

theorem ret_two {a b c d : Int} (h : a = c ∧ b = d) : Ending.returned (.tuple #[.int .i64 c, .int .i64 d]) = .returned (.tuple #[.int .i64 a, .int .i64 b]) := by rw [h.1, h.2]

set_option maxHeartbeats 1000000 in
theorem rTables_any (tv mv sv qv : Option Addr) (tc mc sc qc : Nat) (S : SetD) (w : World) (hS : SetIn w.heap.size w tv mv sv qv S)
    (n2 : (S.mutexes.length : Int) ≤ 8) (n3 : (S.sems.length : Int) ≤ 4) (n4 : (S.queues.length : Int) ≤ 4) :
    Calls Try.prog 13 #[.agg #[.int .i64 S.workers, .int .i64 S.start, .slice tv S.threads.length tc, .slice mv S.mutexes.length mc, .slice sv S.sems.length sc, .slice qv S.queues.length qc]] w fun e w' =>
      e = .returned (.tuple #[.int .i64 (P3.terr S), .int .i64 (P3.tplace S)]) ∧ Below w.heap.size w w' := by
  have HS : Hid (SetIn w.heap.size w tv mv sv qv S) := hS
  clear hS
  go_enter Try.func13, Try.ntmps13
  go_wp2
  generalize hw0 : w.alloc (.cells #[.int .i64 S.workers, .int .i64 S.start, .slice tv S.threads.length tc, .slice mv S.mutexes.length mc, .slice sv S.sems.length sc, .slice qv S.queues.length qc] 27) = w0
  have hs0 : w.heap.size < w0.heap.size := by rw [← hw0]; simp
  have b3 : w0.cell? ⟨w.heap.size, 3, none⟩ = some (.slice mv S.mutexes.length mc) := by rw [← hw0]; simp
  have b4 : w0.cell? ⟨w.heap.size, 4, none⟩ = some (.slice sv S.sems.length sc) := by rw [← hw0]; simp
  have b5 : w0.cell? ⟨w.heap.size, 5, none⟩ = some (.slice qv S.queues.length qc) := by rw [← hw0]; simp
  have hb0 : Below w.heap.size w w0 := by rw [← hw0]; exact (Below.refl _ _).alloc (Nat.le_refl _) _
  clear hw0
  have HS0 : Hid (SetIn w.heap.size w0 tv mv sv qv S) := HS.out.stays hb0
  clear HS
  go_loopw [4] (fun i wr => ∃ k : Nat, k ≤ S.mutexes.length ∧ i = .int .i64 k ∧ P3.GoodTo P3.mutexP S.mutexes k ∧ Below w0.heap.size w0 wr) (fun i _ => S.mutexes.length - (intOf i).toNat)
  case atStart => exact ⟨0, Nat.zero_le _, rfl, P3.GoodTo.zero _ _, Below.refl _ _⟩
  case round =>
    obtain ⟨k, hk, rfl, hall, hb⟩ := hrel
    have hsz := hb.size
    have q1 : w.heap.size < wr.heap.size := by omega
    have c3 := (hb.cell (p := ⟨w.heap.size, 3, none⟩) hs0).trans b3
    by_cases hlt : k < S.mutexes.length
    · obtain ⟨b, o, rfl, hbb, hx, hy⟩ := HS0.out.mutexes k hlt
      have hx' := (hb.cell (p := ⟨b, o + k * 2, none⟩) (by show b < _; omega)).trans hx
      have hy' := (hb.cell (p := ⟨b, o + k * 2 + 1, none⟩) (by show b < _; omega)).trans hy
      clear hx hy
      go_wp2_with (go_at_call 26; refine (rMutexFits_any _ _ _).mono ?_; rintro e w1 ⟨rfl, hb1⟩)
      · go_ret2
        refine ⟨ret_two (P3.t_mutex (hall.at hlt ?_)), via hb0 (by omega) (via hb hsz hb1)⟩
        simpa [P3.mutexP] using ‹(!P3.mutexB _ _) = true›
      · go_roundw
        case rel =>
          refine ⟨k + 1, by omega, by go_num, hall.step hlt ?_, via hb hsz hb1⟩
          simpa [P3.mutexP] using ‹(!P3.mutexB _ _) = false›
        case measure => simp [intOf]; omega
    · have HM : Hid (P3.badOr P3.mutexP S.mutexes = -1) := hall.none hlt
      clear hall
      go_wp2
      clear c3
      go_loopw [6] (fun i wr => ∃ k : Nat, k ≤ S.sems.length ∧ i = .int .i64 k ∧ P3.GoodTo P3.semP S.sems k ∧ Below w0.heap.size w0 wr) (fun i _ => S.sems.length - (intOf i).toNat)
      case atStart => exact ⟨0, Nat.zero_le _, rfl, P3.GoodTo.zero _ _, hb⟩
      case round =>
        clear hb hsz q1 hlt hk
        obtain ⟨k, hk, rfl, hall, hb⟩ := hrel
        have hsz := hb.size
        have q1 : w.heap.size < wr.heap.size := by omega
        have c4 := (hb.cell (p := ⟨w.heap.size, 4, none⟩) hs0).trans b4
        by_cases hlt : k < S.sems.length
        · obtain ⟨b, o, rfl, hbb, hx, hy⟩ := HS0.out.sems k hlt
          have hx' := (hb.cell (p := ⟨b, o + k * 2, none⟩) (by show b < _; omega)).trans hx
          have hy' := (hb.cell (p := ⟨b, o + k * 2 + 1, none⟩) (by show b < _; omega)).trans hy
          clear hx hy
          cases hok : P3.semB S.sems[k].x S.sems[k].y
          · have HB : Hid (P3.semB S.sems[k].x S.sems[k].y = false) := hok
            clear hok
            have hB := HB.out
            unfold P3.semB at hB
            rw [decide_eq_false_iff_not] at hB
            have hor : S.sems[k].y < 1 ∨ (1 ≤ S.sems[k].y ∧ 100 < S.sems[k].y) ∨ (1 ≤ S.sems[k].y ∧ S.sems[k].y ≤ 100 ∧ S.sems[k].x < 0) ∨ (1 ≤ S.sems[k].y ∧ S.sems[k].y ≤ 100 ∧ 0 ≤ S.sems[k].x ∧ S.sems[k].y < S.sems[k].x) := by omega
            clear hB
            rcases hor with h1 | ⟨h1, h2⟩ | ⟨h1, h2, h3⟩ | ⟨h1, h2, h3, h4⟩
            all_goals
              go_wp2
              go_ret2
              exact ⟨ret_two (P3.t_sem HM.out (hall.at hlt HB.out)), via hb0 (by omega) (hb.alloc hsz _)⟩
          · have HB : Hid (P3.semB S.sems[k].x S.sems[k].y = true) := hok
            clear hok
            have hB := HB.out
            unfold P3.semB at hB
            rw [decide_eq_true_iff] at hB
            obtain ⟨h1, h2, h3, h4⟩ := hB
            go_wp2
            go_roundw
            case rel => exact ⟨k + 1, by omega, by go_num, hall.step hlt HB.out, hb.alloc hsz _⟩
            case measure => simp [intOf]; omega
        · have HN : Hid (P3.badOr P3.semP S.sems = -1) := hall.none hlt
          clear hall
          go_wp2
          clear c4
          go_loopw [8] (fun i wr => ∃ k : Nat, k ≤ S.queues.length ∧ i = .int .i64 k ∧ P3.GoodTo P3.queueB S.queues k ∧ Below w0.heap.size w0 wr) (fun i _ => S.queues.length - (intOf i).toNat)
          case atStart => exact ⟨0, Nat.zero_le _, rfl, P3.GoodTo.zero _ _, hb⟩
          case round =>
            clear hb hsz q1 hlt hk
            obtain ⟨k, hk, rfl, hall, hb⟩ := hrel
            have hsz := hb.size
            have q1 : w.heap.size < wr.heap.size := by omega
            have c5 := (hb.cell (p := ⟨w.heap.size, 5, none⟩) hs0).trans b5
            by_cases hlt : k < S.queues.length
            · obtain ⟨b, o, rfl, hbb, hx⟩ := HS0.out.queues k hlt
              have hx' := (hb.cell (p := ⟨b, o + k, none⟩) (by show b < _; omega)).trans hx
              clear hx
              cases hok : P3.queueB S.queues[k]
              · have HB : Hid (P3.queueB S.queues[k] = false) := hok
                clear hok
                have hB := HB.out
                unfold P3.queueB at hB
                rw [decide_eq_false_iff_not] at hB
                have hor : S.queues[k] < 1 ∨ (1 ≤ S.queues[k] ∧ 8 < S.queues[k]) := by omega
                clear hB
                rcases hor with h1 | ⟨h1, h2⟩
                all_goals
                  go_wp2
                  go_ret2
                  exact ⟨ret_two (P3.t_queue HM.out HN.out (hall.at hlt HB.out)), via hb0 (by omega) hb⟩
              · have HB : Hid (P3.queueB S.queues[k] = true) := hok
                clear hok
                have hB := HB.out
                unfold P3.queueB at hB
                rw [decide_eq_true_iff] at hB
                obtain ⟨h1, h2⟩ := hB
                go_wp2
                go_roundw
                case rel => exact ⟨k + 1, by omega, by go_num, hall.step hlt HB.out, hb⟩
                case measure => simp [intOf]; omega
            · have HQ : Hid (P3.badOr P3.queueB S.queues = -1) := hall.none hlt
              clear hall
              go_wp2
              go_ret2
              exact ⟨ret_two (P3.t_ok HM.out HN.out HQ.out), via hb0 (by omega) hb⟩

end Go.Proofs.Ythnjabnlocpoaaa
