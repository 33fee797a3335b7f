/-
  Walks: the codes of a set, looked through by package check.
-/
import Derived.Test.YthnjabnlocpoaaaLists
namespace Go.Proofs.Ythnjabnlocpoaaa
open Go.RowKit

/-- What the two loops have seen so far: threads ahead of t have good codes. -/
def CodesTo (S : SetD) (t : Nat) : Prop := ∀ j (_ : j < t), (hl : j < S.threads.length) → P3.codeP S S.threads[j] = true
def CodeTo (S : SetD) (c : List InstrD) (i : Nat) : Prop := ∀ j (_ : j < i), (hl : j < c.length) → P3.instrP S c.length c[j] = true

theorem CodesTo.step {S : SetD} {t : Nat} (h : CodesTo S t) (ht : t < S.threads.length) (hc : CodeTo S S.threads[t].code S.threads[t].code.length) : CodesTo S (t + 1) := by
  intro j hj hl
  rcases Nat.lt_succ_iff_lt_or_eq.1 hj with h1 | rfl
  · exact h j h1 hl
  · unfold P3.codeP
    rw [decide_eq_true_iff]
    exact P3.bad_all _ _ (fun i hi => hc i hi hi)

theorem badCode_none {S : SetD} (h : CodesTo S S.threads.length) : P3.badCode S = -1 := by
  unfold P3.badCode
  rw [P3.bad_all (P3.codeP S) S.threads (fun j hj => h j hj hj), if_neg (by omega)]

theorem badCode_at {S : SetD} {t i : Nat} (h : CodesTo S t) (ht : t < S.threads.length) (hc : CodeTo S S.threads[t].code i) (hi : i < S.threads[t].code.length)
    (hb : P3.instrP S S.threads[t].code.length S.threads[t].code[i] = false) : P3.badCode S = 100 * (t : Int) + i := by
  have e1 : P3.bad (P3.instrP S S.threads[t].code.length) S.threads[t].code = i := P3.bad_eq _ _ i hi hb (fun j hj => hc j hj (by omega))
  have e2 : P3.bad (P3.codeP S) S.threads = t := by
    refine P3.bad_eq _ _ t ht ?_ (fun j hj => h j hj (by omega))
    unfold P3.codeP
    rw [decide_eq_false_iff_not, e1]
    omega
  unfold P3.badCode
  have e3 : S.threads.getD t P3.none0 = S.threads[t] := by simp [List.getD, ht]
  rw [e2, if_pos ht, e3, e1]

set_option maxHeartbeats 1000000 in
theorem firstBadInstr_any (tv mv sv qv : Option Addr) (tc mc sc qc : Nat) (S : SetD) (w : World) (hl : ThreadsIn w.heap.size w tv S.threads)
    (h1 : (S.threads.length : Int) ≤ 16) (h2 : (S.mutexes.length : Int) ≤ 8) (h3 : (S.sems.length : Int) ≤ 4) (h4 : (S.queues.length : Int) ≤ 4) (h5 : ∀ j (h : j < S.threads.length), (S.threads[j].code.length : Int) ≤ 32) :
    Calls Try.prog 25 #[.agg #[.int .i64 S.workers, .int .i64 S.start, .slice tv S.threads.length tc, .slice mv S.mutexes.length mc, .slice sv S.sems.length sc, .slice qv S.queues.length qc]] w fun e w' =>
      e = .returned (.int .i64 (P3.badCode S)) ∧ Below w.heap.size w w' := by
  have H5 : Hid (∀ j (h : j < S.threads.length), (S.threads[j].code.length : Int) ≤ 32) := h5
  have HL : Hid (ThreadsIn w.heap.size w tv S.threads) := hl
  clear h5 hl
  go_enter Try.func25, Try.ntmps25
  go_wp2
  generalize hw0 : w.alloc (.cells #[.int .i64 S.workers, .int .i64 S.start, .slice tv S.threads.length tc, .slice mv S.mutexes.length mc, .slice sv S.sems.length sc, .slice qv S.queues.length qc] 27) = w0
  have hs0 : w.heap.size < w0.heap.size := by rw [← hw0]; simp
  have b0 : w0.cell? ⟨w.heap.size, 0, none⟩ = some (.int .i64 S.workers) := by rw [← hw0]; simp
  have b1 : w0.cell? ⟨w.heap.size, 1, none⟩ = some (.int .i64 S.start) := by rw [← hw0]; simp
  have b2 : w0.cell? ⟨w.heap.size, 2, none⟩ = some (.slice tv S.threads.length tc) := by rw [← hw0]; simp
  have b3 : w0.cell? ⟨w.heap.size, 3, none⟩ = some (.slice mv S.mutexes.length mc) := by rw [← hw0]; simp
  have b4 : w0.cell? ⟨w.heap.size, 4, none⟩ = some (.slice sv S.sems.length sc) := by rw [← hw0]; simp
  have b5 : w0.cell? ⟨w.heap.size, 5, none⟩ = some (.slice qv S.queues.length qc) := by rw [← hw0]; simp
  have hl0 : ThreadsIn w.heap.size w0 tv S.threads := HL.out.stays (by rw [← hw0]; exact (Below.refl _ _).alloc (Nat.le_refl _) _)
  have hb0 : Below w.heap.size w w0 := by rw [← hw0]; exact (Below.refl _ _).alloc (Nat.le_refl _) _
  clear hw0 HL
  have HL : Hid (ThreadsIn w.heap.size w0 tv S.threads) := hl0
  clear hl0
  go_loopw [11] (fun i wr => ∃ k : Nat, k ≤ S.threads.length ∧ i = .int .i64 k ∧ CodesTo S k ∧ Below w0.heap.size w0 wr) (fun i _ => S.threads.length - (intOf i).toNat)
  case atStart => exact ⟨0, Nat.zero_le _, rfl, fun j h => absurd h (Nat.not_lt_zero _), Below.refl _ _⟩
  case round =>
    obtain ⟨k, hk, rfl, hall, hb⟩ := hrel
    by_cases hlt : k < S.threads.length
    · obtain ⟨b, o, cv, cc, rfl, hbb, c0, c1, c2, c3, c4, hcode, _⟩ := HL.out k hlt
      have c0' := (hb.cell (p := ⟨b, o + k * 5, none⟩) (Nat.lt_trans hbb hs0)).trans c0
      have c1' := (hb.cell (p := ⟨b, o + k * 5 + 1, none⟩) (Nat.lt_trans hbb hs0)).trans c1
      have c2' := (hb.cell (p := ⟨b, o + k * 5 + 2, none⟩) (Nat.lt_trans hbb hs0)).trans c2
      have c3' := (hb.cell (p := ⟨b, o + k * 5 + 3, none⟩) (Nat.lt_trans hbb hs0)).trans c3
      have c4' := (hb.cell (p := ⟨b, o + k * 5 + 4, none⟩) (Nat.lt_trans hbb hs0)).trans c4
      have hlen := H5.out k hlt
      have hsz := hb.size
      clear c0 c1 c2 c3 c4
      have HC : Hid (InstrsIn w.heap.size w0 cv S.threads[k].code) := hcode
      clear hcode
      go_wp2
      generalize hw1 : wr.alloc (.cells #[.int .i64 S.threads[k].base, .int .i64 S.threads[k].offset, .int .i64 S.threads[k].period, .int .i64 S.threads[k].deadline, .slice cv S.threads[k].code.length cc] 41) = w1
      have hs1 : wr.heap.size < w1.heap.size := by rw [← hw1]; simp
      have d4 : w1.cell? ⟨wr.heap.size, 4, none⟩ = some (.slice cv S.threads[k].code.length cc) := by rw [← hw1]; simp
      have hb1 : Below w0.heap.size w0 w1 := by rw [← hw1]; exact hb.alloc hb.size _
      have e0 := (hb1.cell (p := ⟨w.heap.size, 0, none⟩) hs0).trans b0
      have e1 := (hb1.cell (p := ⟨w.heap.size, 1, none⟩) hs0).trans b1
      have e2 := (hb1.cell (p := ⟨w.heap.size, 2, none⟩) hs0).trans b2
      have e3 := (hb1.cell (p := ⟨w.heap.size, 3, none⟩) hs0).trans b3
      have e4 := (hb1.cell (p := ⟨w.heap.size, 4, none⟩) hs0).trans b4
      have e5 := (hb1.cell (p := ⟨w.heap.size, 5, none⟩) hs0).trans b5
      clear c0' c1' c2' c3' c4' hw1
      generalize wr.heap.size = g at *
      go_loopw [19] (fun i wx => ∃ m : Nat, m ≤ S.threads[k].code.length ∧ i = .int .i64 m ∧ CodeTo S S.threads[k].code m ∧ Below w1.heap.size w1 wx) (fun i _ => S.threads[k].code.length - (intOf i).toNat)
      case atStart => exact ⟨0, Nat.zero_le _, rfl, fun j h => absurd h (Nat.not_lt_zero _), Below.refl _ _⟩
      case round =>
        obtain ⟨m, hm, rfl, hall2, hb2⟩ := hrel
        have HA : Hid (CodeTo S S.threads[k].code m) := hall2
        have HB : Hid (CodesTo S k) := hall
        clear hall2 hall
        by_cases hlt2 : m < S.threads[k].code.length
        · obtain ⟨b', o', rfl, hbb', x0, x1, x2⟩ := HC.out m hlt2
          have y0 := (hb2.cell (p := ⟨b', o' + m * 3, none⟩) (by show b' < _; omega)).trans ((hb1.cell (p := ⟨b', o' + m * 3, none⟩) (by show b' < _; omega)).trans x0)
          have y1 := (hb2.cell (p := ⟨b', o' + m * 3 + 1, none⟩) (by show b' < _; omega)).trans ((hb1.cell (p := ⟨b', o' + m * 3 + 1, none⟩) (by show b' < _; omega)).trans x1)
          have y2 := (hb2.cell (p := ⟨b', o' + m * 3 + 2, none⟩) (by show b' < _; omega)).trans ((hb1.cell (p := ⟨b', o' + m * 3 + 2, none⟩) (by show b' < _; omega)).trans x2)
          have f0 := (hb2.cell (p := ⟨w.heap.size, 0, none⟩) (by show w.heap.size < _; omega)).trans e0
          have f1 := (hb2.cell (p := ⟨w.heap.size, 1, none⟩) (by show w.heap.size < _; omega)).trans e1
          have f2 := (hb2.cell (p := ⟨w.heap.size, 2, none⟩) (by show w.heap.size < _; omega)).trans e2
          have f3 := (hb2.cell (p := ⟨w.heap.size, 3, none⟩) (by show w.heap.size < _; omega)).trans e3
          have f4 := (hb2.cell (p := ⟨w.heap.size, 4, none⟩) (by show w.heap.size < _; omega)).trans e4
          have f5 := (hb2.cell (p := ⟨w.heap.size, 5, none⟩) (by show w.heap.size < _; omega)).trans e5
          have g4 := (hb2.cell (p := ⟨g, 4, none⟩) (by show g < _; omega)).trans d4
          have hsz2 := hb2.size
          clear x0 x1 x2 e0 e1 e2 e3 e4 e5 d4 b0 b1 b2 b3 b4 b5
          have q1 : w.heap.size < wr.heap.size := by omega
          have q2 : g < wr.heap.size := by omega
          go_wp2_with (first
            | (go_at_call 43; refine (boundsOf_any _ _ _ _ _ _ _ _ _ _ _ _ _ _ _ _ _ h1 h2 h3 h4).mono ?_; rintro e w3 ⟨rfl, hb3⟩; obtain ⟨hc3, hf3⟩ := bcell hb3; have hz3 : wr.heap.size < w3.heap.size := (by have := hb3.size; simp at this; omega))
            | (go_at_call 44; refine (instrFits_any _ _ _ _ _ _ _ _ _).mono ?_; rintro e w4 ⟨rfl, hb4⟩))
          · go_ret
            refine ⟨ret_int (badCode_at HB.out hlt HA.out hlt2 ?_).symm, via hb0 (Nat.le_of_lt hs0) (via hb1 (by omega) (via (via (hb2.alloc hb2.size _) (by simp; omega) hb3 |>.alloc (by omega) _) (by simp; omega) hb4))⟩
            simpa [P3.instrP, P3.instrB] using ‹(!P3.fitsB _ _ _ _ _ _ _) = true›
          · go_roundw
            case rel =>
              refine ⟨m + 1, by omega, by go_num, ?_, via (via (hb2.alloc hb2.size _) (by simp; omega) hb3 |>.alloc (by omega) _) (by simp; omega) hb4⟩
              intro j h h'
              rcases Nat.lt_succ_iff_lt_or_eq.1 h with h1 | rfl
              · exact HA.out j h1 h'
              · simpa [P3.instrP, P3.instrB] using ‹(!P3.fitsB _ _ _ _ _ _ _) = false›
            case measure => simp [intOf]; omega
        · have hmm : m = S.threads[k].code.length := by omega
          have HA' : Hid (CodeTo S S.threads[k].code S.threads[k].code.length) := hmm ▸ HA.out
          have hsz2 := hb2.size
          clear hmm
          go_wp2
          go_roundw
          case rel => exact ⟨k + 1, by omega, by go_num, HB.out.step hlt HA'.out, via hb1 (by omega) hb2⟩
          case measure => simp [intOf]; omega
    · go_wp2
      go_ret
      have e : k = S.threads.length := by omega
      subst e
      exact ⟨ret_int (badCode_none hall).symm, via hb0 hb0.size hb⟩

end Go.Proofs.Ythnjabnlocpoaaa
