import Derived.Test.YthnjabnlocpoaaaGreatB18
import Derived.Deep.QuietTactic
import Derived.BigQuiet
import Derived.Test.YthnjabnlocpoaaaGreatB08
import Derived.Deep.RegionHeld3
/-
  Walks: the codes of a set, looked through by package check.
-/
namespace Go.Proofs.YthnjabnlocpoaaaGreat
open Go.RowKit

/-- What the two loops have seen so far: threads ahead of t have good codes. -/
def CodesTo (S : SetD) (t : Nat) : Prop := ∀ j (_ : j < t), (hl : j < S.threads.length) → P3.codeP S S.threads[j] = true
def CodeTo (S : SetD) (c : List InstrD) (i : Nat) : Prop := ∀ j (_ : j < i), (hl : j < c.length) → P3.instrP S c.length c[j] = true

theorem CodesTo.step {S : SetD} {t : Nat} (h : CodesTo S t) (ht : t < S.threads.length) (hc : CodeTo S S.threads[t].code S.threads[t].code.length) : CodesTo S (t + 1) := by
  intro j hj hl
  rcases Nat.lt_succ_iff_lt_or_eq.1 hj with h1 | rfl
  · exact h j h1 hl
  · unfold P3.codeP
    rw [decide_eq_true_iff]
    exact P3.bad_all _ _ (fun i hi => hc i hi hi)

theorem badCode_none {S : SetD} (h : CodesTo S S.threads.length) : P3.badCode S = -1 := by
  unfold P3.badCode
  rw [P3.bad_all (P3.codeP S) S.threads (fun j hj => h j hj hj), if_neg (by omega)]

theorem badCode_at {S : SetD} {t i : Nat} (h : CodesTo S t) (ht : t < S.threads.length) (hc : CodeTo S S.threads[t].code i) (hi : i < S.threads[t].code.length)
    (hb : P3.instrP S S.threads[t].code.length S.threads[t].code[i] = false) : P3.badCode S = 100 * (t : Int) + i := by
  have e1 : P3.bad (P3.instrP S S.threads[t].code.length) S.threads[t].code = i := P3.bad_eq _ _ i hi hb (fun j hj => hc j hj (by omega))
  have e2 : P3.bad (P3.codeP S) S.threads = t := by
    refine P3.bad_eq _ _ t ht ?_ (fun j hj => h j hj (by omega))
    unfold P3.codeP
    rw [decide_eq_false_iff_not, e1]
    omega
  unfold P3.badCode
  have e3 : S.threads.getD t P3.none0 = S.threads[t] := by simp [List.getD, ht]
  rw [e2, if_pos ht, e3, e1]

set_option maxHeartbeats 1000000 in
theorem firstBadInstr_any (tv mv sv qv : Option Addr) (tc mc sc qc : Nat) (S : SetD) (w : World) (hl : ThreadsIn w.heap.size w tv S.threads)
    (h1 : (S.threads.length : Int) ≤ 16) (h2 : (S.mutexes.length : Int) ≤ 8) (h3 : (S.sems.length : Int) ≤ 4) (h4 : (S.queues.length : Int) ≤ 4) (h5 : ∀ j (h : j < S.threads.length), (S.threads[j].code.length : Int) ≤ 32) :
    Calls Tryz.prog 62 #[.agg #[.int .i64 S.workers, .int .i64 S.start, .slice tv S.threads.length tc, .slice mv S.mutexes.length mc, .slice sv S.sems.length sc, .slice qv S.queues.length qc]] w fun e w' =>
      e = .returned (.int .i64 (P3.badCode S)) ∧ Below w.heap.size w w' := by
  have H5 : Hid (∀ j (h : j < S.threads.length), (S.threads[j].code.length : Int) ≤ 32) := h5
  have HL : Hid (ThreadsIn w.heap.size w tv S.threads) := hl
  clear h5 hl
  go_enter Tryz.func62, Tryz.ntmps62
  go_wp2
  generalize hw0 : w.alloc (.cells #[.int .i64 S.workers, .int .i64 S.start, .slice tv S.threads.length tc, .slice mv S.mutexes.length mc, .slice sv S.sems.length sc, .slice qv S.queues.length qc] 27) = w0
  have hs0 : w.heap.size < w0.heap.size := by rw [← hw0]; simp
  have b0 : w0.cell? ⟨w.heap.size, 0, none⟩ = some (.int .i64 S.workers) := by rw [← hw0]; simp
  have b1 : w0.cell? ⟨w.heap.size, 1, none⟩ = some (.int .i64 S.start) := by rw [← hw0]; simp
  have b2 : w0.cell? ⟨w.heap.size, 2, none⟩ = some (.slice tv S.threads.length tc) := by rw [← hw0]; simp
  have b3 : w0.cell? ⟨w.heap.size, 3, none⟩ = some (.slice mv S.mutexes.length mc) := by rw [← hw0]; simp
  have b4 : w0.cell? ⟨w.heap.size, 4, none⟩ = some (.slice sv S.sems.length sc) := by rw [← hw0]; simp
  have b5 : w0.cell? ⟨w.heap.size, 5, none⟩ = some (.slice qv S.queues.length qc) := by rw [← hw0]; simp
  have hl0 : ThreadsIn w.heap.size w0 tv S.threads := HL.out.stays (by rw [← hw0]; exact (Below.refl _ _).alloc (Nat.le_refl _) _)
  have hb0 : Below w.heap.size w w0 := by rw [← hw0]; exact (Below.refl _ _).alloc (Nat.le_refl _) _
  clear hw0 HL
  have HL : Hid (ThreadsIn w.heap.size w0 tv S.threads) := hl0
  clear hl0
  go_loopw [11] (fun i wr => ∃ k : Nat, k ≤ S.threads.length ∧ i = .int .i64 k ∧ CodesTo S k ∧ Below w0.heap.size w0 wr) (fun i _ => S.threads.length - (intOf i).toNat)
  case atStart => exact ⟨0, Nat.zero_le _, rfl, fun j h => absurd h (Nat.not_lt_zero _), Below.refl _ _⟩
  case round =>
    obtain ⟨k, hk, rfl, hall, hb⟩ := hrel
    by_cases hlt : k < S.threads.length
    · obtain ⟨b, o, cv, cc, rfl, hbb, c0, c1, c2, c3, c4, hcode, _⟩ := HL.out k hlt
      have c0' := (hb.cell (p := ⟨b, o + k * 5, none⟩) (Nat.lt_trans hbb hs0)).trans c0
      have c1' := (hb.cell (p := ⟨b, o + k * 5 + 1, none⟩) (Nat.lt_trans hbb hs0)).trans c1
      have c2' := (hb.cell (p := ⟨b, o + k * 5 + 2, none⟩) (Nat.lt_trans hbb hs0)).trans c2
      have c3' := (hb.cell (p := ⟨b, o + k * 5 + 3, none⟩) (Nat.lt_trans hbb hs0)).trans c3
      have c4' := (hb.cell (p := ⟨b, o + k * 5 + 4, none⟩) (Nat.lt_trans hbb hs0)).trans c4
      have hlen := H5.out k hlt
      have hsz := hb.size
      clear c0 c1 c2 c3 c4
      have HC : Hid (InstrsIn w.heap.size w0 cv S.threads[k].code) := hcode
      clear hcode
      go_wp2
      generalize hw1 : wr.alloc (.cells #[.int .i64 S.threads[k].base, .int .i64 S.threads[k].offset, .int .i64 S.threads[k].period, .int .i64 S.threads[k].deadline, .slice cv S.threads[k].code.length cc] 39) = w1
      have hs1 : wr.heap.size < w1.heap.size := by rw [← hw1]; simp
      have d4 : w1.cell? ⟨wr.heap.size, 4, none⟩ = some (.slice cv S.threads[k].code.length cc) := by rw [← hw1]; simp
      have hb1 : Below w0.heap.size w0 w1 := by rw [← hw1]; exact hb.alloc hb.size _
      have e0 := (hb1.cell (p := ⟨w.heap.size, 0, none⟩) hs0).trans b0
      have e1 := (hb1.cell (p := ⟨w.heap.size, 1, none⟩) hs0).trans b1
      have e2 := (hb1.cell (p := ⟨w.heap.size, 2, none⟩) hs0).trans b2
      have e3 := (hb1.cell (p := ⟨w.heap.size, 3, none⟩) hs0).trans b3
      have e4 := (hb1.cell (p := ⟨w.heap.size, 4, none⟩) hs0).trans b4
      have e5 := (hb1.cell (p := ⟨w.heap.size, 5, none⟩) hs0).trans b5
      clear c0' c1' c2' c3' c4' hw1
      generalize wr.heap.size = g at *
      go_loopw [19] (fun i wx => ∃ m : Nat, m ≤ S.threads[k].code.length ∧ i = .int .i64 m ∧ CodeTo S S.threads[k].code m ∧ Below w1.heap.size w1 wx) (fun i _ => S.threads[k].code.length - (intOf i).toNat)
      case atStart => exact ⟨0, Nat.zero_le _, rfl, fun j h => absurd h (Nat.not_lt_zero _), Below.refl _ _⟩
      case round =>
        obtain ⟨m, hm, rfl, hall2, hb2⟩ := hrel
        have HA : Hid (CodeTo S S.threads[k].code m) := hall2
        have HB : Hid (CodesTo S k) := hall
        clear hall2 hall
        by_cases hlt2 : m < S.threads[k].code.length
        · obtain ⟨b', o', rfl, hbb', x0, x1, x2⟩ := HC.out m hlt2
          have y0 := (hb2.cell (p := ⟨b', o' + m * 3, none⟩) (by show b' < _; omega)).trans ((hb1.cell (p := ⟨b', o' + m * 3, none⟩) (by show b' < _; omega)).trans x0)
          have y1 := (hb2.cell (p := ⟨b', o' + m * 3 + 1, none⟩) (by show b' < _; omega)).trans ((hb1.cell (p := ⟨b', o' + m * 3 + 1, none⟩) (by show b' < _; omega)).trans x1)
          have y2 := (hb2.cell (p := ⟨b', o' + m * 3 + 2, none⟩) (by show b' < _; omega)).trans ((hb1.cell (p := ⟨b', o' + m * 3 + 2, none⟩) (by show b' < _; omega)).trans x2)
          have f0 := (hb2.cell (p := ⟨w.heap.size, 0, none⟩) (by show w.heap.size < _; omega)).trans e0
          have f1 := (hb2.cell (p := ⟨w.heap.size, 1, none⟩) (by show w.heap.size < _; omega)).trans e1
          have f2 := (hb2.cell (p := ⟨w.heap.size, 2, none⟩) (by show w.heap.size < _; omega)).trans e2
          have f3 := (hb2.cell (p := ⟨w.heap.size, 3, none⟩) (by show w.heap.size < _; omega)).trans e3
          have f4 := (hb2.cell (p := ⟨w.heap.size, 4, none⟩) (by show w.heap.size < _; omega)).trans e4
          have f5 := (hb2.cell (p := ⟨w.heap.size, 5, none⟩) (by show w.heap.size < _; omega)).trans e5
          have g4 := (hb2.cell (p := ⟨g, 4, none⟩) (by show g < _; omega)).trans d4
          have hsz2 := hb2.size
          clear x0 x1 x2 e0 e1 e2 e3 e4 e5 d4 b0 b1 b2 b3 b4 b5
          have q1 : w.heap.size < wr.heap.size := by omega
          have q2 : g < wr.heap.size := by omega
          go_wp2_with (first
            | (go_at_call 93; refine (boundsOf_any _ _ _ _ _ _ _ _ _ _ _ _ _ _ _ _ _ h1 h2 h3 h4).mono ?_; rintro e w3 ⟨rfl, hb3⟩; obtain ⟨hc3, hf3⟩ := bcell hb3; have hz3 : wr.heap.size < w3.heap.size := (by have := hb3.size; simp at this; omega))
            | (go_at_call 94; refine (instrFits_any _ _ _ _ _ _ _ _ _).mono ?_; rintro e w4 ⟨rfl, hb4⟩))
          · go_ret
            refine ⟨ret_int (badCode_at HB.out hlt HA.out hlt2 ?_).symm, via hb0 (Nat.le_of_lt hs0) (via hb1 (by omega) (via (via (hb2.alloc hb2.size _) (by simp; omega) hb3 |>.alloc (by omega) _) (by simp; omega) hb4))⟩
            simpa [P3.instrP, P3.instrB] using ‹(!P3.fitsB _ _ _ _ _ _ _) = true›
          · go_roundw
            case rel =>
              refine ⟨m + 1, by omega, by go_num, ?_, via (via (hb2.alloc hb2.size _) (by simp; omega) hb3 |>.alloc (by omega) _) (by simp; omega) hb4⟩
              intro j h h'
              rcases Nat.lt_succ_iff_lt_or_eq.1 h with h1 | rfl
              · exact HA.out j h1 h'
              · simpa [P3.instrP, P3.instrB] using ‹(!P3.fitsB _ _ _ _ _ _ _) = false›
            case measure => simp [intOf]; omega
        · have hmm : m = S.threads[k].code.length := by omega
          have HA' : Hid (CodeTo S S.threads[k].code S.threads[k].code.length) := hmm ▸ HA.out
          have hsz2 := hb2.size
          clear hmm
          go_wp2
          go_roundw
          case rel => exact ⟨k + 1, by omega, by go_num, HB.out.step hlt HA'.out, via hb1 (by omega) hb2⟩
          case measure => simp [intOf]; omega
    · go_wp2
      go_ret
      have e : k = S.threads.length := by omega
      subst e
      exact ⟨ret_int (badCode_none hall).symm, via hb0 hb0.size hb⟩

end Go.Proofs.YthnjabnlocpoaaaGreat

/-
  Walks: check.Set and donate.Check: the program's own answer to P3 is the plain one.
-/
namespace Go.Proofs.YthnjabnlocpoaaaGreat
open Go.RowKit

theorem bdrew {B : Nat} {a w : World} (h : Below B a w) (n : Nat) : Below B a (w.drewN n) := ⟨h.os, h.tape, h.output, h.size, h.block⟩

set_option maxHeartbeats 1000000 in
theorem checkSet_any (tv mv sv qv : Option Addr) (tc mc sc qc : Nat) (S : SetD) (w : World) (hS : SetIn w.heap.size w tv mv sv qv S) :
    Calls Tryz.prog 30 #[.agg #[.int .i64 S.workers, .int .i64 S.start, .slice tv S.threads.length tc, .slice mv S.mutexes.length mc, .slice sv S.sems.length sc, .slice qv S.queues.length qc]] w fun e w' =>
      e = .returned (.agg #[.int .i64 (P3.err S), .int .i64 (P3.place S)]) ∧ Below w.heap.size w w' := by
  have HS : Hid (SetIn w.heap.size w tv mv sv qv S) := hS
  clear hS
  go_enter Tryz.func30, Tryz.ntmps30
  go_wp2_with fail
  generalize hw0 : (w.alloc (.cells #[.int .i64 S.workers, .int .i64 S.start, .slice tv S.threads.length tc, .slice mv S.mutexes.length mc, .slice sv S.sems.length sc, .slice qv S.queues.length qc] 27)).alloc (.cells #[.int .i64 0, .int .i64 0] 57) = w0
  have hs0 : w0.heap.size = w.heap.size + 2 := by rw [← hw0]; simp
  have b0 : w0.cell? ⟨w.heap.size, 0, none⟩ = some (.int .i64 S.workers) := by rw [← hw0]; simp
  have b1 : w0.cell? ⟨w.heap.size, 1, none⟩ = some (.int .i64 S.start) := by rw [← hw0]; simp
  have b2 : w0.cell? ⟨w.heap.size, 2, none⟩ = some (.slice tv S.threads.length tc) := by rw [← hw0]; simp
  have b3 : w0.cell? ⟨w.heap.size, 3, none⟩ = some (.slice mv S.mutexes.length mc) := by rw [← hw0]; simp
  have b4 : w0.cell? ⟨w.heap.size, 4, none⟩ = some (.slice sv S.sems.length sc) := by rw [← hw0]; simp
  have b5 : w0.cell? ⟨w.heap.size, 5, none⟩ = some (.slice qv S.queues.length qc) := by rw [← hw0]; simp
  have r0 : w0.cell? ⟨w.heap.size + 1, 0, none⟩ = some (.int .i64 0) := by rw [← hw0]; simp
  have r1 : w0.cell? ⟨w.heap.size + 1, 1, none⟩ = some (.int .i64 0) := by rw [← hw0]; simp
  have z0 : w0.frozen? ⟨w.heap.size + 1, 0, none⟩ = false := by rw [← hw0]; simp
  have z1 : w0.frozen? ⟨w.heap.size + 1, 1, none⟩ = false := by rw [← hw0]; simp
  have hb0 : Below w.heap.size w w0 := by rw [← hw0]; exact ((Below.refl _ _).alloc (Nat.le_refl _) _).alloc (by simp) _
  clear hw0
  have hs1 : w.heap.size < w0.heap.size := by omega
  have hs2 : w.heap.size + 1 < w0.heap.size := by omega
  clear hs0
  refine (sizesFit_any _ _ _ _ _ _ _ _ S _).mono ?_
  rintro e w1 ⟨rfl, hb1⟩
  obtain ⟨hc1, hf1⟩ := bcell hb1
  cases hz : P3.sizesB S
  · go_wp2_with fail
    refine bodyPost_ret (v := .agg #[.int .i64 (P3.err S), .int .i64 (P3.place S)]) ?_ rfl ⟨rfl, ?_⟩
    · simp [results, Tryz.results30, go_sem, hc1, r0, r1, hs2, P3.err, P3.place, hz]
    · exact ((via hb0 (Nat.le_of_lt hs1) hb1).setCell (by simp) _).setCell (by simp) _
  · obtain ⟨n1, n2, n3, n4⟩ := sizes_of hz
    have g1 := via hb0 (Nat.le_of_lt hs1) hb1
    have k1 := hb1.size
    go_wp2_with fail
    refine (firstBadMutex_any _ _ S.mutexes _ (HS.out.later g1).mutexes n2).mono ?_
    rintro e w2 ⟨rfl, hb2⟩
    have hB2 := via hb1 k1 hb2
    have g2 := via hb0 (Nat.le_of_lt hs1) hB2
    have k2 := hB2.size
    clear hc1 hf1
    obtain ⟨hc2, hf2⟩ := bcell hB2
    cases h1 : (P3.badOr P3.mutexP S.mutexes != -1)
    · go_wp2_with fail
      refine (firstBadSem_any _ _ S.sems _ (HS.out.later g2).sems n3).mono ?_
      rintro e w3 ⟨rfl, hb3⟩
      have hB3 := via hB2 k2 hb3
      have g3 := via hb0 (Nat.le_of_lt hs1) hB3
      have k3 := hB3.size
      clear hc2 hf2
      obtain ⟨hc3, hf3⟩ := bcell hB3
      cases h2 : (P3.badOr P3.semP S.sems != -1)
      · go_wp2_with fail
        refine (firstBadQueue_any _ _ S.queues _ (HS.out.later g3).queues n4).mono ?_
        rintro e w4 ⟨rfl, hb4⟩
        have hB4 := via hB3 k3 hb4
        have g4 := via hb0 (Nat.le_of_lt hs1) hB4
        have k4 := hB4.size
        clear hc3 hf3
        obtain ⟨hc4, hf4⟩ := bcell hB4
        cases h3 : (P3.badOr P3.queueB S.queues != -1)
        · go_wp2_with fail
          refine (firstBadThread_any _ _ S.threads _ (HS.out.later g4).threads n1).mono ?_
          rintro e w5 ⟨rfl, hb5⟩
          have hB5 := via hB4 k4 hb5
          have g5 := via hb0 (Nat.le_of_lt hs1) hB5
          have k5 := hB5.size
          clear hc4 hf4
          obtain ⟨hc5, hf5⟩ := bcell hB5
          cases h4 : (P3.badOr P3.threadP S.threads != -1)
          · go_wp2_with fail
            refine (firstBadInstr_any _ _ _ _ _ _ _ _ S _ (HS.out.later g5).threads n1 n2 n3 n4 (codes_of (by simpa using h4))).mono ?_
            rintro e w6 ⟨rfl, hb6⟩
            have hB6 := via hB5 k5 hb6
            have g6 := via hb0 (Nat.le_of_lt hs1) hB6
            have k6 := hB6.size
            clear hc5 hf5
            obtain ⟨hc6, hf6⟩ := bcell hB6
            cases h5 : (P3.badCode S != -1)
            · go_wp2_with fail
              refine bodyPost_ret (v := .agg #[.int .i64 (P3.err S), .int .i64 (P3.place S)]) ?_ rfl ⟨rfl, ?_⟩
              · rw [bne_eq_false_iff_eq] at h1; rw [bne_eq_false_iff_eq] at h2; rw [bne_eq_false_iff_eq] at h3; rw [bne_eq_false_iff_eq] at h4; rw [bne_eq_false_iff_eq] at h5
                simp [results, Tryz.results30, go_sem, hc6, r0, r1, hs2, P3.err, P3.place, hz, h1, h2, h3, h4, h5]
              · exact (g6.setCell (by simp) _).setCell (by simp) _
            · go_wp2_with fail
              refine bodyPost_ret (v := .agg #[.int .i64 (P3.err S), .int .i64 (P3.place S)]) ?_ rfl ⟨rfl, ?_⟩
              · rw [bne_eq_false_iff_eq] at h1; rw [bne_eq_false_iff_eq] at h2; rw [bne_eq_false_iff_eq] at h3; rw [bne_eq_false_iff_eq] at h4; rw [bne_iff_ne] at h5
                simp [results, Tryz.results30, go_sem, hc6, r0, r1, hs2, P3.err, P3.place, hz, h1, h2, h3, h4, h5]
              · exact (g6.setCell (by simp) _).setCell (by simp) _
          · go_wp2_with fail
            refine bodyPost_ret (v := .agg #[.int .i64 (P3.err S), .int .i64 (P3.place S)]) ?_ rfl ⟨rfl, ?_⟩
            · rw [bne_eq_false_iff_eq] at h1; rw [bne_eq_false_iff_eq] at h2; rw [bne_eq_false_iff_eq] at h3; rw [bne_iff_ne] at h4
              simp [results, Tryz.results30, go_sem, hc5, r0, r1, hs2, P3.err, P3.place, hz, h1, h2, h3, h4]
            · exact (g5.setCell (by simp) _).setCell (by simp) _
        · go_wp2_with fail
          refine bodyPost_ret (v := .agg #[.int .i64 (P3.err S), .int .i64 (P3.place S)]) ?_ rfl ⟨rfl, ?_⟩
          · rw [bne_eq_false_iff_eq] at h1; rw [bne_eq_false_iff_eq] at h2; rw [bne_iff_ne] at h3
            simp [results, Tryz.results30, go_sem, hc4, r0, r1, hs2, P3.err, P3.place, hz, h1, h2, h3]
          · exact (g4.setCell (by simp) _).setCell (by simp) _
      · go_wp2_with fail
        refine bodyPost_ret (v := .agg #[.int .i64 (P3.err S), .int .i64 (P3.place S)]) ?_ rfl ⟨rfl, ?_⟩
        · rw [bne_eq_false_iff_eq] at h1; rw [bne_iff_ne] at h2
          simp [results, Tryz.results30, go_sem, hc3, r0, r1, hs2, P3.err, P3.place, hz, h1, h2]
        · exact (g3.setCell (by simp) _).setCell (by simp) _
    · go_wp2_with fail
      refine bodyPost_ret (v := .agg #[.int .i64 (P3.err S), .int .i64 (P3.place S)]) ?_ rfl ⟨rfl, ?_⟩
      · rw [bne_iff_ne] at h1
        simp [results, Tryz.results30, go_sem, hc2, r0, r1, hs2, P3.err, P3.place, hz, h1]
      · exact (g2.setCell (by simp) _).setCell (by simp) _

end Go.Proofs.YthnjabnlocpoaaaGreat

/-
  Walks: donateref.Check: the document's answer to P3 is the plain one.
-/
namespace Go.Proofs.YthnjabnlocpoaaaGreat
open Go.RowKit

namespace P3
theorem e_size {S : SetD} (h : sizesB S = false) : err S = 1 ∧ place S = 0 := by simp [err, place, h]
theorem e_table {S : SetD} (h : sizesB S = true) (ht : (terr S != 0) = true) : err S = terr S ∧ place S = tplace S := by
  rw [bne_iff_ne] at ht
  unfold terr at ht
  unfold err place terr tplace
  by_cases a : badOr mutexP S.mutexes = -1 <;> by_cases b : badOr semP S.sems = -1 <;> by_cases c : badOr queueB S.queues = -1 <;> simp_all
theorem t_none {S : SetD} (ht : (terr S != 0) = false) : badOr mutexP S.mutexes = -1 ∧ badOr semP S.sems = -1 ∧ badOr queueB S.queues = -1 := by
  rw [bne_eq_false_iff_eq] at ht
  unfold terr at ht
  by_cases a : badOr mutexP S.mutexes = -1 <;> by_cases b : badOr semP S.sems = -1 <;> by_cases c : badOr queueB S.queues = -1 <;> simp_all
theorem e_thread {S : SetD} {k : Nat} (h : sizesB S = true) (ht : (terr S != 0) = false) (hk : badOr threadP S.threads = k) : err S = 5 ∧ place S = k := by
  obtain ⟨a, b, c⟩ := t_none ht
  have e : (k : Int) ≠ -1 := by omega
  simp [err, place, h, a, b, c, hk, e]
theorem e_code {S : SetD} {n : Int} (h : sizesB S = true) (ht : (terr S != 0) = false) (hk : badOr threadP S.threads = -1) (hn : badCode S = n) (h0 : 0 ≤ n) : err S = 6 ∧ place S = n := by
  obtain ⟨a, b, c⟩ := t_none ht
  have e : n ≠ -1 := by omega
  simp [err, place, h, a, b, c, hk, hn, e]
theorem e_ok {S : SetD} (h : sizesB S = true) (ht : (terr S != 0) = false) (hk : badOr threadP S.threads = -1) (hn : badCode S = -1) : err S = 0 ∧ place S = 0 := by
  obtain ⟨a, b, c⟩ := t_none ht
  simp [err, place, h, a, b, c, hk, hn]
end P3

set_option maxHeartbeats 1000000 in
theorem rCheck_any (tv mv sv qv : Option Addr) (tc mc sc qc : Nat) (S : SetD) (w : World) (hS : SetIn w.heap.size w tv mv sv qv S) :
    Calls Tryz.prog 16 #[.agg #[.int .i64 S.workers, .int .i64 S.start, .slice tv S.threads.length tc, .slice mv S.mutexes.length mc, .slice sv S.sems.length sc, .slice qv S.queues.length qc]] w fun e w' =>
      e = .returned (.tuple #[.int .i64 (P3.err S), .int .i64 (P3.place S)]) ∧ Below w.heap.size w w' := by
  have HS : Hid (SetIn w.heap.size w tv mv sv qv S) := hS
  clear hS
  go_enter Tryz.func16, Tryz.ntmps16
  go_wp2_with fail
  generalize hw0 : w.alloc (.cells #[.int .i64 S.workers, .int .i64 S.start, .slice tv S.threads.length tc, .slice mv S.mutexes.length mc, .slice sv S.sems.length sc, .slice qv S.queues.length qc] 27) = w0
  have hs0 : w.heap.size < w0.heap.size := by rw [← hw0]; simp
  have b0 : w0.cell? ⟨w.heap.size, 0, none⟩ = some (.int .i64 S.workers) := by rw [← hw0]; simp
  have b1 : w0.cell? ⟨w.heap.size, 1, none⟩ = some (.int .i64 S.start) := by rw [← hw0]; simp
  have b2 : w0.cell? ⟨w.heap.size, 2, none⟩ = some (.slice tv S.threads.length tc) := by rw [← hw0]; simp
  have b3 : w0.cell? ⟨w.heap.size, 3, none⟩ = some (.slice mv S.mutexes.length mc) := by rw [← hw0]; simp
  have b4 : w0.cell? ⟨w.heap.size, 4, none⟩ = some (.slice sv S.sems.length sc) := by rw [← hw0]; simp
  have b5 : w0.cell? ⟨w.heap.size, 5, none⟩ = some (.slice qv S.queues.length qc) := by rw [← hw0]; simp
  have hb0 : Below w.heap.size w w0 := by rw [← hw0]; exact (Below.refl _ _).alloc (Nat.le_refl _) _
  clear hw0
  have HS0 : Hid (SetIn w.heap.size w0 tv mv sv qv S) := HS.out.stays hb0
  clear HS
  refine (rSizes_any _ _ _ _ _ _ _ _ S _).mono ?_
  rintro e w1 ⟨rfl, hb1⟩
  cases hz : P3.sizesB S
  · go_wp2_with fail
    go_ret2
    exact ⟨ret_two (P3.e_size hz), via hb0 (by omega) hb1⟩
  · obtain ⟨n1, n2, n3, n4⟩ := sizes_of hz
    have HZ : Hid (P3.sizesB S = true) := hz
    clear hz
    obtain ⟨hc1, hf1⟩ := bcell hb1
    have k1 := hb1.size
    go_wp2_with fail
    refine (rTables_any _ _ _ _ _ _ _ _ S _ ((HS0.out.stays (hb1.mono (Nat.le_of_lt hs0))).mono (by omega)) n2 n3 n4).mono ?_
    rintro e w2 ⟨rfl, hb2⟩
    have hB2 := via hb1 k1 hb2
    have k2 := hB2.size
    clear hc1 hf1
    cases ht : (P3.terr S != 0)
    · have HT : Hid ((P3.terr S != 0) = false) := ht
      go_wp2
      clear ht
      go_loopw [7] (fun i wr => ∃ k : Nat, k ≤ S.threads.length ∧ i = .int .i64 k ∧ P3.GoodTo P3.threadP S.threads k ∧ Below w0.heap.size w0 wr) (fun i _ => S.threads.length - (intOf i).toNat)
      case atStart => exact ⟨0, Nat.zero_le _, rfl, P3.GoodTo.zero _ _, hB2⟩
      case round =>
        obtain ⟨k, hk, rfl, hall, hb⟩ := hrel
        have hsz := hb.size
        have q1 : w.heap.size < wr.heap.size := by omega
        have c2 := (hb.cell (p := ⟨w.heap.size, 2, none⟩) hs0).trans b2
        by_cases hlt : k < S.threads.length
        · obtain ⟨b, o, cv, cc, rfl, hbb, x0, x1, x2, x3, x4, _⟩ := HS0.out.threads k hlt
          have x0' := (hb.cell (p := ⟨b, o + k * 5, none⟩) (by show b < _; omega)).trans x0
          have x1' := (hb.cell (p := ⟨b, o + k * 5 + 1, none⟩) (by show b < _; omega)).trans x1
          have x2' := (hb.cell (p := ⟨b, o + k * 5 + 2, none⟩) (by show b < _; omega)).trans x2
          have x3' := (hb.cell (p := ⟨b, o + k * 5 + 3, none⟩) (by show b < _; omega)).trans x3
          have x4' := (hb.cell (p := ⟨b, o + k * 5 + 4, none⟩) (by show b < _; omega)).trans x4
          clear x0 x1 x2 x3 x4
          go_wp2_with (go_at_call 28; refine (rThreadFits_any _ _ _ _ _ _ _ _).mono ?_; rintro e w3 ⟨rfl, hb3⟩)
          · go_ret2
            refine ⟨ret_two (P3.e_thread HZ.out HT.out (hall.at hlt ?_)), via hb0 (by omega) (via hb hsz hb3)⟩
            simpa [P3.threadP] using ‹(!P3.threadB _ _ _ _ _) = true›
          · go_roundw
            case rel =>
              refine ⟨k + 1, by omega, by go_num, hall.step hlt ?_, via hb hsz hb3⟩
              simpa [P3.threadP] using ‹(!P3.threadB _ _ _ _ _) = false›
            case measure => simp [intOf]; omega
        · have HM : Hid (P3.badOr P3.threadP S.threads = -1) := hall.none hlt
          clear hall
          have H5 : Hid (∀ j (_ : j < S.threads.length), (S.threads[j].code.length : Int) ≤ 32) := codes_of HM.out
          go_wp2
          clear c2
          go_loopw [8] (fun i wr => ∃ k : Nat, k ≤ S.threads.length ∧ i = .int .i64 k ∧ CodesTo S k ∧ Below w0.heap.size w0 wr) (fun i _ => S.threads.length - (intOf i).toNat)
          case atStart => exact ⟨0, Nat.zero_le _, rfl, fun j h => absurd h (Nat.not_lt_zero _), hb⟩
          case round =>
            clear hb hsz q1 hlt hk
            obtain ⟨k, hk, rfl, hall, hb⟩ := hrel
            have hsz := hb.size
            have q1 : w.heap.size < wr.heap.size := by omega
            have c2 := (hb.cell (p := ⟨w.heap.size, 2, none⟩) hs0).trans b2
            have HB : Hid (CodesTo S k) := hall
            clear hall
            by_cases hlt : k < S.threads.length
            · obtain ⟨b, o, cv, cc, rfl, hbb, x0, x1, x2, x3, x4, hcode, _⟩ := HS0.out.threads k hlt
              have x4' := (hb.cell (p := ⟨b, o + k * 5 + 4, none⟩) (by show b < _; omega)).trans x4
              have hlen := H5.out k hlt
              have HC : Hid (InstrsIn w.heap.size w0 cv S.threads[k].code) := hcode
              clear x0 x1 x2 x3 x4 hcode
              go_wp2
              clear c2 x4'
              go_loopw [10] (fun i wr => ∃ m : Nat, m ≤ S.threads[k].code.length ∧ i = .int .i64 m ∧ CodeTo S S.threads[k].code m ∧ Below w0.heap.size w0 wr) (fun i _ => S.threads[k].code.length - (intOf i).toNat)
              case atStart => exact ⟨0, Nat.zero_le _, rfl, fun j h => absurd h (Nat.not_lt_zero _), hb⟩
              case round =>
                clear hb hsz q1
                obtain ⟨m, hm, rfl, hall, hb⟩ := hrel
                have hsz := hb.size
                have q1 : w.heap.size < wr.heap.size := by omega
                have HA : Hid (CodeTo S S.threads[k].code m) := hall
                clear hall
                by_cases hlt2 : m < S.threads[k].code.length
                · obtain ⟨b', o', rfl, hbb', x0, x1, x2⟩ := HC.out m hlt2
                  have y0 := (hb.cell (p := ⟨b', o' + m * 3, none⟩) (by show b' < _; omega)).trans x0
                  have y1 := (hb.cell (p := ⟨b', o' + m * 3 + 1, none⟩) (by show b' < _; omega)).trans x1
                  have y2 := (hb.cell (p := ⟨b', o' + m * 3 + 2, none⟩) (by show b' < _; omega)).trans x2
                  have f0 := (hb.cell (p := ⟨w.heap.size, 0, none⟩) hs0).trans b0
                  have f1 := (hb.cell (p := ⟨w.heap.size, 1, none⟩) hs0).trans b1
                  have f2 := (hb.cell (p := ⟨w.heap.size, 2, none⟩) hs0).trans b2
                  have f3 := (hb.cell (p := ⟨w.heap.size, 3, none⟩) hs0).trans b3
                  have f4 := (hb.cell (p := ⟨w.heap.size, 4, none⟩) hs0).trans b4
                  have f5 := (hb.cell (p := ⟨w.heap.size, 5, none⟩) hs0).trans b5
                  clear x0 x1 x2 b0 b1 b2 b3 b4 b5
                  have hmi : (m : Int) < (S.threads[k].code.length : Int) := by omega
                  go_wp2_with fail
                  go_region_held3 (fun w' => w'.cell? ⟨w.heap.size, 0, none⟩ = some (.int .i64 S.workers) ∧ w'.cell? ⟨w.heap.size, 1, none⟩ = some (.int .i64 S.start) ∧ w'.cell? ⟨w.heap.size, 2, none⟩ = some (.slice (some ⟨b, o, none⟩) S.threads.length tc) ∧ w'.cell? ⟨w.heap.size, 3, none⟩ = some (.slice mv S.mutexes.length mc) ∧ w'.cell? ⟨w.heap.size, 4, none⟩ = some (.slice sv S.sems.length sc) ∧ w'.cell? ⟨w.heap.size, 5, none⟩ = some (.slice qv S.queues.length qc) ∧ w'.cell? ⟨b', o' + m * 3, none⟩ = some (.int .i64 S.threads[k].code[m].op) ∧ w'.cell? ⟨b', o' + m * 3 + 1, none⟩ = some (.int .i64 S.threads[k].code[m].a) ∧ w'.cell? ⟨b', o' + m * 3 + 2, none⟩ = some (.int .i64 S.threads[k].code[m].b)) (simp [*])
                    (first
                      | (go_at_call 29; refine (rInstrFits_any _ _ _ _ _ _ _ _ _ _ _ _ _ _ _ _ _ _ _ n1 n2 n3 n4).mono ?_; rintro e w3 ⟨rfl, hb3⟩; have d0 := cell_later hb3 f0; have d1 := cell_later hb3 f1; have d2 := cell_later hb3 f2; have d3 := cell_later hb3 f3; have d4 := cell_later hb3 f4; have d5 := cell_later hb3 f5; have e0 := cell_later hb3 y0; have e1 := cell_later hb3 y1; have e2 := cell_later hb3 y2))
                  go_wp2
                  · go_ret2
                    refine ⟨ret_two (P3.e_code HZ.out HT.out HM.out (badCode_at HB.out hlt HA.out hlt2 ?_) (by omega)), via hb0 (by omega) (via hb.drew hsz hb3)⟩
                    simpa [P3.instrP] using ‹(!P3.instrB _ _ _ _ _ _ _ _) = true›
                  · go_roundw
                    case rel =>
                      refine ⟨m + 1, by omega, by go_num, ?_, via hb.drew hsz hb3⟩
                      intro j h h'
                      rcases Nat.lt_succ_iff_lt_or_eq.1 h with h1 | rfl
                      · exact HA.out j h1 h'
                      · simpa [P3.instrP] using ‹(!P3.instrB _ _ _ _ _ _ _ _) = false›
                    case measure => simp [intOf]; omega
                · have hmm : m = S.threads[k].code.length := by omega
                  have HA' : Hid (CodeTo S S.threads[k].code S.threads[k].code.length) := hmm ▸ HA.out
                  clear hmm
                  go_wp2
                  go_roundw
                  case rel => exact ⟨k + 1, by omega, by go_num, HB.out.step hlt HA'.out, hb⟩
                  case measure => simp [intOf]; omega
            · go_wp2
              go_ret2
              have e : k = S.threads.length := by omega
              subst e
              exact ⟨ret_two (P3.e_ok HZ.out HT.out HM.out (badCode_none HB.out)), via hb0 (by omega) hb⟩
    · have HT : Hid ((P3.terr S != 0) = true) := ht
      go_wp2
      go_ret2
      exact ⟨ret_two (P3.e_table HZ.out HT.out), via hb0 (by omega) hB2⟩

end Go.Proofs.YthnjabnlocpoaaaGreat

/-
  The law's own functions, over any program whose kernel stands for the document's: begun, play, upTo.
-/
namespace Go.Proofs.YthnjabnlocpoaaaGreat
open Go.RowKit

/-- What the program promises of New, of sets of which ok holds. -/
def CNew (PK : KP) (ok : SetD → Prop) : Prop := ∀ (tv mv sv qv : Option Addr) (tc mc sc qc : Nat) (S : SetD) (w : World), SetIn w.heap.size w tv mv sv qv S → Fits S → ((tv = none → tc = 0) ∧ (mv = none → mc = 0) ∧ (sv = none → sc = 0) ∧ (qv = none → qc = 0)) → ok S →
  Calls Tryz.prog 17 #[.agg #[.int .i64 S.workers, .int .i64 S.start, .slice tv S.threads.length tc, .slice mv S.mutexes.length mc, .slice sv S.sems.length sc, .slice qv S.queues.length qc]] w fun e w' =>
    Below w.heap.size w w' ∧ ((P3.err S ≠ 0 ∧ e = .returned (.tuple #[.pointer none, .int .i64 (P3.err S)])) ∨
      (P3.err S = 0 ∧ ∃ kb P, e = .returned (.tuple #[.pointer (some ⟨kb, 0, none⟩), .int .i64 0]) ∧ PK P w' kb (R.new S) ∧ ∀ b, P b → w.heap.size ≤ b))

section
variable {PK : KP} {ok : SetD → Prop}

set_option maxRecDepth 100000 in
set_option maxHeartbeats 2000000 in
theorem lBegun_any (f : KFrame PK) (cn : CNew PK ok) (tv mv sv qv : Option Addr) (tc mc sc qc : Nat) (S : SetD) (w : World) (hS : SetIn w.heap.size w tv mv sv qv S) (hF : Fits S) (hnil : (tv = none → tc = 0) ∧ (mv = none → mc = 0) ∧ (sv = none → sc = 0) ∧ (qv = none → qc = 0)) (hok : ok S) :
    Calls Tryz.prog 12 #[.agg #[.int .i64 S.workers, .int .i64 S.start, .slice tv S.threads.length tc, .slice mv S.mutexes.length mc, .slice sv S.sems.length sc, .slice qv S.queues.length qc]] w fun e w' =>
      Below w.heap.size w w' ∧ ((P3.err S ≠ 0 ∧ e = .returned (.tuple #[.pointer none, .bool true])) ∨
        (P3.err S = 0 ∧ ∃ bb kb sb P Q, e = .returned (.tuple #[.pointer (some ⟨bb, 0, none⟩), .bool true]) ∧ LK PK w.heap.size w' bb kb sb P Q (R.new S))) := by
  have HS := hid hS
  have HF := hid hF
  have HN := hid hnil
  clear hS hF hnil
  go_enter Tryz.func12, Tryz.ntmps12
  go_wp2_with fail
  have hb0 : Below w.heap.size w (w.alloc (.cells #[.int .i64 S.workers, .int .i64 S.start, .slice tv S.threads.length tc, .slice mv S.mutexes.length mc, .slice sv S.sems.length sc, .slice qv S.queues.length qc] 27)) := (Below.refl _ _).alloc (Nat.le_refl _) _
  have X0 := Blk.new w #[.int .i64 S.workers, .int .i64 S.start, .slice tv S.threads.length tc, .slice mv S.mutexes.length mc, .slice sv S.sems.length sc, .slice qv S.queues.length qc] 27
  generalize w.alloc (.cells #[.int .i64 S.workers, .int .i64 S.start, .slice tv S.threads.length tc, .slice mv S.mutexes.length mc, .slice sv S.sems.length sc, .slice qv S.queues.length qc] 27) = w0 at hb0 X0 ⊢
  refine (copy_any tv mv sv qv tc mc sc qc S w0 (HS.out.later hb0) HF.out HN.out).mono ?_
  rintro e w1 ⟨tv', mv', sv', qv', tc', mc', sc', qc', rfl, hS1, hnil1, hb1⟩
  have HS1 := hid (hS1.toIn (B := w1.heap.size) (fun b hb => hb.2))
  have HN1 := hid hnil1
  have hb01 := via hb0 hb0.size hb1
  have X1 := X0.but (But.of_below (c := w0.heap.size) hb1) X0.lt (by have := X0.lt; omega)
  have HX1 := hid X1
  have q1 := X1.lt
  have HB01 := hid hb01
  clear hS1 X0 X1 hnil1 hb0 hb1
  go_upto_region 2 with fail
  have hbA : Below w1.heap.size w1 (w1.alloc (.cells #[.int .i64 S.workers, .int .i64 S.start, .slice tv' S.threads.length tc', .slice mv' S.mutexes.length mc', .slice sv' S.sems.length sc', .slice qv' S.queues.length qc'] 27)) := (Below.refl _ _).alloc (Nat.le_refl _) _
  have XA := HX1.out.alloc (.cells #[.int .i64 S.workers, .int .i64 S.start, .slice tv' S.threads.length tc', .slice mv' S.mutexes.length mc', .slice sv' S.sems.length sc', .slice qv' S.queues.length qc'] 27)
  have YA := Blk.new w1 #[.int .i64 S.workers, .int .i64 S.start, .slice tv' S.threads.length tc', .slice mv' S.mutexes.length mc', .slice sv' S.sems.length sc', .slice qv' S.queues.length qc'] 27
  generalize w1.alloc (.cells #[.int .i64 S.workers, .int .i64 S.start, .slice tv' S.threads.length tc', .slice mv' S.mutexes.length mc', .slice sv' S.sems.length sc', .slice qv' S.queues.length qc'] 27) = wA at hbA XA YA ⊢
  have HXA := hid XA
  have HYA := hid YA
  have HB0A := hid (via HB01.out HB01.out.size hbA)
  have HSA := hid (HS1.out.later hbA)
  have x0 := XA.cell 0
  have x1 := XA.cell 1
  have x2 := XA.cell 2
  have x3 := XA.cell 3
  have x4 := XA.cell 4
  have x5 := XA.cell 5
  simp at x0 x1 x2 x3 x4 x5
  clear XA YA hbA HX1 HS1
  go_wp2_with fail
  refine (rCheck_any tv mv sv qv tc mc sc qc S wA (HS.out.later HB0A.out)).mono ?_
  rintro e w2 ⟨rfl, hb2⟩
  have HX2 := hid (show Blk w2 w.heap.size #[.int .i64 S.workers, .int .i64 S.start, .slice tv S.threads.length tc, .slice mv S.mutexes.length mc, .slice sv S.sems.length sc, .slice qv S.queues.length qc] 27 from by
    have h1 := HXA.out
    have hl := HXA.out.lt
    unfold Blk at h1 ⊢
    rw [hb2.block _ hl]
    exact h1)
  have HY2 := hid (show Blk w2 w1.heap.size #[.int .i64 S.workers, .int .i64 S.start, .slice tv' S.threads.length tc', .slice mv' S.mutexes.length mc', .slice sv' S.sems.length sc', .slice qv' S.queues.length qc'] 27 from by
    have h1 := HYA.out
    have hl := HYA.out.lt
    unfold Blk at h1 ⊢
    rw [hb2.block _ hl]
    exact h1)
  have HB02 := hid (via HB0A.out HB0A.out.size hb2)
  have HS2 := hid (HSA.out.later hb2)
  clear hb2 x0 x1 x2 x3 x4 x5 HXA HYA HSA
  have y0 := HY2.out.cell 0
  have y1 := HY2.out.cell 1
  have y2 := HY2.out.cell 2
  have y3 := HY2.out.cell 3
  have y4 := HY2.out.cell 4
  have y5 := HY2.out.cell 5
  simp at y0 y1 y2 y3 y4 y5
  go_wp2_with fail
  refine (cn tv' mv' sv' qv' tc' mc' sc' qc' S w2 HS2.out HF.out HN1.out hok).mono ?_
  rintro e w3 ⟨hb3, hcase⟩
  have HB03 := hid (via HB02.out HB02.out.size hb3)
  have HX3 := hid (show Blk w3 w.heap.size #[.int .i64 S.workers, .int .i64 S.start, .slice tv S.threads.length tc, .slice mv S.mutexes.length mc, .slice sv S.sems.length sc, .slice qv S.queues.length qc] 27 from by
    have h1 := HX2.out
    have hl := HX2.out.lt
    unfold Blk at h1 ⊢
    rw [hb3.block _ hl]
    exact h1)
  have hsz2 := HB02.out.size
  clear hb3 y0 y1 y2 y3 y4 y5 HX2 HY2 HS2
  rcases hcase with ⟨herr, rfl⟩ | ⟨herr, kb, P, rfl, hpk, hP⟩
  · have hne : (P3.err S != 0) = true := by simpa using herr
    have heq : (P3.err S != P3.err S) = false := by simp
    have HERR := hid herr
    go_wp2
    go_ret2
    exact ⟨HB03.out, .inl ⟨HERR.out, rfl⟩⟩
  · have HERR := hid herr
    rw [herr]
    have PKH := hid hpk
    have HP := hid hP
    clear hpk hP herr
    have z0 := HX3.out.cell 0
    have z1 := HX3.out.cell 1
    have z2 := HX3.out.cell 2
    have z3 := HX3.out.cell 3
    have z4 := HX3.out.cell 4
    have z5 := HX3.out.cell 5
    simp at z0 z1 z2 z3 z4 z5
    go_wp2_with fail
    refine (rkNew_any tv mv sv qv tc mc sc qc S w3 (HS.out.later HB03.out) HF.out HN.out HERR.out).mono ?_
    rintro e w4 ⟨sb, Q, rfl, rk4, hQ, hb4⟩
    have HB04 := hid (via HB03.out HB03.out.size hb4)
    have PK4 := hid (f.below PKH.out hb4)
    have RK4 := hid rk4
    have HQ := hid hQ
    have PLT := hid (f.lt PKH.out)
    have hsz3 := HB03.out.size
    have hsz4 := hb4.size
    clear rk4 hQ hb4 z0 z1 z2 z3 z4 z5
    go_wp2
    go_ret2
    have hbZ : Below w4.heap.size w4 (w4.alloc (.cells #[.pointer (some ⟨kb, 0, none⟩), .pointer (some ⟨sb, 0, none⟩)] 52)) := (Below.refl _ _).alloc (Nat.le_refl _) _
    refine ⟨via HB04.out HB04.out.size hbZ, .inr ⟨HERR.out, w4.heap.size, kb, sb, P, Q, rfl, Blk.new _ _ _, f.below PK4.out hbZ, RK4.out.below hbZ, fun b hb hq => ?_, fun hb => ?_, fun hq => ?_, fun b hb => ?_, fun b hb => ?_, by omega⟩⟩
    · have := PLT.out b hb
      have := HQ.out b hq
      omega
    · have := PLT.out _ hb
      omega
    · have := RK4.out.lt _ hq
      omega
    · have := HP.out b hb
      omega
    · have := HQ.out b hb
      omega
theorem entry_next (s : RS) (n : Int) (hi : RInv s) : (R.entry s n).next ≤ s.next + 33 := by
  have hfew := hi.good.few
  unfold R.entry
  split
  · unfold R.tickS
    split
    · omega
    · have h1 := (R.endsTo_set (R.missing s) (R.missing s).T.length)
      have h2 := R.releaseTo_next (R.ends (R.missing s)) (R.ends (R.missing s)).T.length
      have e1 : (R.tick s).next = (R.releaseTo (R.ends (R.missing s)) (R.ends (R.missing s)).T.length).next := rfl
      have e2 : (R.missing s).next = s.next := rfl
      have e3 : (R.missing s).T.length = s.T.length := rfl
      have e4 : (R.ends (R.missing s)).T.length = s.T.length := h1.2.2.2.1.trans e3
      have e5 : R.ends (R.missing s) = R.endsTo (R.missing s) (R.missing s).T.length := rfl
      rw [e1]
      rw [← e5] at h1
      have h3 := h1.2.2.2.2.2
      rw [e2] at h3
      omega
  · unfold R.pickS
    split
    · omega
    split
    · omega
    · have hol : s.owner.length ≤ 8 := by have := hi.good.own; have := hi.good.mfew; omega
      have := (like_actS s (R.on s.T n).toNat hol).nx1
      have e : (R.settle (R.actS s (R.on s.T n).toNat)).next = (R.actS s (R.on s.T n).toNat).next := rfl
      rw [e]
      omega
theorem new_next (S : SetD) (h : S.threads.length ≤ 16) : (R.new S).next ≤ 16 := by
  have h2 := R.releaseTo_next (R.bare S) (R.bare S).T.length
  have e1 : (R.new S).next = (R.releaseTo (R.bare S) (R.bare S).T.length).next := rfl
  have e2 : (R.bare S).next = 0 := rfl
  have e3 : (R.bare S).T.length = S.threads.length := by simp [R.bare]
  rw [e1]
  omega

set_option maxRecDepth 100000 in
set_option maxHeartbeats 2000000 in
theorem lPlay_any (f : KFrame PK) (cn : CNew PK ok) (hd : Int) (ct : CSee PK hd) (tv mv sv qv av : Option Addr) (tc mc sc qc ac : Nat) (S : SetD) (l : List Int) (w : World) (hS : SetIn w.heap.size w tv mv sv qv S) (hF : Fits S) (hnil : (tv = none → tc = 0) ∧ (mv = none → mc = 0) ∧ (sv = none → sc = 0) ∧ (qv = none → qc = 0)) (hok : ok S)
    (hl : IntsIn w.heap.size w av l) (hll : l.length ≤ 9223372036854775807) (hh : Holds hd) (tl : Bool) (cp : l ≠ [] → CPick PK) (ck : tl = false → l ≠ [] → CTick PK) :
    Calls Tryz.prog 10 #[.agg #[.int .i64 S.workers, .int .i64 S.start, .slice tv S.threads.length tc, .slice mv S.mutexes.length mc, .slice sv S.sems.length sc, .slice qv S.queues.length qc], .slice av l.length ac, .int .i64 hd, .bool tl] w fun e w' =>
      e = .returned (.bool true) ∧ Below w.heap.size w w' := by
  have HS := hid hS
  have HF := hid hF
  have HN := hid hnil
  have HL := hid hl
  have HH := hid hh
  clear hS hF hnil hl hh
  go_enter Tryz.func10, Tryz.ntmps10
  by_cases hlong : l.length ≤ 1099511627776
  · have hlI : (l.length : Int) ≤ 1099511627776 := by omega
    go_wp2_with fail
    have hb0 : Below w.heap.size w (w.alloc (.cells #[.int .i64 S.workers, .int .i64 S.start, .slice tv S.threads.length tc, .slice mv S.mutexes.length mc, .slice sv S.sems.length sc, .slice qv S.queues.length qc] 27)) := (Below.refl _ _).alloc (Nat.le_refl _) _
    have hsz0 : (w.alloc (.cells #[.int .i64 S.workers, .int .i64 S.start, .slice tv S.threads.length tc, .slice mv S.mutexes.length mc, .slice sv S.sems.length sc, .slice qv S.queues.length qc] 27)).heap.size = w.heap.size + 1 := by simp
    generalize w.alloc (.cells #[.int .i64 S.workers, .int .i64 S.start, .slice tv S.threads.length tc, .slice mv S.mutexes.length mc, .slice sv S.sems.length sc, .slice qv S.queues.length qc] 27) = w0 at hb0 hsz0 ⊢
    refine (lBegun_any f cn tv mv sv qv tc mc sc qc S w0 (HS.out.later hb0) HF.out HN.out hok).mono ?_
    rintro e w1 ⟨hb1, hcase⟩
    have HB1 := hid (via hb0 hb0.size hb1)
    have HL1 := hid (HL.out.on HB1.out)
    have hsz1 := hb1.size
    clear hb0 hb1
    rcases hcase with ⟨_, rfl⟩ | ⟨herr, bb, kb, sb, P, Q, rfl, lk⟩
    · go_wp2
      go_ret
      exact ⟨rfl, HB1.out⟩
    · have hT : S.threads.length ≤ 16 := by
        have hz := (ok_parts herr).1
        unfold P3.sizesB at hz
        rw [decide_eq_true_iff] at hz
        omega
      have hnx := new_next S hT
      have L1 := hid lk
      clear lk
      go_wp2_with fail
      refine (lAlike_any f hd ct L1.out HH.out).mono ?_
      rintro e w2 ⟨rfl, hb2⟩
      have L2 := hid (L1.out.below f hb2)
      have HB2 := hid (via HB1.out HB1.out.size hb2)
      have HBB := hid hb2
      have hsz2 := hb2.size
      clear hb2 L1
      go_wp2
      go_loopw [10, 11] (fun b i wr => ∃ (k : Nat) (s : RS) (P Q : Nat → Prop), k ≤ l.length ∧ b = .bool true ∧ i = .int .i64 k ∧ LK PK w0.heap.size wr bb kb sb P Q s ∧ s.next ≤ 16 + 33 * k ∧ Below w0.heap.size w2 wr) (fun _ i _ => l.length - (intOf i).toNat)
      case atStart => exact ⟨0, R.new S, P, Q, Nat.zero_le _, rfl, rfl, L2.out, by omega, Below.refl _ _⟩
      case round =>
        obtain ⟨k, s, P, Q, hk, rfl, rfl, hlk, hnk, hbk⟩ := hrel
        have LKk := hid hlk
        have HBK := hid hbk
        have hszk := hbk.size
        have HBW := hid (HB2.out.trans (hbk.mono (by omega)))
        clear hlk hbk
        by_cases hkl : k < l.length
        · have hne : l ≠ [] := by intro e; rw [e] at hkl; simp at hkl
          obtain ⟨ab, aoff, ha, hab, hcell⟩ := HL.out k hkl
          subst ha
          have hcell' : wr.cell? ⟨ab, aoff + k, none⟩ = some (.int .i64 l[k]) := (HBW.out.cell (p := ⟨ab, aoff + k, none⟩) hab).trans hcell
          have hkI : (k : Int) < (l.length : Int) := by omega
          have hen := entry_next s l[k] LKk.out.rk.inv
          have CP := hid (cp hne)
          have CK := hid (fun h0 : tl = false => ck h0 hne)
          generalize l[k] = x at *
          cases hx : (x != -1)
          · have hx1 : x = -1 := by simpa using hx
            subst hx1
            cases tl
            · have ST := hid (lStep_any f (-1) hd ct LKk.out (by omega) (by omega) (fun h0 => absurd rfl h0) (fun _ => CK.out rfl) HH.out)
              go_wp2_with fail
              refine ST.out.mono ?_
              rintro e w3 ⟨rfl, ⟨P', Q', l3⟩, hb3⟩
              have L3 := hid l3
              have HB3 := hid (HBK.out.trans hb3)
              clear l3 hb3 hcell' ST
              go_wp2
              go_roundw
              case rel => exact ⟨k + 1, R.entry s (-1), P', Q', by omega, rfl, by go_num, L3.out, by omega, HB3.out⟩
              case measure => simp [intOf]; omega
            · go_wp2
              go_roundw
              case rel => exact ⟨k + 1, s, P, Q, by omega, rfl, by go_num, LKk.out, by omega, HBK.out⟩
              case measure => simp [intOf]; omega
          · have hx1 : x ≠ -1 := by simpa using hx
            have ST := hid (lStep_any f x hd ct LKk.out (by omega) (by omega) (fun _ => CP.out) (fun h0 => absurd h0 hx1) HH.out)
            clear hx1
            go_wp2_with fail
            refine ST.out.mono ?_
            rintro e w3 ⟨rfl, ⟨P', Q', l3⟩, hb3⟩
            have L3 := hid l3
            have HB3 := hid (HBK.out.trans hb3)
            clear l3 hb3 hcell' ST
            go_wp2
            go_roundw
            case rel => exact ⟨k + 1, R.entry s x, P', Q', by omega, rfl, by go_num, L3.out, by omega, HB3.out⟩
            case measure => simp [intOf]; omega
        · have e : k = l.length := by omega
          subst e
          go_wp2
          go_ret
          exact ⟨rfl, HBW.out⟩
  · have hlI : (1099511627776 : Int) < (l.length : Int) := by omega
    go_wp2
    go_ret
    exact ⟨rfl, (Below.refl _ _).alloc (Nat.le_refl _) _⟩

end

end Go.Proofs.YthnjabnlocpoaaaGreat

/-
  The program's kernel stands for the document's: what can be seen of it.
-/
namespace Go.Proofs.YthnjabnlocpoaaaGreat
open Go.RowKit

section
variable {F : Nat → Prop} {w w' : World} {kb : Nat} {h : KH} {s : RS} {tk wt : List Nat} {ws : List Int}

/-- settle is not seen but in the workers. -/
theorem settle_get {s : RS} {t : Nat} (ht : t < s.T.length) : ∃ w, (R.settle s).T[t]'(by show t < (R.settleT _ _ _).length; rw [R.settleT_length]; exact ht) = { s.T[t] with wkr := w } := by
  obtain ⟨w, hw, _⟩ := settle_th (R.levels s) s.T s.set.workers.toNat t ht
  have hl : t < (R.settle s).T.length := by show t < (R.settleT _ _ _).length; rw [R.settleT_length]; exact ht
  refine ⟨w, ?_⟩
  have e1 : R.th (R.settle s).T t = (R.settle s).T[t] := th_ext hl
  rw [← e1, ← th_ext ht]
  exact hw
theorem settle_len (s : RS) : (R.settle s).T.length = s.T.length := R.settleT_length _ _ _
theorem settle_thr {s : RS} {t : Nat} (ht : t < s.T.length) : ∃ w, R.th (R.settle s).T t = { R.th s.T t with wkr := w } := by
  obtain ⟨w, hw, _⟩ := settle_th (R.levels s) s.T s.set.workers.toNat t ht
  exact ⟨w, hw⟩
theorem KMem.settle (m : KMem F w kb h s tk wt ws) : KMem F w kb h (R.settle s) tk wt ws := by
  refine m.cong rfl rfl (settle_len s) rfl rfl (fun i hi => ?_)
  obtain ⟨x, hx⟩ := settle_get hi
  rw [hx]
  rfl
theorem Ln.Aux.settle (a : Ln.Aux s tk wt) (f : KFit s) : Ln.Aux (R.settle s) tk wt := by
  refine a.same f.ok (settle_len s) rfl (Int.le_refl _) fun u hu => ?_
  obtain ⟨x, hx⟩ := settle_thr hu
  rw [hx]
  exact ⟨rfl, rfl, rfl, rfl, id⟩

/-- What the walks want to know, out of what holds behind every step. -/
theorem ok_mutex {S : SetD} (h : P3.err S = 0) (k : Nat) (hk : k < S.mutexes.length) : (S.mutexes.getD k R.pair0).x = 0 ∨ (S.mutexes.getD k R.pair0).x = 1 := by
  have := badOr_good (ok_parts h).2.1 S.mutexes[k] (List.getElem_mem hk)
  have e : S.mutexes.getD k R.pair0 = S.mutexes[k] := by simp [List.getD, hk]
  rw [e]
  unfold P3.mutexP P3.mutexB at this
  rw [decide_eq_true_iff] at this
  omega
theorem RMid.fit (h : RMid s) : KFit s := by
  refine ⟨h.good.few, by rw [h.good.own]; exact h.good.mfew, h.good.own, fun i hi => ?_, fun t ht hf => ?_, fun i hi => ok_mutex h.ok i (by rw [← h.good.own]; exact hi)⟩
  · have e : s.owner.getD i 0 = s.owner[i] := by simp [List.getD, hi]
    rw [e]
    exact h.own i hi
  · rw [th_ext ht] at hf ⊢
    exact (h.thr t ht).of1 hf
theorem TOk.aw' {S : SetD} {now : Int} {nO t : Nat} {x : RT} (h : TOk S now nO t x) : kAw x = x.awake := by
  unfold kAw
  cases ha : x.awake with
  | true =>
    have h1 := h.aw ha
    have h2 : x.for_ = 0 := Classical.byContradiction fun hc => by
      have := (h.fw hc).2
      rw [ha] at this
      cases this
    simp [h1, h2]
  | false =>
    by_cases hf : x.for_ = 0
    · have := h.id ha hf
      simp [this]
    · simp [hf]
theorem RMid.awOk (h : RMid s) : AwOk s := fun t ht => (h.thr t ht).aw'
theorem RMid.kset (h : RMid s) (t : Nat) (ht : t < s.T.length) : KSet s t := by
  have ht' : t < s.set.threads.length := by have := h.good.len; omega
  have ho := h.good.off s.set.threads[t] (List.getElem_mem ht')
  have e : s.set.threads.getD t P3.none0 = s.set.threads[t] := by simp [List.getD, ht']
  have := h.good.now0
  have := h.good.now1
  have := h.good.now2
  refine ⟨⟨by omega, by omega⟩, ?_, ?_, ?_⟩ <;> rw [e] <;> omega
end

/-- How the program's kernel stands for the document's; got: of sets without messages. -/
structure KPK (Q : Nat → Prop) (w : World) (kb : Nat) (s : RS) : Prop where
  ks : ∃ ws, KS Q w kb s ws ∧ Ln.Wk s.set.workers.toNat ws s.T
  inv : RInv s
  got : ∀ t, t < s.T.length → (R.th s.T t).got = 0

theorem kframe : KFrame KPK := by
  refine ⟨fun k b hb => ?_, fun k hs hz => ?_⟩
  · obtain ⟨ws, ks, _⟩ := k.ks
    exact ks.lt b hb
  · obtain ⟨ws, ks, wk⟩ := k.ks
    exact ⟨⟨ws, ks.frame hs hz, wk⟩, k.inv, k.got⟩

theorem KPK.open {Q : Nat → Prop} {w : World} {kb : Nat} {s : RS} (k : KPK Q w kb s) : ∃ F h tk wt ws, KMem F w kb h s tk wt ws ∧ Ln.Aux s tk wt ∧ (∀ b, KB F kb h b → Q b) ∧ Ln.Wk s.set.workers.toNat ws s.T ∧ KFit s ∧ ws.length ≤ 8 := by
  obtain ⟨ws, ks, wk⟩ := k.ks
  obtain ⟨F, h, tk, wt, m, a, hq⟩ := ks.mem
  refine ⟨F, h, tk, wt, ws, m, a, hq, wk, k.inv.toRMid.fit, ?_⟩
  rw [wk.len]
  have := k.inv.good.wk1
  have := k.inv.good.wk0
  omega

theorem cNow : CNow KPK := fun Q w kb s k => by
  obtain ⟨F, h, tk, wt, ws, m, _⟩ := k.open
  exact kNow_any m
theorem wk_running {s : RS} {ws : List Int} (wk : Ln.Wk s.set.workers.toNat ws s.T) : R.running s = ws := by
  apply List.ext_getElem
  · rw [wk.len]; simp [R.running]
  · intro i h1 h2
    have := wk.on i h2
    simp only [R.running, List.getElem_map, List.getElem_range]
    exact this
theorem cRunning : CRunning KPK := fun Q w kb s k => by
  obtain ⟨F, h, tk, wt, ws, m, a, hq, wk, f, h8⟩ := k.open
  rw [wk_running wk]
  exact kRunning_any m h8
theorem cMisses : CMisses KPK := fun Q w kb s k => by
  obtain ⟨F, h, tk, wt, ws, m, a, hq, wk, f, h8⟩ := k.open
  refine kMisses_any m ?_
  have := k.inv.mis
  have := k.inv.good.now0
  have := k.inv.good.now1
  have := k.inv.good.now2
  omega
theorem cOwner : COwner KPK := fun Q w kb s k i => by
  obtain ⟨F, h, tk, wt, ws, m, a, hq, wk, f, h8⟩ := k.open
  exact kOwner_any m f i
/-- The state told is the document's. -/
theorem state_is {s : RS} {ws : List Int} (inv : RInv s) (wk : Ln.Wk s.set.workers.toNat ws s.T) {t : Nat} (ht : t < s.T.length) (hg : s.T[t].got = 0) (lv : Int) : K.viewV s.T[t] (K.state s.T[t] ws t) lv = viewV s.T[t] lv := by
  have tok := inv.thr t ht
  have wa := inv.wk t ht
  have hs := wk.seated t ht
  have hp := Ln.placeIn_cases ws (t : Int)
  have hst : K.state s.T[t] ws t = R.stateOf s.T[t] := by
    unfold K.state R.stateOf
    have he := tok.e1
    cases ha : s.T[t].awake with
    | true =>
      have h1 := tok.aw ha
      have h2 : s.T[t].for_ = 0 := Classical.byContradiction fun hc => by
        have := (tok.fw hc).2
        rw [ha] at this
        cases this
      have n1 : ¬ s.T[t].rel ≤ s.T[t].ended := by omega
      have n2 : ¬ s.T[t].for_ ≠ 0 := fun hh => hh h2
      rw [if_neg n1, if_neg n2, if_neg n2]
      rcases hp with ⟨h3, _⟩ | ⟨i, hi, h3, _⟩
      · have n3 : ¬ 0 ≤ s.T[t].wkr := by omega
        rw [if_pos h3, if_neg n3, if_pos rfl]
      · have n3 : ¬ Ln.placeIn ws (t : Int) = -1 := by omega
        have n4 : 0 ≤ s.T[t].wkr := by omega
        rw [if_neg n3, if_pos n4]
    | false =>
      by_cases hf : s.T[t].for_ = 0
      · have h1 := tok.id ha hf
        have n1 : s.T[t].rel ≤ s.T[t].ended := by omega
        have n2 : ¬ s.T[t].for_ ≠ 0 := fun hh => hh hf
        have n3 : ¬ 0 ≤ s.T[t].wkr := fun hh => by
          have := wa hh
          rw [ha] at this
          cases this
        rw [if_pos n1, if_neg n2, if_neg n3, if_neg (by decide)]
      · have h1 := (tok.fw hf).1
        have n1 : ¬ s.T[t].rel ≤ s.T[t].ended := by omega
        rw [if_neg n1, if_pos hf, if_pos hf]
  unfold K.viewV viewV
  rw [hst, hg]
theorem cLook : CLook KPK := fun Q w kb s k t => by
  obtain ⟨F, h, tk, wt, ws, m, a, hq, wk, f, h8⟩ := k.open
  have c := kLook_any m f a.wt t h8
  have e1 : K.lookV s ws t = R.lookV s t := by
    unfold K.lookV R.lookV
    by_cases hin : 0 ≤ t ∧ t < s.T.length
    · rw [if_pos hin, if_pos hin]
      have ht : t.toNat < s.T.length := by omega
      have hg := k.got t.toNat ht
      rw [th_ext ht] at hg ⊢
      exact state_is k.inv wk ht hg _
    · rw [if_neg hin, if_neg hin]
  have e2 : K.lookE s t = R.lookE s t := rfl
  rw [e1, e2] at c
  exact c
theorem cWaiting : CWaiting KPK := fun Q w kb s k what i => by
  obtain ⟨F, h, tk, wt, ws, m, a, hq, wk, f, h8⟩ := k.open
  have c := kWaiting_any m f a.wt what i
  have et : K.things s what = R.things s what := by
    unfold K.things R.things
    rw [k.inv.bnd.cs, k.inv.bnd.qs]
  rw [et] at c
  refine c.mono ?_
  intro e w' hh
  by_cases hin : 0 ≤ i ∧ i < R.things s what
  · rw [if_pos hin] at hh
    obtain ⟨v, rfl, hr, hb⟩ := hh
    have hw : what ≠ 0 := fun e => by
      subst e
      have : R.things s 0 = 0 := rfl
      omega
    have el := Ln.waiting_line a.wt what i hw
    have hno : ¬ (i < 0 ∨ R.things s what ≤ i) := by omega
    have e1 : R.waitE s what i = 0 := by unfold R.waitE; rw [if_neg hno]
    have e2 : R.waitL s what i = Ln.ints (Ln.lineW s wt what i) := by unfold R.waitL; rw [if_neg hno, el]
    refine ⟨v, by rw [e1], ?_, hb⟩
    rw [e2, Ln.ints_length]
    exact hr
  · rw [if_neg hin] at hh
    obtain ⟨rfl, hb⟩ := hh
    have hyes : i < 0 ∨ R.things s what ≤ i := by omega
    have e1 : R.waitE s what i = 7 := by unfold R.waitE; rw [if_pos hyes]
    have e2 : R.waitL s what i = [] := by unfold R.waitL; rw [if_pos hyes]
    refine ⟨_, by rw [e1], ?_, hb⟩
    rw [e2]
    exact World.ownsRow_nil _ _ _ _
theorem cSee (hd : Int) (h : hd ≠ 32) : CSee KPK hd := ⟨fun _ => ⟨cNow, cMisses⟩, fun _ => cRunning, fun _ => cLook, fun _ => ⟨cOwner, cWaiting⟩, fun e => absurd e h⟩

end Go.Proofs.YthnjabnlocpoaaaGreat
