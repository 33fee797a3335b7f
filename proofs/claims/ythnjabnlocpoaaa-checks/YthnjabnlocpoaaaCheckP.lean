/-
  Walks: check.Set and donate.Check: the program's own answer to P3 is the plain one.
-/
import Derived.Test.YthnjabnlocpoaaaCodes
import Derived.Deep.QuietTactic
import Derived.BigQuiet
namespace Go.Proofs.Ythnjabnlocpoaaa
open Go.RowKit

theorem bdrew {B : Nat} {a w : World} (h : Below B a w) (n : Nat) : Below B a (w.drewN n) := ⟨h.os, h.tape, h.output, h.size, h.block⟩

set_option maxHeartbeats 1000000 in
theorem checkSet_any (tv mv sv qv : Option Addr) (tc mc sc qc : Nat) (S : SetD) (w : World) (hS : SetIn w.heap.size w tv mv sv qv S) :
    Calls Try.prog 11 #[.agg #[.int .i64 S.workers, .int .i64 S.start, .slice tv S.threads.length tc, .slice mv S.mutexes.length mc, .slice sv S.sems.length sc, .slice qv S.queues.length qc]] w fun e w' =>
      e = .returned (.agg #[.int .i64 (P3.err S), .int .i64 (P3.place S)]) ∧ Below w.heap.size w w' := by
  have HS : Hid (SetIn w.heap.size w tv mv sv qv S) := hS
  clear hS
  go_enter Try.func11, Try.ntmps11
  go_wp2_with fail
  generalize hw0 : (w.alloc (.cells #[.int .i64 S.workers, .int .i64 S.start, .slice tv S.threads.length tc, .slice mv S.mutexes.length mc, .slice sv S.sems.length sc, .slice qv S.queues.length qc] 27)).alloc (.cells #[.int .i64 0, .int .i64 0] 43) = w0
  have hs0 : w0.heap.size = w.heap.size + 2 := by rw [← hw0]; simp
  have b0 : w0.cell? ⟨w.heap.size, 0, none⟩ = some (.int .i64 S.workers) := by rw [← hw0]; simp
  have b1 : w0.cell? ⟨w.heap.size, 1, none⟩ = some (.int .i64 S.start) := by rw [← hw0]; simp
  have b2 : w0.cell? ⟨w.heap.size, 2, none⟩ = some (.slice tv S.threads.length tc) := by rw [← hw0]; simp
  have b3 : w0.cell? ⟨w.heap.size, 3, none⟩ = some (.slice mv S.mutexes.length mc) := by rw [← hw0]; simp
  have b4 : w0.cell? ⟨w.heap.size, 4, none⟩ = some (.slice sv S.sems.length sc) := by rw [← hw0]; simp
  have b5 : w0.cell? ⟨w.heap.size, 5, none⟩ = some (.slice qv S.queues.length qc) := by rw [← hw0]; simp
  have r0 : w0.cell? ⟨w.heap.size + 1, 0, none⟩ = some (.int .i64 0) := by rw [← hw0]; simp
  have r1 : w0.cell? ⟨w.heap.size + 1, 1, none⟩ = some (.int .i64 0) := by rw [← hw0]; simp
  have z0 : w0.frozen? ⟨w.heap.size + 1, 0, none⟩ = false := by rw [← hw0]; simp
  have z1 : w0.frozen? ⟨w.heap.size + 1, 1, none⟩ = false := by rw [← hw0]; simp
  have hb0 : Below w.heap.size w w0 := by rw [← hw0]; exact ((Below.refl _ _).alloc (Nat.le_refl _) _).alloc (by simp) _
  clear hw0
  have hs1 : w.heap.size < w0.heap.size := by omega
  have hs2 : w.heap.size + 1 < w0.heap.size := by omega
  clear hs0
  refine (sizesFit_any _ _ _ _ _ _ _ _ S _).mono ?_
  rintro e w1 ⟨rfl, hb1⟩
  obtain ⟨hc1, hf1⟩ := bcell hb1
  cases hz : P3.sizesB S
  · go_wp2_with fail
    refine bodyPost_ret (v := .agg #[.int .i64 (P3.err S), .int .i64 (P3.place S)]) ?_ rfl ⟨rfl, ?_⟩
    · simp [results, Try.results11, go_sem, hc1, r0, r1, hs2, P3.err, P3.place, hz]
    · exact ((via hb0 (Nat.le_of_lt hs1) hb1).setCell (by simp) _).setCell (by simp) _
  · obtain ⟨n1, n2, n3, n4⟩ := sizes_of hz
    have g1 := via hb0 (Nat.le_of_lt hs1) hb1
    have k1 := hb1.size
    go_wp2_with fail
    refine (firstBadMutex_any _ _ S.mutexes _ (HS.out.later g1).mutexes n2).mono ?_
    rintro e w2 ⟨rfl, hb2⟩
    have hB2 := via hb1 k1 hb2
    have g2 := via hb0 (Nat.le_of_lt hs1) hB2
    have k2 := hB2.size
    clear hc1 hf1
    obtain ⟨hc2, hf2⟩ := bcell hB2
    cases h1 : (P3.badOr P3.mutexP S.mutexes != -1)
    · go_wp2_with fail
      refine (firstBadSem_any _ _ S.sems _ (HS.out.later g2).sems n3).mono ?_
      rintro e w3 ⟨rfl, hb3⟩
      have hB3 := via hB2 k2 hb3
      have g3 := via hb0 (Nat.le_of_lt hs1) hB3
      have k3 := hB3.size
      clear hc2 hf2
      obtain ⟨hc3, hf3⟩ := bcell hB3
      cases h2 : (P3.badOr P3.semP S.sems != -1)
      · go_wp2_with fail
        refine (firstBadQueue_any _ _ S.queues _ (HS.out.later g3).queues n4).mono ?_
        rintro e w4 ⟨rfl, hb4⟩
        have hB4 := via hB3 k3 hb4
        have g4 := via hb0 (Nat.le_of_lt hs1) hB4
        have k4 := hB4.size
        clear hc3 hf3
        obtain ⟨hc4, hf4⟩ := bcell hB4
        cases h3 : (P3.badOr P3.queueB S.queues != -1)
        · go_wp2_with fail
          refine (firstBadThread_any _ _ S.threads _ (HS.out.later g4).threads n1).mono ?_
          rintro e w5 ⟨rfl, hb5⟩
          have hB5 := via hB4 k4 hb5
          have g5 := via hb0 (Nat.le_of_lt hs1) hB5
          have k5 := hB5.size
          clear hc4 hf4
          obtain ⟨hc5, hf5⟩ := bcell hB5
          cases h4 : (P3.badOr P3.threadP S.threads != -1)
          · go_wp2_with fail
            refine (firstBadInstr_any _ _ _ _ _ _ _ _ S _ (HS.out.later g5).threads n1 n2 n3 n4 (codes_of (by simpa using h4))).mono ?_
            rintro e w6 ⟨rfl, hb6⟩
            have hB6 := via hB5 k5 hb6
            have g6 := via hb0 (Nat.le_of_lt hs1) hB6
            have k6 := hB6.size
            clear hc5 hf5
            obtain ⟨hc6, hf6⟩ := bcell hB6
            cases h5 : (P3.badCode S != -1)
            · go_wp2_with fail
              refine bodyPost_ret (v := .agg #[.int .i64 (P3.err S), .int .i64 (P3.place S)]) ?_ rfl ⟨rfl, ?_⟩
              · rw [bne_eq_false_iff_eq] at h1; rw [bne_eq_false_iff_eq] at h2; rw [bne_eq_false_iff_eq] at h3; rw [bne_eq_false_iff_eq] at h4; rw [bne_eq_false_iff_eq] at h5
                simp [results, Try.results11, go_sem, hc6, r0, r1, hs2, P3.err, P3.place, hz, h1, h2, h3, h4, h5]
              · exact (g6.setCell (by simp) _).setCell (by simp) _
            · go_wp2_with fail
              refine bodyPost_ret (v := .agg #[.int .i64 (P3.err S), .int .i64 (P3.place S)]) ?_ rfl ⟨rfl, ?_⟩
              · rw [bne_eq_false_iff_eq] at h1; rw [bne_eq_false_iff_eq] at h2; rw [bne_eq_false_iff_eq] at h3; rw [bne_eq_false_iff_eq] at h4; rw [bne_iff_ne] at h5
                simp [results, Try.results11, go_sem, hc6, r0, r1, hs2, P3.err, P3.place, hz, h1, h2, h3, h4, h5]
              · exact (g6.setCell (by simp) _).setCell (by simp) _
          · go_wp2_with fail
            refine bodyPost_ret (v := .agg #[.int .i64 (P3.err S), .int .i64 (P3.place S)]) ?_ rfl ⟨rfl, ?_⟩
            · rw [bne_eq_false_iff_eq] at h1; rw [bne_eq_false_iff_eq] at h2; rw [bne_eq_false_iff_eq] at h3; rw [bne_iff_ne] at h4
              simp [results, Try.results11, go_sem, hc5, r0, r1, hs2, P3.err, P3.place, hz, h1, h2, h3, h4]
            · exact (g5.setCell (by simp) _).setCell (by simp) _
        · go_wp2_with fail
          refine bodyPost_ret (v := .agg #[.int .i64 (P3.err S), .int .i64 (P3.place S)]) ?_ rfl ⟨rfl, ?_⟩
          · rw [bne_eq_false_iff_eq] at h1; rw [bne_eq_false_iff_eq] at h2; rw [bne_iff_ne] at h3
            simp [results, Try.results11, go_sem, hc4, r0, r1, hs2, P3.err, P3.place, hz, h1, h2, h3]
          · exact (g4.setCell (by simp) _).setCell (by simp) _
      · go_wp2_with fail
        refine bodyPost_ret (v := .agg #[.int .i64 (P3.err S), .int .i64 (P3.place S)]) ?_ rfl ⟨rfl, ?_⟩
        · rw [bne_eq_false_iff_eq] at h1; rw [bne_iff_ne] at h2
          simp [results, Try.results11, go_sem, hc3, r0, r1, hs2, P3.err, P3.place, hz, h1, h2]
        · exact (g3.setCell (by simp) _).setCell (by simp) _
    · go_wp2_with fail
      refine bodyPost_ret (v := .agg #[.int .i64 (P3.err S), .int .i64 (P3.place S)]) ?_ rfl ⟨rfl, ?_⟩
      · rw [bne_iff_ne] at h1
        simp [results, Try.results11, go_sem, hc2, r0, r1, hs2, P3.err, P3.place, hz, h1]
      · exact (g2.setCell (by simp) _).setCell (by simp) _

end Go.Proofs.Ythnjabnlocpoaaa
