/-
  The walk of the statement Checks: the program's Check of a copy is the document's Check of the set.
-/
import Derived.Test.YthnjabnlocpoaaaCopy
import Derived.Test.YthnjabnlocpoaaaRefCheck
namespace Go.Proofs.Ythnjabnlocpoaaa
open Go.RowKit

set_option maxHeartbeats 400000 in
theorem checkP_any (tv mv sv qv : Option Addr) (tc mc sc qc : Nat) (S : SetD) (w : World) (hS : SetIn w.heap.size w tv mv sv qv S) :
    Calls Try.prog 6 #[.agg #[.int .i64 S.workers, .int .i64 S.start, .slice tv S.threads.length tc, .slice mv S.mutexes.length mc, .slice sv S.sems.length sc, .slice qv S.queues.length qc]] w fun e w' =>
      e = .returned (.tuple #[.int .i64 (P3.err S), .int .i64 (P3.place S)]) ∧ Below w.heap.size w w' := by
  have HS : Hid (SetIn w.heap.size w tv mv sv qv S) := hS
  clear hS
  go_enter Try.func6, Try.ntmps6
  go_wp2_with fail
  refine (checkSet_any _ _ _ _ _ _ _ _ S _ (HS.out.later ((Below.refl _ _).alloc (Nat.le_refl _) _))).mono ?_
  rintro e w1 ⟨rfl, hb1⟩
  go_wp2
  go_quiet (fail)
  go_wp2
  go_ret2
  exact ⟨rfl, bdrew ((via ((Below.refl _ _).alloc (Nat.le_refl _) _) (by simp) hb1).alloc (by have := hb1.size; simp at this; omega) _) _⟩

set_option maxHeartbeats 400000 in
theorem checks_any (tv mv sv qv : Option Addr) (tc mc sc qc : Nat) (S : SetD) (w : World) (hS : SetIn w.heap.size w tv mv sv qv S) (hF : Fits S) (hnil : (tv = none → tc = 0) ∧ (mv = none → mc = 0) ∧ (sv = none → sc = 0) ∧ (qv = none → qc = 0)) :
    Calls Try.prog 3 #[.agg #[.int .i64 S.workers, .int .i64 S.start, .slice tv S.threads.length tc, .slice mv S.mutexes.length mc, .slice sv S.sems.length sc, .slice qv S.queues.length qc]] w fun e w' =>
      e = .returned (.bool true) ∧ Below w.heap.size w w' := by
  have HS := hid hS
  have HF := hid hF
  have HN := hid hnil
  clear hS hF hnil
  go_enter Try.func3, Try.ntmps3
  go_wp2_with fail
  have hb0 : Below w.heap.size w (w.alloc (.cells #[.int .i64 S.workers, .int .i64 S.start, .slice tv S.threads.length tc, .slice mv S.mutexes.length mc, .slice sv S.sems.length sc, .slice qv S.queues.length qc] 27)) := (Below.refl _ _).alloc (Nat.le_refl _) _
  have X0 := Blk.new w #[.int .i64 S.workers, .int .i64 S.start, .slice tv S.threads.length tc, .slice mv S.mutexes.length mc, .slice sv S.sems.length sc, .slice qv S.queues.length qc] 27
  generalize w.alloc (.cells #[.int .i64 S.workers, .int .i64 S.start, .slice tv S.threads.length tc, .slice mv S.mutexes.length mc, .slice sv S.sems.length sc, .slice qv S.queues.length qc] 27) = w0 at hb0 X0 ⊢
  refine (copy_any tv mv sv qv tc mc sc qc S w0 (HS.out.later hb0) HF.out HN.out).mono ?_
  rintro e w1 ⟨tv', mv', sv', qv', tc', mc', sc', qc', rfl, hS1, _, hb1⟩
  have HS1 := hid (hS1.toIn (B := w1.heap.size) (fun b hb => hb.2))
  have hb01 := via hb0 hb0.size hb1
  have X1 := X0.but (But.of_below (c := w0.heap.size) hb1) X0.lt (by have := X0.lt; omega)
  have HX1 := hid X1
  have q1 := X1.lt
  clear hS1 X0 X1
  go_wp2_with fail
  refine (checkP_any tv' mv' sv' qv' tc' mc' sc' qc' S _ (HS1.out.later ((Below.refl _ _).alloc (Nat.le_refl _) _))).mono ?_
  rintro e w2 ⟨rfl, hb2⟩
  have hb02 := via (hb01.alloc (by omega) _) (by simp; omega) hb2
  have X2 := (HX1.out.alloc _).but (But.of_below (c := w2.heap.size) hb2) (by simp; omega) (by have := hb2.size; simp at this; omega)
  have x0 := X2.cell 0
  have x1 := X2.cell 1
  have x2 := X2.cell 2
  have x3 := X2.cell 3
  have x4 := X2.cell 4
  have x5 := X2.cell 5
  simp at x0 x1 x2 x3 x4 x5
  clear X2 HX1
  go_wp2_with fail
  refine (rCheck_any tv mv sv qv tc mc sc qc S _ (HS.out.later hb02)).mono ?_
  rintro e w3 ⟨rfl, hb3⟩
  clear x0 x1 x2 x3 x4 x5
  go_wp2
  go_ret
  exact ⟨rfl, via hb02 hb02.size hb3⟩

end Go.Proofs.Ythnjabnlocpoaaa
