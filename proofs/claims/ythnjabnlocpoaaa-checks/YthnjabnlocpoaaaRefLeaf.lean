/-
  Walks: the leaves of the document's own check (package donateref).
-/
import Derived.Test.YthnjabnlocpoaaaLeafB
namespace Go.Proofs.Ythnjabnlocpoaaa
open Go.RowKit

set_option maxHeartbeats 400000 in
theorem rMutexFits_any (k t : Int) (w : World) :
    Calls Try.prog 26 #[.agg #[.int .i64 k, .int .i64 t]] w fun e w' => e = .returned (.bool (P3.mutexB k t)) ∧ Below w.heap.size w w' := by
  go_enter Try.func26, Try.ntmps26
  go_wp2
  all_goals
    go_ret
    refine ⟨ret_bool ?_, (Below.refl _ _).alloc (Nat.le_refl _) _⟩
    unfold P3.mutexB
    rw [Bool.eq_iff_iff]
    simp_all
    try omega

set_option maxHeartbeats 400000 in
theorem rSizes_any (tv mv sv qv : Option Addr) (tc mc sc qc : Nat) (S : SetD) (w : World) :
    Calls Try.prog 12 #[.agg #[.int .i64 S.workers, .int .i64 S.start, .slice tv S.threads.length tc, .slice mv S.mutexes.length mc, .slice sv S.sems.length sc, .slice qv S.queues.length qc]] w fun e w' => e = .returned (.bool (P3.sizesB S)) ∧ Below w.heap.size w w' := by
  go_enter Try.func12, Try.ntmps12
  go_wp2
  all_goals
    go_ret
    refine ⟨ret_bool ?_, (Below.refl _ _).alloc (Nat.le_refl _) _⟩
    unfold P3.sizesB
    rw [Bool.eq_iff_iff]
    simp
    try omega

set_option maxHeartbeats 400000 in
theorem rThreadFits_any (b o p d : Int) (cv : Option Addr) (cn cc : Nat) (w : World) :
    Calls Try.prog 14 #[.agg #[.int .i64 b, .int .i64 o, .int .i64 p, .int .i64 d, .slice cv cn cc]] w fun e w' => e = .returned (.bool (P3.threadB b o p d cn)) ∧ Below w.heap.size w w' := by
  go_enter Try.func14, Try.ntmps14
  go_wp2
  all_goals
    go_ret
    refine ⟨ret_bool ?_, (Below.refl _ _).alloc (Nat.le_refl _) _⟩
    unfold P3.threadB P3.latest
    rw [Bool.eq_iff_iff]
    simp_all
    try omega

end Go.Proofs.Ythnjabnlocpoaaa
