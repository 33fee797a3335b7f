/-
  Walks: the leaves of the program's own check (package check): what each call does, by the plain words of Plain.
-/
import Derived.Test.YthnjabnlocpoaaaPlain
import Derived.Test.YthnjabnlocpoaaaProg
import Derived.WalkKit
import Derived.WalkSpells
import Derived.WalkLawsBesides
namespace Go.Proofs.Ythnjabnlocpoaaa
open Go.RowKit

theorem ret_bool {a b : Bool} (h : a = b) : Ending.returned (.bool a) = .returned (.bool b) := by rw [h]
theorem ret_int {a b : Int} (h : a = b) : Ending.returned (.int .i64 a) = .returned (.int .i64 b) := by rw [h]
theorem bcell {W w1 : World} (hb : Below W.heap.size W w1) : (∀ b o, b < W.heap.size → w1.cell? ⟨b, o, none⟩ = W.cell? ⟨b, o, none⟩) ∧ (∀ b o, b < W.heap.size → w1.frozen? ⟨b, o, none⟩ = W.frozen? ⟨b, o, none⟩) :=
  ⟨fun b o h => hb.cell (p := ⟨b, o, none⟩) h, fun b o h => hb.frozen (p := ⟨b, o, none⟩) h⟩

set_option maxHeartbeats 400000 in
theorem mutexFits_any (k t : Int) (w : World) :
    Calls Try.prog 41 #[.agg #[.int .i64 k, .int .i64 t]] w fun e w' => e = .returned (.bool (P3.mutexB k t)) ∧ Below w.heap.size w w' := by
  go_enter Try.func41, Try.ntmps41
  go_wp2
  all_goals
    go_ret
    refine ⟨ret_bool ?_, (Below.refl _ _).alloc (Nat.le_refl _) _⟩
    unfold P3.mutexB
    rw [Bool.eq_iff_iff]
    simp_all
    try omega

set_option maxHeartbeats 400000 in
theorem sizesFit_any (tv mv sv qv : Option Addr) (tc mc sc qc : Nat) (S : SetD) (w : World) :
    Calls Try.prog 20 #[.agg #[.int .i64 S.workers, .int .i64 S.start, .slice tv S.threads.length tc, .slice mv S.mutexes.length mc, .slice sv S.sems.length sc, .slice qv S.queues.length qc]] w fun e w' => e = .returned (.bool (P3.sizesB S)) ∧ Below w.heap.size w w' := by
  go_enter Try.func20, Try.ntmps20
  go_wp2
  all_goals
    go_ret
    refine ⟨ret_bool ?_, (Below.refl _ _).alloc (Nat.le_refl _) _⟩
    unfold P3.sizesB
    rw [Bool.eq_iff_iff]
    simp
    try omega

set_option maxHeartbeats 400000 in
theorem threadFits_any (b o p d : Int) (cv : Option Addr) (cn cc : Nat) (w : World) :
    Calls Try.prog 42 #[.agg #[.int .i64 b, .int .i64 o, .int .i64 p, .int .i64 d, .slice cv cn cc]] w fun e w' => e = .returned (.bool (P3.threadB b o p d cn)) ∧ Below w.heap.size w w' := by
  go_enter Try.func42, Try.ntmps42
  go_wp2
  all_goals
    go_ret
    refine ⟨ret_bool ?_, (Below.refl _ _).alloc (Nat.le_refl _) _⟩
    unfold P3.threadB P3.latest
    rw [Bool.eq_iff_iff]
    simp_all
    try omega

set_option maxHeartbeats 400000 in
theorem instrFits_any (op a b : Int) (kn : Bool) (la ha lb hb : Int) (w : World) :
    Calls Try.prog 44 #[.agg #[.int .i64 op, .int .i64 a, .int .i64 b], .agg #[.bool kn, .int .i64 la, .int .i64 ha, .int .i64 lb, .int .i64 hb]] w fun e w' => e = .returned (.bool (P3.fitsB kn la ha lb hb a b)) ∧ Below w.heap.size w w' := by
  go_enter Try.func44, Try.ntmps44
  go_wp2
  all_goals
    go_ret
    refine ⟨ret_bool ?_, ((Below.refl _ _).alloc (Nat.le_refl _) _).alloc (by simp) _⟩
    unfold P3.fitsB
    rw [Bool.eq_iff_iff]
    simp_all
    try omega

end Go.Proofs.Ythnjabnlocpoaaa
