/-
  Walks: the bounds of an operation (package check).
-/
import Derived.Test.YthnjabnlocpoaaaLeaf
namespace Go.Proofs.Ythnjabnlocpoaaa
open Go.RowKit

set_option maxHeartbeats 400000 in
theorem boundsOf_any (wk st : Int) (tv mv sv qv : Option Addr) (tn tc mn mc sn sc qn qc : Nat) (len op : Int) (w : World) (h1 : (tn : Int) ≤ 16) (h2 : (mn : Int) ≤ 8) (h3 : (sn : Int) ≤ 4) (h4 : (qn : Int) ≤ 4) :
    Calls Try.prog 43 #[.agg #[.int .i64 wk, .int .i64 st, .slice tv tn tc, .slice mv mn mc, .slice sv sn sc, .slice qv qn qc], .int .i64 len, .int .i64 op] w fun e w' =>
      e = .returned (.agg #[.bool (P3.known op), .int .i64 (P3.lowA op), .int .i64 (P3.highA tn mn sn qn op), .int .i64 (P3.lowB op), .int .i64 (P3.highB len op)]) ∧ Below w.heap.size w w' := by
  go_enter Try.func43, Try.ntmps43
  go_wp2
  all_goals
    refine bodyPost_ret (v := .agg #[.bool (P3.known op), .int .i64 (P3.lowA op), .int .i64 (P3.highA tn mn sn qn op), .int .i64 (P3.lowB op), .int .i64 (P3.highB len op)]) ?_ rfl ⟨rfl, ((Below.refl _ _).alloc (Nat.le_refl _) _).alloc (by simp) _⟩
    first | (have e : op = 0 := beq_iff_eq.1 ‹_›; subst e) | (have e : op = 1 := beq_iff_eq.1 ‹_›; subst e) | (have e : op = 2 := beq_iff_eq.1 ‹_›; subst e) | (have e : op = 3 := beq_iff_eq.1 ‹_›; subst e) | (have e : op = 4 := beq_iff_eq.1 ‹_›; subst e) | (have e : op = 5 := beq_iff_eq.1 ‹_›; subst e) | (have e : op = 6 := beq_iff_eq.1 ‹_›; subst e) | (have e : op = 7 := beq_iff_eq.1 ‹_›; subst e) | (have e : op = 8 := beq_iff_eq.1 ‹_›; subst e) | (have e : op = 9 := beq_iff_eq.1 ‹_›; subst e) | (have e : op = 10 := beq_iff_eq.1 ‹_›; subst e) | (have e : op = 11 := beq_iff_eq.1 ‹_›; subst e) | skip
    all_goals simp_all [results, Try.results43, go_sem, P3.known, P3.lowA, P3.highA, P3.lowB, P3.highB]
    all_goals try omega

end Go.Proofs.Ythnjabnlocpoaaa
