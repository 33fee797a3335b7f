/-
  Walks: does an instruction fit (package donateref)?
-/
import Derived.Test.YthnjabnlocpoaaaRefLeafB
import Derived.Test.YthnjabnlocpoaaaMem
namespace Go.Proofs.Ythnjabnlocpoaaa
open Go.RowKit

set_option maxHeartbeats 400000 in
theorem rInstrFits_any (wk st : Int) (tv mv sv qv : Option Addr) (tn tc mn mc sn sc qn qc : Nat) (len op a b : Int) (w : World) (h1 : (tn : Int) ≤ 16) (h2 : (mn : Int) ≤ 8) (h3 : (sn : Int) ≤ 4) (h4 : (qn : Int) ≤ 4) :
    Calls Try.prog 15 #[.agg #[.int .i64 wk, .int .i64 st, .slice tv tn tc, .slice mv mn mc, .slice sv sn sc, .slice qv qn qc], .int .i64 len, .agg #[.int .i64 op, .int .i64 a, .int .i64 b]] w fun e w' =>
      e = .returned (.bool (P3.instrB tn mn sn qn len op a b)) ∧ Below w.heap.size w w' := by
  go_enter Try.func15, Try.ntmps15
  go_wp2_with (go_at_call 27; refine (rBounds_any _ _ _ _ _ _ _ _ _ _ _ _ _ _ _ _ _ h1 h2 h3 h4).mono ?_; rintro e w1 ⟨rfl, hb1⟩; obtain ⟨hc1, hf1⟩ := bcell hb1; have hz1 : w.heap.size + 1 < w1.heap.size := (by have := hb1.size; simp at this; omega))
  all_goals
    go_ret
    refine ⟨ret_bool ?_, (via (((Below.refl _ _).alloc (Nat.le_refl _) _).alloc (by simp) _) (by simp; omega) hb1).alloc (by omega) _⟩
    unfold P3.instrB P3.fitsB
    rw [Bool.eq_iff_iff]
    simp_all
    try omega

end Go.Proofs.Ythnjabnlocpoaaa
