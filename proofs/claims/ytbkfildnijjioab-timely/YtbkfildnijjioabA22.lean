import Derived.Test.YtbkfildnijjioabA21
import Derived.BigQuiet
import Derived.Test.YtbkfildnijjioabA20
import Derived.Test.YtbkfildnijjioabA15
import Derived.Test.YtbkfildnijjioabA12
/-
  Walks over package donatekeep: asked, began, frees, stays. (Written by a script in one piece.)
-/
namespace Go.Proofs.Ytbkfildnijjioab
open Go.RowKit
section
variable {PK : KP} {B : Nat} {w : World} {wb kb : Nat} {P : Nat → Prop} {h : WH} {d : WD} {s s0 : RS}
/-- The views ahead of the last step, and their cells. -/
theorem KWS.was (k : KWS PK B w wb kb P h d s) (hw : d.was = viewsD s0) (hl : s0.T.length = s.T.length) : ∃ g cap, w.cell? ⟨wb, 14, none⟩ = some (.slice (some ⟨g, 0, none⟩) s.T.length cap) ∧ g < w.heap.size ∧ ∀ t, t < s.T.length → ∀ j, j < 11 → w.cell? ⟨g, t * 11 + j, none⟩ = (vCells (viewD s0 t))[j]? := by
  have c := k.k.m.blk.cell 14
  simp [wCells] at c
  have hwl : d.was.length = s.T.length := by rw [hw, viewsD_length, hl]
  obtain ⟨g, cap, hv, hg, hc⟩ := view_row k.k.m.was (by rw [hwl]; exact k.i.good.pos)
  refine ⟨g, cap, by rw [c, hv, hwl], hg, fun t ht j hj => ?_⟩
  rw [hc t (by rw [hwl]; exact ht) j hj]
  have : d.was[t]'(by rw [hwl]; exact ht) = viewD s0 t := by simp [hw, viewsD_get]
  rw [this]
set_option maxRecDepth 100000 in
set_option maxHeartbeats 2000000 in
theorem wAsked_any (m : WMem B w wb kb h d) :
    Calls Try.prog 40 #[.pointer (some ⟨wb, 0, none⟩)] w fun e w' => e = .returned (.tuple #[.int .i64 (R.askFor d.i), .int .i64 (R.askOf d.i), .int .i64 (R.askN d.i)]) ∧ Below w.heap.size w w' := by
  have y18 := m.blk.cell 18
  have y19 := m.blk.cell 19
  have y20 := m.blk.cell 20
  simp [wCells] at y18 y19 y20
  obtain ⟨va, hva⟩ : ∃ x, Hid (R.askFor d.i = x) := ⟨_, hid rfl⟩
  obtain ⟨vb, hvb⟩ : ∃ x, Hid (R.askOf d.i = x) := ⟨_, hid rfl⟩
  obtain ⟨vc, hvc⟩ : ∃ x, Hid (R.askN d.i = x) := ⟨_, hid rfl⟩
  rw [hva.out, hvb.out, hvc.out]
  generalize d.i = ii at *
  clear m
  go_enter Try.func40, Try.ntmps40
  by_cases h5 : ii.op = 5
  · have e1 : va = 4 := by rw [← hva.out]; unfold R.askFor; rw [if_pos h5]
    have e2 : vb = 0 := by rw [← hvb.out]; unfold R.askOf; rw [if_neg (by omega)]
    have e3 : vc = ii.a := by rw [← hvc.out]; unfold R.askN; rw [if_pos h5]
    subst e1 e2 e3
    rw [h5] at y18
    go_wp2_with fail
    go_quiet (fail)
    go_wp2
    refine bodyPost_ret (v := .tuple #[.int .i64 4, .int .i64 0, .int .i64 ii.a]) ?_ rfl ⟨rfl, bdrewN (Below.refl _ _) _⟩
    simp [results, Try.results40, go_sem]
  by_cases h6 : ii.op = 6
  · have e1 : va = 1 := by rw [← hva.out]; unfold R.askFor; rw [if_neg h5, if_pos h6]
    have e2 : vb = ii.a := by rw [← hvb.out]; unfold R.askOf; rw [if_pos (.inl h6)]
    have e3 : vc = ii.b := by rw [← hvc.out]; unfold R.askN; rw [if_neg h5, if_pos (.inl h6)]
    subst e1 e2 e3
    rw [h6] at y18
    go_wp2_with fail
    go_quiet (fail)
    go_wp2
    refine bodyPost_ret (v := .tuple #[.int .i64 1, .int .i64 ii.a, .int .i64 ii.b]) ?_ rfl ⟨rfl, bdrewN (Below.refl _ _) _⟩
    simp [results, Try.results40, go_sem]
  by_cases h8 : ii.op = 8
  · have e1 : va = 2 := by rw [← hva.out]; unfold R.askFor; rw [if_neg h5, if_neg h6, if_pos h8]
    have e2 : vb = ii.a := by rw [← hvb.out]; unfold R.askOf; rw [if_pos (.inr (.inl h8))]
    have e3 : vc = ii.b := by rw [← hvc.out]; unfold R.askN; rw [if_neg h5, if_pos (.inr (.inl h8))]
    subst e1 e2 e3
    rw [h8] at y18
    go_wp2_with fail
    go_quiet (fail)
    go_wp2
    refine bodyPost_ret (v := .tuple #[.int .i64 2, .int .i64 ii.a, .int .i64 ii.b]) ?_ rfl ⟨rfl, bdrewN (Below.refl _ _) _⟩
    simp [results, Try.results40, go_sem]
  by_cases h11 : ii.op = 11
  · have e1 : va = 3 := by rw [← hva.out]; unfold R.askFor; rw [if_neg h5, if_neg h6, if_neg h8, if_pos h11]
    have e2 : vb = ii.a := by rw [← hvb.out]; unfold R.askOf; rw [if_pos (.inr (.inr h11))]
    have e3 : vc = ii.b := by rw [← hvc.out]; unfold R.askN; rw [if_neg h5, if_pos (.inr (.inr h11))]
    subst e1 e2 e3
    rw [h11] at y18
    go_wp2_with fail
    go_quiet (fail)
    go_wp2
    refine bodyPost_ret (v := .tuple #[.int .i64 3, .int .i64 ii.a, .int .i64 ii.b]) ?_ rfl ⟨rfl, bdrewN (Below.refl _ _) _⟩
    simp [results, Try.results40, go_sem]
  · have e1 : va = 0 := by rw [← hva.out]; unfold R.askFor; rw [if_neg h5, if_neg h6, if_neg h8, if_neg h11]
    have e2 : vb = 0 := by rw [← hvb.out]; unfold R.askOf; rw [if_neg (by omega)]
    have e3 : vc = 0 := by rw [← hvc.out]; unfold R.askN; rw [if_neg h5, if_neg (by omega)]
    subst e1 e2 e3
    have b5 : (ii.op == 5) = false := by simpa using h5
    have b6 : (ii.op == 6) = false := by simpa using h6
    have b8 : (ii.op == 8) = false := by simpa using h8
    have b11 : (ii.op == 11) = false := by simpa using h11
    go_wp2
    refine bodyPost_ret (v := .tuple #[.int .i64 0, .int .i64 0, .int .i64 0]) ?_ rfl ⟨rfl, Below.refl _ _⟩
    simp [results, Try.results40, go_sem]
set_option maxRecDepth 100000 in
set_option maxHeartbeats 2000000 in
theorem wFrees_any (m : WMem B w wb kb h d) (what of_ : Int) :
    Calls Try.prog 41 #[.pointer (some ⟨wb, 0, none⟩), .int .i64 what, .int .i64 of_] w fun e w' => e = .returned (.bool (freesB d.who d.i what of_)) ∧ Below w.heap.size w w' := by
  have y17 := m.blk.cell 17
  have y18 := m.blk.cell 18
  have y19 := m.blk.cell 19
  simp [wCells] at y17 y18 y19
  obtain ⟨va, hva⟩ : ∃ x, Hid (freesB d.who d.i what of_ = x) := ⟨_, hid rfl⟩
  rw [hva.out]
  generalize d.i = ii at *
  generalize d.who = who at *
  clear m
  go_enter Try.func41, Try.ntmps41
  by_cases h0 : ii.op = 0
  · have e1 : va = ((who != -1) && (what == 1)) := by rw [← hva.out]; unfold freesB; rw [if_pos h0]
    subst e1
    rw [h0] at y18
    cases hc1 : (who != -1) <;> cases hc2 : (what == 1)
    all_goals
      go_wp2
      go_ret
      exact ⟨by simp, Below.refl _ _⟩
  by_cases h7 : ii.op = 7
  · have e1 : va = ((what == 1) && (ii.a == of_)) := by rw [← hva.out]; unfold freesB; rw [if_neg h0, if_pos h7]
    subst e1
    rw [h7] at y18
    cases hc1 : (what == 1) <;> cases hc2 : (ii.a == of_)
    all_goals
      go_wp2
      go_ret
      exact ⟨by simp, Below.refl _ _⟩
  by_cases h9 : ii.op = 9
  · have e1 : va = ((what == 2) && (ii.a == of_)) := by rw [← hva.out]; unfold freesB; rw [if_neg h0, if_neg h7, if_pos h9]
    subst e1
    rw [h9] at y18
    cases hc1 : (what == 2) <;> cases hc2 : (ii.a == of_)
    all_goals
      go_wp2
      go_ret
      exact ⟨by simp, Below.refl _ _⟩
  by_cases h10 : ii.op = 10
  · have e1 : va = ((what == 3) && (ii.a == of_)) := by rw [← hva.out]; unfold freesB; rw [if_neg h0, if_neg h7, if_neg h9, if_pos h10]
    subst e1
    rw [h10] at y18
    cases hc1 : (what == 3) <;> cases hc2 : (ii.a == of_)
    all_goals
      go_wp2
      go_ret
      exact ⟨by simp, Below.refl _ _⟩
  · have e1 : va = false := by rw [← hva.out]; unfold freesB; rw [if_neg h0, if_neg h7, if_neg h9, if_neg h10]
    subst e1
    have b0 : (ii.op == 0) = false := by simpa using h0
    have b7 : (ii.op == 7) = false := by simpa using h7
    have b9 : (ii.op == 9) = false := by simpa using h9
    have b10 : (ii.op == 10) = false := by simpa using h10
    go_wp2
    go_ret
    exact ⟨rfl, Below.refl _ _⟩
set_option maxRecDepth 100000 in
set_option maxHeartbeats 4000000 in
theorem wStays_any (c : CAll PK) (k : KWS PK B w wb kb P h d s) (hw : d.was = viewsD s0) (hl : s0.T.length = s.T.length) (t : Nat) (ht : t < s.T.length) (sp : StaysP d.tick (freesB d.who d.i (viewD s0 t).for_ (viewD s0 t).of_) d.now (viewD s0 t) (viewD s t)) :
    Calls Try.prog 20 #[.pointer (some ⟨wb, 0, none⟩), .int .i64 t] w fun e w' => e = .returned (.bool true) ∧ Below w.heap.size w w' := by
  have hfew := k.i.good.few
  have K := hid k
  have SP := hid sp
  have htI : (t : Int) < (s.T.length : Int) := by omega
  obtain ⟨ga, ca, cwa, hga, za⟩ := k.was hw hl
  have a0 := za t ht 0 (by decide)
  have a1 := za t ht 1 (by decide)
  have a2 := za t ht 2 (by decide)
  have a3 := za t ht 3 (by decide)
  have a4 := za t ht 4 (by decide)
  have a5 := za t ht 5 (by decide)
  have a6 := za t ht 6 (by decide)
  have a7 := za t ht 7 (by decide)
  have a8 := za t ht 8 (by decide)
  have a9 := za t ht 9 (by decide)
  have a10 := za t ht 10 (by decide)
  simp [vCells] at a0 a1 a2 a3 a4 a5 a6 a7 a8 a9 a10
  clear k sp za
  generalize viewD s0 t = xa at *
  go_enter Try.func20, Try.ntmps20
  go_upto_region 2 with fail
  have hbA : Below w.heap.size w (w.alloc (.cells #[.int .i64 xa.st, .int .i64 xa.base, .int .i64 xa.lv, .int .i64 xa.at_, .int .i64 xa.last, .int .i64 xa.got, .int .i64 xa.rel, .int .i64 xa.ended, .int .i64 xa.for_, .int .i64 xa.of_, .int .i64 xa.until_] 53)) := (Below.refl _ _).alloc (Nat.le_refl _) _
  have bA := Blk.new w #[.int .i64 xa.st, .int .i64 xa.base, .int .i64 xa.lv, .int .i64 xa.at_, .int .i64 xa.last, .int .i64 xa.got, .int .i64 xa.rel, .int .i64 xa.ended, .int .i64 xa.for_, .int .i64 xa.of_, .int .i64 xa.until_] 53
  generalize w.alloc (.cells #[.int .i64 xa.st, .int .i64 xa.base, .int .i64 xa.lv, .int .i64 xa.at_, .int .i64 xa.last, .int .i64 xa.got, .int .i64 xa.rel, .int .i64 xa.ended, .int .i64 xa.for_, .int .i64 xa.of_, .int .i64 xa.until_] 53) = wA at hbA bA ⊢
  have KA := hid (K.out.below c.fr hbA)
  have HBA := hid hbA
  have BA := hid bA
  have hszA := hbA.size
  clear hbA bA cwa a0 a1 a2 a3 a4 a5 a6 a7 a8 a9 a10
  obtain ⟨gb, cb, cwb, hgb, zb⟩ := KA.out.view
  have b0 := zb t ht 0 (by decide)
  have b1 := zb t ht 1 (by decide)
  have b2 := zb t ht 2 (by decide)
  have b3 := zb t ht 3 (by decide)
  have b4 := zb t ht 4 (by decide)
  have b5 := zb t ht 5 (by decide)
  have b6 := zb t ht 6 (by decide)
  have b7 := zb t ht 7 (by decide)
  have b8 := zb t ht 8 (by decide)
  have b9 := zb t ht 9 (by decide)
  have b10 := zb t ht 10 (by decide)
  simp [vCells] at b0 b1 b2 b3 b4 b5 b6 b7 b8 b9 b10
  clear zb
  generalize viewD s t = xb at *
  go_upto_region 3 with fail
  have hbB : Below wA.heap.size wA (wA.alloc (.cells #[.int .i64 xb.st, .int .i64 xb.base, .int .i64 xb.lv, .int .i64 xb.at_, .int .i64 xb.last, .int .i64 xb.got, .int .i64 xb.rel, .int .i64 xb.ended, .int .i64 xb.for_, .int .i64 xb.of_, .int .i64 xb.until_] 53)) := (Below.refl _ _).alloc (Nat.le_refl _) _
  have bB := Blk.new wA #[.int .i64 xb.st, .int .i64 xb.base, .int .i64 xb.lv, .int .i64 xb.at_, .int .i64 xb.last, .int .i64 xb.got, .int .i64 xb.rel, .int .i64 xb.ended, .int .i64 xb.for_, .int .i64 xb.of_, .int .i64 xb.until_] 53
  have bA2 := BA.out.alloc (.cells #[.int .i64 xb.st, .int .i64 xb.base, .int .i64 xb.lv, .int .i64 xb.at_, .int .i64 xb.last, .int .i64 xb.got, .int .i64 xb.rel, .int .i64 xb.ended, .int .i64 xb.for_, .int .i64 xb.of_, .int .i64 xb.until_] 53)
  generalize wA.alloc (.cells #[.int .i64 xb.st, .int .i64 xb.base, .int .i64 xb.lv, .int .i64 xb.at_, .int .i64 xb.last, .int .i64 xb.got, .int .i64 xb.rel, .int .i64 xb.ended, .int .i64 xb.for_, .int .i64 xb.of_, .int .i64 xb.until_] 53) = wB at hbB bB bA2 ⊢
  have KB := hid (KA.out.below c.fr hbB)
  have HBB := hid (via HBA.out HBA.out.size hbB)
  clear hbB cwb b0 b1 b2 b3 b4 b5 b6 b7 b8 b9 b10 KA BA
  have p0 := bA2.cell 0
  have p4 := bA2.cell 4
  have p8 := bA2.cell 8
  have p9 := bA2.cell 9
  have p10 := bA2.cell 10
  have q0 := bB.cell 0
  have q4 := bB.cell 4
  have q8 := bB.cell 8
  have q9 := bB.cell 9
  have q10 := bB.cell 10
  simp at p0 p4 p8 p9 p10 q0 q4 q8 q9 q10
  have y7 := KB.out.k.m.blk.cell 7
  have y16 := KB.out.k.m.blk.cell 16
  simp [wCells] at y7 y16
  have HBA2 := hid bA2
  have HBB2 := hid bB
  clear bA2 bB
  rcases SP.out with ⟨r1, r2, r3, r4, r5, r6⟩ | ⟨r1, r2, r3, r4, r5, r6, r7⟩ | ⟨r1, r2, r3, r4, r5, r6, r7⟩
  · have g1 : (xa.st != 3) = true := by simpa using r1
    have g2 : (xb.st != 3) = true := by simpa using r2
    rw [r3] at q4
    rw [r4] at q8
    rw [r5] at q9
    rw [r6] at q10
    clear r1 r2 r3 r4 r5 r6 SP
    go_wp2
    go_ret
    exact ⟨rfl, HBB.out⟩
  · rw [r1] at p0
    rw [r2] at q0
    rw [r4] at q4
    rw [r5] at q8
    rw [r6] at q9
    rw [r7] at q10
    have g1 : (xa.until_ == -1) = true ∨ ((xa.until_ == -1) = false ∧ decide (d.now < xa.until_) = true) := by
      simp only [beq_iff_eq, beq_eq_false_iff_ne, decide_eq_true_iff]
      omega
    clear r1 r2 r3 r4 r5 r6 r7 SP
    rcases g1 with g1 | ⟨g1, g2⟩
    all_goals
      go_wp2_with fail
      go_quiet (fail)
      go_wp2
      go_ret
      exact ⟨rfl, bdrewN HBB.out _⟩
  · rw [r1] at p0
    rw [r4] at q8
    rw [r5] at q9
    rw [r6] at q10
    have g2 : (xb.st == 3) = false := by simpa using r2
    have g3 : (xb.st == 0) = false := by simpa using r3
    rcases r7 with ⟨s1, s2, s3⟩ | ⟨s1, s2, s3⟩
    · rw [s1] at y16
      rw [s2] at p10
      clear r1 r2 r3 r4 r5 r6 SP s1 s2
      by_cases h4 : xa.for_ = 4
      · rw [if_pos h4] at s3
        rw [s3] at q4
        rw [h4] at p8
        clear s3 h4
        go_wp2_with fail
        go_quiet (fail)
        go_wp2
        go_ret
        exact ⟨rfl, bdrewN HBB.out _⟩
      · rw [if_neg h4] at s3
        rw [s3] at q4
        have h4' : (xa.for_ == 4) = false := by simpa using h4
        clear s3 h4
        go_wp2_with fail
        go_quiet (fail)
        go_wp2
        go_ret
        exact ⟨rfl, bdrewN HBB.out _⟩
    · rw [s1] at y16
      rw [s3] at q4
      have FR := hid (fun (wx : World) (kx : KWS PK B wx wb kb P h d s) => wFrees_any kx.k.m xa.for_ xa.of_)
      rw [s2] at FR
      have S3 := hid s3
      clear r1 r2 r3 r4 r5 r6 SP s1 s2 s3
      go_wp2_with fail
      refine (FR.out wB KB.out).mono ?_
      rintro e w3 ⟨rfl, hb3⟩
      have HB3 := hid (via HBB.out HBB.out.size hb3)
      have q4 := (HBB2.out.only (Only.of_below (L := []) hb3) (by simp)).cell 4
      simp at q4
      rw [S3.out] at q4
      clear hb3
      go_wp2
      go_ret
      exact ⟨rfl, HB3.out⟩
set_option maxRecDepth 100000 in
set_option maxHeartbeats 4000000 in
theorem wBegan_any (c : CAll PK) (k : KWS PK B w wb kb P h d s) (hw : d.was = viewsD s0) (hl : s0.T.length = s.T.length) (t : Nat) (ht : t < s.T.length) (hwho : d.who = (t : Int)) (sp : BeganP d.i d.code d.now (viewD s0 t) (viewD s t)) (hn : -1 ≤ R.askN d.i ∧ R.askN d.i ≤ 1000) :
    Calls Try.prog 19 #[.pointer (some ⟨wb, 0, none⟩)] w fun e w' => e = .returned (.bool true) ∧ Below w.heap.size w w' := by
  have hfew := k.i.good.few
  have hnow : d.now = s.now := k.wd.co.now
  have hn2 := k.i.good.now2
  have hn1 := k.i.good.now1
  have hn0 := k.i.good.now0
  rw [hnow] at sp
  have K := hid k
  have SP := hid sp
  have htI : (t : Int) < (s.T.length : Int) := by omega
  obtain ⟨gb, cb, cwb, hgb, zb⟩ := k.view
  have b0 := zb t ht 0 (by decide)
  have b1 := zb t ht 1 (by decide)
  have b2 := zb t ht 2 (by decide)
  have b3 := zb t ht 3 (by decide)
  have b4 := zb t ht 4 (by decide)
  have b5 := zb t ht 5 (by decide)
  have b6 := zb t ht 6 (by decide)
  have b7 := zb t ht 7 (by decide)
  have b8 := zb t ht 8 (by decide)
  have b9 := zb t ht 9 (by decide)
  have b10 := zb t ht 10 (by decide)
  simp [vCells] at b0 b1 b2 b3 b4 b5 b6 b7 b8 b9 b10
  have y17 := k.k.m.blk.cell 17
  simp [wCells] at y17
  rw [hwho] at y17
  clear k sp zb
  generalize viewD s t = xb at *
  go_enter Try.func19, Try.ntmps19
  have hwl := K.out.k.m.blk.lt
  have n1 : wb ≠ w.heap.size := by omega
  have n2 : gb ≠ w.heap.size := by omega
  go_wp2_with fail
  go_region_held3 (fun w' => w'.cell? ⟨wb, 12, none⟩ = some (.slice (some ⟨gb, 0, none⟩) s.T.length cb) ∧ w'.cell? ⟨wb, 17, none⟩ = some (.int .i64 (t : Int)) ∧ w'.cell? ⟨gb, t * 11, none⟩ = some (.int .i64 xb.st) ∧ w'.cell? ⟨gb, t * 11 + 1, none⟩ = some (.int .i64 xb.base) ∧ w'.cell? ⟨gb, t * 11 + 2, none⟩ = some (.int .i64 xb.lv) ∧ w'.cell? ⟨gb, t * 11 + 3, none⟩ = some (.int .i64 xb.at_) ∧ w'.cell? ⟨gb, t * 11 + 4, none⟩ = some (.int .i64 xb.last) ∧ w'.cell? ⟨gb, t * 11 + 5, none⟩ = some (.int .i64 xb.got) ∧ w'.cell? ⟨gb, t * 11 + 6, none⟩ = some (.int .i64 xb.rel) ∧ w'.cell? ⟨gb, t * 11 + 7, none⟩ = some (.int .i64 xb.ended) ∧ w'.cell? ⟨gb, t * 11 + 8, none⟩ = some (.int .i64 xb.for_) ∧ w'.cell? ⟨gb, t * 11 + 9, none⟩ = some (.int .i64 xb.of_) ∧ w'.cell? ⟨gb, t * 11 + 10, none⟩ = some (.int .i64 xb.until_)) (go_keep) (fail)
  have hbA : Below w.heap.size w (w.alloc (.cells #[.int .i64 xb.st, .int .i64 xb.base, .int .i64 xb.lv, .int .i64 xb.at_, .int .i64 xb.last, .int .i64 xb.got, .int .i64 xb.rel, .int .i64 xb.ended, .int .i64 xb.for_, .int .i64 xb.of_, .int .i64 xb.until_] 53)).drew := ((Below.refl _ _).alloc (Nat.le_refl _) _).drew
  have bA : Blk (w.alloc (.cells #[.int .i64 xb.st, .int .i64 xb.base, .int .i64 xb.lv, .int .i64 xb.at_, .int .i64 xb.last, .int .i64 xb.got, .int .i64 xb.rel, .int .i64 xb.ended, .int .i64 xb.for_, .int .i64 xb.of_, .int .i64 xb.until_] 53)).drew w.heap.size #[.int .i64 xb.st, .int .i64 xb.base, .int .i64 xb.lv, .int .i64 xb.at_, .int .i64 xb.last, .int .i64 xb.got, .int .i64 xb.rel, .int .i64 xb.ended, .int .i64 xb.for_, .int .i64 xb.of_, .int .i64 xb.until_] 53 := Blk.new w #[.int .i64 xb.st, .int .i64 xb.base, .int .i64 xb.lv, .int .i64 xb.at_, .int .i64 xb.last, .int .i64 xb.got, .int .i64 xb.rel, .int .i64 xb.ended, .int .i64 xb.for_, .int .i64 xb.of_, .int .i64 xb.until_] 53
  generalize (w.alloc (.cells #[.int .i64 xb.st, .int .i64 xb.base, .int .i64 xb.lv, .int .i64 xb.at_, .int .i64 xb.last, .int .i64 xb.got, .int .i64 xb.rel, .int .i64 xb.ended, .int .i64 xb.for_, .int .i64 xb.of_, .int .i64 xb.until_] 53)).drew = wA at hbA bA ⊢
  have KA := hid (K.out.below c.fr hbA)
  have HBA := hid hbA
  have BA := hid bA
  clear hbA bA cwb b0 b1 b2 b3 b4 b5 b6 b7 b8 b9 b10 y17 n1 n2
  go_wp2_with fail
  refine (wAsked_any KA.out.k.m).mono ?_
  rintro e w3 ⟨rfl, hb3⟩
  have K3 := hid (KA.out.below c.fr hb3)
  have HB3 := hid (via HBA.out HBA.out.size hb3)
  have B3 := BA.out.only (Only.of_below (L := []) hb3) (by simp)
  have HW := hid hw
  have HLL := hid hl
  have HWHO := hid hwho
  clear hb3 KA HBA BA hw hl hwho
  have q0 := B3.cell 0
  have q4 := B3.cell 4
  have q8 := B3.cell 8
  have q9 := B3.cell 9
  have q10 := B3.cell 10
  simp at q0 q4 q8 q9 q10
  clear B3
  have y7 := K3.out.k.m.blk.cell 7
  have y18 := K3.out.k.m.blk.cell 18
  have y21 := K3.out.k.m.blk.cell 21
  simp [wCells] at y7 y18 y21
  rw [hnow] at y7
  obtain ⟨va, hva⟩ : ∃ x, Hid (R.askFor d.i = x) := ⟨_, hid rfl⟩
  obtain ⟨vb, hvb⟩ : ∃ x, Hid (R.askOf d.i = x) := ⟨_, hid rfl⟩
  obtain ⟨vc, hvc⟩ : ∃ x, Hid (R.askN d.i = x) := ⟨_, hid rfl⟩
  have GO := hid SP.out.go
  have WT := hid SP.out.wt
  rw [hva.out, hvb.out, hvc.out] at WT ⊢
  rw [hvc.out] at hn
  clear SP hva hvb hvc hnow
  generalize d.code = cd at *
  by_cases hc : cd = 1
  · obtain ⟨r1, r2, r3, r4, r5, r6, r7⟩ := WT.out hc
    rw [hc] at y21
    rw [r3] at q0
    rw [r4] at q4
    rw [r5] at q8
    rw [r6] at q9
    have g1 : (va != 0) = true := by simpa using r1
    have g2 : (vc != 0) = true := by simpa using r2
    clear GO WT r1 r2 r3 r4 r5 r6 hc
    by_cases hp : 0 < vc
    · rw [if_pos hp] at r7
      rw [r7] at q10
      clear r7
      go_wp2
      go_ret
      exact ⟨rfl, HB3.out⟩
    · rw [if_neg hp] at r7
      rw [r7] at q10
      have hp' : decide (0 < vc) = false := by simpa using hp
      clear r7 hp
      go_wp2
      go_ret
      exact ⟨rfl, HB3.out⟩
  · obtain ⟨r1, r2, r3, r4, r5, r6⟩ := GO.out hc
    have g0 : (cd != 1) = true := by simpa using hc
    have g1 : (d.i.op != 5) = true := by simpa using r2
    have g2 : (xb.st != 3) = true := by simpa using r3
    rw [r4] at q8
    rw [r5] at q9
    rw [r6] at q10
    clear GO WT r2 r3 r4 r5 r6 hc
    by_cases h3 : d.i.op = 3
    · rw [if_pos h3] at r1
      rw [r1] at q4
      rw [h3] at y18 g1
      obtain ⟨ga, ca, cwa, hga, za⟩ := K3.out.was HW.out HLL.out
      have a4 := za t ht 4 (by decide)
      simp [vCells] at a4
      have y17 := K3.out.k.m.blk.cell 17
      simp [wCells] at y17
      rw [HWHO.out] at y17
      clear r1 za h3
      generalize (viewD s0 t).last = la at *
      go_wp2_with fail
      go_quiet (fail)
      go_wp2
      go_ret
      exact ⟨rfl, bdrewN HB3.out _⟩
    · rw [if_neg h3] at r1
      rw [r1] at q4
      have h3' : (d.i.op == 3) = false := by simpa using h3
      clear r1 h3
      generalize d.i.op = op at *
      go_wp2
      go_ret
      exact ⟨rfl, HB3.out⟩
end
end Go.Proofs.Ytbkfildnijjioab

/-
  Timely: the law's own function.
-/
namespace Go.Proofs.Ytbkfildnijjioab
open Go.RowKit
set_option maxRecDepth 100000 in
set_option maxHeartbeats 2000000 in
theorem lawTimely_any {PK : KP} (c : CAll PK) (cn : CNew PK (fun _ => True)) (tv mv sv qv av : Option Addr) (tc mc sc qc ac : Nat) (S : SetD) (l : List Int) (w : World) (hS : SetIn w.heap.size w tv mv sv qv S) (hF : Fits S) (hnil : (tv = none → tc = 0) ∧ (mv = none → mc = 0) ∧ (sv = none → sc = 0) ∧ (qv = none → qc = 0)) (hl : IntsIn w.heap.size w av l) (hll : l.length ≤ 9223372036854775807) :
    Calls Try.prog 6 #[.agg #[.int .i64 S.workers, .int .i64 S.start, .slice tv S.threads.length tc, .slice mv S.mutexes.length mc, .slice sv S.sems.length sc, .slice qv S.queues.length qc], .slice av l.length ac] w fun e w' =>
      e = .returned (.bool true) ∧ Below w.heap.size w w' := by
  have HS := hid hS
  have HF := hid hF
  have HN := hid hnil
  have HL := hid hl
  clear hS hF hnil hl
  go_enter Try.func6, Try.ntmps6
  by_cases hlong : l.length ≤ 1099511627776
  · have hlI : (l.length : Int) ≤ 1099511627776 := by omega
    go_wp2_with fail
    have hb0 : Below w.heap.size w (w.alloc (.cells #[.int .i64 S.workers, .int .i64 S.start, .slice tv S.threads.length tc, .slice mv S.mutexes.length mc, .slice sv S.sems.length sc, .slice qv S.queues.length qc] 27)) := (Below.refl _ _).alloc (Nat.le_refl _) _
    have hsz0 : w.heap.size ≤ (w.alloc (.cells #[.int .i64 S.workers, .int .i64 S.start, .slice tv S.threads.length tc, .slice mv S.mutexes.length mc, .slice sv S.sems.length sc, .slice qv S.queues.length qc] 27)).heap.size := by simp
    generalize w.alloc (.cells #[.int .i64 S.workers, .int .i64 S.start, .slice tv S.threads.length tc, .slice mv S.mutexes.length mc, .slice sv S.sems.length sc, .slice qv S.queues.length qc] 27) = w0 at hb0 hsz0 ⊢
    refine (wBeginS_any c cn tv mv sv qv tc mc sc qc S w0 (HS.out.later hb0) HF.out HN.out).mono ?_
    rintro e w1 ⟨hb1, hcase⟩
    have HB1 := hid (via hb0 hb0.size hb1)
    have hsz1 := hb1.size
    clear hb0 hb1
    rcases hcase with ⟨_, rfl⟩ | ⟨herr, hnx, B, wb, kb, P, h, hB, rfl, ks⟩
    · go_wp2
      go_ret
      exact ⟨rfl, HB1.out⟩
    · have K1 := hid ks
      have HBB : Hid (w.heap.size ≤ B) := hid (by omega)
      clear ks hB
      have TN := hid (fun t ht => timely_new (S := S) K1.out.i t ht)
      have hfew := K1.out.i.good.few
      go_wp2
      go_loopw [7] (fun i wr => ∃ k : Nat, k ≤ (R.new S).T.length ∧ i = .int .i64 k ∧ Below w1.heap.size w1 wr) (fun i _ => (R.new S).T.length - (intOf i).toNat)
      case atStart => exact ⟨0, Nat.zero_le _, rfl, Below.refl _ _⟩
      case round =>
        obtain ⟨k, hk, rfl, hbk⟩ := hrel
        have KK := hid (K1.out.below c.fr hbk)
        have HBK := hid hbk
        clear hbk
        obtain ⟨gv, cv, cw, hgv, zv⟩ := KK.out.view
        by_cases hkl : k < (R.new S).T.length
        · have hkI : (k : Int) < ((R.new S).T.length : Int) := by omega
          have a0 := zv k hkl 0 (by decide)
          have a4 := zv k hkl 4 (by decide)
          simp [vCells] at a0 a4
          obtain ⟨t1, t2⟩ := TN.out k hkl
          rw [t2] at a4
          have t1' : ((viewD (R.new S) k).st == 3) = false := by simpa using t1
          generalize (viewD (R.new S) k).st = st at *
          clear t1 t2 zv
          go_wp2
          go_roundw
          case rel => exact ⟨k + 1, by omega, by go_num, HBK.out⟩
          case measure => simp [intOf]; omega
        · have e : k = (R.new S).T.length := by omega
          subst e
          have HB2 := hid (via HB1.out HB1.out.size HBK.out)
          clear zv K1 hfew
          go_wp2
          go_loopw [8] (fun i wr => ∃ (k : Nat) (s : RS) (d : WD) (P : Nat → Prop) (h : WH), k ≤ l.length ∧ i = .int .i64 k ∧ KWS PK B wr wb kb P h d s ∧ s.next ≤ 16 + 33 * k ∧ d.steps = k ∧ Below w.heap.size w wr) (fun i _ => l.length - (intOf i).toNat)
          case atStart => exact ⟨0, R.new S, firstD S, P, h, Nat.zero_le _, rfl, KK.out, by omega, rfl, HB2.out⟩
          case round =>
            obtain ⟨k, s, d, P, h, hk, rfl, hks, hnk, hst, hbk⟩ := hrel
            have KK := hid hks
            have HBK := hid hbk
            have HST := hid hst
            clear hks hbk hst HB2
            by_cases hkl : k < l.length
            · obtain ⟨ab, aoff, ha, hab, hcell⟩ := HL.out k hkl
              subst ha
              have hcell' : wr.cell? ⟨ab, aoff + k, none⟩ = some (.int .i64 l[k]) := (HBK.out.cell (p := ⟨ab, aoff + k, none⟩) hab).trans hcell
              have hkI : (k : Int) < (l.length : Int) := by omega
              have hen := entry_next s l[k] KK.out.i
              have ESD := hid (stepD_steps d s l[k])
              generalize l[k] = x at *
              have ST := hid (wStepS_any c KK.out (by omega) (by rw [HST.out]; omega) (by rw [HST.out]; omega) x)
              go_wp2_with fail
              refine ST.out.mono ?_
              rintro e w3 ⟨rfl, ⟨P', h', k3⟩, hb3⟩
              have K3 := hid k3
              have HB3 := hid (HBK.out.trans (hb3.mono HBB.out))
              clear k3 hb3 hcell' ST
              obtain ⟨_, tk, wt, _, ax⟩ := c.aux KK.out.k.pk
              have HLN := hid (entry_len KK.out.i KK.out.x.toExt0 x)
              have TS := hid (fun t ht => timely_step (d := d) KK.out.i KK.out.x ax x K3.out.x K3.out.wd.co.now t ht)
              have ASK := hid (step_ask (d := d) KK.out.i KK.out.x.toExt0 x)
              have WAS := hid (stepD_was KK.out.wd x)
              have hfew := K3.out.i.good.few
              clear ax
              go_wp2
              go_loopw [9] (fun i wr => ∃ t : Nat, t ≤ (R.entry s x).T.length ∧ i = .int .i64 t ∧ Below w3.heap.size w3 wr) (fun i _ => (R.entry s x).T.length - (intOf i).toNat)
              case atStart => exact ⟨0, Nat.zero_le _, rfl, Below.refl _ _⟩
              case round =>
                obtain ⟨t, ht, rfl, hbt⟩ := hrel
                have KT := hid (K3.out.below c.fr hbt)
                have HBT := hid hbt
                clear hbt
                obtain ⟨gv, cv, cw, hgv, _⟩ := KT.out.view
                by_cases htl : t < (R.entry s x).T.length
                · have htI : (t : Int) < ((R.entry s x).T.length : Int) := by omega
                  have y17 := KT.out.k.m.blk.cell 17
                  simp [wCells] at y17
                  obtain ⟨ts1, ts2⟩ := TS.out t (by rw [← HLN.out]; exact htl)
                  by_cases hw : (stepD d s x).who = (t : Int)
                  · have CB := hid (wBegan_any c KT.out WAS.out HLN.out.symm t htl hw (ts1 hw) (ASK.out (by rw [hw]; omega)))
                    rw [hw] at y17
                    clear ts1 ts2 hw
                    go_wp2_with fail
                    refine CB.out.mono ?_
                    rintro e w4 ⟨rfl, hb4⟩
                    have HB4 := hid (via HBT.out HBT.out.size hb4)
                    clear hb4 CB
                    go_wp2
                    go_roundw
                    case rel => exact ⟨t + 1, by omega, by go_num, HB4.out⟩
                    case measure => simp [intOf]; omega
                  · have CB := hid (wStays_any c KT.out WAS.out HLN.out.symm t htl (ts2 hw))
                    have hw' : ((t : Int) == (stepD d s x).who) = false := by rw [beq_eq_false_iff_ne]; exact fun e => hw e.symm
                    generalize (stepD d s x).who = who at *
                    clear ts1 ts2 hw
                    go_wp2_with fail
                    refine CB.out.mono ?_
                    rintro e w4 ⟨rfl, hb4⟩
                    have HB4 := hid (via HBT.out HBT.out.size hb4)
                    clear hb4 CB
                    go_wp2
                    go_roundw
                    case rel => exact ⟨t + 1, by omega, by go_num, HB4.out⟩
                    case measure => simp [intOf]; omega
                · have e : t = (R.entry s x).T.length := by omega
                  subst e
                  have HB4 := hid (via HB3.out HB3.out.size HBT.out)
                  go_wp2
                  go_roundw
                  case rel => exact ⟨k + 1, R.entry s x, stepD d s x, P', h', by omega, by go_num, KT.out, by omega, by rw [ESD.out, HST.out]; omega, HB4.out⟩
                  case measure => simp [intOf]; omega
            · have e : k = l.length := by omega
              subst e
              go_wp2
              go_ret
              exact ⟨rfl, HBK.out⟩
  · have hlI : (1099511627776 : Int) < (l.length : Int) := by omega
    go_wp2
    go_ret
    exact ⟨rfl, (Below.refl _ _).alloc (Nat.le_refl _) _⟩
end Go.Proofs.Ytbkfildnijjioab

/-
  Timely: the given statement out of the walk. (Written by wip/mkkeep.py.)
-/
namespace Go.Proofs.Ytbkfildnijjioab
open Go.ChangeShapes Go.WideShapes Go.ChangeAt Go.RowKit Go.Deep

set_option maxRecDepth 100000 in
theorem timely_lifted {PK : KP} (c : CAll PK) (cn : CNew PK (fun _ => True)) (os : Os) (started : os.Started) (H : Type) (enc : TypeId × Value → H) :
    ReturnsInHanded {} Try.checked os 6 .any (Rows.timelySpec.pre6 enc Try.prog Try.f6 Rows.timelyRow.domain false) (Rows.timelySpec.post enc Try.prog Try.f6 false true false false) := by
  refine returnsInHanded_of_change_sized (C := Try.checked) Try.own started (by kernel_rfl) Try.func6
    (ChangeSpec.witness6 (enc := enc) (C := Try.checked) false ⟨#[], #[.agg #[.int .i64 0, .int .i64 0, .slice none 0 0, .slice none 0 0, .slice none 0 0, .slice none 0 0], .slice none 0 0], []⟩ 8 (by kernel_rfl) (by kernel_rfl) (by kernel_rfl) (by kernel_rfl)) ?_
  intro W base args ds gs before hval0 hW _ hsz0 _
  have hval : ∀ (j : Nat) t v, Try.f6.params[j]? = some t → args[j]? = some v → Value.okWide Try.prog W .any base t v := hval0
  have hsz : (DataW.weightsEach Try.prog (Try.f6.params.toList ++ Rows.timelySpec.plain.varTypes Try.prog) (ds ++ gs)).all (· ≤ reachBytes) = true := hsz0
  have hW' := hW
  obtain ⟨p, q, hA0, hV, rfl, hfz, hnd⟩ := hW
  have hA : DataW.TrodAll enc Try.prog W 0 (fun _ => true) true Try.f6.params.toList args.toList ds p := hA0
  rw [Try.params6] at hA hval hsz
  obtain ⟨v0, v1, d0, d1, p0, p1, rfl, rfl, rfl, h0, h1⟩ := trodAll_two hA
  obtain ⟨rfl, rfl⟩ := trodVars_none hV
  clear hA0 hval0 hsz0
  have hlight : Light d0 27 := by
    intro n hn
    have := List.all_eq_true.1 hsz n (DataW.weights_mem_each (j := 0) rfl rfl n hn)
    simpa using this
  have hlight1 : Light d1 25 := by
    intro n hn
    have := List.all_eq_true.1 hsz n (DataW.weights_mem_each (j := 1) rfl rfl n hn)
    simpa using this
  obtain ⟨S, tv, mv, sv, qv, tc, mc, sc, qc, hv, hin, hfit, hnil⟩ := open_set (hval 0 27 v0 rfl rfl) h0 hlight
  subst hv
  obtain ⟨av, ac, l, hv, hil, hll⟩ := open_script (hval 1 25 v1 rfl rfl) h1 hlight1
  subst hv
  unfold reachBytes at hll
  simp only [List.append_nil] at hW'
  refine (lawTimely_any c cn tv mv sv qv av tc mc sc qc ac S l W hin hfit hnil hil (by omega)).mono fun e W' ⟨he, hb⟩ => ?_
  subst he
  refine ⟨_, rfl, _, _, _, [], p0 ++ p1, [], hW', ?_, ?_, rfl, hb.frame _, fun h => by cases h⟩
  · exact trodAll_mk1 (shut_bool Try.underlying4 _)
  · exact trodAll_mk2 (Below.trod Try.laidOut (by kernel_rfl) (of_decide_eq_true (by kernel_rfl)) h0 hb (fun x hx => hW'.lt x (by simp; exact .inl hx))) (Below.trod Try.laidOut (by kernel_rfl) (of_decide_eq_true (by kernel_rfl)) h1 hb (fun x hx => hW'.lt x (by simp; exact .inr hx)))

theorem timely_of {PK : KP} (c : CAll PK) (cn : CNew PK (fun _ => True)) : Rows.TimelySaid :=
  OpenClaim.holds_of_wide 6 Try.f6 rfl rfl rfl rfl rfl rfl rfl ⟨rfl, rfl, rfl, rfl, rfl⟩ rfl rfl rfl rfl rfl (by kernel_rfl) Try.func6 (by kernel_rfl)
    (of_decide_eq_true (by kernel_rfl)) (by unfold Func.isWrapper; first | (rw [if_pos (by decide +kernel)]; kernel_rfl) | (rw [if_neg (by decide +kernel)]; exact ⟨rfl, rfl⟩))
    (fun os started H enc _ => timely_lifted c cn os started H enc)

end Go.Proofs.Ytbkfildnijjioab

/-
  Timely, of this program.
-/
namespace Go.Proofs.Ytbkfildnijjioab

theorem timely_holds : Rows.TimelySaid := timely_of cAll cNew

end Go.Proofs.Ytbkfildnijjioab
