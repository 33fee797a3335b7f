import Derived.Test.YtbkfildnijjioabA15
import Derived.BigQuiet
import Derived.Test.YtbkfildnijjioabA12
import Derived.Test.YtbkfildnijjioabA02
/-
  Walks over package donatekeep: look.
-/
namespace Go.Proofs.Ytbkfildnijjioab
open Go.RowKit
/-- What is known of the threads is what the kernel's are. -/
structure Coh (d : WD) (s : RS) : Prop where
  set : d.set = s.set
  now : d.now = s.now
  base : d.base = s.T.map RT.base
  at_ : d.at_ = s.T.map RT.at_
  ended : d.ended = s.T.map RT.ended
theorem lookV_cells (s : RS) (t : Nat) (h : t < s.T.length) : R.lookV s (t : Int) = .agg #[.int .i64 (viewD s t).st, .int .i64 (viewD s t).base, .int .i64 (viewD s t).lv, .int .i64 (viewD s t).at_, .int .i64 (viewD s t).last, .int .i64 (viewD s t).got, .int .i64 (viewD s t).rel, .int .i64 (viewD s t).ended, .int .i64 (viewD s t).for_, .int .i64 (viewD s t).of_, .int .i64 (viewD s t).until_] := (lookV_viewD s t h).1
theorem take_viewsD (s : RS) (k : Nat) (h : k < s.T.length) : (viewsD s).take (k + 1) = (viewsD s).take k ++ [viewD s k] := by
  rw [List.take_succ_eq_append_getElem (by rw [viewsD_length]; exact h), viewsD_get]
section
variable {PK : KP} {B : Nat} {w w' : World} {wb kb : Nat} {P : Nat → Prop} {h : WH} {d : WD} {s : RS}
set_option maxRecDepth 100000 in
set_option maxHeartbeats 4000000 in
theorem wLook_any (c : CAll PK) (k : KW PK B w wb kb P h d s) (co : Coh d s) :
    Calls Try.prog 33 #[.pointer (some ⟨wb, 0, none⟩)] w fun e w' => e = .returned (.bool true) ∧ ∃ h', KW PK B w' wb kb P h' { d with was := d.views, views := viewsD s, run := R.running s } s ∧ Below B w w' := by
  have hinv := c.inv k.pk
  have hfew := hinv.good.few
  have HLEN := hid hinv.good.len
  have hw8 := hinv.good.wk1
  have hw0 := hinv.good.wk0
  have HINV := hid hinv
  have CO := hid co
  have c6 := k.m.blk.cell 6
  simp [wCells] at c6
  have K := hid k
  have hbz := k.m.bsz
  obtain ⟨i3, hi3, hz30, hz31, hz32⟩ := info_parts Try.infoView
  have HI3 := hid (And.intro hi3 (And.intro hz30 (And.intro hz31 hz32)))
  clear hi3 hz30 hz31 hz32 k co hinv
  go_enter Try.func33, Try.ntmps33
  go_wp2_with fail
  refine (c.now P w kb s K.out.pk).mono ?_
  rintro e w1 ⟨rfl, hb1⟩
  have K1 := hid (K.out.below c.fr hb1)
  have HB1 := hid hb1
  have hsz1 := hb1.size
  have c7 := K1.out.m.blk.cell 7
  simp [wCells] at c7
  rw [CO.out.now] at c7
  clear hb1 c6
  have hne : (s.now != s.now) = false := by simp
  go_wp2
  clear hne c7
  go_loopw [4, 5] (fun v i wr => ∃ n : Nat, n ≤ s.T.length ∧ i = .int .i64 n ∧ wr.ownsRow w1.heap.size 53 11 v n (vAll ((viewsD s).take n)) ∧ Below w1.heap.size w1 wr) (fun _ i _ => s.T.length - (intOf i).toNat)
  case atStart => exact ⟨0, Nat.zero_le _, rfl, World.ownsRow_nil _ _ _ _, Below.refl _ _⟩
  case round =>
    obtain ⟨n, hn, rfl, hrow, hb⟩ := hrel
    have ROW := hid hrow
    have HB := hid hb
    have hsz := hb.size
    have K2 := hid (K1.out.below c.fr hb)
    clear hrow hb
    have c2 := K2.out.m.blk.cell 2
    have c6 := K2.out.m.blk.cell 6
    simp [wCells] at c2 c6
    rw [CO.out.set, ← HLEN.out] at c2
    by_cases hlt : n < s.T.length
    · have hltI : (n : Int) < (s.T.length : Int) := by omega
      have C1 := hid (c.look P wr kb s K2.out.pk (n : Int))
      rw [lookV_cells s n hlt, (lookV_viewD s n hlt).2] at C1
      have eB : d.base[n]'(by rw [CO.out.base]; simpa using hlt) = (viewD s n).base := by simp [CO.out.base, viewD, th_ext hlt]
      have eA : d.at_[n]'(by rw [CO.out.at_]; simpa using hlt) = (viewD s n).at_ := by simp [CO.out.at_, viewD, th_ext hlt]
      have eE : d.ended[n]'(by rw [CO.out.ended]; simpa using hlt) = (viewD s n).ended := by simp [CO.out.ended, viewD, th_ext hlt]
      have eR : R.relBy d.set n d.now = (viewD s n).rel := by
        rw [CO.out.set, CO.out.now, ← (HINV.out.thr n hlt).r0]
        simp [viewD, th_ext hlt]
      have EB := hid eB
      have EA := hid eA
      have EE := hid eE
      have ER := hid eR
      clear eB eA eE eR
      have ET := hid (take_viewsD s n hlt)
      generalize viewD s n = x at *
      go_wp2_with fail
      refine C1.out.mono ?_
      rintro e w3 ⟨rfl, hb3⟩
      have HB3 := hid (via HB.out HB.out.size hb3)
      have K3 := hid (K2.out.below c.fr hb3)
      have ROW3 := hid (ownsRow_same (w' := w3) ROW.out fun g hg => hb3.block g (ownsRow_block ROW.out hg).2.1)
      have hsz3 := hb3.size
      clear hb3 c2 c6 C1 ROW
      go_upto_region 9 with fail
      have hbA : Below w3.heap.size w3 (w3.alloc (.cells #[.int .i64 x.st, .int .i64 x.base, .int .i64 x.lv, .int .i64 x.at_, .int .i64 x.last, .int .i64 x.got, .int .i64 x.rel, .int .i64 x.ended, .int .i64 x.for_, .int .i64 x.of_, .int .i64 x.until_] 53)) := (Below.refl _ _).alloc (Nat.le_refl _) _
      have bA := Blk.new w3 #[.int .i64 x.st, .int .i64 x.base, .int .i64 x.lv, .int .i64 x.at_, .int .i64 x.last, .int .i64 x.got, .int .i64 x.rel, .int .i64 x.ended, .int .i64 x.for_, .int .i64 x.of_, .int .i64 x.until_] 53
      generalize w3.alloc (.cells #[.int .i64 x.st, .int .i64 x.base, .int .i64 x.lv, .int .i64 x.at_, .int .i64 x.last, .int .i64 x.got, .int .i64 x.rel, .int .i64 x.ended, .int .i64 x.for_, .int .i64 x.of_, .int .i64 x.until_] 53) = wA at hbA bA ⊢
      have KA := hid (K3.out.below c.fr hbA)
      have HBA := hid (via HB3.out HB3.out.size hbA)
      have ROWA := hid (ownsRow_same (w' := wA) ROW3.out fun g hg => hbA.block g (ownsRow_block ROW3.out hg).2.1)
      have BA := hid bA
      have hszA := hbA.size
      clear hbA bA K2 K3 ROW3
      have DU := hid (wDue_any KA.out.m (by rw [CO.out.set, CO.out.now]; exact HINV.out.due) n (by rw [CO.out.set, ← HLEN.out]; exact hlt))
      rw [ER.out] at DU
      go_wp2_with fail
      refine DU.out.mono ?_
      rintro e w4 ⟨rfl, hb4⟩
      have K4 := hid (KA.out.below c.fr hb4)
      have HB4 := hid (via HBA.out HBA.out.size hb4)
      have ROW4 := hid (ownsRow_same (w' := w4) ROWA.out fun g hg => hb4.block g (ownsRow_block ROWA.out hg).2.1)
      have B4 := hid (show Blk w4 w3.heap.size #[.int .i64 x.st, .int .i64 x.base, .int .i64 x.lv, .int .i64 x.at_, .int .i64 x.last, .int .i64 x.got, .int .i64 x.rel, .int .i64 x.ended, .int .i64 x.for_, .int .i64 x.of_, .int .i64 x.until_] 53 from by
        have h1 := BA.out
        have hl := BA.out.lt
        unfold Blk at h1 ⊢
        rw [hb4.block _ hl]
        exact h1)
      have hsz4 := hb4.size
      have hlt4 := B4.out.lt
      clear hb4 DU KA ROWA BA
      have x0 := B4.out.cell 0
      have x1 := B4.out.cell 1
      have x2 := B4.out.cell 2
      have x3 := B4.out.cell 3
      have x4 := B4.out.cell 4
      have x5 := B4.out.cell 5
      have x6 := B4.out.cell 6
      have x7 := B4.out.cell 7
      have x8 := B4.out.cell 8
      have x9 := B4.out.cell 9
      have x10 := B4.out.cell 10
      simp at x0 x1 x2 x3 x4 x5 x6 x7 x8 x9 x10
      have y8 := K4.out.m.blk.cell 8
      have y9 := K4.out.m.blk.cell 9
      have y10 := K4.out.m.blk.cell 10
      simp [wCells] at y8 y9 y10
      obtain ⟨aB, cB, hvB, _, hiB, _⟩ := IntsIn.of_owns K4.out.m.base
      obtain ⟨aA, cA, hvA, _, hiA, _⟩ := IntsIn.of_owns K4.out.m.at_
      obtain ⟨aE, cE, hvE, _, hiE, _⟩ := IntsIn.of_owns K4.out.m.ended
      obtain ⟨gB, oB, hgB, _, zB⟩ := hiB n (by rw [CO.out.base]; simpa using hlt)
      obtain ⟨gA, oA, hgA, _, zA⟩ := hiA n (by rw [CO.out.at_]; simpa using hlt)
      obtain ⟨gE, oE, hgE, _, zE⟩ := hiE n (by rw [CO.out.ended]; simpa using hlt)
      rw [EB.out] at zB
      rw [EA.out] at zA
      rw [EE.out] at zE
      rw [hvB, hgB] at y8
      rw [hvA, hgA] at y9
      rw [hvE, hgE] at y10
      have lB : d.base.length = s.T.length := by rw [CO.out.base]; simp
      have lA : d.at_.length = s.T.length := by rw [CO.out.at_]; simp
      have lE : d.ended.length = s.T.length := by rw [CO.out.ended]; simp
      rw [lB] at y8
      rw [lA] at y9
      rw [lE] at y10
      have n1 : (x.base != x.base) = false := by simp
      have n2 : (x.at_ != x.at_) = false := by simp
      have n3 : (x.ended != x.ended) = false := by simp
      have n4 : (x.rel != x.rel) = false := by simp
      clear hiB hiA hiE hvB hvA hvE hgB hgA hgE lB lA lE
      go_wp2_with fail
      go_quiet (fail)
      have ROWQ := hid (ownsRow_same (w' := w4.drewN nq) ROW4.out fun _ _ => rfl)
      have HBQ := hid (bdrewN HB4.out nq)
      have hszQ : w1.heap.size ≤ (w4.drewN nq).heap.size := HBQ.out.size
      have x0 : (w4.drewN nq).cell? ⟨w3.heap.size, 0, none⟩ = some (.int .i64 x.st) := x0
      have x1 : (w4.drewN nq).cell? ⟨w3.heap.size, 1, none⟩ = some (.int .i64 x.base) := x1
      have x2 : (w4.drewN nq).cell? ⟨w3.heap.size, 2, none⟩ = some (.int .i64 x.lv) := x2
      have x3 : (w4.drewN nq).cell? ⟨w3.heap.size, 3, none⟩ = some (.int .i64 x.at_) := x3
      have x4 : (w4.drewN nq).cell? ⟨w3.heap.size, 4, none⟩ = some (.int .i64 x.last) := x4
      have x5 : (w4.drewN nq).cell? ⟨w3.heap.size, 5, none⟩ = some (.int .i64 x.got) := x5
      have x6 : (w4.drewN nq).cell? ⟨w3.heap.size, 6, none⟩ = some (.int .i64 x.rel) := x6
      have x7 : (w4.drewN nq).cell? ⟨w3.heap.size, 7, none⟩ = some (.int .i64 x.ended) := x7
      have x8 : (w4.drewN nq).cell? ⟨w3.heap.size, 8, none⟩ = some (.int .i64 x.for_) := x8
      have x9 : (w4.drewN nq).cell? ⟨w3.heap.size, 9, none⟩ = some (.int .i64 x.of_) := x9
      have x10 : (w4.drewN nq).cell? ⟨w3.heap.size, 10, none⟩ = some (.int .i64 x.until_) := x10
      clear ROW4 HB4 K4 B4 y8 y9 y10 zB zA zE n1 n2 n3 n4
      generalize w4.drewN nq = w5 at *
      go_wp2_with (at_builtin; refine wpList_append_src rfl (.tmp 88) (.tmp 90) 44 rfl w1.heap.size 53 i3 (.agg #[.int .i64 0, .int .i64 0, .int .i64 0, .int .i64 0, .int .i64 0, .int .i64 0, .int .i64 0, .int .i64 0, .int .i64 0, .int .i64 0, .int .i64 0]) 11 88 Try.underlying44 HI3.out.1 HI3.out.2.1 HI3.out.2.2.1 HI3.out.2.2.2 rfl (by decide) u4 n (vAll ((viewsD s).take n)) rfl (ROWQ.out.alloc _) (some ⟨w5.heap.size, 0, none⟩) 1 1 [.int .i64 x.st, .int .i64 x.base, .int .i64 x.lv, .int .i64 x.at_, .int .i64 x.last, .int .i64 x.got, .int .i64 x.rel, .int .i64 x.ended, .int .i64 x.for_, .int .i64 x.of_, .int .i64 x.until_] rfl rfl (fun h => (by cases h)) (fun j u hj => ⟨_, rfl, (by rw [Addr.add_lit, Nat.zero_add, (Blk.new w5 #[.int .i64 x.st, .int .i64 x.base, .int .i64 x.lv, .int .i64 x.at_, .int .i64 x.last, .int .i64 x.got, .int .i64 x.rel, .int .i64 x.ended, .int .i64 x.for_, .int .i64 x.of_, .int .i64 x.until_] 53).cell]; simpa using hj)⟩) (vCells_one x) (by unfold maxLen; omega) (by omega) (by simp; omega) ?_; intro v' w6 hown6 hg6; have O6 := hid hown6; have G6 := hid hg6; clear hown6 hg6)
      go_roundw
      case rel => exact ⟨n + 1, by omega, by go_num, by rw [ET.out, vAll_append]; simpa [vAll, vCells] using O6.out, (HBQ.out.alloc hszQ _).grown G6.out (by simp; omega) (fun g hg => (ownsRow_block ROWQ.out hg).1)⟩
      case measure => simp [intOf]; omega
    · have e : n = s.T.length := by omega
      subst e
      have HVL := hid (viewsD_length s)
      obtain ⟨av, ca, rfl, _, _⟩ := owns_cells ROW.out
      have hrow2 : wr.ownsRow w1.heap.size 53 11 (.slice av s.T.length ca) (viewsD s).length (vAll (viewsD s)) := by
        have := ROW.out
        rw [List.take_of_length_le (by rw [HVL.out]; exact Nat.le_refl _)] at this
        rw [HVL.out]
        exact this
      have ROW2 := hid hrow2
      have y12 := K2.out.m.blk.cell 12
      have y14 := K2.out.m.blk.cell 14
      have z14 := K2.out.m.blk.frozen 14
      simp [wCells] at y12 y14
      obtain ⟨aV, cV, hvV, _, _⟩ := owns_cells K2.out.m.views
      obtain ⟨aW, cW, hvW, _, _⟩ := owns_cells K2.out.m.was
      obtain ⟨h1, k1⟩ := K2.out.setWas c.fr
      rw [hvV] at y12 k1
      rw [hvW] at y14
      have KS1 := hid k1
      have PLT := hid (c.fr.lt K.out.pk)
      have HBS1 := hid ((via (HB1.out.mono hbz) (by omega) HB.out).setCell (p := ⟨wb, 14, none⟩) K.out.m.hb (.slice aV d.views.length cV))
      have ROWS1 := hid (ownsRow_same (w' := wr.setCell ⟨wb, 14, none⟩ (.slice aV d.views.length cV)) ROW2.out fun g hg => Below.heap_setCell _ _ _ _ (fun e => by
        have e' : g = wb := e
        have := (ownsRow_block ROW2.out hg).1
        have := K1.out.m.blk.lt
        omega))
      have hszS1 : (wr.setCell ⟨wb, 14, none⟩ (.slice aV d.views.length cV)).heap.size = wr.heap.size := by simp [World.setCell]
      clear k1 hvV hvW hrow2 ROW
      go_upto_region 14 with fail
      generalize wr.setCell ⟨wb, 14, none⟩ (.slice aV d.views.length cV) = wS1 at KS1 HBS1 ROWS1 hszS1 ⊢
      clear y12 y14 z14 c2 c6
      have y12 := KS1.out.m.blk.cell 12
      have z12 := KS1.out.m.blk.frozen 12
      simp [wCells] at y12
      obtain ⟨aV, cV, hvV, _, _⟩ := owns_cells KS1.out.m.views
      rw [hvV] at y12
      obtain ⟨h2, k2⟩ := KS1.out.setViews c.fr (ownsRow_mono ROWS1.out (by omega)) (fun g hg hpg => by
        have := (ownsRow_block ROWS1.out hg).1
        have := PLT.out g hpg
        omega)
      have KS2 := hid k2
      have HBS2 := hid (HBS1.out.setCell (p := ⟨wb, 12, none⟩) K.out.m.hb (.slice av s.T.length ca))
      have hszS2 : (wS1.setCell ⟨wb, 12, none⟩ (.slice av s.T.length ca)).heap.size = wS1.heap.size := by simp [World.setCell]
      clear k2 hvV
      go_upto_region 15 with fail
      generalize wS1.setCell ⟨wb, 12, none⟩ (.slice av s.T.length ca) = wS2 at KS2 HBS2 hszS2 ⊢
      clear y12 z12 KS1 HBS1 ROWS1
      have y6 := KS2.out.m.blk.cell 6
      simp [wCells] at y6
      go_wp2_with fail
      have KLT := hid KS2.out.m.lt
      refine (c.run P wS2 kb s KS2.out.pk).mono ?_
      rintro e w5 ⟨v, rfl, ho5, hb5⟩
      have K5 := hid (KS2.out.below c.fr hb5)
      have HB5 := hid (HBS2.out.trans (hb5.mono (by omega)))
      have hsz5 := hb5.size
      obtain ⟨ar, cr, rfl, _, hi5, _⟩ := IntsIn.of_owns ho5
      have O5 := hid ho5
      have HI5 := hid hi5
      have hrl : s.set.workers = ((R.running s).length : Int) := by rw [running_len]; omega
      have hr8 : (R.running s).length ≤ 8 := by rw [running_len]; omega
      have HRB : Hid (∀ j (hj : j < (R.running s).length), -1 ≤ (R.running s)[j] ∧ (R.running s)[j] < s.T.length) := by
        intro j hj
        have e : (R.running s)[j] = R.on s.T (j : Int) := by simp [R.running]
        rw [e]
        exact R.on_bd s.T j
      generalize hrl0 : R.running s = rl at *
      have ERL := hid hrl0
      clear hrl0
      clear hb5 ho5 hi5 y6 KS2 HBS2
      have y0 := K5.out.m.blk.cell 0
      simp [wCells] at y0
      rw [CO.out.set, hrl] at y0
      have hne : ((rl.length : Int) != (rl.length : Int)) = false := by simp
      go_wp2
      clear hne
      go_loopw [10] (fun i wr => ∃ n : Nat, n ≤ rl.length ∧ i = .int .i64 n ∧ Below w5.heap.size w5 wr) (fun i _ => rl.length - (intOf i).toNat)
      case atStart => exact ⟨0, Nat.zero_le _, rfl, Below.refl _ _⟩
      case round =>
        obtain ⟨n, hn, rfl, hb6⟩ := hrel
        have K6 := hid (K5.out.below c.fr hb6)
        have HB6 := hid (HB5.out.trans (hb6.mono (by omega)))
        have O6 := hid (ownsRow_same (w' := wr) O5.out fun g hg => hb6.block g (ownsRow_block O5.out hg).2.1)
        have HI6 := hid (HI5.out.on hb6)
        have HBR := hid hb6
        have hsz6 := hb6.size
        clear hb6
        have y2 := K6.out.m.blk.cell 2
        simp [wCells] at y2
        rw [CO.out.set, ← HLEN.out] at y2
        by_cases hlt : n < rl.length
        · obtain ⟨gb, go, rfl, hgl, zc⟩ := HI6.out n hlt
          obtain ⟨b0, b1⟩ := HRB.out n hlt
          have hltI : (n : Int) < (rl.length : Int) := by omega
          generalize rl[n] = rn at *
          have n1 : decide (rn < -1) = false := by simp; omega
          have n2 : decide ((s.T.length : Int) ≤ rn) = false := by simp; omega
          go_wp2_with fail
          go_quiet (fail)
          go_wp2
          go_roundw
          case rel => exact ⟨n + 1, by omega, by go_num, bdrewN HBR.out _⟩
          case measure => simp [intOf]; omega
        · have y13 := K6.out.m.blk.cell 13
          have z13 := K6.out.m.blk.frozen 13
          simp [wCells] at y13
          obtain ⟨aR, cR, hvR, _, _⟩ := owns_cells K6.out.m.run
          rw [hvR] at y13
          obtain ⟨h3, k3⟩ := K6.out.setRun c.fr (ownsRow_mono O6.out (by omega)) (fun g hg => ⟨fun hpg => by
            have := (ownsRow_block O6.out hg).1
            have := PLT.out g hpg
            omega, fun hwg => by
            have := (ownsRow_block O6.out hg).1
            have := KLT.out g hwg
            omega⟩)
          have K7 := hid k3
          have HB7 := hid (HB6.out.setCell (p := ⟨wb, 13, none⟩) K.out.m.hb (.slice ar rl.length cr))
          clear k3
          go_wp2
          go_ret
          exact ⟨rfl, ⟨h3, by rw [ERL.out]; exact K7.out⟩, HB7.out⟩
end
end Go.Proofs.Ytbkfildnijjioab

/-
  The world in memory: a number of one of its lists is written.
-/
namespace Go.Proofs.Ytbkfildnijjioab
open Go.RowKit
section
variable {Q : Nat → Prop} {w0 w1 w2 : World}
theorem Turns.thn (h : Turns Q w0 w1) (k : Turns Q w1 w2) : Turns Q w0 w2 := h.trans k fun _ hb => .inl hb
theorem Turns.drewN (h : Turns Q w0 w1) (n : Nat) : Turns Q w0 (w1.drewN n) := ⟨h.os, h.tape, h.output, h.size, h.block⟩
theorem Turns.put (h : Turns Q w0 w1) {p : Addr} (hp : Q p.block) (u : Value) : Turns Q w0 (w1.setCell p u) := by
  refine ⟨h.os, h.tape, h.output, by simpa [World.setCell] using h.size, fun k hk hc => ?_⟩
  rw [Below.heap_setCell _ _ _ _ (fun e => hc (by rw [e]; exact hp))]
  exact h.block k hk hc
theorem Turns.since {B : Nat} (h : Turns Q w0 w1) (h1 : B ≤ w0.heap.size) (h2 : ∀ b, Q b → B ≤ b) : Below B w0 w1 := ⟨h.os, h.tape, h.output, h.size, fun k hk => h.block k (by omega) (fun e => by have := h2 k e; omega)⟩
end
section
variable {PK : KP} {B : Nat} {w w' : World} {wb kb : Nat} {P : Nat → Prop} {h : WH} {d : WD} {s : RS}
theorem KW.inRow (f : KFrame PK) (k : KW PK B w wb kb P h d s) {g cap : Nat} {l : List Int} (row : w.ownsRow B 3 1 (.slice (some ⟨g, 0, none⟩) l.length cap) l.length (intCells l)) (hW : WB wb h g) (i : Nat) (x : Int) :
    (w.setCell ⟨g, i, none⟩ (.int .i64 x)).ownsRow B 3 1 (.slice (some ⟨g, 0, none⟩) l.length cap) (l.set i x).length (intCells (l.set i x)) ∧ PK P (w.setCell ⟨g, i, none⟩ (.int .i64 x)) kb s ∧ Below B w (w.setCell ⟨g, i, none⟩ (.int .i64 x)) ∧
    Blk (w.setCell ⟨g, i, none⟩ (.int .i64 x)) wb (wCells kb h d) 49 ∧
    (∀ (e : TypeId) (size n : Nat) (u : Value) (xs : List Value), w.ownsRow B e size u n xs → (e ≠ 3 ∨ u.ownBlock ≠ some g) → (w.setCell ⟨g, i, none⟩ (.int .i64 x)).ownsRow B e size u n xs) := by
  have hg : (Value.slice (some ⟨g, 0, none⟩) l.length cap).ownBlock = some g := rfl
  have hge := k.m.ge g hW
  refine ⟨?_, f.frame k.pk (fun b hb => Below.heap_setCell _ _ _ _ (fun e => ?_)) (by simp [World.setCell]), (Below.refl _ _).setCell (p := ⟨g, i, none⟩) hge _, ?_, fun e size n u xs ho hne => ownsRow_same ho fun g' hg' => Below.heap_setCell _ _ _ _ (fun e' => ?_)⟩
  · have := (row.stored i (.int .i64 x)).1
    rw [intCells_set] at this
    rw [List.length_set]
    exact this
  · have e' : b = g := e
    subst e'
    exact k.np b hb hW
  · refine k.m.blk.other (p := ⟨g, i, none⟩) (fun e => ?_) _
    have e' : wb = g := e
    exact k.m.wb_ne row (by decide) (by rw [e']; rfl)
  · have e2 : g' = g := e'
    subst e2
    rcases hne with h1 | h1
    · obtain ⟨_, _, cur, hc⟩ := ownsRow_block ho hg'
      obtain ⟨_, _, cur', hc'⟩ := ownsRow_block row hg
      rw [hc] at hc'
      cases hc'
      exact h1 rfl
    · exact h1 hg'
theorem KW.setAt (f : KFrame PK) (k : KW PK B w wb kb P h d s) {g cap : Nat} (hv : h.vA = .slice (some ⟨g, 0, none⟩) d.at_.length cap) (i : Nat) (x : Int) : KW PK B (w.setCell ⟨g, i, none⟩ (.int .i64 x)) wb kb P h { d with at_ := d.at_.set i x } s ∧ Turns (WB wb h) w (w.setCell ⟨g, i, none⟩ (.int .i64 x)) := by
  have hg : h.vA.ownBlock = some g := by rw [hv]; rfl
  obtain ⟨h1, h2, h3, h4, h5⟩ := k.inRow f (l := d.at_) (cap := cap) (by rw [← hv]; exact k.m.at_) (.inr (.inr (.inl hg))) i x
  have a := k.m.apt
  refine ⟨⟨⟨h4, k.m.set.stays h3, h5 _ _ _ _ _ k.m.base (.inr (a.ba.symm g hg)), by rw [hv]; exact h1, h5 _ _ _ _ _ k.m.ended (.inr (a.ae g hg)), h5 _ _ _ _ _ k.m.since (.inr (a.as_ g hg)), h5 _ _ _ _ _ k.m.views (.inl (by decide)), h5 _ _ _ _ _ k.m.run (.inr (a.ar g hg)), h5 _ _ _ _ _ k.m.was (.inl (by decide)), h5 _ _ _ _ _ k.m.told (.inl (by decide)), a, k.m.hb⟩, h2, k.hp, k.np⟩, (Turns.refl _ _).put (p := ⟨g, i, none⟩) (.inr (.inr (.inl hg))) _⟩
theorem KW.setBase (f : KFrame PK) (k : KW PK B w wb kb P h d s) {g cap : Nat} (hv : h.vB = .slice (some ⟨g, 0, none⟩) d.base.length cap) (i : Nat) (x : Int) : KW PK B (w.setCell ⟨g, i, none⟩ (.int .i64 x)) wb kb P h { d with base := d.base.set i x } s ∧ Turns (WB wb h) w (w.setCell ⟨g, i, none⟩ (.int .i64 x)) := by
  have hg : h.vB.ownBlock = some g := by rw [hv]; rfl
  obtain ⟨h1, h2, h3, h4, h5⟩ := k.inRow f (l := d.base) (cap := cap) (by rw [← hv]; exact k.m.base) (.inr (.inl hg)) i x
  have a := k.m.apt
  refine ⟨⟨⟨h4, k.m.set.stays h3, by rw [hv]; exact h1, h5 _ _ _ _ _ k.m.at_ (.inr (a.ba g hg)), h5 _ _ _ _ _ k.m.ended (.inr (a.be g hg)), h5 _ _ _ _ _ k.m.since (.inr (a.bs g hg)), h5 _ _ _ _ _ k.m.views (.inl (by decide)), h5 _ _ _ _ _ k.m.run (.inr (a.br g hg)), h5 _ _ _ _ _ k.m.was (.inl (by decide)), h5 _ _ _ _ _ k.m.told (.inl (by decide)), a, k.m.hb⟩, h2, k.hp, k.np⟩, (Turns.refl _ _).put (p := ⟨g, i, none⟩) (.inr (.inl hg)) _⟩
theorem KW.setEnded (f : KFrame PK) (k : KW PK B w wb kb P h d s) {g cap : Nat} (hv : h.vE = .slice (some ⟨g, 0, none⟩) d.ended.length cap) (i : Nat) (x : Int) : KW PK B (w.setCell ⟨g, i, none⟩ (.int .i64 x)) wb kb P h { d with ended := d.ended.set i x } s ∧ Turns (WB wb h) w (w.setCell ⟨g, i, none⟩ (.int .i64 x)) := by
  have hg : h.vE.ownBlock = some g := by rw [hv]; rfl
  obtain ⟨h1, h2, h3, h4, h5⟩ := k.inRow f (l := d.ended) (cap := cap) (by rw [← hv]; exact k.m.ended) (.inr (.inr (.inr (.inl hg)))) i x
  have a := k.m.apt
  refine ⟨⟨⟨h4, k.m.set.stays h3, h5 _ _ _ _ _ k.m.base (.inr (a.be.symm g hg)), h5 _ _ _ _ _ k.m.at_ (.inr (a.ae.symm g hg)), by rw [hv]; exact h1, h5 _ _ _ _ _ k.m.since (.inr (a.es g hg)), h5 _ _ _ _ _ k.m.views (.inl (by decide)), h5 _ _ _ _ _ k.m.run (.inr (a.er g hg)), h5 _ _ _ _ _ k.m.was (.inl (by decide)), h5 _ _ _ _ _ k.m.told (.inl (by decide)), a, k.m.hb⟩, h2, k.hp, k.np⟩, (Turns.refl _ _).put (p := ⟨g, i, none⟩) (.inr (.inr (.inr (.inl hg)))) _⟩
theorem KW.setSince (f : KFrame PK) (k : KW PK B w wb kb P h d s) {g cap : Nat} (hv : h.vS = .slice (some ⟨g, 0, none⟩) d.since.length cap) (i : Nat) (x : Int) : KW PK B (w.setCell ⟨g, i, none⟩ (.int .i64 x)) wb kb P h { d with since := d.since.set i x } s ∧ Turns (WB wb h) w (w.setCell ⟨g, i, none⟩ (.int .i64 x)) := by
  have hg : h.vS.ownBlock = some g := by rw [hv]; rfl
  obtain ⟨h1, h2, h3, h4, h5⟩ := k.inRow f (l := d.since) (cap := cap) (by rw [← hv]; exact k.m.since) (.inr (.inr (.inr (.inr (.inl hg))))) i x
  have a := k.m.apt
  refine ⟨⟨⟨h4, k.m.set.stays h3, h5 _ _ _ _ _ k.m.base (.inr (a.bs.symm g hg)), h5 _ _ _ _ _ k.m.at_ (.inr (a.as_.symm g hg)), h5 _ _ _ _ _ k.m.ended (.inr (a.es.symm g hg)), by rw [hv]; exact h1, h5 _ _ _ _ _ k.m.views (.inl (by decide)), h5 _ _ _ _ _ k.m.run (.inr (a.sr g hg)), h5 _ _ _ _ _ k.m.was (.inl (by decide)), h5 _ _ _ _ _ k.m.told (.inl (by decide)), a, k.m.hb⟩, h2, k.hp, k.np⟩, (Turns.refl _ _).put (p := ⟨g, i, none⟩) (.inr (.inr (.inr (.inr (.inl hg))))) _⟩
/-- A list of numbers: its block, its cells. -/
theorem row_at {w : World} {B : Nat} {v : Value} {l : List Int} (r : w.ownsRow B 3 1 v l.length (intCells l)) (hl : 0 < l.length) : ∃ g cap, v = .slice (some ⟨g, 0, none⟩) l.length cap ∧ g < w.heap.size ∧ (∀ i (hi : i < l.length), w.cell? ⟨g, i, none⟩ = some (.int .i64 l[i])) ∧ ∀ i, w.frozen? ⟨g, i, none⟩ = false := by
  obtain ⟨ao, cap, rfl, hn, ha⟩ := owns_cells r
  cases ao with
  | none => have := (hn rfl).1; omega
  | some a =>
    obtain ⟨g, rfl, _, hlt, _, hc⟩ := ha a rfl
    refine ⟨g, cap, rfl, hlt, fun i hi => ?_, fun i => ?_⟩
    · rw [hc i (by omega)]
      simp [intCells, hi]
    · exact r.frozenAt i
end
end Go.Proofs.Ytbkfildnijjioab

/-
  Walks over package donatekeep: does. (Written by wip/mkdoes.py.)
-/
namespace Go.Proofs.Ytbkfildnijjioab
open Go.RowKit
/-- What 'does' makes of the world: thread t did instruction ii, which ended with c. -/
def doesA (d : WD) (t : Nat) (ii : InstrD) (c : Int) : WD := { d with who := (t : Int), i := ii, code := c, at_ := d.at_.set t (d.at_.getD t 0 + 1) }
def doesB (d : WD) (t : Nat) (ii : InstrD) : WD :=
  if ii.op = 0 then { d with at_ := d.at_.set t 0, ended := d.ended.set t (d.ended.getD t 0 + 1) }
  else if ii.op = 3 then (if (d.views.getD t v0).last = ii.a then { d with at_ := d.at_.set t ii.b } else d)
  else if ii.op = 4 then { d with base := d.base.set ii.a.toNat ii.b } else d
def doesS (d : WD) (t : Nat) (c : Int) : WD := if c = 1 then { d with since := d.since.set t d.steps } else d
def doesD (d : WD) (t : Nat) (ii : InstrD) (c : Int) : WD := doesS (doesB (doesA d t ii c) t ii) t c
section
variable {PK : KP} {B : Nat} {w w' : World} {wb kb : Nat} {P : Nat → Prop} {h : WH} {d : WD} {s : RS}
set_option maxRecDepth 100000 in
set_option maxHeartbeats 8000000 in
theorem wDoes_any (c : CAll PK) (k : KW PK B w wb kb P h d s) (N : Nat) (hN : N ≤ 16) (hl0 : d.set.threads.length = N) (hl1 : d.base.length = N) (hl2 : d.at_.length = N) (hl3 : d.ended.length = N) (hl4 : d.since.length = N) (hl5 : d.views.length = N)
    (t : Nat) (ht : t < N) (n : Nat) (hn : d.at_.getD t 0 = (n : Int)) (hn32 : n ≤ 1000) (he0 : 0 ≤ d.ended.getD t 0) (he1 : d.ended.getD t 0 ≤ 2000000000) (ha : (codeAt d.set t n).op = 4 → 0 ≤ (codeAt d.set t n).a ∧ (codeAt d.set t n).a < N) (cd : Int) :
    Calls Try.prog 63 #[.pointer (some ⟨wb, 0, none⟩), .int .i64 t, .int .i64 cd] w fun e w' => e = .returned (.tuple #[]) ∧ KW PK B w' wb kb P h (doesD d t (codeAt d.set t n) cd) s ∧ Turns (WB wb h) w w' := by
  have K := hid k
  have HL0 := hid hl0
  have HL1 := hid hl1
  have HL2 := hid hl2
  have HL3 := hid hl3
  have HL4 := hid hl4
  have HL5 := hid hl5
  have HNN := hid hn
  have hbz := k.m.bsz
  have hwl := k.m.blk.lt
  have y9 := k.m.blk.cell 9
  simp [wCells] at y9
  obtain ⟨gA, cA, hvA, hgA, zA, fA⟩ := row_at k.m.at_ (by omega)
  rw [hvA, hl2] at y9
  have zAt := zA t (by omega)
  have eAt : d.at_[t]'(by omega) = (n : Int) := by rw [← hn]; simp [List.getD, hl2, ht]
  rw [eAt] at zAt
  have HVA := hid hvA
  have FE := hid (wFetch_any k.m t (by omega) n)
  clear k hl0 hl1 hl2 hl3 hl4 hl5 hn hvA zA fA eAt
  generalize hii : codeAt d.set t n = ii at *
  have HII := hid hii
  clear hii
  have htI : (t : Int) < (N : Int) := by omega
  go_enter Try.func63, Try.ntmps63
  go_wp2_with fail
  refine FE.out.mono ?_
  rintro e w1 ⟨rfl, hb1⟩
  have K1 := hid (K.out.below c.fr hb1)
  have HB1 : Hid (Turns (WB wb h) w w1) := Turns.of_below hb1
  have hsz1 := hb1.size
  clear hb1 FE y9 zAt
  go_upto_region 2 with fail
  have hbA : Below w1.heap.size w1 (w1.alloc (.cells #[.int .i64 ii.op, .int .i64 ii.a, .int .i64 ii.b] 46)) := (Below.refl _ _).alloc (Nat.le_refl _) _
  have bA := Blk.new w1 #[.int .i64 ii.op, .int .i64 ii.a, .int .i64 ii.b] 46
  generalize w1.alloc (.cells #[.int .i64 ii.op, .int .i64 ii.a, .int .i64 ii.b] 46) = wA at hbA bA ⊢
  have KA := hid (K1.out.below c.fr hbA)
  have HBA := hid (HB1.out.thn (Turns.of_below hbA))
  have BA := hid bA
  have hszA := hbA.size
  have x0 := bA.cell 0
  have x1 := bA.cell 1
  have x2 := bA.cell 2
  simp at x0 x1 x2
  clear hbA bA K1 HB1
  have y17 := KA.out.m.blk.cell 17
  have y18 := KA.out.m.blk.cell 18
  have y19 := KA.out.m.blk.cell 19
  have y20 := KA.out.m.blk.cell 20
  have y21 := KA.out.m.blk.cell 21
  have z17 := KA.out.m.blk.frozen 17
  have z18 := KA.out.m.blk.frozen 18
  have z19 := KA.out.m.blk.frozen 19
  have z20 := KA.out.m.blk.frozen 20
  have z21 := KA.out.m.blk.frozen 21
  simp [wCells] at y17 y18 y19 y20 y21
  have hwne : wb ≠ w1.heap.size := by omega
  have q1 := KA.out.setOne c.fr 17 (.int .i64 (t : Int)) { d with who := (t : Int) } (by simp [wCells]) rfl rfl rfl rfl rfl rfl rfl rfl rfl
  have q2 := q1.setOne c.fr 18 (.int .i64 ii.op) { d with who := (t : Int), i := ⟨ii.op, d.i.a, d.i.b⟩ } (by simp [wCells]) rfl rfl rfl rfl rfl rfl rfl rfl rfl
  have q3 := q2.setOne c.fr 19 (.int .i64 ii.a) { d with who := (t : Int), i := ⟨ii.op, ii.a, d.i.b⟩ } (by simp [wCells]) rfl rfl rfl rfl rfl rfl rfl rfl rfl
  have q4 := q3.setOne c.fr 20 (.int .i64 ii.b) { d with who := (t : Int), i := ii } (by simp [wCells]) rfl rfl rfl rfl rfl rfl rfl rfl rfl
  have q5 := q4.setOne c.fr 21 (.int .i64 cd) { d with who := (t : Int), i := ii, code := cd } (by simp [wCells]) rfl rfl rfl rfl rfl rfl rfl rfl rfl
  have Q5 := hid q5
  have hbQ : Turns (WB wb h) wA (((((wA.setCell ⟨wb, 17, none⟩ (.int .i64 (t : Int))).setCell ⟨wb, 18, none⟩ (.int .i64 ii.op)).setCell ⟨wb, 19, none⟩ (.int .i64 ii.a)).setCell ⟨wb, 20, none⟩ (.int .i64 ii.b)).setCell ⟨wb, 21, none⟩ (.int .i64 cd)) := by
    iterate 5 refine Turns.put ?_ (.inl rfl) _
    exact Turns.refl _ _
  have bQ : Blk (((((wA.setCell ⟨wb, 17, none⟩ (.int .i64 (t : Int))).setCell ⟨wb, 18, none⟩ (.int .i64 ii.op)).setCell ⟨wb, 19, none⟩ (.int .i64 ii.a)).setCell ⟨wb, 20, none⟩ (.int .i64 ii.b)).setCell ⟨wb, 21, none⟩ (.int .i64 cd)) w1.heap.size #[.int .i64 ii.op, .int .i64 ii.a, .int .i64 ii.b] 46 :=
    ((((BA.out.other (p := ⟨wb, 17, none⟩) (fun e => hwne e.symm) _).other (p := ⟨wb, 18, none⟩) (fun e => hwne e.symm) _).other (p := ⟨wb, 19, none⟩) (fun e => hwne e.symm) _).other (p := ⟨wb, 20, none⟩) (fun e => hwne e.symm) _).other (p := ⟨wb, 21, none⟩) (fun e => hwne e.symm) _
  have HBQ := hid (HBA.out.thn hbQ)
  have BQ := hid bQ
  clear q1 q2 q3 q4 q5 hbQ bQ
  go_upto_region 5 with fail
  generalize (((((wA.setCell ⟨wb, 17, none⟩ (.int .i64 (t : Int))).setCell ⟨wb, 18, none⟩ (.int .i64 ii.op)).setCell ⟨wb, 19, none⟩ (.int .i64 ii.a)).setCell ⟨wb, 20, none⟩ (.int .i64 ii.b)).setCell ⟨wb, 21, none⟩ (.int .i64 cd)) = w5 at Q5 HBQ BQ ⊢
  clear y17 y18 y19 y20 y21 z17 z18 z19 z20 z21 x0 x1 x2 KA HBA BA
  -- at[t] = at + 1
  have y9 := Q5.out.m.blk.cell 9
  simp [wCells] at y9
  obtain ⟨gA', cA', hvA', _, zA, fA⟩ := row_at Q5.out.m.at_ (by show 0 < d.at_.length; rw [HL2.out]; omega)
  have eg := HVA.out.symm.trans hvA'
  simp at eg
  obtain ⟨rfl, rfl⟩ := eg
  rw [HVA.out, HL2.out] at y9
  have zAt := zA t (by show t < d.at_.length; rw [HL2.out]; exact ht)
  have fAt := fA t
  obtain ⟨k6, hb6⟩ := Q5.out.setAt c.fr HVA.out t ((n : Int) + 1)
  have bg : w1.heap.size ≠ gA := by omega
  have B6 := hid (BQ.out.other (p := ⟨gA, t, none⟩) bg (.int .i64 ((n : Int) + 1)))
  have hdA : ({ d with who := (t : Int), i := ii, code := cd, at_ := d.at_.set t ((n : Int) + 1) } : WD) = doesA d t ii cd := by unfold doesA; rw [HNN.out]
  have K6 : Hid (KW PK B (w5.setCell ⟨gA, t, none⟩ (.int .i64 ((n : Int) + 1))) wb kb P h (doesA d t ii cd) s) := by rw [← hdA]; exact hid k6
  have HB6 := hid (HBQ.out.thn hb6)
  clear k6 hb6 hdA zA fA hvA'
  go_upto_region 6 with fail
  generalize w5.setCell ⟨gA, t, none⟩ (.int .i64 ((n : Int) + 1)) = w6 at K6 HB6 B6 ⊢
  clear y9 zAt fAt Q5 HBQ BQ
  have L1 : Hid ((doesA d t ii cd).base.length = N) := HL1.out
  have L2 : Hid ((doesA d t ii cd).at_.length = N) := hid (by show (d.at_.set _ _).length = N; rw [List.length_set]; exact HL2.out)
  have L3 : Hid ((doesA d t ii cd).ended.length = N) := HL3.out
  have L4 : Hid ((doesA d t ii cd).since.length = N) := HL4.out
  have L5 : Hid ((doesA d t ii cd).views.length = N) := HL5.out
  have he0' : 0 ≤ (doesA d t ii cd).ended.getD t 0 := he0
  have he1' : (doesA d t ii cd).ended.getD t 0 ≤ 2000000000 := he1
  have ED : Hid (doesD d t ii cd = doesS (doesB (doesA d t ii cd) t ii) t cd) := rfl
  generalize hdF : doesD d t ii cd = dF at *
  have EDF := hid hdF
  clear hdF
  generalize doesA d t ii cd = dA at *
  clear HL1 HL2 HL3 HL4 HL5 HNN he0 he1
  have x0 := B6.out.cell 0
  have x1 := B6.out.cell 1
  have x2 := B6.out.cell 2
  simp at x0 x1 x2
  by_cases h0 : ii.op = 0
  · rw [h0] at x0
    have y9 := K6.out.m.blk.cell 9
    simp [wCells] at y9
    obtain ⟨gB, cB, hvB, hgB, zB, fB⟩ := row_at K6.out.m.at_ (by rw [L2.out]; omega)
    rw [hvB, L2.out] at y9
    have zBt := zB t (by rw [L2.out]; exact ht)
    have fBt := fB t
    obtain ⟨k7, hb7⟩ := K6.out.setAt c.fr hvB t 0
    have K7 := hid k7
    have HB7 := hid (HB6.out.thn hb7)
    clear k7 hb7 zB fB
    go_upto_region 9 with fail
    generalize w6.setCell ⟨gB, t, none⟩ (.int .i64 0) = w7 at K7 HB7 ⊢
    clear y9 zBt fBt x0 x1 x2 hvB
    have y10 := K7.out.m.blk.cell 10
    simp [wCells] at y10
    obtain ⟨gE, cE, hvE, hgE, zE, fE⟩ := row_at K7.out.m.ended (by show 0 < dA.ended.length; rw [L3.out]; omega)
    have hvE' : h.vE = .slice (some ⟨gE, 0, none⟩) dA.ended.length cE := hvE
    rw [hvE', L3.out] at y10
    have zE1 := zE t (by show t < dA.ended.length; rw [L3.out]; exact ht)
    have eE : dA.ended[t]'(by rw [L3.out]; exact ht) = dA.ended.getD t 0 := by simp [List.getD, L3.out, ht]
    have zEt : w7.cell? ⟨gE, t, none⟩ = some (.int .i64 (dA.ended.getD t 0)) := by rw [← eE]; exact zE1
    have fEt := fE t
    have HVE := hid hvE'
    have HVE0 := hid hvE
    clear zE fE hvE hvE' eE zE1
    generalize hen : dA.ended.getD t 0 = en at *
    have HEN := hid hen
    clear hen
    obtain ⟨k8, hb8⟩ := K7.out.setEnded c.fr HVE0.out t (en + 1)
    have K8 : Hid (KW PK B (w7.setCell ⟨gE, t, none⟩ (.int .i64 (en + 1))).drew wb kb P h _ s) := hid (k8.below c.fr (bdrewN (Below.refl _ _) 1))
    have HB8 : Hid (Turns (WB wb h) w (w7.setCell ⟨gE, t, none⟩ (.int .i64 (en + 1))).drew) := hid ((HB7.out.thn hb8).drewN 1)
    clear k8 hb8
    go_wp2_with fail
    go_region
    clear y10 zEt fEt
    generalize (w7.setCell ⟨gE, t, none⟩ (.int .i64 (en + 1))).drew = w8 at K8 HB8 ⊢
    have L4 : Hid (({ dA with at_ := dA.at_.set t 0, ended := dA.ended.set t (en + 1) } : WD).since.length = N) := L4
    have E8 : Hid (doesB dA t ii = { dA with at_ := dA.at_.set t 0, ended := dA.ended.set t (en + 1) }) := by unfold doesB; rw [if_pos h0, HEN.out]; exact hid rfl
    have K8 : Hid (KW PK B w8 wb kb P h { dA with at_ := dA.at_.set t 0, ended := dA.ended.set t (en + 1) } s) := K8
    generalize ({ dA with at_ := dA.at_.set t 0, ended := dA.ended.set t (en + 1) } : WD) = dB at *
    have EB : Hid (doesB dA t ii = dB) := E8
    have EF : Hid (dF = doesS dB t cd) := by rw [ED.out, EB.out]; exact hid rfl
    by_cases hc1 : cd = 1
    · subst hc1
      have y11 := K8.out.m.blk.cell 11
      have y15 := K8.out.m.blk.cell 15
      simp [wCells] at y11 y15
      obtain ⟨gS, cS, hvS, hgS, zS, fS⟩ := row_at K8.out.m.since (by rw [L4.out]; omega)
      rw [hvS, L4.out] at y11
      have zSt := zS t (by rw [L4.out]; exact ht)
      have fSt := fS t
      have KN := K8
      have HBN := HB8
      have HVS := hid hvS
      clear zS fS hvS
      have K9 := hid (KN.out.setSince c.fr HVS.out t dB.steps)
      go_wp2_with fail
      go_region
      go_wp2
      go_end0
      refine ⟨rfl, ?_, (HBN.out.thn K9.out.2).drewN 1⟩
      rw [EDF.out, EF.out]
      unfold doesS
      rw [if_pos rfl]
      exact K9.out.1.below c.fr (bdrewN (Below.refl _ _) 1)
    · have hc1' : (cd == 1) = false := by simpa using hc1
      have KN := K8
      have HBN := HB8
      go_wp2
      go_end0
      refine ⟨rfl, ?_, HBN.out⟩
      rw [EDF.out, EF.out]
      unfold doesS
      rw [if_neg hc1]
      exact KN.out
  · have h0' : (ii.op == 0) = false := by simpa using h0
    by_cases h3 : ii.op = 3
    · rw [h3] at x0
      have y12 := K6.out.m.blk.cell 12
      simp [wCells] at y12
      obtain ⟨aV, cV, hvV, hnV, haV⟩ := owns_cells K6.out.m.views
      have hvl : t < dA.views.length := by rw [L5.out]; exact ht
      obtain ⟨gV, zV⟩ : ∃ gV, aV = some ⟨gV, 0, none⟩ ∧ w6.cell? ⟨gV, t * 11 + 4, none⟩ = some (.int .i64 (dA.views.getD t v0).last) := by
        cases aV with
        | none => have := (hnV rfl).1; omega
        | some a =>
          obtain ⟨g, rfl, _, _, _, hc⟩ := haV a rfl
          refine ⟨g, rfl, ?_⟩
          rw [hc _ (by rw [L5.out]; omega), vAll_get _ _ _ hvl (by decide)]
          simp [vCells, List.getD, hvl]
      obtain ⟨rfl, zV⟩ := zV
      rw [hvV, L5.out] at y12
      generalize hla : (dA.views.getD t v0).last = la at *
      have HLA := hid hla
      clear hla hnV haV hvV hvl
      have ET : Hid (doesB dA t ii = if la = ii.a then { dA with at_ := dA.at_.set t ii.b } else dA) := by unfold doesB; rw [if_neg h0, if_pos h3, HLA.out]; exact hid rfl
      by_cases hla : la = ii.a
      · have hla' : (la == ii.a) = true := by simpa using hla
        have E7 : Hid (doesB dA t ii = { dA with at_ := dA.at_.set t ii.b }) := by rw [ET.out, if_pos hla]; exact hid rfl
        go_wp2_with fail
        go_quiet (fail)
        have K6q := hid (K6.out.below c.fr (bdrewN (Below.refl _ _) nq))
        have HB6q := hid (HB6.out.drewN nq)
        have x2 : (w6.drewN nq).cell? ⟨w1.heap.size, 2, none⟩ = some (.int .i64 ii.b) := x2
        clear K6 HB6 B6 x0 x1 y12 zV
        generalize w6.drewN nq = w6q at *
        have y9 := K6q.out.m.blk.cell 9
        simp [wCells] at y9
        obtain ⟨gB, cB, hvB, hgB, zB, fB⟩ := row_at K6q.out.m.at_ (by rw [L2.out]; omega)
        rw [hvB, L2.out] at y9
        have zBt := zB t (by rw [L2.out]; exact ht)
        have fBt := fB t
        have HVB := hid hvB
        clear zB fB hvB
        obtain ⟨k8, hb8⟩ := K6q.out.setAt c.fr HVB.out t ii.b
        have K8 : Hid (KW PK B (w6q.setCell ⟨gB, t, none⟩ (.int .i64 ii.b)).drew wb kb P h _ s) := hid (k8.below c.fr (bdrewN (Below.refl _ _) 1))
        have HB8 : Hid (Turns (WB wb h) w (w6q.setCell ⟨gB, t, none⟩ (.int .i64 ii.b)).drew) := hid ((HB6q.out.thn hb8).drewN 1)
        clear k8 hb8
        go_wp2_with fail
        go_region
        clear y9 zBt fBt x2
        generalize (w6q.setCell ⟨gB, t, none⟩ (.int .i64 ii.b)).drew = w8 at K8 HB8 ⊢
        have L4 : Hid (({ dA with at_ := dA.at_.set t ii.b } : WD).since.length = N) := L4
        generalize ({ dA with at_ := dA.at_.set t ii.b } : WD) = dB at *
        have EB : Hid (doesB dA t ii = dB) := E7
        have EF : Hid (dF = doesS dB t cd) := by rw [ED.out, EB.out]; exact hid rfl
        by_cases hc1 : cd = 1
        · subst hc1
          have y11 := K8.out.m.blk.cell 11
          have y15 := K8.out.m.blk.cell 15
          simp [wCells] at y11 y15
          obtain ⟨gS, cS, hvS, hgS, zS, fS⟩ := row_at K8.out.m.since (by rw [L4.out]; omega)
          rw [hvS, L4.out] at y11
          have zSt := zS t (by rw [L4.out]; exact ht)
          have fSt := fS t
          have KN := K8
          have HBN := HB8
          have HVS := hid hvS
          clear zS fS hvS
          have K9 := hid (KN.out.setSince c.fr HVS.out t dB.steps)
          go_wp2_with fail
          go_region
          go_wp2
          go_end0
          refine ⟨rfl, ?_, (HBN.out.thn K9.out.2).drewN 1⟩
          rw [EDF.out, EF.out]
          unfold doesS
          rw [if_pos rfl]
          exact K9.out.1.below c.fr (bdrewN (Below.refl _ _) 1)
        · have hc1' : (cd == 1) = false := by simpa using hc1
          have KN := K8
          have HBN := HB8
          go_wp2
          go_end0
          refine ⟨rfl, ?_, HBN.out⟩
          rw [EDF.out, EF.out]
          unfold doesS
          rw [if_neg hc1]
          exact KN.out
      · have hla' : (la == ii.a) = false := by simpa using hla
        have E7 : Hid (doesB dA t ii = dA) := by rw [ET.out, if_neg hla]; exact hid rfl
        go_wp2_with fail
        go_quiet (fail)
        have K8 := hid (K6.out.below c.fr (bdrewN (Below.refl _ _) nq))
        have HB8 := hid (HB6.out.drewN nq)
        clear K6 HB6 B6 x0 x1 x2 y12 zV
        generalize w6.drewN nq = w8 at *
        generalize hdB : dA = dB at K8 L4
        have E7 : Hid (doesB dA t ii = dB) := by rw [E7.out, hdB]; exact hid rfl
        clear hdB
        have EB : Hid (doesB dA t ii = dB) := E7
        have EF : Hid (dF = doesS dB t cd) := by rw [ED.out, EB.out]; exact hid rfl
        by_cases hc1 : cd = 1
        · subst hc1
          have y11 := K8.out.m.blk.cell 11
          have y15 := K8.out.m.blk.cell 15
          simp [wCells] at y11 y15
          obtain ⟨gS, cS, hvS, hgS, zS, fS⟩ := row_at K8.out.m.since (by rw [L4.out]; omega)
          rw [hvS, L4.out] at y11
          have zSt := zS t (by rw [L4.out]; exact ht)
          have fSt := fS t
          have KN := K8
          have HBN := HB8
          have HVS := hid hvS
          clear zS fS hvS
          have K9 := hid (KN.out.setSince c.fr HVS.out t dB.steps)
          go_wp2_with fail
          go_region
          go_wp2
          go_end0
          refine ⟨rfl, ?_, (HBN.out.thn K9.out.2).drewN 1⟩
          rw [EDF.out, EF.out]
          unfold doesS
          rw [if_pos rfl]
          exact K9.out.1.below c.fr (bdrewN (Below.refl _ _) 1)
        · have hc1' : (cd == 1) = false := by simpa using hc1
          have KN := K8
          have HBN := HB8
          go_wp2
          go_end0
          refine ⟨rfl, ?_, HBN.out⟩
          rw [EDF.out, EF.out]
          unfold doesS
          rw [if_neg hc1]
          exact KN.out
    · have h3' : (ii.op == 3) = false := by simpa using h3
      by_cases h4 : ii.op = 4
      · rw [h4] at x0
        obtain ⟨ha0, ha1⟩ := ha h4
        obtain ⟨ia, hia⟩ := Int.eq_ofNat_of_zero_le ha0
        have hia' : ii.a.toNat = ia := by omega
        have hiN : ia < N := by omega
        rw [hia] at x1
        have y8 := K6.out.m.blk.cell 8
        simp [wCells] at y8
        obtain ⟨gB, cB, hvB, hgB, zB, fB⟩ := row_at K6.out.m.base (by rw [L1.out]; omega)
        rw [hvB, L1.out] at y8
        have zBt := zB ia (by rw [L1.out]; exact hiN)
        have fBt := fB ia
        have HVB := hid hvB
        have E7 : Hid (doesB dA t ii = { dA with base := dA.base.set ia ii.b }) := by unfold doesB; rw [if_neg h0, if_neg h3, if_pos h4, hia']; exact hid rfl
        have hiI : (ia : Int) < (N : Int) := by omega
        clear zB fB hvB ha hia hia' ha0 ha1
        obtain ⟨k8, hb8⟩ := K6.out.setBase c.fr HVB.out ia ii.b
        have K8 : Hid (KW PK B (w6.setCell ⟨gB, ia, none⟩ (.int .i64 ii.b)).drew wb kb P h _ s) := hid (k8.below c.fr (bdrewN (Below.refl _ _) 1))
        have HB8 : Hid (Turns (WB wb h) w (w6.setCell ⟨gB, ia, none⟩ (.int .i64 ii.b)).drew) := hid ((HB6.out.thn hb8).drewN 1)
        clear k8 hb8
        go_wp2_with fail
        go_region
        clear y8 zBt fBt x0 x1 x2
        generalize (w6.setCell ⟨gB, ia, none⟩ (.int .i64 ii.b)).drew = w8 at K8 HB8 ⊢
        have L4 : Hid (({ dA with base := dA.base.set ia ii.b } : WD).since.length = N) := L4
        generalize ({ dA with base := dA.base.set ia ii.b } : WD) = dB at *
        have EB : Hid (doesB dA t ii = dB) := E7
        have EF : Hid (dF = doesS dB t cd) := by rw [ED.out, EB.out]; exact hid rfl
        by_cases hc1 : cd = 1
        · subst hc1
          have y11 := K8.out.m.blk.cell 11
          have y15 := K8.out.m.blk.cell 15
          simp [wCells] at y11 y15
          obtain ⟨gS, cS, hvS, hgS, zS, fS⟩ := row_at K8.out.m.since (by rw [L4.out]; omega)
          rw [hvS, L4.out] at y11
          have zSt := zS t (by rw [L4.out]; exact ht)
          have fSt := fS t
          have KN := K8
          have HBN := HB8
          have HVS := hid hvS
          clear zS fS hvS
          have K9 := hid (KN.out.setSince c.fr HVS.out t dB.steps)
          go_wp2_with fail
          go_region
          go_wp2
          go_end0
          refine ⟨rfl, ?_, (HBN.out.thn K9.out.2).drewN 1⟩
          rw [EDF.out, EF.out]
          unfold doesS
          rw [if_pos rfl]
          exact K9.out.1.below c.fr (bdrewN (Below.refl _ _) 1)
        · have hc1' : (cd == 1) = false := by simpa using hc1
          have KN := K8
          have HBN := HB8
          go_wp2
          go_end0
          refine ⟨rfl, ?_, HBN.out⟩
          rw [EDF.out, EF.out]
          unfold doesS
          rw [if_neg hc1]
          exact KN.out
      · have h4' : (ii.op == 4) = false := by simpa using h4
        have E7 : Hid (doesB dA t ii = dA) := by unfold doesB; rw [if_neg h0, if_neg h3, if_neg h4]; exact hid rfl
        have K8 := K6
        have HB8 := HB6
        generalize hdB : dA = dB at K8 L4
        have E7 : Hid (doesB dA t ii = dB) := by rw [E7.out, hdB]; exact hid rfl
        clear hdB
        have EB : Hid (doesB dA t ii = dB) := E7
        have EF : Hid (dF = doesS dB t cd) := by rw [ED.out, EB.out]; exact hid rfl
        by_cases hc1 : cd = 1
        · subst hc1
          have y11 := K8.out.m.blk.cell 11
          have y15 := K8.out.m.blk.cell 15
          simp [wCells] at y11 y15
          obtain ⟨gS, cS, hvS, hgS, zS, fS⟩ := row_at K8.out.m.since (by rw [L4.out]; omega)
          rw [hvS, L4.out] at y11
          have zSt := zS t (by rw [L4.out]; exact ht)
          have fSt := fS t
          have KN := K8
          have HBN := HB8
          have HVS := hid hvS
          clear zS fS hvS
          have K9 := hid (KN.out.setSince c.fr HVS.out t dB.steps)
          go_wp2_with fail
          go_region
          go_wp2
          go_end0
          refine ⟨rfl, ?_, (HBN.out.thn K9.out.2).drewN 1⟩
          rw [EDF.out, EF.out]
          unfold doesS
          rw [if_pos rfl]
          exact K9.out.1.below c.fr (bdrewN (Below.refl _ _) 1)
        · have hc1' : (cd == 1) = false := by simpa using hc1
          have KN := K8
          have HBN := HB8
          go_wp2
          go_end0
          refine ⟨rfl, ?_, HBN.out⟩
          rw [EDF.out, EF.out]
          unfold doesS
          rw [if_neg hc1]
          exact KN.out
end
end Go.Proofs.Ytbkfildnijjioab

/-
  What a step makes of every thread's base, At and Ended (P7, P10).
-/
namespace Go.Proofs.Ytbkfildnijjioab
namespace R
/-- Base, At and Ended of every thread are as they were. -/
structure Cols (s s' : RS) : Prop where
  len : s'.T.length = s.T.length
  th : ∀ u, (R.th s'.T u).base = (R.th s.T u).base ∧ (R.th s'.T u).at_ = (R.th s.T u).at_ ∧ (R.th s'.T u).ended = (R.th s.T u).ended
section
variable {s s' s'' : RS}
theorem Cols.refl (s : RS) : Cols s s := ⟨rfl, fun _ => ⟨rfl, rfl, rfl⟩⟩
theorem Cols.trans (k : Cols s s') (l : Cols s' s'') : Cols s s'' := ⟨l.len.trans k.len, fun u => ⟨(l.th u).1.trans (k.th u).1, (l.th u).2.1.trans (k.th u).2.1, (l.th u).2.2.trans (k.th u).2.2⟩⟩
theorem cols_modify {s s' : RS} (t : Nat) {f : RT → RT} (h : s'.T = s.T.modify t f) (hf : ∀ x, (f x).base = x.base ∧ (f x).at_ = x.at_ ∧ (f x).ended = x.ended) : Cols s s' := by
  refine ⟨by rw [h]; simp, fun u => ?_⟩
  rw [h, Ln.th_modify]
  split
  · exact hf _
  · exact ⟨rfl, rfl, rfl⟩
theorem cols_same (h : s'.T = s.T) : Cols s s' := ⟨by rw [h], fun u => by rw [h]; exact ⟨rfl, rfl, rfl⟩⟩
theorem cols_wake (s : RS) (t : Nat) : Cols s (wake s t) := cols_modify t rfl (fun _ => ⟨rfl, rfl, rfl⟩)
theorem cols_endW (s : RS) (t : Nat) (c : Int) : Cols s (endW s t c) := (cols_modify (s' := { s with T := s.T.modify t (fun x => { x with for_ := 0, of_ := 0, until_ := 0, last := c }) }) t rfl (fun _ => ⟨rfl, rfl, rfl⟩)).trans (cols_wake _ t)
theorem cols_giveS (s : RS) (what of_ : Int) : Cols s (giveS s what of_) := by
  unfold giveS
  split
  · exact cols_endW _ _ _
  · exact Cols.refl s
theorem cols_unlockS (s : RS) (t m : Nat) : Cols s (unlockS s t m) := by
  unfold unlockS
  split
  · exact (cols_giveS s 1 (m : Int)).trans (cols_same rfl)
  · exact Cols.refl s
theorem cols_unlocksTo (s : RS) (t k : Nat) : Cols s (unlocksTo s t k) := by
  induction k with
  | zero => exact Cols.refl s
  | succ k ih => unfold unlocksTo; exact ih.trans (cols_unlockS _ t k)
theorem cols_asleep (s : RS) (t : Nat) : Cols s (asleep s t) := cols_modify t rfl (fun _ => ⟨rfl, rfl, rfl⟩)
theorem cols_toLast (s : RS) (t : Nat) (a : Int) : Cols s (toLast s t a) := cols_modify t rfl (fun _ => ⟨rfl, rfl, rfl⟩)
theorem cols_beginW (s : RS) (t : Nat) (what of_ n : Int) : Cols s (beginW s t what of_ n) := cols_modify t rfl (fun _ => ⟨rfl, rfl, rfl⟩)
theorem cols_gets (s : RS) (t : Nat) (v : Int) : Cols s (gets s t v) := cols_modify t rfl (fun _ => ⟨rfl, rfl, rfl⟩)
theorem cols_lockS (s : RS) (t m : Nat) (n : Int) : Cols s (lockS s t m n) := by
  unfold lockS
  split
  · exact cols_same rfl
  · split
    · exact cols_beginW _ _ _ _ _
    · exact Cols.refl s
theorem cols_downS (s : RS) (t a : Nat) (b : Int) : Cols s (downS s t a b) := by
  unfold downS
  split
  · exact cols_same rfl
  · split
    · exact cols_beginW _ _ _ _ _
    · exact Cols.refl s
theorem cols_upS (s : RS) (a : Nat) : Cols s (upS s a) := by
  unfold upS
  split
  · exact cols_giveS _ _ _
  · split
    · exact Cols.refl s
    · exact cols_same rfl
theorem cols_recvS (s : RS) (t a : Nat) (b : Int) : Cols s (recvS s t a b) := by
  unfold recvS
  split
  · exact (cols_gets s t _).trans (cols_same rfl)
  · split
    · exact cols_beginW _ _ _ _ _
    · exact Cols.refl s
theorem cols_sendS (s : RS) (a : Nat) (b : Int) : Cols s (sendS s a b) := by
  unfold sendS
  split
  · exact (cols_giveS s 3 (a : Int)).trans (cols_gets _ _ _)
  · split
    · exact Cols.refl s
    · exact cols_same rfl
theorem cols_doesS (s : RS) (t : Nat) (i : InstrD) (h4 : i.op ≠ 4) : Cols s (doesS s t i) := by
  unfold doesS
  rw [if_neg h4]
  split
  · exact cols_modify t rfl (fun _ => ⟨rfl, rfl, rfl⟩)
  split
  · exact cols_beginW _ _ _ _ _
  split
  · exact cols_lockS _ _ _ _
  split
  · exact cols_unlockS _ _ _
  split
  · exact cols_downS _ _ _ _
  split
  · exact cols_upS _ _
  split
  · exact cols_sendS _ _ _
  split
  · exact cols_recvS _ _ _ _
  · exact Cols.refl s
theorem cols_settle (s : RS) : Cols s (settle s) := by
  refine ⟨settleT_length _ _ _, fun u => ?_⟩
  by_cases hu : u < s.T.length
  · obtain ⟨w, hw, _⟩ := settle_th (levels s) s.T s.set.workers.toNat u hu
    have hw' : R.th (settle s).T u = { R.th s.T u with wkr := w } := hw
    rw [hw']
    exact ⟨rfl, rfl, rfl⟩
  · have e1 : R.th s.T u = rt0 := by simp [R.th, List.getD, hu]
    have e2 : R.th (settle s).T u = rt0 := by
      have : (settle s).T.length = s.T.length := settleT_length _ _ _
      simp [R.th, List.getD, this, hu]
    rw [e1, e2]
    exact ⟨rfl, rfl, rfl⟩
/-- What an instruction makes of At, of Ended, of the bases. -/
def nextAt (s : RS) (t : Nat) : Int := if (instrAt s t).op = 0 then 0 else if (instrAt s t).op = 3 ∧ (R.th s.T t).last = (instrAt s t).a then (instrAt s t).b else (R.th s.T t).at_ + 1
theorem actS_cols (s : RS) (t : Nat) (ht : t < s.T.length) (ha : (instrAt s t).op = 4 → (instrAt s t).a.toNat < s.T.length) : (actS s t).T.length = s.T.length ∧ ∀ u,
    (R.th (actS s t).T u).base = (if (instrAt s t).op = 4 ∧ u = (instrAt s t).a.toNat then (instrAt s t).b else (R.th s.T u).base) ∧
    (R.th (actS s t).T u).at_ = (if u = t then nextAt s t else (R.th s.T u).at_) ∧
    (R.th (actS s t).T u).ended = (if u = t ∧ (instrAt s t).op = 0 then (R.th s.T u).ended + 1 else (R.th s.T u).ended) := by
  by_cases h0 : (instrAt s t).op = 0
  · have h4 : ¬ (instrAt s t).op = 4 := by omega
    have en : nextAt s t = 0 := by unfold nextAt; rw [if_pos h0]
    rw [en]
    have e1 : actS s t = stop s t := by unfold actS; rw [if_pos h0]
    rw [e1]
    have c1 : Cols (stop0 s t) (stop s t) := by
      unfold stop
      have c := (cols_unlocksTo (stop0 s t) t s.owner.length).trans (cols_asleep _ t)
      split
      · exact c.trans (cols_wake _ t)
      · exact c
    refine ⟨c1.len.trans (by simp [stop0]), fun u => ?_⟩
    obtain ⟨b1, b2, b3⟩ := c1.th u
    rw [b1, b2, b3]
    have e2 : R.th (stop0 s t).T u = if u = t ∧ t < s.T.length then { R.th s.T u with ended := (R.th s.T u).ended + 1, at_ := 0, last := 0 } else R.th s.T u := Ln.th_modify _ _ _ _
    rw [e2]
    by_cases hu : u = t
    · subst hu
      simp [ht, h0]
    · simp [hu, h4]
  · by_cases h3 : (instrAt s t).op = 3
    · have h4 : ¬ (instrAt s t).op = 4 := by omega
      by_cases hl : (R.th s.T t).last = (instrAt s t).a
      · have en : nextAt s t = (instrAt s t).b := by unfold nextAt; rw [if_neg h0, if_pos ⟨h3, hl⟩]
        have e1 : actS s t = toAt s t (instrAt s t).b := by unfold actS; rw [if_neg h0, if_pos h3, if_pos hl]
        rw [e1, en]
        refine ⟨by simp [toAt], fun u => ?_⟩
        have e2 : R.th (toAt s t (instrAt s t).b).T u = if u = t ∧ t < s.T.length then { R.th s.T u with at_ := (instrAt s t).b } else R.th s.T u := Ln.th_modify _ _ _ _
        rw [e2]
        by_cases hu : u = t
        · subst hu
          simp [ht, h0, h4]
        · simp [hu, h4]
      · have en : nextAt s t = (R.th s.T t).at_ + 1 := by unfold nextAt; rw [if_neg h0, if_neg (fun h => hl h.2)]
        have e1 : actS s t = toAt s t ((R.th s.T t).at_ + 1) := by unfold actS; rw [if_neg h0, if_pos h3, if_neg hl]
        rw [e1, en]
        refine ⟨by simp [toAt], fun u => ?_⟩
        have e2 : R.th (toAt s t ((R.th s.T t).at_ + 1)).T u = if u = t ∧ t < s.T.length then { R.th s.T u with at_ := (R.th s.T t).at_ + 1 } else R.th s.T u := Ln.th_modify _ _ _ _
        rw [e2]
        by_cases hu : u = t
        · subst hu
          simp [ht, h0, h4]
        · simp [hu, h4]
    · have en : nextAt s t = (R.th s.T t).at_ + 1 := by unfold nextAt; rw [if_neg h0, if_neg (fun h => h3 h.1)]
      rw [(actS_is s t h0 h3).1, en]
      have ea : ∀ v : RS, v.T.length = s.T.length → ∀ u, R.th (toAt v t ((R.th s.T t).at_ + 1)).T u = if u = t then { R.th v.T u with at_ := (R.th s.T t).at_ + 1 } else R.th v.T u := by
        intro v hv u
        have e2 : R.th (toAt v t ((R.th s.T t).at_ + 1)).T u = if u = t ∧ t < v.T.length then { R.th v.T u with at_ := (R.th s.T t).at_ + 1 } else R.th v.T u := Ln.th_modify _ _ _ _
        rw [e2]
        have : t < v.T.length := by omega
        simp [this]
      have hlen : (doesS s t (instrAt s t)).T.length = s.T.length := by
        by_cases h4 : (instrAt s t).op = 4
        · unfold doesS; rw [if_neg (by omega), if_pos h4]; simp
        · exact (cols_doesS s t _ h4).len
      refine ⟨(cols_toLast _ _ _).len.trans (by simp [toAt, hlen]), fun u => ?_⟩
      obtain ⟨b1, b2, b3⟩ := (cols_toLast (toAt (doesS s t (instrAt s t)) t ((R.th s.T t).at_ + 1)) t (doesC s t (instrAt s t))).th u
      rw [b1, b2, b3, ea _ hlen u]
      have hb : (R.th (doesS s t (instrAt s t)).T u).base = (if (instrAt s t).op = 4 ∧ u = (instrAt s t).a.toNat then (instrAt s t).b else (R.th s.T u).base) ∧ (R.th (doesS s t (instrAt s t)).T u).at_ = (R.th s.T u).at_ ∧ (R.th (doesS s t (instrAt s t)).T u).ended = (R.th s.T u).ended := by
        by_cases h4 : (instrAt s t).op = 4
        · have e3 : doesS s t (instrAt s t) = { s with T := s.T.modify (instrAt s t).a.toNat (fun x => { x with base := (instrAt s t).b }) } := by unfold doesS; rw [if_neg (by omega), if_pos h4]
          rw [e3]
          have e2 : R.th (s.T.modify (instrAt s t).a.toNat (fun x => { x with base := (instrAt s t).b })) u = if u = (instrAt s t).a.toNat ∧ (instrAt s t).a.toNat < s.T.length then { R.th s.T u with base := (instrAt s t).b } else R.th s.T u := Ln.th_modify _ _ _ _
          show (R.th (s.T.modify (instrAt s t).a.toNat (fun x => { x with base := (instrAt s t).b })) u).base = _ ∧ (R.th (s.T.modify (instrAt s t).a.toNat (fun x => { x with base := (instrAt s t).b })) u).at_ = _ ∧ (R.th (s.T.modify (instrAt s t).a.toNat (fun x => { x with base := (instrAt s t).b })) u).ended = _
          rw [e2]
          have := ha h4
          by_cases hu : u = (instrAt s t).a.toNat
          · rw [if_pos ⟨hu, this⟩, if_pos ⟨h4, hu⟩]
            exact ⟨rfl, rfl, rfl⟩
          · rw [if_neg (fun h => hu h.1), if_neg (fun h => hu h.2)]
            exact ⟨rfl, rfl, rfl⟩
        · obtain ⟨c1, c2, c3⟩ := (cols_doesS s t _ h4).th u
          rw [c1, c2, c3, if_neg (fun h => h4 h.1)]
          exact ⟨rfl, rfl, rfl⟩
      obtain ⟨c1, c2, c3⟩ := hb
      have hz : ¬ (u = t ∧ (instrAt s t).op = 0) := fun h => h0 h.2
      by_cases hu : u = t
      · rw [if_pos hu, if_pos hu, if_neg hz]
        exact ⟨c1, rfl, c3⟩
      · rw [if_neg hu, if_neg hu, if_neg hz]
        exact ⟨c1, c2, c3⟩
theorem cols_endsTo (s : RS) (k : Nat) : Cols s (endsTo s k) := by
  induction k with
  | zero => exact Cols.refl s
  | succ k ih =>
    unfold endsTo endOne
    split
    · exact ih
    · exact ih.trans (cols_endW _ _ _)
theorem cols_releaseTo (s : RS) (k : Nat) : Cols s (releaseTo s k) := by
  induction k with
  | zero => exact Cols.refl s
  | succ k ih =>
    unfold releaseTo releaseOne
    split
    · split
      · exact ih.trans ((cols_modify (s' := { releaseTo s k with T := (releaseTo s k).T.modify k (fun x => { x with rel := numberAt (releaseTo s k) k 0 + 1 }) }) k rfl (fun _ => ⟨rfl, rfl, rfl⟩)).trans (cols_wake _ k))
      · exact ih.trans (cols_modify k rfl (fun _ => ⟨rfl, rfl, rfl⟩))
    · exact ih
theorem cols_tick (s : RS) : Cols s (tick s) := by
  unfold tick release ends
  have h1 : Cols s (missing s) := cols_same rfl
  exact (h1.trans (cols_endsTo (missing s) _)).trans ((cols_releaseTo _ _).trans (cols_settle _))
end
end R
end Go.Proofs.Ytbkfildnijjioab
