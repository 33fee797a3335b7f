import Derived.Test.YthnjabnlocpoaaaGreatB14
import Derived.Test.YthnjabnlocpoaaaGreatB03
/-
  Walks over package donateref: Pick.
-/
namespace Go.Proofs.YthnjabnlocpoaaaGreat
open Go.RowKit

theorem good_settle {s : RS} (g : RGood s) : RGood (R.settle s) := by
  have e : (R.settle s).T.length = s.T.length := by
    show (R.settleT (R.levels s) s.T s.set.workers.toNat).length = _
    rw [R.settleT_length]
  exact ⟨by rw [e]; exact g.len, by rw [e]; exact g.pos, by rw [e]; exact g.few, g.wk0, g.wk1, g.own, g.mfew, g.now0, g.now1, g.now2, g.nxt0, g.nxt1, g.off⟩

set_option maxRecDepth 100000 in
set_option maxHeartbeats 4000000 in
theorem rPick_any (F : Nat → Prop) (w : World) (sb : Nat) (h : RH) (s : RS) (m : RMem F w sb h s) (ap : RApart F h) (g : RGood s) (ln : RLinks s) (st : RStore s) (cd : RCode s) (wk : Int) (hnx : s.next ≤ 4611686018427386000) :
    Calls Tryz.prog 53 #[.pointer (some ⟨sb, 0, none⟩), .int .i64 wk] w fun e w' =>
      e = .returned (.tuple #[.agg #[.int .i64 (R.pickT s wk), .int .i64 (R.pickA s wk), .int .i64 (R.pickC s wk)], .int .i64 (R.pickE s wk)]) ∧ ∃ h', RMem F w' sb h' (R.pickS s wk) ∧ RApart F h' ∧ RNext h h' w.heap.size ∧ Only (sb :: h.foot) w w' := by
  have hfew := g.few
  have hwk0 := g.wk0
  have hwk1 := g.wk1
  have c0 := m.blk.cell 0
  simp [rsCells] at c0
  have hsl := m.blk.lt
  by_cases hout : wk < 0 ∨ s.set.workers ≤ wk
  · have E1 : R.pickT s wk = 0 := by unfold R.pickT; rw [if_pos hout]
    have E2 : R.pickA s wk = 0 := by unfold R.pickA; rw [if_pos hout]
    have E3 : R.pickC s wk = 0 := by unfold R.pickC; rw [if_pos hout]
    have E4 : R.pickE s wk = 7 := by unfold R.pickE; rw [if_pos hout]
    have E5 : R.pickS s wk = s := by unfold R.pickS; rw [if_pos hout]
    rw [E1, E2, E3, E4, E5]
    have M := hid m
    have AP := hid ap
    clear E1 E2 E3 E4 E5 m ap g ln st cd
    go_enter Tryz.func53, Tryz.ntmps53
    by_cases hneg : wk < 0
    · go_wp2
      refine bodyPost_ret (v := .tuple #[.agg #[.int .i64 0, .int .i64 0, .int .i64 0], .int .i64 7]) ?_ rfl ⟨rfl, h, ?_, AP.out, RNext.refl _ _, ?_⟩
      · simp [results, Tryz.results53, go_sem]
      · exact M.out.below ((Below.refl _ _).alloc (Nat.le_refl _) _)
      · exact Only.of_below ((Below.refl _ _).alloc (Nat.le_refl _) _)
    · have hge : s.set.workers ≤ wk := by omega
      go_wp2
      refine bodyPost_ret (v := .tuple #[.agg #[.int .i64 0, .int .i64 0, .int .i64 0], .int .i64 7]) ?_ rfl ⟨rfl, h, ?_, AP.out, RNext.refl _ _, ?_⟩
      · simp [results, Tryz.results53, go_sem]
      · exact M.out.below ((Below.refl _ _).alloc (Nat.le_refl _) _)
      · exact Only.of_below ((Below.refl _ _).alloc (Nat.le_refl _) _)
  · have hw0 : 0 ≤ wk := by omega
    have hw1 : wk < s.set.workers := by omega
    obtain ⟨on0, on1⟩ := R.on_bd s.T wk
    have ON := hid (fun wx mx => rOn_any F wx sb h s mx hfew wk)
    by_cases hon : R.on s.T wk < 0
    · have E1 : R.pickT s wk = -1 := by unfold R.pickT; rw [if_neg hout, if_pos hon]
      have E2 : R.pickA s wk = 0 := by unfold R.pickA; rw [if_neg hout, if_pos hon]
      have E3 : R.pickC s wk = 0 := by unfold R.pickC; rw [if_neg hout, if_pos hon]
      have E4 : R.pickE s wk = 0 := by unfold R.pickE; rw [if_neg hout]
      have E5 : R.pickS s wk = s := by unfold R.pickS; rw [if_neg hout, if_pos hon]
      rw [E1, E2, E3, E4, E5]
      have M := hid m
      have AP := hid ap
      clear E1 E2 E3 E4 E5 m ap g ln st cd hout
      generalize R.on s.T wk = o at *
      go_enter Tryz.func53, Tryz.ntmps53
      go_wp2_with fail
      refine (ON.out _ (M.out.below ((Below.refl _ _).alloc (Nat.le_refl _) _))).mono ?_
      rintro e w1 ⟨rfl, rfl⟩
      go_wp2
      refine bodyPost_ret (v := .tuple #[.agg #[.int .i64 (-1), .int .i64 0, .int .i64 0], .int .i64 0]) ?_ rfl ⟨rfl, h, ?_, AP.out, RNext.refl _ _, ?_⟩
      · simp [results, Tryz.results53, go_sem]
      · exact M.out.below ((Below.refl _ _).alloc (Nat.le_refl _) _)
      · exact Only.of_below ((Below.refl _ _).alloc (Nat.le_refl _) _)
    · have E1 : R.pickT s wk = R.on s.T wk := by unfold R.pickT; rw [if_neg hout, if_neg hon]
      have E2 : R.pickA s wk = (R.th s.T (R.on s.T wk).toNat).at_ := by unfold R.pickA; rw [if_neg hout, if_neg hon]
      have E3 : R.pickC s wk = R.actC s (R.on s.T wk).toNat := by unfold R.pickC; rw [if_neg hout, if_neg hon]
      have E4 : R.pickE s wk = 0 := by unfold R.pickE; rw [if_neg hout]
      have E5 : R.pickS s wk = R.settle (R.actS s (R.on s.T wk).toNat) := by unfold R.pickS; rw [if_neg hout, if_neg hon]
      rw [E1, E2, E3, E4, E5]
      clear E1 E2 E3 E4 E5 hout
      have HTL : (R.on s.T wk).toNat < s.T.length := by omega
      have HTE : R.on s.T wk = ((R.on s.T wk).toNat : Int) := by omega
      generalize (R.on s.T wk).toNat = t at *
      rw [HTE] at ON ⊢
      clear HTE hon on0 on1
      have eth : R.th s.T t = s.T[t] := by simp [R.th, List.getD, HTL]
      rw [eth]
      have htc : t < s.set.threads.length := by have := g.len; omega
      have LK := like_actS s t (by have := g.own; have := g.mfew; omega)
      have hgA := LK.good g (by omega)
      have hwkA : (R.actS s t).set.workers = (s.set.workers.toNat : Int) := by rw [LK.set]; omega
      have FL := hid m.foot_lt
      obtain ⟨at0, at1⟩ := cd.at_ t HTL
      obtain ⟨cl, ci⟩ := cd.code t htc
      have hend := cd.ended t HTL
      have EI : R.instrAt s t = (s.set.threads[t].code)[s.T[t].at_.toNat]?.getD ⟨0, 0, 0⟩ := by
        unfold R.instrAt
        rw [eth]
        simp [List.getD, htc]
      have EAT : s.T[t].at_ = (s.T[t].at_.toNat : Int) := by omega
      generalize hk : s.T[t].at_.toNat = k at *
      rw [EAT] at at0 at1 ⊢
      have c2 := m.blk.cell 2
      have c8 := m.blk.cell 8
      simp [rsCells] at c2 c8
      obtain ⟨bt, ot, cv, cc, hta, hfb, _, _, _, _, y4, hcode, _⟩ := m.set.threads t htc
      rw [hta] at c2
      have hbtl := m.lt bt hfb
      have hgtl := m.gT_lt
      have a1 := m.tcell HTL 1 (by decide)
      simp [rtCells] at a1
      rw [EAT] at a1
      have HEAT := hid EAT
      have htI : (t : Int) < (s.T.length : Int) := by omega
      have htcI : (t : Int) < (s.set.threads.length : Int) := by omega
      have M := hid m
      have AP := hid ap
      have G := hid g
      have LN := hid ln
      have ST := hid st
      have HGA := hid hgA
      have HLK := hid LK
      have HWA := hid hwkA
      clear hwkA
      clear m ap g ln st cd hgA LK hk EAT hfb hta eth
      by_cases hkl : k < s.set.threads[t].code.length
      · obtain ⟨bc, oc, hcv, hfc, z0, z1, z2⟩ := hcode k hkl
        have hbcl := M.out.lt bc hfc
        subst hcv
        have EI2 : R.instrAt s t = s.set.threads[t].code[k] := by rw [EI]; simp [hkl]
        have HINS := ci _ (List.getElem_mem hkl)
        rw [← EI2] at HINS z0 z1 z2
        clear EI EI2 ci hcode
        have hklI : (k : Int) < (s.set.threads[t].code.length : Int) := by omega
        generalize hI : R.instrAt s t = I at *
        have HI := hid hI
        clear hI
        have HIN := hid HINS
        obtain ⟨op, ia, ib⟩ := I
        simp only at z0 z1 z2
        clear HINS
        go_enter Tryz.func53, Tryz.ntmps53
        go_wp2_with fail
        refine (ON.out _ (M.out.below ((Below.refl _ _).alloc (Nat.le_refl _) _))).mono ?_
        rintro e w1 ⟨rfl, rfl⟩
        go_upto_region 9 with fail
        have hbB : Below w.heap.size w (((w.alloc (.cells #[.int .i64 0, .int .i64 0, .int .i64 0] 84)).alloc (.cells #[.int .i64 t, .int .i64 k, .int .i64 0] 84)).alloc (.cells #[.int .i64 0, .int .i64 0, .int .i64 0] 41)) := (((Below.refl _ _).alloc (Nat.le_refl _) _).alloc (by simp) _).alloc (by simp; omega) _
        have bb0 : Blk (((w.alloc (.cells #[.int .i64 0, .int .i64 0, .int .i64 0] 84)).alloc (.cells #[.int .i64 t, .int .i64 k, .int .i64 0] 84)).alloc (.cells #[.int .i64 0, .int .i64 0, .int .i64 0] 41)) w.heap.size #[.int .i64 0, .int .i64 0, .int .i64 0] 84 := ((Blk.new _ _ _).alloc _).alloc _
        have bb1 : Blk (((w.alloc (.cells #[.int .i64 0, .int .i64 0, .int .i64 0] 84)).alloc (.cells #[.int .i64 t, .int .i64 k, .int .i64 0] 84)).alloc (.cells #[.int .i64 0, .int .i64 0, .int .i64 0] 41)) (w.heap.size + 1) #[.int .i64 t, .int .i64 k, .int .i64 0] 84 := by
          have := Blk.new (w.alloc (.cells #[.int .i64 0, .int .i64 0, .int .i64 0] 84)) #[.int .i64 t, .int .i64 k, .int .i64 0] 84
          simp at this
          exact this.alloc _
        have bb2 : Blk (((w.alloc (.cells #[.int .i64 0, .int .i64 0, .int .i64 0] 84)).alloc (.cells #[.int .i64 t, .int .i64 k, .int .i64 0] 84)).alloc (.cells #[.int .i64 0, .int .i64 0, .int .i64 0] 41)) (w.heap.size + 1 + 1) #[.int .i64 0, .int .i64 0, .int .i64 0] 41 := by
          have := Blk.new ((w.alloc (.cells #[.int .i64 0, .int .i64 0, .int .i64 0] 84)).alloc (.cells #[.int .i64 t, .int .i64 k, .int .i64 0] 84)) #[.int .i64 0, .int .i64 0, .int .i64 0] 41
          simp at this
          exact this
        generalize ((w.alloc (.cells #[.int .i64 0, .int .i64 0, .int .i64 0] 84)).alloc (.cells #[.int .i64 t, .int .i64 k, .int .i64 0] 84)).alloc (.cells #[.int .i64 0, .int .i64 0, .int .i64 0] 41) = wB at hbB bb0 bb1 bb2 ⊢
        have c2' := (hbB.cell (p := ⟨sb, 2, none⟩) hsl).trans c2
        have y4' := (hbB.cell (p := ⟨bt, ot + t * 5 + 4, none⟩) hbtl).trans y4
        have z0' := (hbB.cell (p := ⟨bc, oc + k * 3, none⟩) hbcl).trans z0
        have z1' := (hbB.cell (p := ⟨bc, oc + k * 3 + 1, none⟩) hbcl).trans z1
        have z2' := (hbB.cell (p := ⟨bc, oc + k * 3 + 2, none⟩) hbcl).trans z2
        have BB0 := hid bb0
        have BB1 := hid bb1
        have BB2 := hid bb2
        have MB := hid (M.out.below hbB)
        have HBB := hid hbB
        have i0 := bb2.cell 0
        have i1 := bb2.cell 1
        have i2 := bb2.cell 2
        simp at i0 i1 i2
        have f0 := bb2.frozen 0
        have f1 := bb2.frozen 1
        have f2 := bb2.frozen 2
        clear c2 y4 z0 z1 z2 bb0 bb1 bb2 c8 a1 c0
        go_upto_region 11 with fail
        have hbC : Below w.heap.size w (((wB.setCell ⟨w.heap.size + 1 + 1, 0, none⟩ (.int .i64 op)).setCell ⟨w.heap.size + 1 + 1, 1, none⟩ (.int .i64 ia)).setCell ⟨w.heap.size + 1 + 1, 2, none⟩ (.int .i64 ib)) := ((HBB.out.setCell (by show w.heap.size ≤ _; simp; omega) _).setCell (by show w.heap.size ≤ _; simp; omega) _).setCell (by show w.heap.size ≤ _; simp; omega) _
        have bc0 := ((BB0.out.other (p := ⟨w.heap.size + 1 + 1, 0, none⟩) (by show w.heap.size ≠ w.heap.size + 1 + 1; omega) (.int .i64 op)).other (p := ⟨w.heap.size + 1 + 1, 1, none⟩) (by show w.heap.size ≠ w.heap.size + 1 + 1; omega) (.int .i64 ia)).other (p := ⟨w.heap.size + 1 + 1, 2, none⟩) (by show w.heap.size ≠ w.heap.size + 1 + 1; omega) (.int .i64 ib)
        have bc1 := ((BB1.out.other (p := ⟨w.heap.size + 1 + 1, 0, none⟩) (by show w.heap.size + 1 ≠ w.heap.size + 1 + 1; omega) (.int .i64 op)).other (p := ⟨w.heap.size + 1 + 1, 1, none⟩) (by show w.heap.size + 1 ≠ w.heap.size + 1 + 1; omega) (.int .i64 ia)).other (p := ⟨w.heap.size + 1 + 1, 2, none⟩) (by show w.heap.size + 1 ≠ w.heap.size + 1 + 1; omega) (.int .i64 ib)
        have bc2 : Blk (((wB.setCell ⟨w.heap.size + 1 + 1, 0, none⟩ (.int .i64 op)).setCell ⟨w.heap.size + 1 + 1, 1, none⟩ (.int .i64 ia)).setCell ⟨w.heap.size + 1 + 1, 2, none⟩ (.int .i64 ib)) (w.heap.size + 1 + 1) #[.int .i64 op, .int .i64 ia, .int .i64 ib] 41 := by
          have := ((BB2.out.set 0 (.int .i64 op)).set 1 (.int .i64 ia)).set 2 (.int .i64 ib)
          simpa using this
        clear c2' y4' z0' z1' z2' i0 i1 i2 f0 f1 f2 BB0 BB1 BB2 MB HBB
        generalize ((wB.setCell ⟨w.heap.size + 1 + 1, 0, none⟩ (.int .i64 op)).setCell ⟨w.heap.size + 1 + 1, 1, none⟩ (.int .i64 ia)).setCell ⟨w.heap.size + 1 + 1, 2, none⟩ (.int .i64 ib) = wC at hbC bc0 bc1 bc2 ⊢
        have MC := hid (M.out.below hbC)
        have OC : Hid (Only (sb :: h.foot) w wC) := Only.of_below hbC
        have BC0 := hid bc0
        have BC1 := hid bc1
        have BC2 := hid bc2
        have i0 := bc2.cell 0
        simp at i0
        have EA : Hid (R.actS s t = if op = 0 then R.stop s t else if op = 3 then (if (R.th s.T t).last = ia then R.toAt s t ib else R.toAt s t ((R.th s.T t).at_ + 1)) else R.toLast (R.doesS (R.toAt s t ((R.th s.T t).at_ + 1)) t ⟨op, ia, ib⟩) t (R.actC s t)) := by
          unfold R.actS
          rw [HI.out]
          exact hid rfl
        have EC : Hid (R.actC s t = if op = 0 ∨ op = 3 then 0 else R.doesC (R.toAt s t ((R.th s.T t).at_ + 1)) t ⟨op, ia, ib⟩) := by
          unfold R.actC
          rw [HI.out]
          exact hid rfl
        clear bc0 bc1 bc2 hbC
        by_cases hop0 : op = 0
        · subst hop0
          rw [if_pos rfl] at EA
          rw [if_pos (.inl rfl)] at EC
          have HAC : Hid (R.actC s t = 0) := EC
          go_wp2_with fail
          refine (rStop_any F wC sb h s MC.out AP.out G.out t HTL (by omega) (by omega) hnx).mono ?_
          rintro e w1 ⟨rfl, hm1, ho1⟩
          have M1 : Hid (RMem F w1 sb h (R.actS s t)) := by rw [EA.out]; exact hm1
          have O1 := hid (OC.out.trans ho1)
          have B10 := hid (BC0.out.only ho1 (fun hb => by have := FL.out _ hb; omega))
          have B11 := hid (BC1.out.only ho1 (fun hb => by have := FL.out _ hb; omega))
          clear hm1 ho1 MC OC BC0 BC1 BC2 i0
          go_wp2_with fail
          refine (rSettle_any F w1 sb h (R.actS s t) M1.out HGA.out s.set.workers.toNat HWA.out).mono ?_
          rintro e wZ ⟨rfl, hmZ, hoZ⟩
          have MZ := hid hmZ
          have HGZ : Hid (h.gT = h.gT) := rfl
          have hoZ' : Only (sb :: h.foot) w1 wZ := hoZ.mono (by rw [HGZ.out]; exact RH.foot_two h sb)
          have OZ := hid (O1.out.trans hoZ')
          have BZ0 := hid (B10.out.only hoZ' (fun hb => by have := FL.out _ hb; omega))
          have BZ1 := hid (B11.out.only hoZ' (fun hb => by have := FL.out _ hb; omega))
          clear hmZ hoZ hoZ'
          have r0 := BZ1.out.cell 0
          have r1 := BZ1.out.cell 1
          have r2 := BZ1.out.cell 2
          have q0 := BZ0.out.cell 0
          have q1 := BZ0.out.cell 1
          have q2 := BZ0.out.cell 2
          simp at r0 r1 r2 q0 q1 q2
          have g0 := BZ0.out.frozen 0
          have g1 := BZ0.out.frozen 1
          have g2 := BZ0.out.frozen 2
          have hz0 : w.heap.size ≤ wZ.heap.size := OZ.out.size
          go_wp2
          refine bodyPost_ret (v := .tuple #[.agg #[.int .i64 t, .int .i64 k, .int .i64 (R.actC s t)], .int .i64 0]) ?_ rfl ⟨rfl, h, ?_, AP.out, RNext.refl _ _, ?_⟩
          · rw [HAC.out]
            simp [results, Tryz.results53, go_sem, q0, q1, q2]
          · refine MZ.out.only (L := [w.heap.size]) ((((Only.refl _ _).setCell (.inl (by simp)) _).setCell (.inl (by simp)) _).setCell (.inl (by simp)) _) ?_ ?_ ?_ ?_
            · simp; omega
            · first
                | (rw [HGZ.out]; simp; omega)
                | (simp; omega)
            · intro b hb hf; simp at hb; subst hb; have := M.out.lt _ hf; omega
            · intro b hb cur e he
              simp at hb
              subst hb
              have hbz := BZ0.out
              unfold Blk at hbz
              rw [hbz] at he
              cases he
              decide
          · exact (((OZ.out.setCell (.inr (Nat.le_refl _)) _).setCell (.inr (Nat.le_refl _)) _).setCell (.inr (Nat.le_refl _)) _)
        · have eth : R.th s.T t = s.T[t] := by simp [R.th, List.getD, HTL]
          rw [eth, HEAT.out] at EA EC
          have c8 := MC.out.blk.cell 8
          simp [rsCells] at c8
          have a1 := MC.out.tcell HTL 1 (by decide)
          simp [rtCells] at a1
          have f1 := MC.out.tfrozen (t * 13 + 1)
          have hmD : RMem F (wC.setCell ⟨h.gT, t * 13 + 1, none⟩ (.int .i64 ((k : Int) + 1))) sb h (R.toAt s t ((k : Int) + 1)) := MC.out.setT HTL (j := 1) (by decide) (.int .i64 ((k : Int) + 1)) (fun x => { x with at_ := (k : Int) + 1 }) rfl
          have hoD : Only (sb :: h.foot) w (wC.setCell ⟨h.gT, t * 13 + 1, none⟩ (.int .i64 ((k : Int) + 1))) := OC.out.setCell (.inl (by simp [RH.foot])) _
          have bd0 := BC0.out.other (p := ⟨h.gT, t * 13 + 1, none⟩) (by show w.heap.size ≠ h.gT; omega) (.int .i64 ((k : Int) + 1))
          have bd1 := BC1.out.other (p := ⟨h.gT, t * 13 + 1, none⟩) (by show w.heap.size + 1 ≠ h.gT; omega) (.int .i64 ((k : Int) + 1))
          have bd2 := BC2.out.other (p := ⟨h.gT, t * 13 + 1, none⟩) (by show w.heap.size + 1 + 1 ≠ h.gT; omega) (.int .i64 ((k : Int) + 1))
          have HMD := hid hmD
          have HOD := hid hoD
          have HBD0 := hid bd0
          have HBD1 := hid bd1
          have HBD2 := hid bd2
          have hwD : ∃ wD, wD = wC.setCell ⟨h.gT, t * 13 + 1, none⟩ (.int .i64 ((k : Int) + 1)) := ⟨_, rfl⟩
          clear hmD hoD bd0 bd1 bd2 MC OC BC0 BC1 BC2 eth
          have hne0 : (op == 0) = false := by simpa using hop0
          have hkb : (k : Int) ≤ 32 := at1
          by_cases hop3 : op = 3
          · subst hop3
            rw [if_neg (by decide), if_pos rfl] at EA
            rw [if_pos (.inr rfl)] at EC
            have HAC : Hid (R.actC s t = 0) := EC
            go_upto_region 19 with fail
            clear c8 a1 f1 i0 hwD
            generalize wC.setCell ⟨h.gT, t * 13 + 1, none⟩ (.int .i64 ((k : Int) + 1)) = wD at *
            have c8 := HMD.out.blk.cell 8
            simp [rsCells] at c8
            have htD : t < (R.toAt s t ((k : Int) + 1)).T.length := by simpa [R.toAt] using HTL
            have hlD : (R.toAt s t ((k : Int) + 1)).T.length = s.T.length := by simp [R.toAt]
            rw [hlD] at c8
            have a2 := HMD.out.tcell htD 2 (by decide)
            simp [rtCells] at a2
            have hl2 : (R.toAt s t ((k : Int) + 1)).T[t].last = s.T[t].last := by simp [R.toAt]
            rw [hl2] at a2
            have i1 := HBD2.out.cell 1
            simp at i1
            generalize s.T[t].last = lst at *
            clear hlD hl2
            cases hl : (lst == ia)
            · rw [if_neg (by simpa using hl)] at EA
              go_wp2_with fail
              go_quiet (fail)
              have M1 : Hid (RMem F (wD.drewN nq) sb h (R.actS s t)) := by rw [EA.out]; exact HMD.out.drewN nq
              have O1 := hid (HOD.out.drewN nq)
              have B10 : Hid (Blk (wD.drewN nq) w.heap.size #[.int .i64 0, .int .i64 0, .int .i64 0] 84) := HBD0.out
              have B11 : Hid (Blk (wD.drewN nq) (w.heap.size + 1) #[.int .i64 t, .int .i64 k, .int .i64 0] 84) := HBD1.out
              clear c8 a2 i1 HMD HOD HBD0 HBD1 HBD2
              generalize wD.drewN nq = w1 at *
              go_wp2_with fail
              refine (rSettle_any F w1 sb h (R.actS s t) M1.out HGA.out s.set.workers.toNat HWA.out).mono ?_
              rintro e wZ ⟨rfl, hmZ, hoZ⟩
              have MZ := hid hmZ
              have HGZ : Hid (h.gT = h.gT) := rfl
              have hoZ' : Only (sb :: h.foot) w1 wZ := hoZ.mono (by rw [HGZ.out]; exact RH.foot_two h sb)
              have OZ := hid (O1.out.trans hoZ')
              have BZ0 := hid (B10.out.only hoZ' (fun hb => by have := FL.out _ hb; omega))
              have BZ1 := hid (B11.out.only hoZ' (fun hb => by have := FL.out _ hb; omega))
              clear hmZ hoZ hoZ'
              have r0 := BZ1.out.cell 0
              have r1 := BZ1.out.cell 1
              have r2 := BZ1.out.cell 2
              have q0 := BZ0.out.cell 0
              have q1 := BZ0.out.cell 1
              have q2 := BZ0.out.cell 2
              simp at r0 r1 r2 q0 q1 q2
              have g0 := BZ0.out.frozen 0
              have g1 := BZ0.out.frozen 1
              have g2 := BZ0.out.frozen 2
              have hz0 : w.heap.size ≤ wZ.heap.size := OZ.out.size
              go_wp2
              refine bodyPost_ret (v := .tuple #[.agg #[.int .i64 t, .int .i64 k, .int .i64 (R.actC s t)], .int .i64 0]) ?_ rfl ⟨rfl, h, ?_, AP.out, RNext.refl _ _, ?_⟩
              · rw [HAC.out]
                simp [results, Tryz.results53, go_sem, q0, q1, q2]
              · refine MZ.out.only (L := [w.heap.size]) ((((Only.refl _ _).setCell (.inl (by simp)) _).setCell (.inl (by simp)) _).setCell (.inl (by simp)) _) ?_ ?_ ?_ ?_
                · simp; omega
                · first
                    | (rw [HGZ.out]; simp; omega)
                    | (simp; omega)
                · intro b hb hf; simp at hb; subst hb; have := M.out.lt _ hf; omega
                · intro b hb cur e he
                  simp at hb
                  subst hb
                  have hbz := BZ0.out
                  unfold Blk at hbz
                  rw [hbz] at he
                  cases he
                  decide
              · exact (((OZ.out.setCell (.inr (Nat.le_refl _)) _).setCell (.inr (Nat.le_refl _)) _).setCell (.inr (Nat.le_refl _)) _)
            · rw [if_pos (by simpa using hl)] at EA
              go_wp2_with fail
              go_quiet (fail)
              have ME := hid (HMD.out.drewN nq)
              have OE := hid (HOD.out.drewN nq)
              have BE0 : Hid (Blk (wD.drewN nq) w.heap.size #[.int .i64 0, .int .i64 0, .int .i64 0] 84) := HBD0.out
              have BE1 : Hid (Blk (wD.drewN nq) (w.heap.size + 1) #[.int .i64 t, .int .i64 k, .int .i64 0] 84) := HBD1.out
              have BE2 : Hid (Blk (wD.drewN nq) (w.heap.size + 1 + 1) #[.int .i64 3, .int .i64 ia, .int .i64 ib] 41) := HBD2.out
              clear c8 a2 i1 HMD HOD HBD0 HBD1 HBD2
              generalize wD.drewN nq = wE at *
              have c8 := ME.out.blk.cell 8
              simp [rsCells] at c8
              have hlD : (R.toAt s t ((k : Int) + 1)).T.length = s.T.length := by simp [R.toAt]
              rw [hlD] at c8
              have a1 := ME.out.tcell htD 1 (by decide)
              simp [rtCells] at a1
              have f1 := ME.out.tfrozen (t * 13 + 1)
              have i2 := BE2.out.cell 2
              simp at i2
              clear hlD
              go_wp2_with fail
              go_region
              have hm1 := (ME.out.setT htD (j := 1) (by decide) (.int .i64 ib) (fun x => { x with at_ := ib }) rfl).below (Below.refl _ _).drew
              have eS : ({ R.toAt s t ((k : Int) + 1) with T := (R.toAt s t ((k : Int) + 1)).T.modify t (fun x => { x with at_ := ib }) } : RS) = R.toAt s t ib := by
                simp [R.toAt, List.modify_modify_eq]
                rfl
              rw [eS] at hm1
              have M1 : Hid (RMem F (wE.setCell ⟨h.gT, t * 13 + 1, none⟩ (.int .i64 ib)).drew sb h (R.actS s t)) := by rw [EA.out]; exact hm1
              have O1 : Hid (Only (sb :: h.foot) w (wE.setCell ⟨h.gT, t * 13 + 1, none⟩ (.int .i64 ib)).drew) := (OE.out.setCell (.inl (by simp [RH.foot])) _).via (Below.refl _ _).drew
              have B10 : Hid (Blk (wE.setCell ⟨h.gT, t * 13 + 1, none⟩ (.int .i64 ib)).drew w.heap.size #[.int .i64 0, .int .i64 0, .int .i64 0] 84) := BE0.out.other (p := ⟨h.gT, t * 13 + 1, none⟩) (by show w.heap.size ≠ h.gT; omega) (.int .i64 ib)
              have B11 : Hid (Blk (wE.setCell ⟨h.gT, t * 13 + 1, none⟩ (.int .i64 ib)).drew (w.heap.size + 1) #[.int .i64 t, .int .i64 k, .int .i64 0] 84) := BE1.out.other (p := ⟨h.gT, t * 13 + 1, none⟩) (by show w.heap.size + 1 ≠ h.gT; omega) (.int .i64 ib)
              clear c8 a1 f1 i2 ME OE BE0 BE1 BE2 hm1 eS
              generalize (wE.setCell ⟨h.gT, t * 13 + 1, none⟩ (.int .i64 ib)).drew = w1 at *
              go_wp2_with fail
              refine (rSettle_any F w1 sb h (R.actS s t) M1.out HGA.out s.set.workers.toNat HWA.out).mono ?_
              rintro e wZ ⟨rfl, hmZ, hoZ⟩
              have MZ := hid hmZ
              have HGZ : Hid (h.gT = h.gT) := rfl
              have hoZ' : Only (sb :: h.foot) w1 wZ := hoZ.mono (by rw [HGZ.out]; exact RH.foot_two h sb)
              have OZ := hid (O1.out.trans hoZ')
              have BZ0 := hid (B10.out.only hoZ' (fun hb => by have := FL.out _ hb; omega))
              have BZ1 := hid (B11.out.only hoZ' (fun hb => by have := FL.out _ hb; omega))
              clear hmZ hoZ hoZ'
              have r0 := BZ1.out.cell 0
              have r1 := BZ1.out.cell 1
              have r2 := BZ1.out.cell 2
              have q0 := BZ0.out.cell 0
              have q1 := BZ0.out.cell 1
              have q2 := BZ0.out.cell 2
              simp at r0 r1 r2 q0 q1 q2
              have g0 := BZ0.out.frozen 0
              have g1 := BZ0.out.frozen 1
              have g2 := BZ0.out.frozen 2
              have hz0 : w.heap.size ≤ wZ.heap.size := OZ.out.size
              go_wp2
              refine bodyPost_ret (v := .tuple #[.agg #[.int .i64 t, .int .i64 k, .int .i64 (R.actC s t)], .int .i64 0]) ?_ rfl ⟨rfl, h, ?_, AP.out, RNext.refl _ _, ?_⟩
              · rw [HAC.out]
                simp [results, Tryz.results53, go_sem, q0, q1, q2]
              · refine MZ.out.only (L := [w.heap.size]) ((((Only.refl _ _).setCell (.inl (by simp)) _).setCell (.inl (by simp)) _).setCell (.inl (by simp)) _) ?_ ?_ ?_ ?_
                · simp; omega
                · first
                    | (rw [HGZ.out]; simp; omega)
                    | (simp; omega)
                · intro b hb hf; simp at hb; subst hb; have := M.out.lt _ hf; omega
                · intro b hb cur e he
                  simp at hb
                  subst hb
                  have hbz := BZ0.out
                  unfold Blk at hbz
                  rw [hbz] at he
                  cases he
                  decide
              · exact (((OZ.out.setCell (.inr (Nat.le_refl _)) _).setCell (.inr (Nat.le_refl _)) _).setCell (.inr (Nat.le_refl _)) _)
          · rw [if_neg hop0, if_neg hop3] at EA
            rw [if_neg (by omega)] at EC
            have hne3 : (op == 3) = false := by simpa using hop3
            go_upto_region 13 with fail
            clear c8 a1 f1 i0 hwD
            generalize wC.setCell ⟨h.gT, t * 13 + 1, none⟩ (.int .i64 ((k : Int) + 1)) = wD at *
            have i0 := HBD2.out.cell 0
            have i1 := HBD2.out.cell 1
            have i2 := HBD2.out.cell 2
            simp at i0 i1 i2
            have hszD := HOD.out.size
            have LT := like_toAt s t ((k : Int) + 1)
            have GT := hid (LT.good G.out (by omega))
            have INT := hid (HIN.out.like LT)
            have htD : t < (R.toAt s t ((k : Int) + 1)).T.length := by rw [LT.len]; exact HTL
            have hnxD : (R.toAt s t ((k : Int) + 1)).next ≤ 4611686018427386000 := hnx
            have HLT := hid LT
            clear LT
            go_wp2_with fail
            refine (rDoes_any F wD sb h _ HMD.out AP.out GT.out (LN.out.toAt t _) (ST.out.toAt t _) t htD op ia ib INT.out hnxD).mono ?_
            rintro e wE ⟨rfl, h', hmE, hapE, hnE, hoE⟩
            have ME := hid hmE
            have AP1 := hid hapE
            have NX := hid (hnE.mono hszD)
            have OE := hid (HOD.out.trans hoE)
            have be0 := HBD0.out.only hoE (fun hb => by have := FL.out _ hb; omega)
            have be1 := HBD1.out.only hoE (fun hb => by have := FL.out _ hb; omega)
            have BE0 := hid be0
            have BE1 := hid be1
            have LE := hid (like_doesS (R.toAt s t ((k : Int) + 1)) t ⟨op, ia, ib⟩)
            clear hmE hapE hnE hoE HMD HOD HBD0 HBD1 HBD2 i0 i1 i2
            generalize hdc : R.doesC (R.toAt s t ((k : Int) + 1)) t ⟨op, ia, ib⟩ = dc at *
            generalize hds : R.doesS (R.toAt s t ((k : Int) + 1)) t ⟨op, ia, ib⟩ = ds at *
            clear hdc hds
            have HAC : Hid (R.actC s t = dc) := EC
            have htE : t < ds.T.length := by rw [LE.out.len]; exact htD
            have hlE : ds.T.length = s.T.length := LE.out.len.trans HLT.out.len
            have k2 := be1.cell 2
            simp at k2
            have z2 := be1.frozen 2
            clear be0 be1
            go_upto_region 14 with fail
            have hmF : RMem F (wE.setCell ⟨w.heap.size + 1, 2, none⟩ (.int .i64 dc)) sb h' ds := by
              refine ME.out.only (L := [w.heap.size + 1]) ((Only.refl _ _).setCell (.inl (by simp)) _) ?_ ?_ ?_ ?_
              · simp; omega
              · rw [NX.out.t]; simp; omega
              · intro b hb hf; simp at hb; subst hb; have := M.out.lt _ hf; omega
              · intro b hb cur e he
                simp at hb
                subst hb
                have hbz := BE1.out
                unfold Blk at hbz
                rw [hbz] at he
                cases he
                decide
            have hoF : Only (sb :: h.foot) w (wE.setCell ⟨w.heap.size + 1, 2, none⟩ (.int .i64 dc)) := OE.out.setCell (.inr (by show w.heap.size ≤ w.heap.size + 1; omega)) _
            have bf0 := BE0.out.other (p := ⟨w.heap.size + 1, 2, none⟩) (by show w.heap.size ≠ w.heap.size + 1; omega) (.int .i64 dc)
            have bf1 : Blk (wE.setCell ⟨w.heap.size + 1, 2, none⟩ (.int .i64 dc)) (w.heap.size + 1) #[.int .i64 t, .int .i64 k, .int .i64 dc] 84 := by
              have := BE1.out.set 2 (.int .i64 dc)
              simpa using this
            clear k2 z2 ME OE BE0 BE1
            generalize wE.setCell ⟨w.heap.size + 1, 2, none⟩ (.int .i64 dc) = wF at hmF hoF bf0 bf1 ⊢
            have MF := hid hmF
            have OF := hid hoF
            have BF0 := hid bf0
            have BF1 := hid bf1
            clear hmF hoF bf0 bf1
            have c8 := MF.out.blk.cell 8
            simp [rsCells] at c8
            rw [hlE] at c8
            have a2 := MF.out.tcell htE 2 (by decide)
            simp [rtCells] at a2
            have f2 := MF.out.tfrozen (t * 13 + 2)
            have k2 := BF1.out.cell 2
            simp at k2
            go_wp2_with fail
            go_region
            have hm1 := (MF.out.setT htE (j := 2) (by decide) (.int .i64 dc) (fun x => { x with last := dc }) rfl).below (Below.refl _ _).drew
            have M1 : Hid (RMem F (wF.setCell ⟨h'.gT, t * 13 + 2, none⟩ (.int .i64 dc)).drew sb h' (R.actS s t)) := by
              rw [EA.out, HAC.out]
              exact hm1
            have hgt' := NX.out.t
            have O1 : Hid (Only (sb :: h.foot) w (wF.setCell ⟨h'.gT, t * 13 + 2, none⟩ (.int .i64 dc)).drew) := (OF.out.setCell (.inl (by rw [hgt']; simp [RH.foot])) _).via (Below.refl _ _).drew
            have B10 : Hid (Blk (wF.setCell ⟨h'.gT, t * 13 + 2, none⟩ (.int .i64 dc)).drew w.heap.size #[.int .i64 0, .int .i64 0, .int .i64 0] 84) := BF0.out.other (p := ⟨h'.gT, t * 13 + 2, none⟩) (by show w.heap.size ≠ h'.gT; omega) (.int .i64 dc)
            have B11 : Hid (Blk (wF.setCell ⟨h'.gT, t * 13 + 2, none⟩ (.int .i64 dc)).drew (w.heap.size + 1) #[.int .i64 t, .int .i64 k, .int .i64 dc] 84) := BF1.out.other (p := ⟨h'.gT, t * 13 + 2, none⟩) (by show w.heap.size + 1 ≠ h'.gT; omega) (.int .i64 dc)
            clear c8 a2 f2 k2 MF OF BF0 BF1 hm1 hgt'
            generalize (wF.setCell ⟨h'.gT, t * 13 + 2, none⟩ (.int .i64 dc)).drew = w1 at *
            go_wp2_with fail
            refine (rSettle_any F w1 sb h' (R.actS s t) M1.out HGA.out s.set.workers.toNat HWA.out).mono ?_
            rintro e wZ ⟨rfl, hmZ, hoZ⟩
            have MZ := hid hmZ
            have HGZ : Hid (h'.gT = h.gT) := NX.out.t
            have hoZ' : Only (sb :: h.foot) w1 wZ := hoZ.mono (by rw [HGZ.out]; exact RH.foot_two h sb)
            have OZ := hid (O1.out.trans hoZ')
            have BZ0 := hid (B10.out.only hoZ' (fun hb => by have := FL.out _ hb; omega))
            have BZ1 := hid (B11.out.only hoZ' (fun hb => by have := FL.out _ hb; omega))
            clear hmZ hoZ hoZ'
            have r0 := BZ1.out.cell 0
            have r1 := BZ1.out.cell 1
            have r2 := BZ1.out.cell 2
            have q0 := BZ0.out.cell 0
            have q1 := BZ0.out.cell 1
            have q2 := BZ0.out.cell 2
            simp at r0 r1 r2 q0 q1 q2
            have g0 := BZ0.out.frozen 0
            have g1 := BZ0.out.frozen 1
            have g2 := BZ0.out.frozen 2
            have hz0 : w.heap.size ≤ wZ.heap.size := OZ.out.size
            go_wp2
            refine bodyPost_ret (v := .tuple #[.agg #[.int .i64 t, .int .i64 k, .int .i64 (R.actC s t)], .int .i64 0]) ?_ rfl ⟨rfl, h', ?_, AP1.out, NX.out, ?_⟩
            · rw [HAC.out]
              simp [results, Tryz.results53, go_sem, q0, q1, q2]
            · refine MZ.out.only (L := [w.heap.size]) ((((Only.refl _ _).setCell (.inl (by simp)) _).setCell (.inl (by simp)) _).setCell (.inl (by simp)) _) ?_ ?_ ?_ ?_
              · simp; omega
              · first
                  | (rw [HGZ.out]; simp; omega)
                  | (simp; omega)
              · intro b hb hf; simp at hb; subst hb; have := M.out.lt _ hf; omega
              · intro b hb cur e he
                simp at hb
                subst hb
                have hbz := BZ0.out
                unfold Blk at hbz
                rw [hbz] at he
                cases he
                decide
            · exact (((OZ.out.setCell (.inr (Nat.le_refl _)) _).setCell (.inr (Nat.le_refl _)) _).setCell (.inr (Nat.le_refl _)) _)
      · have EI2 : R.instrAt s t = ⟨0, 0, 0⟩ := by
          rw [EI, List.getElem?_eq_none (by omega)]
          rfl
        have EA : Hid (R.actS s t = R.stop s t) := by
          unfold R.actS
          rw [EI2, if_pos rfl]
          exact hid rfl
        have EC : Hid (R.actC s t = 0) := by
          unfold R.actC
          rw [EI2, if_pos (.inl rfl)]
          exact hid rfl
        have hklI : (s.set.threads[t].code.length : Int) ≤ (k : Int) := by omega
        clear EI EI2 ci hcode
        go_enter Tryz.func53, Tryz.ntmps53
        go_wp2_with fail
        refine (ON.out _ (M.out.below ((Below.refl _ _).alloc (Nat.le_refl _) _))).mono ?_
        rintro e w1 ⟨rfl, rfl⟩
        go_upto_region 9 with fail
        have hbB : Below w.heap.size w (((w.alloc (.cells #[.int .i64 0, .int .i64 0, .int .i64 0] 84)).alloc (.cells #[.int .i64 t, .int .i64 k, .int .i64 0] 84)).alloc (.cells #[.int .i64 0, .int .i64 0, .int .i64 0] 41)) := (((Below.refl _ _).alloc (Nat.le_refl _) _).alloc (by simp) _).alloc (by simp; omega) _
        have bb0 : Blk (((w.alloc (.cells #[.int .i64 0, .int .i64 0, .int .i64 0] 84)).alloc (.cells #[.int .i64 t, .int .i64 k, .int .i64 0] 84)).alloc (.cells #[.int .i64 0, .int .i64 0, .int .i64 0] 41)) w.heap.size #[.int .i64 0, .int .i64 0, .int .i64 0] 84 := ((Blk.new _ _ _).alloc _).alloc _
        have bb1 : Blk (((w.alloc (.cells #[.int .i64 0, .int .i64 0, .int .i64 0] 84)).alloc (.cells #[.int .i64 t, .int .i64 k, .int .i64 0] 84)).alloc (.cells #[.int .i64 0, .int .i64 0, .int .i64 0] 41)) (w.heap.size + 1) #[.int .i64 t, .int .i64 k, .int .i64 0] 84 := by
          have := Blk.new (w.alloc (.cells #[.int .i64 0, .int .i64 0, .int .i64 0] 84)) #[.int .i64 t, .int .i64 k, .int .i64 0] 84
          simp at this
          exact this.alloc _
        have bb2 : Blk (((w.alloc (.cells #[.int .i64 0, .int .i64 0, .int .i64 0] 84)).alloc (.cells #[.int .i64 t, .int .i64 k, .int .i64 0] 84)).alloc (.cells #[.int .i64 0, .int .i64 0, .int .i64 0] 41)) (w.heap.size + 1 + 1) #[.int .i64 0, .int .i64 0, .int .i64 0] 41 := by
          have := Blk.new ((w.alloc (.cells #[.int .i64 0, .int .i64 0, .int .i64 0] 84)).alloc (.cells #[.int .i64 t, .int .i64 k, .int .i64 0] 84)) #[.int .i64 0, .int .i64 0, .int .i64 0] 41
          simp at this
          exact this
        generalize ((w.alloc (.cells #[.int .i64 0, .int .i64 0, .int .i64 0] 84)).alloc (.cells #[.int .i64 t, .int .i64 k, .int .i64 0] 84)).alloc (.cells #[.int .i64 0, .int .i64 0, .int .i64 0] 41) = wB at hbB bb0 bb1 bb2 ⊢
        have c2' := (hbB.cell (p := ⟨sb, 2, none⟩) hsl).trans c2
        have y4' := (hbB.cell (p := ⟨bt, ot + t * 5 + 4, none⟩) hbtl).trans y4
        have BB0 := hid bb0
        have BB1 := hid bb1
        have MC := hid (M.out.below hbB)
        have OC : Hid (Only (sb :: h.foot) w wB) := Only.of_below hbB
        have i0 := bb2.cell 0
        simp at i0
        clear c2 y4 bb0 bb1 bb2 c8 a1 c0 hbB
        have HAC : Hid (R.actC s t = 0) := EC
        go_wp2_with fail
        refine (rStop_any F wB sb h s MC.out AP.out G.out t HTL (by omega) (by omega) hnx).mono ?_
        rintro e w1 ⟨rfl, hm1, ho1⟩
        have M1 : Hid (RMem F w1 sb h (R.actS s t)) := by rw [EA.out]; exact hm1
        have O1 := hid (OC.out.trans ho1)
        have B10 := hid (BB0.out.only ho1 (fun hb => by have := FL.out _ hb; omega))
        have B11 := hid (BB1.out.only ho1 (fun hb => by have := FL.out _ hb; omega))
        clear hm1 ho1 MC OC BB0 BB1 i0 c2' y4'
        go_wp2_with fail
        refine (rSettle_any F w1 sb h (R.actS s t) M1.out HGA.out s.set.workers.toNat HWA.out).mono ?_
        rintro e wZ ⟨rfl, hmZ, hoZ⟩
        have MZ := hid hmZ
        have HGZ : Hid (h.gT = h.gT) := rfl
        have hoZ' : Only (sb :: h.foot) w1 wZ := hoZ.mono (by rw [HGZ.out]; exact RH.foot_two h sb)
        have OZ := hid (O1.out.trans hoZ')
        have BZ0 := hid (B10.out.only hoZ' (fun hb => by have := FL.out _ hb; omega))
        have BZ1 := hid (B11.out.only hoZ' (fun hb => by have := FL.out _ hb; omega))
        clear hmZ hoZ hoZ'
        have r0 := BZ1.out.cell 0
        have r1 := BZ1.out.cell 1
        have r2 := BZ1.out.cell 2
        have q0 := BZ0.out.cell 0
        have q1 := BZ0.out.cell 1
        have q2 := BZ0.out.cell 2
        simp at r0 r1 r2 q0 q1 q2
        have g0 := BZ0.out.frozen 0
        have g1 := BZ0.out.frozen 1
        have g2 := BZ0.out.frozen 2
        have hz0 : w.heap.size ≤ wZ.heap.size := OZ.out.size
        go_wp2
        refine bodyPost_ret (v := .tuple #[.agg #[.int .i64 t, .int .i64 k, .int .i64 (R.actC s t)], .int .i64 0]) ?_ rfl ⟨rfl, h, ?_, AP.out, RNext.refl _ _, ?_⟩
        · rw [HAC.out]
          simp [results, Tryz.results53, go_sem, q0, q1, q2]
        · refine MZ.out.only (L := [w.heap.size]) ((((Only.refl _ _).setCell (.inl (by simp)) _).setCell (.inl (by simp)) _).setCell (.inl (by simp)) _) ?_ ?_ ?_ ?_
          · simp; omega
          · first
              | (rw [HGZ.out]; simp; omega)
              | (simp; omega)
          · intro b hb hf; simp at hb; subst hb; have := M.out.lt _ hf; omega
          · intro b hb cur e he
            simp at hb
            subst hb
            have hbz := BZ0.out
            unfold Blk at hbz
            rw [hbz] at he
            cases he
            decide
        · exact (((OZ.out.setCell (.inr (Nat.le_refl _)) _).setCell (.inr (Nat.le_refl _)) _).setCell (.inr (Nat.le_refl _)) _)

end Go.Proofs.YthnjabnlocpoaaaGreat

/-
  What holds of the document's kernel behind every step: the steps.
-/
namespace Go.Proofs.YthnjabnlocpoaaaGreat

theorem settle_all {P : Nat → RT → Prop} {l : List Int} {T : List RT} {n : Nat} (h : AllT P T) (hP : ∀ t x w, P t x → P t { x with wkr := w }) : AllT (fun t x => P t x ∧ (0 ≤ x.wkr → x.awake = true)) (R.settleT l T n) := by
  intro t ht
  have ht' : t < T.length := by rw [R.settleT_length] at ht; exact ht
  obtain ⟨w, hw, ha⟩ := settle_th l T n t ht'
  rw [← th_ext ht, hw]
  have hp := h t ht'
  rw [← th_ext ht'] at hp
  exact ⟨hP t _ w hp, ha⟩

theorem TOk.wkr {S : SetD} {now : Int} {nO t : Nat} {x : RT} (h : TOk S now nO t x) (w : Int) : TOk S now nO t { x with wkr := w } := ⟨h.at0, h.at1, h.e0, h.e1, h.r0, h.aw, h.fw, h.id, h.of1, h.fr⟩
theorem TOk.awoken {S : SetD} {now : Int} {nO t : Nat} {x : RT} (h : TOk S now nO t x) (hf : x.for_ ≠ 0) (c n : Int) : TOk S now nO t { x with for_ := 0, of_ := 0, until_ := 0, last := c, awake := true, tick := n } :=
  ⟨h.at0, h.at1, h.e0, h.e1, h.r0, fun _ => (h.fw hf).1, fun hh => absurd rfl hh, fun hh => (by cases hh), fun hh => (by cases hh), by simp⟩
theorem TOk.base {S : SetD} {now : Int} {nO t : Nat} {x : RT} (h : TOk S now nO t x) (w : Int) : TOk S now nO t { x with base := w } := ⟨h.at0, h.at1, h.e0, h.e1, h.r0, h.aw, h.fw, h.id, h.of1, h.fr⟩
theorem TOk.got {S : SetD} {now : Int} {nO t : Nat} {x : RT} (h : TOk S now nO t x) (w : Int) : TOk S now nO t { x with got := w } := ⟨h.at0, h.at1, h.e0, h.e1, h.r0, h.aw, h.fw, h.id, h.of1, h.fr⟩
theorem TOk.last {S : SetD} {now : Int} {nO t : Nat} {x : RT} (h : TOk S now nO t x) (w : Int) : TOk S now nO t { x with last := w } := ⟨h.at0, h.at1, h.e0, h.e1, h.r0, h.aw, h.fw, h.id, h.of1, h.fr⟩
theorem TOk.tick {S : SetD} {now : Int} {nO t : Nat} {x : RT} (h : TOk S now nO t x) (w : Int) : TOk S now nO t { x with tick := w } := ⟨h.at0, h.at1, h.e0, h.e1, h.r0, h.aw, h.fw, h.id, h.of1, h.fr⟩
theorem TOk.at_ {S : SetD} {now : Int} {nO t : Nat} {x : RT} (h : TOk S now nO t x) (w : Int) (h0 : 0 ≤ w) (h1 : w ≤ R.codeLen S t) : TOk S now nO t { x with at_ := w } := ⟨h0, h1, h.e0, h.e1, h.r0, h.aw, h.fw, h.id, h.of1, h.fr⟩
theorem TOk.waits {S : SetD} {now : Int} {nO t : Nat} {x : RT} (h : TOk S now nO t x) (ha : x.awake = true) (what of_ u n : Int) (h1 : 1 ≤ what) (h4 : what ≤ 4) (ho : what = 1 → 0 ≤ of_ ∧ of_ < nO) :
    TOk S now nO t { x with awake := false, wkr := -1, for_ := what, of_ := of_, until_ := u, since := n } :=
  ⟨h.at0, h.at1, h.e0, h.e1, h.r0, fun hh => (by cases hh), fun _ => ⟨h.aw ha, rfl⟩, fun _ hh => by have : what = 0 := hh; omega, ho, by simp; omega⟩

theorem R.firstTo_spec (s : RS) (what of_ : Int) (l : List Int) (k : Nat) (h : 0 ≤ R.firstTo s what of_ l k) : (R.th s.T (R.firstTo s what of_ l k).toNat).for_ = what ∧ (R.th s.T (R.firstTo s what of_ l k).toNat).of_ = of_ := by
  induction k with
  | zero => simp [R.firstTo] at h
  | succ k ih =>
    unfold R.firstTo at h ⊢
    by_cases h1 : (R.th s.T k).for_ ≠ what ∨ (R.th s.T k).of_ ≠ of_
    · rw [if_pos h1] at h ⊢
      exact ih h
    · rw [if_neg h1] at h ⊢
      have h1' : (R.th s.T k).for_ = what ∧ (R.th s.T k).of_ = of_ := by
        constructor
        · exact Decidable.byContradiction fun hh => h1 (.inl hh)
        · exact Decidable.byContradiction fun hh => h1 (.inr hh)
      by_cases h2 : R.namedTo l (k : Int) l.length = true
      · rw [if_pos h2] at h ⊢
        exact ih h
      · rw [if_neg h2] at h ⊢
        by_cases h3 : R.firstTo s what of_ l k < 0
        · rw [if_pos h3]
          simpa using h1'
        · rw [if_neg h3] at h ⊢
          by_cases h4 : R.goesFirst s k (R.firstTo s what of_ l k).toNat = true
          · rw [if_pos h4]
            simpa using h1'
          · rw [if_neg h4]
            exact ih (by omega)

theorem endW_all {Q : Nat → RT → Prop} {s : RS} {t : Nat} {c : Int} (h : AllT Q s.T) (step : ∀ (ht : t < s.T.length) (n : Int), Q t s.T[t] → Q t { s.T[t] with for_ := 0, of_ := 0, until_ := 0, last := c, awake := true, tick := n }) : AllT Q (R.endW s t c).T := by
  have e : (R.endW s t c).T = s.T.modify t (fun x => { x with for_ := 0, of_ := 0, until_ := 0, last := c, awake := true, tick := s.next + 1 }) := by
    unfold R.endW R.wake
    simp only [List.modify_modify_eq]
    rfl
  rw [e]
  exact h.modify (fun _ _ _ hx => hx) (fun hl hx => step hl _ hx)

theorem give_all {Q : Nat → RT → Prop} {s : RS} {what of_ : Int} (h : AllT Q s.T) (step : ∀ (u : Nat) (x : RT) (n : Int), Q u x → x.for_ = what → Q u { x with for_ := 0, of_ := 0, until_ := 0, last := 0, awake := true, tick := n }) : AllT Q (R.giveS s what of_).T := by
  unfold R.giveS
  split
  · rename_i h0
    refine endW_all h fun ht n hx => step _ _ n hx ?_
    have hs := R.firstTo_spec s what of_ [] s.T.length h0
    have e : R.firstTo s what of_ [] s.T.length = R.giveT s what of_ := rfl
    rw [e, th_ext ht] at hs
    exact hs.1
  · exact h

theorem giveT_bd (s : RS) (what of_ : Int) : -1 ≤ R.giveT s what of_ ∧ R.giveT s what of_ < s.T.length := R.firstTo_bd s what of_ [] s.T.length

def OwnOk (s : RS) : Prop := ∀ i (hi : i < s.owner.length), -1 ≤ s.owner[i] ∧ s.owner[i] < s.T.length
theorem OwnOk.set {s : RS} (h : OwnOk s) (k : Nat) (v : Int) (h0 : -1 ≤ v) (h1 : v < s.T.length) : ∀ i (hi : i < (s.owner.set k v).length), -1 ≤ (s.owner.set k v)[i] ∧ (s.owner.set k v)[i] < s.T.length := by
  intro i hi
  rw [List.getElem_set]
  split
  · exact ⟨h0, h1⟩
  · exact h i (by simpa using hi)
theorem unlockS_own {s : RS} (h : OwnOk s) (t k : Nat) : OwnOk (R.unlockS s t k) := by
  have hb := giveT_bd s 1 (k : Int)
  unfold R.unlockS
  split
  · intro i hi
    have hl := (giveS_parts s 1 (k : Int)).2.2.2.1
    have := h.set k _ hb.1 hb.2 i hi
    refine ⟨this.1, ?_⟩
    have h2 := this.2
    show _ < ((R.giveS s 1 (k : Int)).T.length : Int)
    rw [hl]
    exact h2
  · exact h
theorem unlockS_all {Q : Nat → RT → Prop} {s : RS} (h : AllT Q s.T) (t k : Nat) (step : ∀ (u : Nat) (x : RT) (n : Int), Q u x → x.for_ = 1 → Q u { x with for_ := 0, of_ := 0, until_ := 0, last := 0, awake := true, tick := n }) : AllT Q (R.unlockS s t k).T := by
  unfold R.unlockS
  split
  · exact give_all (of_ := (k : Int)) h step
  · exact h
theorem unlocksTo_all {Q : Nat → RT → Prop} {s : RS} (h : AllT Q s.T) (ho : OwnOk s) (t k : Nat) (step : ∀ (u : Nat) (x : RT) (n : Int), Q u x → x.for_ = 1 → Q u { x with for_ := 0, of_ := 0, until_ := 0, last := 0, awake := true, tick := n }) : AllT Q (R.unlocksTo s t k).T ∧ OwnOk (R.unlocksTo s t k) := by
  induction k with
  | zero => exact ⟨h, ho⟩
  | succ k ih =>
    unfold R.unlocksTo
    exact ⟨unlockS_all ih.1 t k step, unlockS_own ih.2 t k⟩

end Go.Proofs.YthnjabnlocpoaaaGreat

/-
  What holds of the document's kernel behind every step: Pick.
-/
namespace Go.Proofs.YthnjabnlocpoaaaGreat

/-- Counts and messages within what the set allows. -/
structure RBounds (s : RS) : Prop where
  cs : s.count.length = s.set.sems.length
  cb : ∀ k (hk : k < s.count.length), 0 ≤ s.count[k] ∧ s.count[k] ≤ (s.set.sems.getD k R.pair0).y
  qs : s.box.length = s.set.queues.length
  qb : ∀ k (hk : k < s.box.length), (s.box[k].length : Int) ≤ s.set.queues.getD k 0

/-- Between two parts of a step; behind a step the workers hold threads that are awake. -/
structure RMid (s : RS) : Prop where
  good : RGood s
  bnd : RBounds s
  ok : P3.err s.set = 0
  own : OwnOk s
  thr : AllT (TOk s.set s.now s.owner.length) s.T
  mis : (s.missed.length : Int) ≤ 16 * (s.now - s.set.start)
structure RInv (s : RS) : Prop extends RMid s where
  wk : AllT (fun _ x => 0 ≤ x.wkr → x.awake = true) s.T

theorem RMid.settle {s : RS} (h : RMid s) : RInv (R.settle s) := by
  have hl : (R.settle s).T.length = s.T.length := R.settleT_length _ _ _
  have ha : AllT (fun t x => TOk s.set s.now s.owner.length t x ∧ (0 ≤ x.wkr → x.awake = true)) (R.settle s).T := settle_all h.thr (fun t x w hx => hx.wkr w)
  refine ⟨⟨good_settle h.good, ⟨h.bnd.cs, h.bnd.cb, h.bnd.qs, h.bnd.qb⟩, h.ok, fun i hi => ?_, ha.mono (fun _ _ hx => hx.1), h.mis⟩, ha.mono (fun _ _ hx => hx.2)⟩
  rw [hl]
  exact h.own i hi

section
variable {s : RS}
theorem ok_sizes (h : P3.err s.set = 0) : s.set.sems.length ≤ 4 ∧ s.set.queues.length ≤ 4 := by
  have hz := (ok_parts h).1
  unfold P3.sizesB at hz
  rw [decide_eq_true_iff] at hz
  omega
theorem ok_sem (h : P3.err s.set = 0) (k : Nat) (hk : k < s.set.sems.length) : 1 ≤ (s.set.sems.getD k R.pair0).y ∧ (s.set.sems.getD k R.pair0).y ≤ 100 ∧ 0 ≤ (s.set.sems.getD k R.pair0).x ∧ (s.set.sems.getD k R.pair0).x ≤ (s.set.sems.getD k R.pair0).y := by
  have := badOr_good (ok_parts h).2.2.1 s.set.sems[k] (List.getElem_mem hk)
  have e : s.set.sems.getD k R.pair0 = s.set.sems[k] := by simp [List.getD, hk]
  rw [e]
  unfold P3.semP P3.semB at this
  rw [decide_eq_true_iff] at this
  omega
theorem ok_queue (h : P3.err s.set = 0) (k : Nat) (hk : k < s.set.queues.length) : 1 ≤ s.set.queues.getD k 0 ∧ s.set.queues.getD k 0 ≤ 8 := by
  have := badOr_good (ok_parts h).2.2.2.1 s.set.queues[k] (List.getElem_mem hk)
  have e : s.set.queues.getD k 0 = s.set.queues[k] := by simp [List.getD, hk]
  rw [e]
  unfold P3.queueB at this
  rw [decide_eq_true_iff] at this
  omega
theorem RMid.store (h : RMid s) : RStore s := by
  obtain ⟨h1, h2⟩ := ok_sizes h.ok
  refine ⟨by rw [h.bnd.cs]; exact h1, h.bnd.cs, fun k hk => ?_, by rw [h.bnd.qs]; exact h2, h.bnd.qs, fun k hk => ?_⟩
  · have := h.bnd.cb k hk
    have := ok_sem h.ok k (by rw [← h.bnd.cs]; exact hk)
    omega
  · have := h.bnd.qb k hk
    have := ok_queue h.ok k (by rw [← h.bnd.qs]; exact hk)
    omega
theorem RMid.links (h : RMid s) : RLinks s := ⟨h.own, fun i hi hf => (h.thr i hi).of1 hf⟩
theorem ok_instr (h : P3.err s.set = 0) (t : Nat) (ht : t < s.set.threads.length) (i : InstrD) (hi : i ∈ s.set.threads[t].code) : P3.instrP s.set s.set.threads[t].code.length i = true := by
  have hb := (ok_parts h).2.2.2.2.2
  unfold P3.badCode at hb
  split at hb
  · omega
  · rename_i hn
    have hle := P3.bad_le (P3.codeP s.set) s.set.threads
    have hall : P3.badOr (P3.codeP s.set) s.set.threads = -1 := by
      unfold P3.badOr
      rw [if_neg hn]
    have hc := badOr_good hall s.set.threads[t] (List.getElem_mem ht)
    unfold P3.codeP at hc
    rw [decide_eq_true_iff] at hc
    have hall2 : P3.badOr (P3.instrP s.set s.set.threads[t].code.length) s.set.threads[t].code = -1 := by
      unfold P3.badOr
      rw [hc, if_neg (by omega)]
    exact badOr_good hall2 i hi
theorem RMid.ins (h : RMid s) (t : Nat) (ht : t < s.set.threads.length) (i : InstrD) (hi : i ∈ s.set.threads[t].code) : RIns s i ∧ (i.op = 3 → 0 ≤ i.b ∧ i.b ≤ s.set.threads[t].code.length) ∧ (i.op = 5 → 1 ≤ i.a) := by
  have := ok_instr h.ok t ht i hi
  unfold P3.instrP P3.instrB P3.fitsB P3.known P3.lowA P3.highA P3.lowB P3.highB at this
  rw [Bool.and_eq_true, decide_eq_true_iff, decide_eq_true_iff] at this
  obtain ⟨⟨o0, o1⟩, ha0, ha1, hb0, hb1⟩ := this
  have l1 := h.good.len
  have l2 := h.good.own
  have l3 := h.bnd.cs
  have l4 := h.bnd.qs
  refine ⟨⟨o0, o1, fun e => ?_, fun e => ?_, fun e => ?_, fun e => ?_, fun e => ?_, fun e => ?_⟩, fun e => ?_, fun e => ?_⟩
  · simp [e] at ha0 ha1; omega
  · simp [e] at ha0 ha1; omega
  · rcases e with e | e <;> simp [e] at ha0 ha1 <;> omega
  · rcases e with e | e <;> simp [e] at ha0 ha1 <;> omega
  · rcases e with e | e <;> simp [e] at ha0 ha1 <;> omega
  · rcases e with e | e | e <;> simp [e] at hb0 hb1 <;> omega
  · simp [e] at hb0 hb1; omega
  · simp [e] at ha0 ha1; omega
theorem RMid.code (h : RMid s) : RCode s := by
  have hcl : ∀ t (ht : t < s.set.threads.length), s.set.threads[t].code.length ≤ 32 := by
    intro t ht
    have := badOr_good (ok_parts h.ok).2.2.2.2.1 s.set.threads[t] (List.getElem_mem ht)
    unfold P3.threadP P3.threadB at this
    rw [decide_eq_true_iff] at this
    omega
  refine ⟨fun t ht => ?_, fun t ht => ?_, fun t ht => ⟨hcl t ht, fun i hi => (h.ins t ht i hi).1⟩⟩
  · have ht' : t < s.set.threads.length := by have := h.good.len; omega
    have h1 := (h.thr t ht).at1
    have e : R.codeLen s.set t = s.set.threads[t].code.length := by simp [R.codeLen, List.getD, ht']
    rw [e] at h1
    have := hcl t ht'
    exact ⟨(h.thr t ht).at0, by omega⟩
  · have ht' : t < s.set.threads.length := by have := h.good.len; omega
    have ho := h.good.off s.set.threads[t] (List.getElem_mem ht')
    have e : s.set.threads.getD t P3.none0 = s.set.threads[t] := by simp [List.getD, ht']
    have hb := relBy_bd (S := s.set) (t := t) (now := s.now) h.good.now0 (by have := h.good.now1; omega) h.good.now2 (by rw [e]; omega) (by rw [e]; omega)
    have h1 := (h.thr t ht).e1
    have h2 := (h.thr t ht).r0
    exact ⟨(h.thr t ht).e0, by omega⟩
end

end Go.Proofs.YthnjabnlocpoaaaGreat
