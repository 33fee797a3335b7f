import Derived.Test.YtbkfildnijjioaaGreatA08
import Derived.Test.YtbkfildnijjioaaGreatA18
import Derived.Test.YtbkfildnijjioaaGreatA02
import Derived.Test.YtbkfildnijjioaaGreatA14
import Derived.Test.YtbkfildnijjioaaGreatA07
import Derived.Test.YtbkfildnijjioaaGreatA15
import Derived.Test.YtbkfildnijjioaaGreatA17
import Derived.Test.YtbkfildnijjioaaGreatA09
namespace Go.Proofs.YtbkfildnijjioaaGreat
open Go.RowKit
set_option maxRecDepth 100000 in
set_option maxHeartbeats 4000000 in
theorem rPick_any (F:Nat->Prop) (w:World) (sb:Nat) (h:RH) (s:RS) (m:RMem F w sb h s) (ap:RApart F h) (g:RGood s) (ln:RLinks s) (st:RStore s) (cd:RCode s) (wk:Int) (hnx:s.next<=4611686018427386000) :
  Calls Tryz.prog 30 #[.pointer (some ⟨sb,0,none⟩),.int .i64 wk] w fun e w' =>
   e=.returned (.tuple #[.agg #[.int .i64 (R.pickT s wk),.int .i64 (R.pickA s wk),.int .i64 (R.pickC s wk)],.int .i64 (R.pickE s wk)])/\∃ h',RMem F w' sb h' (R.pickS s wk)/\RApart F h'/\RNext h h' w.heap.size/\Only (sb :: h.foot) w w':=by
 have hfew:=g.few
 have hwk0:=g.wk0
 have hwk1:=g.wk1
 have c0:=m.blk.cell 0
 simp [rsCells] at c0
 have hsl:=m.blk.lt
 by_cases hout:wk < 0\/s.set.workers<=wk
 ·have E1:R.pickT s wk=0:=by unfold R.pickT; rw [if_pos hout]
  have E2:R.pickA s wk=0:=by unfold R.pickA; rw [if_pos hout]
  have E3:R.pickC s wk=0:=by unfold R.pickC; rw [if_pos hout]
  have E4:R.pickE s wk=7:=by unfold R.pickE; rw [if_pos hout]
  have E5:R.pickS s wk=s:=by unfold R.pickS; rw [if_pos hout]
  rw [E1,E2,E3,E4,E5]
  have M:=hid m
  have AP:=hid ap
  clear E1 E2 E3 E4 E5 m ap g ln st cd
  go_enter Tryz.func30,Tryz.ntmps30
  by_cases hneg:wk < 0
  ·go_wp2
   refine bodyPost_ret (v:=.tuple #[.agg #[.int .i64 0,.int .i64 0,.int .i64 0],.int .i64 7]) ?_ rfl ⟨rfl,h,?_,AP.out,RNext.refl _ _,?_⟩
   ·simp [results,Tryz.results30,go_sem]
   ·exact M.out.below ((Below.refl _ _).alloc (Nat.le_refl _) _)
   ·exact Only.of_below ((Below.refl _ _).alloc (Nat.le_refl _) _)
  ·have hge:s.set.workers<=wk:=by omega
   go_wp2
   refine bodyPost_ret (v:=.tuple #[.agg #[.int .i64 0,.int .i64 0,.int .i64 0],.int .i64 7]) ?_ rfl ⟨rfl,h,?_,AP.out,RNext.refl _ _,?_⟩
   ·simp [results,Tryz.results30,go_sem]
   ·exact M.out.below ((Below.refl _ _).alloc (Nat.le_refl _) _)
   ·exact Only.of_below ((Below.refl _ _).alloc (Nat.le_refl _) _)
 ·have hw0:0<=wk:=by omega
  have hw1:wk < s.set.workers:=by omega
  obtain ⟨on0,on1⟩:=R.on_bd s.T wk
  have ON:=hid (fun wx mx=>rOn_any F wx sb h s mx hfew wk)
  by_cases hon:R.on s.T wk < 0
  ·have E1:R.pickT s wk=-1:=by unfold R.pickT; rw [if_neg hout,if_pos hon]
   have E2:R.pickA s wk=0:=by unfold R.pickA; rw [if_neg hout,if_pos hon]
   have E3:R.pickC s wk=0:=by unfold R.pickC; rw [if_neg hout,if_pos hon]
   have E4:R.pickE s wk=0:=by unfold R.pickE; rw [if_neg hout]
   have E5:R.pickS s wk=s:=by unfold R.pickS; rw [if_neg hout,if_pos hon]
   rw [E1,E2,E3,E4,E5]
   have M:=hid m
   have AP:=hid ap
   clear E1 E2 E3 E4 E5 m ap g ln st cd hout
   generalize R.on s.T wk=o at *
   go_enter Tryz.func30,Tryz.ntmps30
   go_wp2_with fail
   refine (ON.out _ (M.out.below ((Below.refl _ _).alloc (Nat.le_refl _) _))).mono ?_
   rintro e w1 ⟨rfl,rfl⟩
   go_wp2
   refine bodyPost_ret (v:=.tuple #[.agg #[.int .i64 (-1),.int .i64 0,.int .i64 0],.int .i64 0]) ?_ rfl ⟨rfl,h,?_,AP.out,RNext.refl _ _,?_⟩
   ·simp [results,Tryz.results30,go_sem]
   ·exact M.out.below ((Below.refl _ _).alloc (Nat.le_refl _) _)
   ·exact Only.of_below ((Below.refl _ _).alloc (Nat.le_refl _) _)
  ·have E1:R.pickT s wk=R.on s.T wk:=by unfold R.pickT; rw [if_neg hout,if_neg hon]
   have E2:R.pickA s wk=(R.th s.T (R.on s.T wk).toNat).at_:=by unfold R.pickA; rw [if_neg hout,if_neg hon]
   have E3:R.pickC s wk=R.actC s (R.on s.T wk).toNat:=by unfold R.pickC; rw [if_neg hout,if_neg hon]
   have E4:R.pickE s wk=0:=by unfold R.pickE; rw [if_neg hout]
   have E5:R.pickS s wk=R.settle (R.actS s (R.on s.T wk).toNat):=by unfold R.pickS; rw [if_neg hout,if_neg hon]
   rw [E1,E2,E3,E4,E5]
   clear E1 E2 E3 E4 E5 hout
   have HTL:(R.on s.T wk).toNat < s.T.length:=by omega
   have HTE:R.on s.T wk=((R.on s.T wk).toNat:Int):=by omega
   generalize (R.on s.T wk).toNat=t at *
   rw [HTE] at ON ⊢
   clear HTE hon on0 on1
   have eth:R.th s.T t=s.T[t]:=by simp [R.th,List.getD,HTL]
   rw [eth]
   have htc:t < s.set.threads.length:=by have:=g.len; omega
   have LK:=like_actS s t (by have:=g.own; have:=g.mfew; omega)
   have hgA:=LK.good g (by omega)
   have hwkA:(R.actS s t).set.workers=(s.set.workers.toNat:Int):=by rw [LK.set]; omega
   have FL:=hid m.foot_lt
   obtain ⟨at0,at1⟩:=cd.at_ t HTL
   obtain ⟨cl,ci⟩:=cd.code t htc
   have hend:=cd.ended t HTL
   have EI:R.instrAt s t=(s.set.threads[t].code)[s.T[t].at_.toNat]?.getD ⟨0,0,0⟩:=by
    unfold R.instrAt
    rw [eth]
    simp [List.getD,htc]
   have EAT:s.T[t].at_=(s.T[t].at_.toNat:Int):=by omega
   generalize hk:s.T[t].at_.toNat=k at *
   rw [EAT] at at0 at1 ⊢
   have c2:=m.blk.cell 2
   have c8:=m.blk.cell 8
   simp [rsCells] at c2 c8
   obtain ⟨bt,ot,cv,cc,hta,hfb,_,_,_,_,y4,hcode,_⟩:=m.set.threads t htc
   rw [hta] at c2
   have hbtl:=m.lt bt hfb
   have hgtl:=m.gT_lt
   have a1:=m.tcell HTL 1 (by decide)
   simp [rtCells] at a1
   rw [EAT] at a1
   have HEAT:=hid EAT
   have htI:(t:Int) < (s.T.length:Int):=by omega
   have htcI:(t:Int) < (s.set.threads.length:Int):=by omega
   have M:=hid m
   have AP:=hid ap
   have G:=hid g
   have LN:=hid ln
   have ST:=hid st
   have HGA:=hid hgA
   have HLK:=hid LK
   have HWA:=hid hwkA
   clear hwkA
   clear m ap g ln st cd hgA LK hk EAT hfb hta eth
   by_cases hkl:k < s.set.threads[t].code.length
   ·obtain ⟨bc,oc,hcv,hfc,z0,z1,z2⟩:=hcode k hkl
    have hbcl:=M.out.lt bc hfc
    subst hcv
    have EI2:R.instrAt s t=s.set.threads[t].code[k]:=by rw [EI]; simp [hkl]
    have HINS:=ci _ (List.getElem_mem hkl)
    rw [<- EI2] at HINS z0 z1 z2
    clear EI EI2 ci hcode
    have hklI:(k:Int) < (s.set.threads[t].code.length:Int):=by omega
    generalize hI:R.instrAt s t=I at *
    have HI:=hid hI
    clear hI
    have HIN:=hid HINS
    obtain ⟨op,ia,ib⟩:=I
    simp only at z0 z1 z2
    clear HINS
    go_enter Tryz.func30,Tryz.ntmps30
    go_wp2_with fail
    refine (ON.out _ (M.out.below ((Below.refl _ _).alloc (Nat.le_refl _) _))).mono ?_
    rintro e w1 ⟨rfl,rfl⟩
    go_upto_region 9 with fail
    have hbB:Below w.heap.size w (((w.alloc (.cells #[.int .i64 0,.int .i64 0,.int .i64 0] 72)).alloc (.cells #[.int .i64 t,.int .i64 k,.int .i64 0] 72)).alloc (.cells #[.int .i64 0,.int .i64 0,.int .i64 0] 61)):=(((Below.refl _ _).alloc (Nat.le_refl _) _).alloc (by simp) _).alloc (by simp; omega) _
    have bb0:Blk (((w.alloc (.cells #[.int .i64 0,.int .i64 0,.int .i64 0] 72)).alloc (.cells #[.int .i64 t,.int .i64 k,.int .i64 0] 72)).alloc (.cells #[.int .i64 0,.int .i64 0,.int .i64 0] 61)) w.heap.size #[.int .i64 0,.int .i64 0,.int .i64 0] 72:=((Blk.new _ _ _).alloc _).alloc _
    have bb1:Blk (((w.alloc (.cells #[.int .i64 0,.int .i64 0,.int .i64 0] 72)).alloc (.cells #[.int .i64 t,.int .i64 k,.int .i64 0] 72)).alloc (.cells #[.int .i64 0,.int .i64 0,.int .i64 0] 61)) (w.heap.size + 1) #[.int .i64 t,.int .i64 k,.int .i64 0] 72:=by
     have:=Blk.new (w.alloc (.cells #[.int .i64 0,.int .i64 0,.int .i64 0] 72)) #[.int .i64 t,.int .i64 k,.int .i64 0] 72
     simp at this
     exact this.alloc _
    have bb2:Blk (((w.alloc (.cells #[.int .i64 0,.int .i64 0,.int .i64 0] 72)).alloc (.cells #[.int .i64 t,.int .i64 k,.int .i64 0] 72)).alloc (.cells #[.int .i64 0,.int .i64 0,.int .i64 0] 61)) (w.heap.size + 1 + 1) #[.int .i64 0,.int .i64 0,.int .i64 0] 61:=by
     have:=Blk.new ((w.alloc (.cells #[.int .i64 0,.int .i64 0,.int .i64 0] 72)).alloc (.cells #[.int .i64 t,.int .i64 k,.int .i64 0] 72)) #[.int .i64 0,.int .i64 0,.int .i64 0] 61
     simp at this
     exact this
    generalize ((w.alloc (.cells #[.int .i64 0,.int .i64 0,.int .i64 0] 72)).alloc (.cells #[.int .i64 t,.int .i64 k,.int .i64 0] 72)).alloc (.cells #[.int .i64 0,.int .i64 0,.int .i64 0] 61)=wB at hbB bb0 bb1 bb2 ⊢
    have c2':=(hbB.cell (p:=⟨sb,2,none⟩) hsl).trans c2
    have y4':=(hbB.cell (p:=⟨bt,ot + t * 5 + 4,none⟩) hbtl).trans y4
    have z0':=(hbB.cell (p:=⟨bc,oc + k * 3,none⟩) hbcl).trans z0
    have z1':=(hbB.cell (p:=⟨bc,oc + k * 3 + 1,none⟩) hbcl).trans z1
    have z2':=(hbB.cell (p:=⟨bc,oc + k * 3 + 2,none⟩) hbcl).trans z2
    have BB0:=hid bb0
    have BB1:=hid bb1
    have BB2:=hid bb2
    have MB:=hid (M.out.below hbB)
    have HBB:=hid hbB
    have i0:=bb2.cell 0
    have i1:=bb2.cell 1
    have i2:=bb2.cell 2
    simp at i0 i1 i2
    have f0:=bb2.frozen 0
    have f1:=bb2.frozen 1
    have f2:=bb2.frozen 2
    clear c2 y4 z0 z1 z2 bb0 bb1 bb2 c8 a1 c0
    go_upto_region 11 with fail
    have hbC:Below w.heap.size w (((wB.setCell ⟨w.heap.size + 1 + 1,0,none⟩ (.int .i64 op)).setCell ⟨w.heap.size + 1 + 1,1,none⟩ (.int .i64 ia)).setCell ⟨w.heap.size + 1 + 1,2,none⟩ (.int .i64 ib)):=((HBB.out.setCell (by show w.heap.size<=_; simp; omega) _).setCell (by show w.heap.size<=_; simp; omega) _).setCell (by show w.heap.size<=_; simp; omega) _
    have bc0:=((BB0.out.other (p:=⟨w.heap.size + 1 + 1,0,none⟩) (by show w.heap.size ≠ w.heap.size + 1 + 1; omega) (.int .i64 op)).other (p:=⟨w.heap.size + 1 + 1,1,none⟩) (by show w.heap.size ≠ w.heap.size + 1 + 1; omega) (.int .i64 ia)).other (p:=⟨w.heap.size + 1 + 1,2,none⟩) (by show w.heap.size ≠ w.heap.size + 1 + 1; omega) (.int .i64 ib)
    have bc1:=((BB1.out.other (p:=⟨w.heap.size + 1 + 1,0,none⟩) (by show w.heap.size + 1 ≠ w.heap.size + 1 + 1; omega) (.int .i64 op)).other (p:=⟨w.heap.size + 1 + 1,1,none⟩) (by show w.heap.size + 1 ≠ w.heap.size + 1 + 1; omega) (.int .i64 ia)).other (p:=⟨w.heap.size + 1 + 1,2,none⟩) (by show w.heap.size + 1 ≠ w.heap.size + 1 + 1; omega) (.int .i64 ib)
    have bc2:Blk (((wB.setCell ⟨w.heap.size + 1 + 1,0,none⟩ (.int .i64 op)).setCell ⟨w.heap.size + 1 + 1,1,none⟩ (.int .i64 ia)).setCell ⟨w.heap.size + 1 + 1,2,none⟩ (.int .i64 ib)) (w.heap.size + 1 + 1) #[.int .i64 op,.int .i64 ia,.int .i64 ib] 61:=by
     have:=((BB2.out.set 0 (.int .i64 op)).set 1 (.int .i64 ia)).set 2 (.int .i64 ib)
     simpa using this
    clear c2' y4' z0' z1' z2' i0 i1 i2 f0 f1 f2 BB0 BB1 BB2 MB HBB
    generalize ((wB.setCell ⟨w.heap.size + 1 + 1,0,none⟩ (.int .i64 op)).setCell ⟨w.heap.size + 1 + 1,1,none⟩ (.int .i64 ia)).setCell ⟨w.heap.size + 1 + 1,2,none⟩ (.int .i64 ib)=wC at hbC bc0 bc1 bc2 ⊢
    have MC:=hid (M.out.below hbC)
    have OC:Hid (Only (sb :: h.foot) w wC):=Only.of_below hbC
    have BC0:=hid bc0
    have BC1:=hid bc1
    have BC2:=hid bc2
    have i0:=bc2.cell 0
    simp at i0
    have EA:Hid (R.actS s t=if op=0 then R.stop s t else if op=3 then (if (R.th s.T t).last=ia then R.toAt s t ib else R.toAt s t ((R.th s.T t).at_ + 1)) else R.toLast (R.doesS (R.toAt s t ((R.th s.T t).at_ + 1)) t ⟨op,ia,ib⟩) t (R.actC s t)):=by
     unfold R.actS
     rw [HI.out]
     exact hid rfl
    have EC:Hid (R.actC s t=if op=0\/op=3 then 0 else R.doesC (R.toAt s t ((R.th s.T t).at_ + 1)) t ⟨op,ia,ib⟩):=by
     unfold R.actC
     rw [HI.out]
     exact hid rfl
    clear bc0 bc1 bc2 hbC
    by_cases hop0:op=0
    ·subst hop0
     rw [if_pos rfl] at EA
     rw [if_pos (.inl rfl)] at EC
     have HAC:Hid (R.actC s t=0):=EC
     go_wp2_with fail
     refine (rStop_any F wC sb h s MC.out AP.out G.out t HTL (by omega) (by omega) hnx).mono ?_
     rintro e w1 ⟨rfl,hm1,ho1⟩
     have M1:Hid (RMem F w1 sb h (R.actS s t)):=by rw [EA.out]; exact hm1
     have O1:=hid (OC.out.trans ho1)
     have B10:=hid (BC0.out.only ho1 (fun hb=>by have:=FL.out _ hb; omega))
     have B11:=hid (BC1.out.only ho1 (fun hb=>by have:=FL.out _ hb; omega))
     clear hm1 ho1 MC OC BC0 BC1 BC2 i0
     go_wp2_with fail
     refine (rSettle_any F w1 sb h (R.actS s t) M1.out HGA.out s.set.workers.toNat HWA.out).mono ?_
     rintro e wZ ⟨rfl,hmZ,hoZ⟩
     have MZ:=hid hmZ
     have HGZ:Hid (h.gT=h.gT):=rfl
     have hoZ':Only (sb :: h.foot) w1 wZ:=hoZ.mono (by rw [HGZ.out]; exact RH.foot_two h sb)
     have OZ:=hid (O1.out.trans hoZ')
     have BZ0:=hid (B10.out.only hoZ' (fun hb=>by have:=FL.out _ hb; omega))
     have BZ1:=hid (B11.out.only hoZ' (fun hb=>by have:=FL.out _ hb; omega))
     clear hmZ hoZ hoZ'
     have r0:=BZ1.out.cell 0
     have r1:=BZ1.out.cell 1
     have r2:=BZ1.out.cell 2
     have q0:=BZ0.out.cell 0
     have q1:=BZ0.out.cell 1
     have q2:=BZ0.out.cell 2
     simp at r0 r1 r2 q0 q1 q2
     have g0:=BZ0.out.frozen 0
     have g1:=BZ0.out.frozen 1
     have g2:=BZ0.out.frozen 2
     have hz0:w.heap.size<=wZ.heap.size:=OZ.out.size
     go_wp2
     refine bodyPost_ret (v:=.tuple #[.agg #[.int .i64 t,.int .i64 k,.int .i64 (R.actC s t)],.int .i64 0]) ?_ rfl ⟨rfl,h,?_,AP.out,RNext.refl _ _,?_⟩
     ·rw [HAC.out]
      simp [results,Tryz.results30,go_sem,q0,q1,q2]
     ·refine MZ.out.only (L:=[w.heap.size]) ((((Only.refl _ _).setCell (.inl (by simp)) _).setCell (.inl (by simp)) _).setCell (.inl (by simp)) _) ?_ ?_ ?_ ?_
      ·simp; omega
      ·first
        | (rw [HGZ.out]; simp; omega)
        | (simp; omega)
      ·intro b hb hf; simp at hb; subst hb; have:=M.out.lt _ hf; omega
      ·intro b hb cur e he
       simp at hb
       subst hb
       have hbz:=BZ0.out
       unfold Blk at hbz
       rw [hbz] at he
       cases he
       decide
     ·exact (((OZ.out.setCell (.inr (Nat.le_refl _)) _).setCell (.inr (Nat.le_refl _)) _).setCell (.inr (Nat.le_refl _)) _)
    ·have eth:R.th s.T t=s.T[t]:=by simp [R.th,List.getD,HTL]
     rw [eth,HEAT.out] at EA EC
     have c8:=MC.out.blk.cell 8
     simp [rsCells] at c8
     have a1:=MC.out.tcell HTL 1 (by decide)
     simp [rtCells] at a1
     have f1:=MC.out.tfrozen (t * 13 + 1)
     have hmD:RMem F (wC.setCell ⟨h.gT,t * 13 + 1,none⟩ (.int .i64 ((k:Int) + 1))) sb h (R.toAt s t ((k:Int) + 1)):=MC.out.setT HTL (j:=1) (by decide) (.int .i64 ((k:Int) + 1)) (fun x=>{ x with at_:=(k:Int) + 1 }) rfl
     have hoD:Only (sb :: h.foot) w (wC.setCell ⟨h.gT,t * 13 + 1,none⟩ (.int .i64 ((k:Int) + 1))):=OC.out.setCell (.inl (by simp [RH.foot])) _
     have bd0:=BC0.out.other (p:=⟨h.gT,t * 13 + 1,none⟩) (by show w.heap.size ≠ h.gT; omega) (.int .i64 ((k:Int) + 1))
     have bd1:=BC1.out.other (p:=⟨h.gT,t * 13 + 1,none⟩) (by show w.heap.size + 1 ≠ h.gT; omega) (.int .i64 ((k:Int) + 1))
     have bd2:=BC2.out.other (p:=⟨h.gT,t * 13 + 1,none⟩) (by show w.heap.size + 1 + 1 ≠ h.gT; omega) (.int .i64 ((k:Int) + 1))
     have HMD:=hid hmD
     have HOD:=hid hoD
     have HBD0:=hid bd0
     have HBD1:=hid bd1
     have HBD2:=hid bd2
     have hwD:∃ wD,wD=wC.setCell ⟨h.gT,t * 13 + 1,none⟩ (.int .i64 ((k:Int) + 1)):=⟨_,rfl⟩
     clear hmD hoD bd0 bd1 bd2 MC OC BC0 BC1 BC2 eth
     have hne0:(op == 0)=false:=by simpa using hop0
     have hkb:(k:Int)<=32:=at1
     by_cases hop3:op=3
     ·subst hop3
      rw [if_neg (by decide),if_pos rfl] at EA
      rw [if_pos (.inr rfl)] at EC
      have HAC:Hid (R.actC s t=0):=EC
      go_upto_region 19 with fail
      clear c8 a1 f1 i0 hwD
      generalize wC.setCell ⟨h.gT,t * 13 + 1,none⟩ (.int .i64 ((k:Int) + 1))=wD at *
      have c8:=HMD.out.blk.cell 8
      simp [rsCells] at c8
      have htD:t < (R.toAt s t ((k:Int) + 1)).T.length:=by simpa [R.toAt] using HTL
      have hlD:(R.toAt s t ((k:Int) + 1)).T.length=s.T.length:=by simp [R.toAt]
      rw [hlD] at c8
      have a2:=HMD.out.tcell htD 2 (by decide)
      simp [rtCells] at a2
      have hl2:(R.toAt s t ((k:Int) + 1)).T[t].last=s.T[t].last:=by simp [R.toAt]
      rw [hl2] at a2
      have i1:=HBD2.out.cell 1
      simp at i1
      generalize s.T[t].last=lst at *
      clear hlD hl2
      cases hl:(lst == ia)
      ·rw [if_neg (by simpa using hl)] at EA
       go_wp2_with fail
       go_quiet (fail)
       have M1:Hid (RMem F (wD.drewN nq) sb h (R.actS s t)):=by rw [EA.out]; exact HMD.out.drewN nq
       have O1:=hid (HOD.out.drewN nq)
       have B10:Hid (Blk (wD.drewN nq) w.heap.size #[.int .i64 0,.int .i64 0,.int .i64 0] 72):=HBD0.out
       have B11:Hid (Blk (wD.drewN nq) (w.heap.size + 1) #[.int .i64 t,.int .i64 k,.int .i64 0] 72):=HBD1.out
       clear c8 a2 i1 HMD HOD HBD0 HBD1 HBD2
       generalize wD.drewN nq=w1 at *
       go_wp2_with fail
       refine (rSettle_any F w1 sb h (R.actS s t) M1.out HGA.out s.set.workers.toNat HWA.out).mono ?_
       rintro e wZ ⟨rfl,hmZ,hoZ⟩
       have MZ:=hid hmZ
       have HGZ:Hid (h.gT=h.gT):=rfl
       have hoZ':Only (sb :: h.foot) w1 wZ:=hoZ.mono (by rw [HGZ.out]; exact RH.foot_two h sb)
       have OZ:=hid (O1.out.trans hoZ')
       have BZ0:=hid (B10.out.only hoZ' (fun hb=>by have:=FL.out _ hb; omega))
       have BZ1:=hid (B11.out.only hoZ' (fun hb=>by have:=FL.out _ hb; omega))
       clear hmZ hoZ hoZ'
       have r0:=BZ1.out.cell 0
       have r1:=BZ1.out.cell 1
       have r2:=BZ1.out.cell 2
       have q0:=BZ0.out.cell 0
       have q1:=BZ0.out.cell 1
       have q2:=BZ0.out.cell 2
       simp at r0 r1 r2 q0 q1 q2
       have g0:=BZ0.out.frozen 0
       have g1:=BZ0.out.frozen 1
       have g2:=BZ0.out.frozen 2
       have hz0:w.heap.size<=wZ.heap.size:=OZ.out.size
       go_wp2
       refine bodyPost_ret (v:=.tuple #[.agg #[.int .i64 t,.int .i64 k,.int .i64 (R.actC s t)],.int .i64 0]) ?_ rfl ⟨rfl,h,?_,AP.out,RNext.refl _ _,?_⟩
       ·rw [HAC.out]
        simp [results,Tryz.results30,go_sem,q0,q1,q2]
       ·refine MZ.out.only (L:=[w.heap.size]) ((((Only.refl _ _).setCell (.inl (by simp)) _).setCell (.inl (by simp)) _).setCell (.inl (by simp)) _) ?_ ?_ ?_ ?_
        ·simp; omega
        ·first
          | (rw [HGZ.out]; simp; omega)
          | (simp; omega)
        ·intro b hb hf; simp at hb; subst hb; have:=M.out.lt _ hf; omega
        ·intro b hb cur e he
         simp at hb
         subst hb
         have hbz:=BZ0.out
         unfold Blk at hbz
         rw [hbz] at he
         cases he
         decide
       ·exact (((OZ.out.setCell (.inr (Nat.le_refl _)) _).setCell (.inr (Nat.le_refl _)) _).setCell (.inr (Nat.le_refl _)) _)
      ·rw [if_pos (by simpa using hl)] at EA
       go_wp2_with fail
       go_quiet (fail)
       have ME:=hid (HMD.out.drewN nq)
       have OE:=hid (HOD.out.drewN nq)
       have BE0:Hid (Blk (wD.drewN nq) w.heap.size #[.int .i64 0,.int .i64 0,.int .i64 0] 72):=HBD0.out
       have BE1:Hid (Blk (wD.drewN nq) (w.heap.size + 1) #[.int .i64 t,.int .i64 k,.int .i64 0] 72):=HBD1.out
       have BE2:Hid (Blk (wD.drewN nq) (w.heap.size + 1 + 1) #[.int .i64 3,.int .i64 ia,.int .i64 ib] 61):=HBD2.out
       clear c8 a2 i1 HMD HOD HBD0 HBD1 HBD2
       generalize wD.drewN nq=wE at *
       have c8:=ME.out.blk.cell 8
       simp [rsCells] at c8
       have hlD:(R.toAt s t ((k:Int) + 1)).T.length=s.T.length:=by simp [R.toAt]
       rw [hlD] at c8
       have a1:=ME.out.tcell htD 1 (by decide)
       simp [rtCells] at a1
       have f1:=ME.out.tfrozen (t * 13 + 1)
       have i2:=BE2.out.cell 2
       simp at i2
       clear hlD
       go_wp2_with fail
       go_region
       have hm1:=(ME.out.setT htD (j:=1) (by decide) (.int .i64 ib) (fun x=>{ x with at_:=ib }) rfl).below (Below.refl _ _).drew
       have eS:({ R.toAt s t ((k:Int) + 1) with T:=(R.toAt s t ((k:Int) + 1)).T.modify t (fun x=>{ x with at_:=ib }) }:RS)=R.toAt s t ib:=by
        simp [R.toAt,List.modify_modify_eq]
        rfl
       rw [eS] at hm1
       have M1:Hid (RMem F (wE.setCell ⟨h.gT,t * 13 + 1,none⟩ (.int .i64 ib)).drew sb h (R.actS s t)):=by rw [EA.out]; exact hm1
       have O1:Hid (Only (sb :: h.foot) w (wE.setCell ⟨h.gT,t * 13 + 1,none⟩ (.int .i64 ib)).drew):=(OE.out.setCell (.inl (by simp [RH.foot])) _).via (Below.refl _ _).drew
       have B10:Hid (Blk (wE.setCell ⟨h.gT,t * 13 + 1,none⟩ (.int .i64 ib)).drew w.heap.size #[.int .i64 0,.int .i64 0,.int .i64 0] 72):=BE0.out.other (p:=⟨h.gT,t * 13 + 1,none⟩) (by show w.heap.size ≠ h.gT; omega) (.int .i64 ib)
       have B11:Hid (Blk (wE.setCell ⟨h.gT,t * 13 + 1,none⟩ (.int .i64 ib)).drew (w.heap.size + 1) #[.int .i64 t,.int .i64 k,.int .i64 0] 72):=BE1.out.other (p:=⟨h.gT,t * 13 + 1,none⟩) (by show w.heap.size + 1 ≠ h.gT; omega) (.int .i64 ib)
       clear c8 a1 f1 i2 ME OE BE0 BE1 BE2 hm1 eS
       generalize (wE.setCell ⟨h.gT,t * 13 + 1,none⟩ (.int .i64 ib)).drew=w1 at *
       go_wp2_with fail
       refine (rSettle_any F w1 sb h (R.actS s t) M1.out HGA.out s.set.workers.toNat HWA.out).mono ?_
       rintro e wZ ⟨rfl,hmZ,hoZ⟩
       have MZ:=hid hmZ
       have HGZ:Hid (h.gT=h.gT):=rfl
       have hoZ':Only (sb :: h.foot) w1 wZ:=hoZ.mono (by rw [HGZ.out]; exact RH.foot_two h sb)
       have OZ:=hid (O1.out.trans hoZ')
       have BZ0:=hid (B10.out.only hoZ' (fun hb=>by have:=FL.out _ hb; omega))
       have BZ1:=hid (B11.out.only hoZ' (fun hb=>by have:=FL.out _ hb; omega))
       clear hmZ hoZ hoZ'
       have r0:=BZ1.out.cell 0
       have r1:=BZ1.out.cell 1
       have r2:=BZ1.out.cell 2
       have q0:=BZ0.out.cell 0
       have q1:=BZ0.out.cell 1
       have q2:=BZ0.out.cell 2
       simp at r0 r1 r2 q0 q1 q2
       have g0:=BZ0.out.frozen 0
       have g1:=BZ0.out.frozen 1
       have g2:=BZ0.out.frozen 2
       have hz0:w.heap.size<=wZ.heap.size:=OZ.out.size
       go_wp2
       refine bodyPost_ret (v:=.tuple #[.agg #[.int .i64 t,.int .i64 k,.int .i64 (R.actC s t)],.int .i64 0]) ?_ rfl ⟨rfl,h,?_,AP.out,RNext.refl _ _,?_⟩
       ·rw [HAC.out]
        simp [results,Tryz.results30,go_sem,q0,q1,q2]
       ·refine MZ.out.only (L:=[w.heap.size]) ((((Only.refl _ _).setCell (.inl (by simp)) _).setCell (.inl (by simp)) _).setCell (.inl (by simp)) _) ?_ ?_ ?_ ?_
        ·simp; omega
        ·first
          | (rw [HGZ.out]; simp; omega)
          | (simp; omega)
        ·intro b hb hf; simp at hb; subst hb; have:=M.out.lt _ hf; omega
        ·intro b hb cur e he
         simp at hb
         subst hb
         have hbz:=BZ0.out
         unfold Blk at hbz
         rw [hbz] at he
         cases he
         decide
       ·exact (((OZ.out.setCell (.inr (Nat.le_refl _)) _).setCell (.inr (Nat.le_refl _)) _).setCell (.inr (Nat.le_refl _)) _)
     ·rw [if_neg hop0,if_neg hop3] at EA
      rw [if_neg (by omega)] at EC
      have hne3:(op == 3)=false:=by simpa using hop3
      go_upto_region 13 with fail
      clear c8 a1 f1 i0 hwD
      generalize wC.setCell ⟨h.gT,t * 13 + 1,none⟩ (.int .i64 ((k:Int) + 1))=wD at *
      have i0:=HBD2.out.cell 0
      have i1:=HBD2.out.cell 1
      have i2:=HBD2.out.cell 2
      simp at i0 i1 i2
      have hszD:=HOD.out.size
      have LT:=like_toAt s t ((k:Int) + 1)
      have GT:=hid (LT.good G.out (by omega))
      have INT:=hid (HIN.out.like LT)
      have htD:t < (R.toAt s t ((k:Int) + 1)).T.length:=by rw [LT.len]; exact HTL
      have hnxD:(R.toAt s t ((k:Int) + 1)).next<=4611686018427386000:=hnx
      have HLT:=hid LT
      clear LT
      go_wp2_with fail
      refine (rDoes_any F wD sb h _ HMD.out AP.out GT.out (LN.out.toAt t _) (ST.out.toAt t _) t htD op ia ib INT.out hnxD).mono ?_
      rintro e wE ⟨rfl,h',hmE,hapE,hnE,hoE⟩
      have ME:=hid hmE
      have AP1:=hid hapE
      have NX:=hid (hnE.mono hszD)
      have OE:=hid (HOD.out.trans hoE)
      have be0:=HBD0.out.only hoE (fun hb=>by have:=FL.out _ hb; omega)
      have be1:=HBD1.out.only hoE (fun hb=>by have:=FL.out _ hb; omega)
      have BE0:=hid be0
      have BE1:=hid be1
      have LE:=hid (like_doesS (R.toAt s t ((k:Int) + 1)) t ⟨op,ia,ib⟩)
      clear hmE hapE hnE hoE HMD HOD HBD0 HBD1 HBD2 i0 i1 i2
      generalize hdc:R.doesC (R.toAt s t ((k:Int) + 1)) t ⟨op,ia,ib⟩=dc at *
      generalize hds:R.doesS (R.toAt s t ((k:Int) + 1)) t ⟨op,ia,ib⟩=ds at *
      clear hdc hds
      have HAC:Hid (R.actC s t=dc):=EC
      have htE:t < ds.T.length:=by rw [LE.out.len]; exact htD
      have hlE:ds.T.length=s.T.length:=LE.out.len.trans HLT.out.len
      have k2:=be1.cell 2
      simp at k2
      have z2:=be1.frozen 2
      clear be0 be1
      go_upto_region 14 with fail
      have hmF:RMem F (wE.setCell ⟨w.heap.size + 1,2,none⟩ (.int .i64 dc)) sb h' ds:=by
       refine ME.out.only (L:=[w.heap.size + 1]) ((Only.refl _ _).setCell (.inl (by simp)) _) ?_ ?_ ?_ ?_
       ·simp; omega
       ·rw [NX.out.t]; simp; omega
       ·intro b hb hf; simp at hb; subst hb; have:=M.out.lt _ hf; omega
       ·intro b hb cur e he
        simp at hb
        subst hb
        have hbz:=BE1.out
        unfold Blk at hbz
        rw [hbz] at he
        cases he
        decide
      have hoF:Only (sb :: h.foot) w (wE.setCell ⟨w.heap.size + 1,2,none⟩ (.int .i64 dc)):=OE.out.setCell (.inr (by show w.heap.size<=w.heap.size + 1; omega)) _
      have bf0:=BE0.out.other (p:=⟨w.heap.size + 1,2,none⟩) (by show w.heap.size ≠ w.heap.size + 1; omega) (.int .i64 dc)
      have bf1:Blk (wE.setCell ⟨w.heap.size + 1,2,none⟩ (.int .i64 dc)) (w.heap.size + 1) #[.int .i64 t,.int .i64 k,.int .i64 dc] 72:=by
       have:=BE1.out.set 2 (.int .i64 dc)
       simpa using this
      clear k2 z2 ME OE BE0 BE1
      generalize wE.setCell ⟨w.heap.size + 1,2,none⟩ (.int .i64 dc)=wF at hmF hoF bf0 bf1 ⊢
      have MF:=hid hmF
      have OF:=hid hoF
      have BF0:=hid bf0
      have BF1:=hid bf1
      clear hmF hoF bf0 bf1
      have c8:=MF.out.blk.cell 8
      simp [rsCells] at c8
      rw [hlE] at c8
      have a2:=MF.out.tcell htE 2 (by decide)
      simp [rtCells] at a2
      have f2:=MF.out.tfrozen (t * 13 + 2)
      have k2:=BF1.out.cell 2
      simp at k2
      go_wp2_with fail
      go_region
      have hm1:=(MF.out.setT htE (j:=2) (by decide) (.int .i64 dc) (fun x=>{ x with last:=dc }) rfl).below (Below.refl _ _).drew
      have M1:Hid (RMem F (wF.setCell ⟨h'.gT,t * 13 + 2,none⟩ (.int .i64 dc)).drew sb h' (R.actS s t)):=by
       rw [EA.out,HAC.out]
       exact hm1
      have hgt':=NX.out.t
      have O1:Hid (Only (sb :: h.foot) w (wF.setCell ⟨h'.gT,t * 13 + 2,none⟩ (.int .i64 dc)).drew):=(OF.out.setCell (.inl (by rw [hgt']; simp [RH.foot])) _).via (Below.refl _ _).drew
      have B10:Hid (Blk (wF.setCell ⟨h'.gT,t * 13 + 2,none⟩ (.int .i64 dc)).drew w.heap.size #[.int .i64 0,.int .i64 0,.int .i64 0] 72):=BF0.out.other (p:=⟨h'.gT,t * 13 + 2,none⟩) (by show w.heap.size ≠ h'.gT; omega) (.int .i64 dc)
      have B11:Hid (Blk (wF.setCell ⟨h'.gT,t * 13 + 2,none⟩ (.int .i64 dc)).drew (w.heap.size + 1) #[.int .i64 t,.int .i64 k,.int .i64 dc] 72):=BF1.out.other (p:=⟨h'.gT,t * 13 + 2,none⟩) (by show w.heap.size + 1 ≠ h'.gT; omega) (.int .i64 dc)
      clear c8 a2 f2 k2 MF OF BF0 BF1 hm1 hgt'
      generalize (wF.setCell ⟨h'.gT,t * 13 + 2,none⟩ (.int .i64 dc)).drew=w1 at *
      go_wp2_with fail
      refine (rSettle_any F w1 sb h' (R.actS s t) M1.out HGA.out s.set.workers.toNat HWA.out).mono ?_
      rintro e wZ ⟨rfl,hmZ,hoZ⟩
      have MZ:=hid hmZ
      have HGZ:Hid (h'.gT=h.gT):=NX.out.t
      have hoZ':Only (sb :: h.foot) w1 wZ:=hoZ.mono (by rw [HGZ.out]; exact RH.foot_two h sb)
      have OZ:=hid (O1.out.trans hoZ')
      have BZ0:=hid (B10.out.only hoZ' (fun hb=>by have:=FL.out _ hb; omega))
      have BZ1:=hid (B11.out.only hoZ' (fun hb=>by have:=FL.out _ hb; omega))
      clear hmZ hoZ hoZ'
      have r0:=BZ1.out.cell 0
      have r1:=BZ1.out.cell 1
      have r2:=BZ1.out.cell 2
      have q0:=BZ0.out.cell 0
      have q1:=BZ0.out.cell 1
      have q2:=BZ0.out.cell 2
      simp at r0 r1 r2 q0 q1 q2
      have g0:=BZ0.out.frozen 0
      have g1:=BZ0.out.frozen 1
      have g2:=BZ0.out.frozen 2
      have hz0:w.heap.size<=wZ.heap.size:=OZ.out.size
      go_wp2
      refine bodyPost_ret (v:=.tuple #[.agg #[.int .i64 t,.int .i64 k,.int .i64 (R.actC s t)],.int .i64 0]) ?_ rfl ⟨rfl,h',?_,AP1.out,NX.out,?_⟩
      ·rw [HAC.out]
       simp [results,Tryz.results30,go_sem,q0,q1,q2]
      ·refine MZ.out.only (L:=[w.heap.size]) ((((Only.refl _ _).setCell (.inl (by simp)) _).setCell (.inl (by simp)) _).setCell (.inl (by simp)) _) ?_ ?_ ?_ ?_
       ·simp; omega
       ·first
         | (rw [HGZ.out]; simp; omega)
         | (simp; omega)
       ·intro b hb hf; simp at hb; subst hb; have:=M.out.lt _ hf; omega
       ·intro b hb cur e he
        simp at hb
        subst hb
        have hbz:=BZ0.out
        unfold Blk at hbz
        rw [hbz] at he
        cases he
        decide
      ·exact (((OZ.out.setCell (.inr (Nat.le_refl _)) _).setCell (.inr (Nat.le_refl _)) _).setCell (.inr (Nat.le_refl _)) _)
   ·have EI2:R.instrAt s t=⟨0,0,0⟩:=by
     rw [EI,List.getElem?_eq_none (by omega)]
     rfl
    have EA:Hid (R.actS s t=R.stop s t):=by
     unfold R.actS
     rw [EI2,if_pos rfl]
     exact hid rfl
    have EC:Hid (R.actC s t=0):=by
     unfold R.actC
     rw [EI2,if_pos (.inl rfl)]
     exact hid rfl
    have hklI:(s.set.threads[t].code.length:Int)<=(k:Int):=by omega
    clear EI EI2 ci hcode
    go_enter Tryz.func30,Tryz.ntmps30
    go_wp2_with fail
    refine (ON.out _ (M.out.below ((Below.refl _ _).alloc (Nat.le_refl _) _))).mono ?_
    rintro e w1 ⟨rfl,rfl⟩
    go_upto_region 9 with fail
    have hbB:Below w.heap.size w (((w.alloc (.cells #[.int .i64 0,.int .i64 0,.int .i64 0] 72)).alloc (.cells #[.int .i64 t,.int .i64 k,.int .i64 0] 72)).alloc (.cells #[.int .i64 0,.int .i64 0,.int .i64 0] 61)):=(((Below.refl _ _).alloc (Nat.le_refl _) _).alloc (by simp) _).alloc (by simp; omega) _
    have bb0:Blk (((w.alloc (.cells #[.int .i64 0,.int .i64 0,.int .i64 0] 72)).alloc (.cells #[.int .i64 t,.int .i64 k,.int .i64 0] 72)).alloc (.cells #[.int .i64 0,.int .i64 0,.int .i64 0] 61)) w.heap.size #[.int .i64 0,.int .i64 0,.int .i64 0] 72:=((Blk.new _ _ _).alloc _).alloc _
    have bb1:Blk (((w.alloc (.cells #[.int .i64 0,.int .i64 0,.int .i64 0] 72)).alloc (.cells #[.int .i64 t,.int .i64 k,.int .i64 0] 72)).alloc (.cells #[.int .i64 0,.int .i64 0,.int .i64 0] 61)) (w.heap.size + 1) #[.int .i64 t,.int .i64 k,.int .i64 0] 72:=by
     have:=Blk.new (w.alloc (.cells #[.int .i64 0,.int .i64 0,.int .i64 0] 72)) #[.int .i64 t,.int .i64 k,.int .i64 0] 72
     simp at this
     exact this.alloc _
    have bb2:Blk (((w.alloc (.cells #[.int .i64 0,.int .i64 0,.int .i64 0] 72)).alloc (.cells #[.int .i64 t,.int .i64 k,.int .i64 0] 72)).alloc (.cells #[.int .i64 0,.int .i64 0,.int .i64 0] 61)) (w.heap.size + 1 + 1) #[.int .i64 0,.int .i64 0,.int .i64 0] 61:=by
     have:=Blk.new ((w.alloc (.cells #[.int .i64 0,.int .i64 0,.int .i64 0] 72)).alloc (.cells #[.int .i64 t,.int .i64 k,.int .i64 0] 72)) #[.int .i64 0,.int .i64 0,.int .i64 0] 61
     simp at this
     exact this
    generalize ((w.alloc (.cells #[.int .i64 0,.int .i64 0,.int .i64 0] 72)).alloc (.cells #[.int .i64 t,.int .i64 k,.int .i64 0] 72)).alloc (.cells #[.int .i64 0,.int .i64 0,.int .i64 0] 61)=wB at hbB bb0 bb1 bb2 ⊢
    have c2':=(hbB.cell (p:=⟨sb,2,none⟩) hsl).trans c2
    have y4':=(hbB.cell (p:=⟨bt,ot + t * 5 + 4,none⟩) hbtl).trans y4
    have BB0:=hid bb0
    have BB1:=hid bb1
    have MC:=hid (M.out.below hbB)
    have OC:Hid (Only (sb :: h.foot) w wB):=Only.of_below hbB
    have i0:=bb2.cell 0
    simp at i0
    clear c2 y4 bb0 bb1 bb2 c8 a1 c0 hbB
    have HAC:Hid (R.actC s t=0):=EC
    go_wp2_with fail
    refine (rStop_any F wB sb h s MC.out AP.out G.out t HTL (by omega) (by omega) hnx).mono ?_
    rintro e w1 ⟨rfl,hm1,ho1⟩
    have M1:Hid (RMem F w1 sb h (R.actS s t)):=by rw [EA.out]; exact hm1
    have O1:=hid (OC.out.trans ho1)
    have B10:=hid (BB0.out.only ho1 (fun hb=>by have:=FL.out _ hb; omega))
    have B11:=hid (BB1.out.only ho1 (fun hb=>by have:=FL.out _ hb; omega))
    clear hm1 ho1 MC OC BB0 BB1 i0 c2' y4'
    go_wp2_with fail
    refine (rSettle_any F w1 sb h (R.actS s t) M1.out HGA.out s.set.workers.toNat HWA.out).mono ?_
    rintro e wZ ⟨rfl,hmZ,hoZ⟩
    have MZ:=hid hmZ
    have HGZ:Hid (h.gT=h.gT):=rfl
    have hoZ':Only (sb :: h.foot) w1 wZ:=hoZ.mono (by rw [HGZ.out]; exact RH.foot_two h sb)
    have OZ:=hid (O1.out.trans hoZ')
    have BZ0:=hid (B10.out.only hoZ' (fun hb=>by have:=FL.out _ hb; omega))
    have BZ1:=hid (B11.out.only hoZ' (fun hb=>by have:=FL.out _ hb; omega))
    clear hmZ hoZ hoZ'
    have r0:=BZ1.out.cell 0
    have r1:=BZ1.out.cell 1
    have r2:=BZ1.out.cell 2
    have q0:=BZ0.out.cell 0
    have q1:=BZ0.out.cell 1
    have q2:=BZ0.out.cell 2
    simp at r0 r1 r2 q0 q1 q2
    have g0:=BZ0.out.frozen 0
    have g1:=BZ0.out.frozen 1
    have g2:=BZ0.out.frozen 2
    have hz0:w.heap.size<=wZ.heap.size:=OZ.out.size
    go_wp2
    refine bodyPost_ret (v:=.tuple #[.agg #[.int .i64 t,.int .i64 k,.int .i64 (R.actC s t)],.int .i64 0]) ?_ rfl ⟨rfl,h,?_,AP.out,RNext.refl _ _,?_⟩
    ·rw [HAC.out]
     simp [results,Tryz.results30,go_sem,q0,q1,q2]
    ·refine MZ.out.only (L:=[w.heap.size]) ((((Only.refl _ _).setCell (.inl (by simp)) _).setCell (.inl (by simp)) _).setCell (.inl (by simp)) _) ?_ ?_ ?_ ?_
     ·simp; omega
     ·first
       | (rw [HGZ.out]; simp; omega)
       | (simp; omega)
     ·intro b hb hf; simp at hb; subst hb; have:=M.out.lt _ hf; omega
     ·intro b hb cur e he
      simp at hb
      subst hb
      have hbz:=BZ0.out
      unfold Blk at hbz
      rw [hbz] at he
      cases he
      decide
    ·exact (((OZ.out.setCell (.inr (Nat.le_refl _)) _).setCell (.inr (Nat.le_refl _)) _).setCell (.inr (Nat.le_refl _)) _)
end Go.Proofs.YtbkfildnijjioaaGreat

namespace Go.Proofs.YtbkfildnijjioaaGreat
end Go.Proofs.YtbkfildnijjioaaGreat

namespace Go.Proofs.YtbkfildnijjioaaGreat
section
variable {s:RS}
end
end Go.Proofs.YtbkfildnijjioaaGreat

namespace Go.Proofs.YtbkfildnijjioaaGreat
section
variable {s:RS}
end
end Go.Proofs.YtbkfildnijjioaaGreat

namespace Go.Proofs.YtbkfildnijjioaaGreat
open Go.RowKit
set_option maxRecDepth 100000 in
set_option maxHeartbeats 2000000 in
theorem rDue_any (F:Nat->Prop) (w:World) (sb:Nat) (h:RH) (s:RS) (m:RMem F w sb h s) (hfew:s.T.length<=16) :
  Calls Tryz.prog 71 #[.pointer (some ⟨sb,0,none⟩)] w fun e w'=>e=.returned (.int .i64 (R.due s))/\∃ n,w'=w.drewN n:=by
 have c8:=m.blk.cell 8
 have c6:=m.blk.cell 6
 simp [rsCells] at c8 c6
 have M:=hid m
 clear m
 go_enter Tryz.func71,Tryz.ntmps71
 go_wp2
 go_loopw [3,4] (fun b i wr=>∃ k:Nat,k<=s.T.length/\i=.int .i64 k/\b=.int .i64 (R.dueTo s.T s.now k)/\∃ n,wr=w.drewN n) (fun _ i _=>s.T.length - (intOf i).toNat)
 case atStart=>exact ⟨0,Nat.zero_le _,rfl,rfl,0,rfl⟩
 case round =>
  obtain ⟨k,hk,rfl,rfl,n,rfl⟩:=hrel
  obtain ⟨hb0,hb1⟩:=R.dueTo_bd s.T s.now k
  by_cases hlt:k < s.T.length
  ·have a9:=M.out.tcell hlt 9 (by decide)
   have a11:=M.out.tcell hlt 11 (by decide)
   have a12:=M.out.tcell hlt 12 (by decide)
   simp [rtCells] at a9 a11 a12
   have eth:R.th s.T k=s.T[k]:=by simp [R.th,List.getD,hlt]
   have estep:R.dueTo s.T s.now (k + 1)=if (R.th s.T k).for_ ≠ 0/\(R.th s.T k).until_=s.now/\(R.dueTo s.T s.now k < 0\/(R.th s.T k).since < (R.th s.T (R.dueTo s.T s.now k).toNat).since) then (k:Int) else R.dueTo s.T s.now k:=rfl
   rw [eth] at estep
   have hlb:0<=R.dueTo s.T s.now k->∃ (hj:(R.dueTo s.T s.now k).toNat < s.T.length),R.th s.T (R.dueTo s.T s.now k).toNat=s.T[(R.dueTo s.T s.now k).toNat]:=by
    intro hp
    have hj:(R.dueTo s.T s.now k).toNat < s.T.length:=by omega
    exact ⟨hj,by simp [R.th,List.getD,hj]⟩
   have HLB:=hid hlb
   have ES:=hid estep
   clear estep eth hlb
   generalize s.T[k]=x at *
   generalize R.dueTo s.T s.now k=b at *
   have hkI:(k:Int) < (s.T.length:Int):=by omega
   cases hf:(x.for_ != 0)
   ·have HF:=hid hf
    go_wp2_with fail
    go_quiet (fail)
    go_wp2
    go_roundw
    case rel=>exact ⟨k + 1,by omega,by go_num,by rw [ES.out,if_neg (fun hh=>by have:=HF.out; simp at this; exact hh.1 this)],_,rfl⟩
    case measure=>simp [intOf]; omega
   ·have HF:=hid hf
    cases hu:(x.until_ == s.now)
    ·have HU:=hid hu
     go_wp2_with fail
     go_quiet (fail)
     go_wp2
     go_roundw
     case rel=>exact ⟨k + 1,by omega,by go_num,by rw [ES.out,if_neg (fun hh=>by have:=HU.out; simp at this; exact this hh.2.1)],_,rfl⟩
     case measure=>simp [intOf]; omega
    ·have HU:=hid hu
     have e1:x.for_ ≠ 0:=by have:=HF.out; simpa using this
     have e2:x.until_=s.now:=by have:=HU.out; simpa using this
     have E12:=hid (And.intro e1 e2)
     clear e1 e2
     by_cases hbn:b < 0
     ·go_wp2_with fail
      go_quiet (fail)
      go_wp2
      go_roundw
      case rel=>exact ⟨k + 1,by omega,by go_num,by rw [ES.out,if_pos ⟨E12.out.1,E12.out.2,.inl hbn⟩],_,rfl⟩
      case measure=>simp [intOf]; omega
     ·have hb2:0<=b:=by omega
      obtain ⟨hj,ejt⟩:=HLB.out hb2
      obtain ⟨j,rfl⟩:=Int.eq_ofNat_of_zero_le hb2
      have hjl:j < s.T.length:=by simpa using hj
      have ej2:R.th s.T (Int.toNat (j:Int))=s.T[j]:=by simp [R.th,List.getD,hjl]
      have b12:=M.out.tcell hjl 12 (by decide)
      simp [rtCells] at b12
      have EJ:=hid ej2
      clear ejt hj ej2
      generalize s.T[j]=y at *
      have hjI:(j:Int) < (s.T.length:Int):=by omega
      have hd:decide ((j:Int) < 0)=false:=by simp
      by_cases hs:x.since < y.since
      ·go_wp2_with fail
       go_quiet (fail)
       go_wp2
       go_roundw
       case rel=>exact ⟨k + 1,by omega,by go_num,by rw [ES.out,if_pos ⟨E12.out.1,E12.out.2,.inr (by rw [EJ.out]; exact hs)⟩],_,rfl⟩
       case measure=>simp [intOf]; omega
      ·go_wp2_with fail
       go_quiet (fail)
       go_wp2
       go_roundw
       case rel=>exact ⟨k + 1,by omega,by go_num,by rw [ES.out,if_neg (fun hh=>by rcases hh.2.2 with h1 | h1; omega; rw [EJ.out] at h1; omega)],_,rfl⟩
       case measure=>simp [intOf]; omega
  ·go_wp2
   go_ret
   have e:k=s.T.length:=by omega
   subst e
   exact ⟨rfl,_,rfl⟩
end Go.Proofs.YtbkfildnijjioaaGreat

namespace Go.Proofs.YtbkfildnijjioaaGreat
open Go.RowKit
set_option maxRecDepth 100000 in
set_option maxHeartbeats 2000000 in
theorem rLate_any (F:Nat->Prop) (w:World) (sb:Nat) (h:RH) (s:RS) (m:RMem F w sb h s) (g:RGood s) :
  Calls Tryz.prog 70 #[.pointer (some ⟨sb,0,none⟩)] w fun e w'=>∃ v,e=.returned v/\w'.ownsRow w.heap.size 95 3 v (R.late s).length (missCells (R.late s))/\Below w.heap.size w w':=by
 have hfew:=g.few
 have M:=hid m
 have G:=hid g
 have HL:=hid g.len
 clear m g
 obtain ⟨i3,hi3,hz30,hz31,hz32⟩:=info_parts Tryz.infoMiss
 have HI3:=hid (And.intro hi3 (And.intro hz30 (And.intro hz31 hz32)))
 clear hi3 hz30 hz31 hz32
 go_enter Tryz.func70,Tryz.ntmps70
 go_wp2
 go_loopw [3,4] (fun v i wr=>∃ k:Nat,k<=s.T.length/\i=.int .i64 k/\wr.ownsRow w.heap.size 95 3 v (R.lateTo s k).length (missCells (R.lateTo s k))/\Below w.heap.size w wr) (fun _ i _=>s.T.length - (intOf i).toNat)
 case atStart=>exact ⟨0,Nat.zero_le _,rfl,World.ownsRow_nil _ _ _ _,Below.refl _ _⟩
 case round =>
  obtain ⟨k,hk,rfl,hown,hb⟩:=hrel
  have hm:=M.out.below hb
  have Mk:=hid hm
  have c8:=hm.blk.cell 8
  have c6:=hm.blk.cell 6
  have c2:=hm.blk.cell 2
  simp [rsCells] at c8 c6 c2
  have OW:=hid hown
  have hsz:=hb.size
  have hll:=R.lateTo_len s k
  clear hown
  by_cases hlt:k < s.T.length
  ·have hlt2:k < s.set.threads.length:=by have:=HL.out; omega
   have hoff:=G.out.off s.set.threads[k] (List.getElem_mem hlt2)
   have e0:s.set.threads.getD k P3.none0=s.set.threads[k]:=by simp [List.getD,hlt2]
   have eth:R.th s.T k=s.T[k]:=by simp [R.th,List.getD,hlt]
   have estep:R.lateTo s (k + 1)=if (s.set.threads.getD k P3.none0).deadline=0 then R.lateTo s k
     else if 0<=R.numberAt s k (s.set.threads.getD k P3.none0).deadline/\(R.th s.T k).ended<=R.numberAt s k (s.set.threads.getD k P3.none0).deadline then R.lateTo s k ++ [⟨(k:Int),R.numberAt s k (s.set.threads.getD k P3.none0).deadline,s.now⟩]
     else R.lateTo s k:=rfl
   rw [e0,eth] at estep
   have ES:=hid estep
   obtain ⟨b,o,cv,cc,ha,_,x0,x1,x2,x3,x4,_⟩:=hm.set.threads k hlt2
   rw [ha] at c2
   have a5:=hm.tcell hlt 5 (by decide)
   simp [rtCells] at a5
   clear hm ha estep e0 eth x0 x1 x2 x4
   have NU:=hid (fun bd hb0 hb1=>rNumber_any F wr sb h s Mk.out k hlt2 bd hb0 hb1 G.out.now0 G.out.now1 G.out.now2 ⟨hoff.1,hoff.2.1,hoff.2.2.1,hoff.2.2.2.1⟩)
   have hdl:=hoff.2.2.2.2
   clear hoff
   generalize hdd:s.set.threads[k].deadline=dl at *
   have HDD:=hid hdd
   clear hdd
   generalize s.T[k].ended=en at *
   cases hz:(dl == 0)
   ·have HZ:=hid hz
    have hdl0:=hdl.1
    have hdl1:=hdl.2
    clear hdl
    go_wp2_with fail
    refine (NU.out dl hdl0 hdl1).mono ?_
    rintro e w1 ⟨rfl,hb1⟩
    have c8':=cell_later hb1 c8
    have c6':=cell_later hb1 c6
    have a5':=cell_later hb1 a5
    have hsz1:=hb1.size
    have OW1:=hid (ownsRow_same (w':=w1) OW.out fun g hg=>hb1.block g (ownsRow_block OW.out hg).2.1)
    have hbw1:=via hb hsz hb1
    clear c8 c6 a5 c2 x3
    generalize hnum:R.numberAt s k dl=num at *
    have HNUM:=hid hnum
    clear hnum
    have eneg:¬ (0<=num/\en<=num)->R.lateTo s (k + 1)=R.lateTo s k:=by
     intro hh
     rw [ES.out,if_neg (by simpa using HZ.out),if_neg hh]
    have EN:=hid eneg
    have epos:(0<=num/\en<=num)->R.lateTo s (k + 1)=R.lateTo s k ++ [⟨(k:Int),num,s.now⟩]:=by
     intro hh
     rw [ES.out,if_neg (by simpa using HZ.out),if_pos hh]
    have EP:=hid epos
    clear eneg epos
    by_cases h1:0<=num
    ·by_cases h2:en<=num
     ·go_wp2_with (at_builtin; refine wpList_append_src rfl (.tmp 45) (.tmp 53) 73 rfl w.heap.size 95 i3 (.agg #[.int .i64 0,.int .i64 0,.int .i64 0]) 3 24 Tryz.underlying73 HI3.out.1 HI3.out.2.1 HI3.out.2.2.1 HI3.out.2.2.2 rfl (by decide) u3 (R.lateTo s k).length (missCells (R.lateTo s k)) rfl (OW1.out.alloc _) (some ⟨w1.heap.size,0,none⟩) 1 1 [.int .i64 (k:Int),.int .i64 num,.int .i64 s.now] rfl rfl (fun h=>(by cases h)) (fun j u hj=>⟨_,rfl,(by rw [Addr.add_lit,Nat.zero_add,(Blk.new w1 #[.int .i64 (k:Int),.int .i64 num,.int .i64 s.now] 95).cell]; simpa using hj)⟩) (by intro u hu; simp at hu; rcases hu with rfl | rfl | rfl <;> rfl) (by unfold maxLen; omega) (by omega) (by simp; omega) ?_; intro v' w2 hown2 hg2; have O2:=hid hown2; have G2:=hid hg2; clear hown2 hg2)
      go_roundw
      case rel =>
       refine ⟨k + 1,by omega,by go_num,?_,(hbw1.alloc (by omega) _).grown G2.out (by simp; omega) (fun g hg=>(ownsRow_block OW.out hg).1)⟩
       rw [EP.out ⟨h1,h2⟩,missCells_append]
       simpa using O2.out
      case measure=>simp [intOf]; omega
     ·go_wp2
      go_roundw
      case rel=>exact ⟨k + 1,by omega,by go_num,by rw [EN.out (by omega)]; exact OW1.out,hbw1⟩
      case measure=>simp [intOf]; omega
    ·go_wp2
     go_roundw
     case rel=>exact ⟨k + 1,by omega,by go_num,by rw [EN.out (by omega)]; exact OW1.out,hbw1⟩
     case measure=>simp [intOf]; omega
   ·have HZ:=hid hz
    go_wp2
    go_roundw
    case rel=>exact ⟨k + 1,by omega,by go_num,by rw [ES.out,if_pos (by simpa using HZ.out)]; exact OW.out,hb⟩
    case measure=>simp [intOf]; omega
  ·go_wp2
   go_ret
   have e:k=s.T.length:=by omega
   subst e
   exact ⟨_,rfl,OW.out,hb⟩
end Go.Proofs.YtbkfildnijjioaaGreat

namespace Go.Proofs.YtbkfildnijjioaaGreat
open Go.RowKit
set_option maxRecDepth 100000 in
set_option maxHeartbeats 2000000 in
theorem rTick_any (F:Nat->Prop) (w:World) (sb:Nat) (h:RH) (s:RS) (m:RMem F w sb h s) (a:RApart F h) (g:RGood s) (hmis:s.missed.length<=16000000000) (hnx:s.next<=4611686018427386000) :
  Calls Tryz.prog 29 #[.pointer (some ⟨sb,0,none⟩)] w fun e w' =>
   (s.now=1000000000/\e=.returned (.tuple #[.slice none 0 0,.int .i64 8])/\w'=w) \/
   (s.now < 1000000000/\∃ l vM,e=.returned (.tuple #[l,.int .i64 0])/\w'.ownsRow w.heap.size 95 3 l (R.late (R.ticked s)).length (missCells (R.late (R.ticked s)))/\RMem F w' sb { h with vM:=vM } (R.tick s) /\
    (vM.ownBlock=h.vM.ownBlock\/∃ b,vM.ownBlock=some b/\w.heap.size<=b/\l.ownBlock ≠ some b)/\Only (sb :: h.gT :: h.vM.ownBlock.toList) w w'):=by
 have c6:=m.blk.cell 6
 have f6:=m.blk.frozen 6
 simp [rsCells] at c6
 have hfew:=g.few
 have hsbl:=m.blk.lt
 have HML:=hid (fun g (hg:h.vM.ownBlock=some g)=>(ownsRow_block m.oth.mis hg).2.1)
 have M:=hid m
 have G:=hid g
 have A:=hid a
 have g2:=g.now2
 have g1:=g.now1
 have g0:=g.now0
 clear m g a
 obtain ⟨i3,hi3,hz30,hz31,hz32⟩:=info_parts Tryz.infoMiss
 have HI3:=hid (And.intro hi3 (And.intro hz30 (And.intro hz31 hz32)))
 clear hi3 hz30 hz31 hz32
 go_enter Tryz.func29,Tryz.ntmps29
 cases hnow:(s.now == 1000000000)
 ·have hlt:s.now < 1000000000:=by
   have:¬ s.now=1000000000:=by simpa using hnow
   omega
  go_upto_region 4 with fail
  have hm1:RMem F (w.setCell ⟨sb,6,none⟩ (.int .i64 (s.now + 1))) sb h (R.ticked s):=M.out.setNow (s.now + 1)
  have ho1:Only (sb :: h.gT :: h.vM.ownBlock.toList) w (w.setCell ⟨sb,6,none⟩ (.int .i64 (s.now + 1))):=(Only.refl _ _).setCell (.inl (by simp)) _
  have hz1:(w.setCell ⟨sb,6,none⟩ (.int .i64 (s.now + 1))).heap.size=w.heap.size:=by simp [World.setCell]
  clear c6 f6 M
  generalize w.setCell ⟨sb,6,none⟩ (.int .i64 (s.now + 1))=w1 at hm1 ho1 hz1 ⊢
  have M1:=hid hm1
  have O1:=hid ho1
  clear hm1 ho1
  have hG1:=hid (good_ticked G.out hlt)
  go_wp2_with fail
  refine (rLate_any F w1 sb h _ M1.out hG1.out).mono ?_
  rintro e w2 ⟨v,rfl,hown2,hb2⟩
  have hll:=R.lateTo_len (R.ticked s) s.T.length
  have hlate:R.late (R.ticked s)=R.lateTo (R.ticked s) s.T.length:=rfl
  rw [<- hlate] at hll
  have M2:=hid (M1.out.below hb2)
  have O2:=hid (O1.out.via hb2)
  have hz2:=hb2.size
  have OW2:=hid hown2
  obtain ⟨lao,lcap,rfl,hln,hla⟩:=owns_cells hown2
  have HLA:=hid hla
  have HLN:=hid hln
  clear M1 O1 hb2 hown2 hla hln hlate
  have c12:=M2.out.blk.cell 12
  simp [rsCells] at c12
  have f12:=M2.out.blk.frozen 12
  generalize hLL:R.late (R.ticked s)=L at *
  have HLL:=hid hLL
  clear hLL
  have hsrc:∀ j u,(missCells L)[j]?=some u->∃ ad,lao=some ad/\w2.cell? (ad.add j)=some u:=by
   intro j u hj
   have hlt:j < (missCells L).length:=by
    rcases Nat.lt_or_ge j (missCells L).length with h' | h'
    ·exact h'
    ·rw [List.getElem?_eq_none h'] at hj; cases hj
   rw [missCells_length] at hlt
   cases lao with
   | none=>have:=(HLN.out rfl).1; omega
   | some ad =>
    obtain ⟨gl,rfl,_,_,_,hc⟩:=HLA.out ad rfl
    refine ⟨_,rfl,?_⟩
    rw [Addr.add_lit,Nat.zero_add,hc _ hlt]
    exact hj
  have HSRC:=hid hsrc
  clear hsrc
  have hsbne:some sb ≠ h.vM.ownBlock:=by
   intro e
   obtain ⟨_,_,cur,hc⟩:=ownsRow_block M2.out.oth.mis e.symm
   exact absurd (blk_type M2.out.blk hc) (by decide)
  have HSB:=hid hsbne
  clear hsbne
  have hF:∀ g,h.vM.ownBlock=some g->¬ F g:=A.out.m
  have HF:=hid hF
  clear hF
  go_upto_region 6 with (at_builtin; refine wpList_append_src_at rfl (.tmp 26) (.tmp 27) 73 rfl 0 95 i3 (.agg #[.int .i64 0,.int .i64 0,.int .i64 0]) 3 24 Tryz.underlying73 HI3.out.1 HI3.out.2.1 HI3.out.2.2.1 HI3.out.2.2.2 rfl (by decide) h.vM s.missed.length (missCells s.missed) rfl M2.out.oth.mis lao L.length lcap (missCells L) rfl (missCells_length _) (fun hh=>(HLN.out hh).2) HSRC.out (missCells_one _) (by unfold maxLen; omega) (by omega) (Nat.zero_le _) ?_; intro v' w3 hown3 hg3 hat3; obtain ⟨tv5,tc5,rfl,_,_⟩:=owns_cells hown3; have B3:=hid (M2.out.blk.grown hg3 HSB.out); have z3:=B3.out.frozen 12; have y3:=B3.out.cell 12; simp [rsCells] at y3; have O3:=hid hown3; have G3:=hid hg3; have A3:=hid hat3; clear hown3 hg3 hat3)
  have hrow3:w3.ownsRow 0 95 3 (.slice tv5 (s.missed.length + L.length) tc5) (s.missed ++ L).length (missCells (s.missed ++ L)):=by
   rw [missCells_two,List.length_append]
   exact O3.out
  have hm4:=M2.out.setMissed G3.out HF.out hrow3
  have es:({ R.ticked s with missed:=s.missed ++ L }:RS)=R.missing s:=by rw [<- HLL.out]; rfl
  rw [es] at hm4
  have ho4:Only (sb :: h.gT :: h.vM.ownBlock.toList) w (w3.setCell ⟨sb,12,none⟩ (.slice tv5 (s.missed.length + L.length) tc5)):=by
   refine Only.setCell ?_ (.inl (by simp)) _
   refine ⟨G3.out.os.trans O2.out.os,G3.out.tape.trans O2.out.tape,G3.out.output.trans O2.out.output,Nat.le_trans O2.out.size G3.out.size,fun k hk hc=>?_⟩
   rw [G3.out.block k (by omega) (fun e=>hc (by rw [<- e]; simp)),O2.out.block k hk hc]
  have hl4:(w3.setCell ⟨sb,12,none⟩ (.slice tv5 (s.missed.length + L.length) tc5)).ownsRow w1.heap.size 95 3 (.slice lao L.length lcap) L.length (missCells L):=by
   refine ownsRow_same OW2.out fun g hg=>?_
   obtain ⟨h1,h2,_⟩:=ownsRow_block OW2.out hg
   rw [Below.heap_setCell _ _ _ _ (fun e=>?_),G3.out.block g h2 (fun e=>?_)]
   ·have:=HML.out g e.symm
    omega
   ·have e':g=sb:=e
    omega
  have hwh:(Value.slice tv5 (s.missed.length + L.length) tc5).ownBlock=h.vM.ownBlock\/∃ b,(Value.slice tv5 (s.missed.length + L.length) tc5).ownBlock=some b/\w.heap.size<=b/\(Value.slice lao L.length lcap).ownBlock ≠ some b:=by
   rcases A3.out with h1 | h1
   ·exact .inl h1
   ·refine .inr ⟨_,h1,by omega,fun e=>?_⟩
    have:=(ownsRow_block OW2.out e).2.1
    omega
  have WH:=hid hwh
  clear hwh hrow3 es c12 f12 y3 z3 B3 O3 G3 A3 M2 O2 HSRC HLA HLN OW2 hG1 HSB HF
  generalize w3.setCell ⟨sb,12,none⟩ (.slice tv5 (s.missed.length + L.length) tc5)=w4 at hm4 ho4 hl4 ⊢
  generalize (Value.slice tv5 (s.missed.length + L.length) tc5)=vM at *
  have M4:=hid hm4
  have O4:=hid ho4
  have L4:=hid hl4
  have HG4:=hid (good_missing G.out hlt)
  have hsz4:=ho4.size
  clear hm4 ho4 hl4
  generalize hh':({ h with vM:=vM }:RH)=h' at *
  have HH:=hid hh'
  have hgT:h'.gT=h.gT:=by rw [<- hh']
  have HGT:=hid hgT
  clear hh' hgT
  have hlen1:(R.missing s).T.length=s.T.length:=rfl
  have hnx1:(R.missing s).next=s.next:=rfl
  generalize hs1:R.missing s=s1 at *
  have HS1:=hid hs1
  clear hs1
  have hend:RGood (R.ends s1)/\(R.ends s1).next<=4611686018427387000:=by
   have:=(R.endsTo_set s1 s1.T.length).2.2.2.2.2
   refine ⟨good_endsTo HG4.out (by omega) _ (by omega),?_⟩
   unfold R.ends
   omega
  have hfin:∀ w7,RMem F w7 sb h' (R.settle (R.release (R.ends s1)))->Only [sb,h'.gT] w4 w7->w7.ownsRow w.heap.size 95 3 (.slice lao L.length lcap) L.length (missCells L)/\RMem F w7 sb h' (R.tick s)/\Only (sb :: h.gT :: h.vM.ownBlock.toList) w w7:=by
   intro w7 hm ho
   refine ⟨?_,?_,O4.out.trans (ho.mono fun b hb=>?_)⟩
   ·refine ownsRow_same (w':=w7) (by rw [<- hz1]; exact L4.out) fun g hg=>?_
    obtain ⟨h1,h2,cur,h3⟩:=ownsRow_block L4.out hg
    refine ho.block g h2 fun e=>?_
    simp at e
    rcases e with e | e
    ·omega
    ·obtain ⟨_,_,cur',hc'⟩:=ownsRow_block M4.out.rows rfl
     rw [e,hc'] at h3
     cases h3
   ·unfold R.tick
    rw [HS1.out]
    exact hm
   ·rw [HGT.out] at hb
    simp at hb ⊢
    omega
  have FIN:=hid hfin
  clear hfin
  have HEND:=hid hend
  have HREL:=hid (good_release hend.1 hend.2)
  have hwk:(R.release (R.ends s1)).set.workers=(s1.set.workers.toNat:Int):=by
   have h1:(R.release (R.ends s1)).set=(R.ends s1).set:=R.releaseTo_set _ _
   have h2:(R.ends s1).set=s1.set:=(R.endsTo_set s1 _).1
   rw [h1,h2]
   have:=HG4.out.wk0
   omega
  have HWK:=hid hwk
  have hn0:=HG4.out.nxt0
  clear hend hwk
  go_wp2
  go_loopw [5] (fun i wr=>∃ k:Nat,k<=s.T.length/\i=.int .i64 k/\RMem F wr sb h' (R.endsTo s1 k)/\Only [sb,h'.gT] w4 wr) (fun i _=>s.T.length - (intOf i).toNat)
  case atStart=>exact ⟨0,Nat.zero_le _,rfl,M4.out,Only.refl _ _⟩
  case round =>
   obtain ⟨k,hk,rfl,hm,ho⟩:=hrel
   obtain ⟨q1,q2,q3,q4,q5,q6⟩:=R.endsTo_set s1 k
   have c8:=hm.blk.cell 8
   simp [rsCells] at c8
   rw [q4,hlen1] at c8
   have MK:=hid hm
   have OK:=hid ho
   clear hm ho
   by_cases hkl:k < s.T.length
   ·go_wp2_with fail
    refine (rDue_any F wr sb h' _ MK.out (by rw [q4,hlen1]; exact hfew)).mono ?_
    rintro e w5 ⟨rfl,nd,rfl⟩
    have M5:=hid (MK.out.drewN nd)
    have O5:=hid (OK.out.drewN nd)
    clear MK OK c8
    obtain ⟨d0,d1⟩:=R.dueTo_bd (R.endsTo s1 k).T (R.endsTo s1 k).now (R.endsTo s1 k).T.length
    have hdue:R.dueTo (R.endsTo s1 k).T (R.endsTo s1 k).now (R.endsTo s1 k).T.length=R.due (R.endsTo s1 k):=rfl
    rw [hdue] at d0 d1
    rw [q4,hlen1] at d1
    generalize wr.drewN nd=w5 at *
    have ES:Hid (R.endsTo s1 (k + 1)=R.endOne (R.endsTo s1 k)):=rfl
    have HSTOP:=hid (R.endsTo_stop s1 k)
    generalize hsk:R.endsTo s1 k=sk at *
    have HSK:=hid hsk
    clear hsk hdue
    by_cases hd:R.due sk < 0
    ·have hstop:R.ends s1=sk:=by
      have:=HSTOP.out hd (s1.T.length - k)
      unfold R.ends
      rw [show k + (s1.T.length - k)=s1.T.length by omega] at this
      exact this
     have HST:=hid hstop
     clear hstop
     go_wp2_with fail
     refine (rRelease_any F w5 sb h' sk M5.out (by rw [<- HST.out]; exact HEND.out.1) (by rw [<- HST.out]; exact HEND.out.2)).mono ?_
     rintro e w6 ⟨rfl,hm6,ho6⟩
     have M6:=hid hm6
     have O6:=hid (O5.out.trans ho6)
     clear hm6 ho6
     go_wp2_with fail
     refine (rSettle_any F w6 sb h' _ M6.out (by rw [<- HST.out]; exact HREL.out) s1.set.workers.toNat (by rw [<- HST.out]; exact HWK.out)).mono ?_
     rintro e w7 ⟨rfl,hm7,ho7⟩
     have M7:=hid hm7
     have O7:=hid (O6.out.trans ho7)
     clear hm7 ho7
     go_wp2
     go_ret2
     have hm7:=M7.out
     rw [<- HST.out] at hm7
     obtain ⟨r1,r2,r3⟩:=FIN.out w7 hm7 O7.out
     rw [<- HH.out] at r2
     exact .inr ⟨hlt,.slice lao L.length lcap,vM,rfl,by rw [HLL.out]; exact r1,r2,WH.out,r3⟩
    ·have hdn:((R.due sk).toNat:Int)=R.due sk:=by omega
     have htl:(R.due sk).toNat < sk.T.length:=by rw [q4]; omega
     have hesk:R.endOne sk=R.endW sk (R.due sk).toNat (if (R.th sk.T (R.due sk).toNat).for_=4 then 0 else 2):=by
      unfold R.endOne
      rw [if_neg hd]
     have eth:R.th sk.T (R.due sk).toNat=sk.T[(R.due sk).toNat]:=by simp [R.th,List.getD,htl]
     rw [eth] at hesk
     have HESK:=hid hesk
     clear hesk eth
     generalize hdt:(R.due sk).toNat=t at *
     have HDT:=hid hdt
     clear hdt
     rw [<- hdn] at d0 d1 hd ⊢
     clear hdn
     have c8:=M5.out.blk.cell 8
     simp [rsCells] at c8
     rw [q4,hlen1] at c8
     have a9:=M5.out.tcell htl 9 (by decide)
     simp [rtCells] at a9
     have Q4:=hid q4
     have hq4:=q4
     cases hf4:(sk.T[t].for_ == 4)
     ·have HF4:=hid hf4
      go_wp2_with fail
      refine (rEnd_any F w5 sb h' sk M5.out t htl (by rw [hq4]; omega) 2 (by omega) (by omega)).mono ?_
      rintro e w6 ⟨rfl,hm6,ho6⟩
      have M6:=hid hm6
      have O6:=hid (O5.out.trans ho6)
      clear hm6 ho6
      go_wp2
      go_roundw
      case rel =>
       refine ⟨k + 1,by omega,by go_num,?_,O6.out⟩
       have hne:¬ sk.T[t].for_=4:=by simpa using HF4.out
       rw [ES.out,HESK.out,if_neg hne]
       exact M6.out
      case measure=>simp [intOf]; omega
     ·have HF4:=hid hf4
      go_wp2_with fail
      refine (rEnd_any F w5 sb h' sk M5.out t htl (by rw [hq4]; omega) 0 (by omega) (by omega)).mono ?_
      rintro e w6 ⟨rfl,hm6,ho6⟩
      have M6:=hid hm6
      have O6:=hid (O5.out.trans ho6)
      clear hm6 ho6
      go_wp2
      go_roundw
      case rel =>
       refine ⟨k + 1,by omega,by go_num,?_,O6.out⟩
       have hne:sk.T[t].for_=4:=by simpa using HF4.out
       rw [ES.out,HESK.out,if_pos hne]
       exact M6.out
      case measure=>simp [intOf]; omega
   ·have e:k=s1.T.length:=by omega
    subst e
    have HST:Hid (R.endsTo s1 s1.T.length=R.ends s1):=rfl
    rw [HST.out] at MK
    go_wp2_with fail
    refine (rRelease_any F wr sb h' _ MK.out HEND.out.1 HEND.out.2).mono ?_
    rintro e w6 ⟨rfl,hm6,ho6⟩
    have M6:=hid hm6
    have O6:=hid (OK.out.trans ho6)
    clear hm6 ho6
    go_wp2_with fail
    refine (rSettle_any F w6 sb h' _ M6.out HREL.out s1.set.workers.toNat HWK.out).mono ?_
    rintro e w7 ⟨rfl,hm7,ho7⟩
    have M7:=hid hm7
    have O7:=hid (O6.out.trans ho7)
    clear hm7 ho7
    go_wp2
    go_ret2
    obtain ⟨r1,r2,r3⟩:=FIN.out w7 M7.out O7.out
    rw [<- HH.out] at r2
    exact .inr ⟨hlt,.slice lao L.length lcap,vM,rfl,by rw [HLL.out]; exact r1,r2,WH.out,r3⟩
 ·go_wp2
  go_ret2
  exact .inl ⟨by simpa using hnow,rfl,rfl⟩
end Go.Proofs.YtbkfildnijjioaaGreat

namespace Go.Proofs.YtbkfildnijjioaaGreat
end Go.Proofs.YtbkfildnijjioaaGreat
