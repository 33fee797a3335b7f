import Derived.Test.YtbkfildnijjioaaGreatA24
import Derived.Test.YtbkfildnijjioaaGreatA23
import Derived.Test.YtbkfildnijjioaaGreatA13
namespace Go.Proofs.YtbkfildnijjioaaGreat
open Go.RowKit
theorem rkWaiting_any (Q:Nat->Prop) (w:World) (sb:Nat) (s:RS) (k:RK Q w sb s) (what i:Int) :
  Calls Tryz.prog 83 #[.pointer (some ⟨sb,0,none⟩),.int .i64 what,.int .i64 i] w fun e w'=>∃ v,e=.returned (.tuple #[v,.int .i64 (R.waitE s what i)])/\w'.ownsRow w.heap.size 3 1 v (R.waitL s what i).length (intCells (R.waitL s what i))/\Below w.heap.size w w':=by
 obtain ⟨F,h,m,_,_⟩:=k.mem
 have hst:=k.inv.toRMid.store
 refine (rWaiting_any F w sb h s m k.inv.good hst.c4 hst.q4 what i).mono ?_
 rintro e w' ⟨hb,⟨h1,rfl⟩ | ⟨h1,v,rfl,hr⟩⟩
 ·have e1:R.waitE s what i=7:=by unfold R.waitE; rw [if_pos h1]
  have e2:R.waitL s what i=[]:=by unfold R.waitL; rw [if_pos h1]
  rw [e1,e2]
  exact ⟨_,rfl,World.ownsRow_nil _ _ _ _,hb⟩
 ·have e1:R.waitE s what i=0:=by unfold R.waitE; rw [if_neg h1]
  have e2:R.waitL s what i=R.waiting s what i:=by unfold R.waitL; rw [if_neg h1]
  rw [e1,e2]
  exact ⟨v,rfl,hr,hb⟩
section
variable {PK:KP} {B:Nat} {w:World} {tag:Tag} {wb:Nat} {sv:Value} {ks:List KI} {ins mss lns:List Value} {vk vi vm vl:Value}
def Lists (PK:KP) (B:Nat) (w:World) (wb:Nat) (sv:Value) (ks:List KI) (ins mss lns:List Value) (vk vl:Value) (e:Ending) (w':World):Prop :=
 e=.returned (.bool true)/\∃ tag' ins' mss' vi' vm',AM PK B (fun _=>True) w' tag' wb sv ks ins' mss' lns vk vi' vm' vl/\ins'.length<=ins.length + 1/\mss'.length<=mss.length + 1/\Below B w w'
theorem lists_mine (f:KFrame PK) {wA w2:World} {tagA:Tag} (hB:Below B w wA) (am:AM PK B (fun _=>True) wA tagA wb sv ks ins mss lns vk vi vm vl) (hb:Below wA.heap.size wA w2) {v:Value} {n:Nat} {xs:List Value} (hr:w2.ownsRow wA.heap.size 3 1 v n xs) (hc:ins.length<=100000000) (hBw:B<=wA.heap.size) :
  Calls Tryz.prog 78 #[.pointer (some ⟨wb,0,none⟩),v] w2 fun e w'=>e=.returned (.tuple #[])/\Lists PK B w wb sv ks ins mss lns vk vl (.returned (.bool true)) w':=by
 have am2:=am.below f hb
 refine (mine_any f am2 v n xs (ownsRow_mono hr hBw) (fun g hg=>?_) hc (Nat.le_trans hBw hb.size)).mono ?_
 ·unfold fresh
  rw [if_neg (by have:=(ownsRow_block hr hg).1; omega)]
 ·rintro e w' ⟨rfl,tag',fv,v',am',tk⟩
  exact ⟨rfl,rfl,tag',_,_,_,_,am',by simp,by omega,hB.trans ((hb.mono hBw).trans tk.b)⟩
theorem lists_told (f:KFrame PK) {wA w2:World} {tagA:Tag} (hB:Below B w wA) (am:AM PK B (fun _=>True) wA tagA wb sv ks ins mss lns vk vi vm vl) (hb:Below wA.heap.size wA w2) {v:Value} {n:Nat} {xs:List Value} (hr:w2.ownsRow wA.heap.size 95 3 v n xs) (hc:mss.length<=100000000) (hBw:B<=wA.heap.size) :
  Calls Tryz.prog 79 #[.pointer (some ⟨wb,0,none⟩),v] w2 fun e w'=>e=.returned (.tuple #[])/\Lists PK B w wb sv ks ins mss lns vk vl (.returned (.bool true)) w':=by
 have am2:=am.below f hb
 refine (told_any f am2 v n xs (ownsRow_mono hr hBw) (fun g hg=>?_) hc (Nat.le_trans hBw hb.size)).mono ?_
 ·unfold fresh
  rw [if_neg (by have:=(ownsRow_block hr hg).1; omega)]
 ·rintro e w' ⟨rfl,tag',fv,v',am',tk⟩
  exact ⟨rfl,rfl,tag',_,_,_,_,am',by omega,by simp,hB.trans ((hb.mono hBw).trans tk.b)⟩
set_option maxRecDepth 100000 in
set_option maxHeartbeats 2000000 in
theorem listsRun_any (f:KFrame PK) (c:CRunning PK) (h:AM PK B (fun _=>True) w tag wb sv ks ins mss lns vk vi vm vl) (hBw:B<=w.heap.size) (i:Nat) (hi:i < ks.length) (hcI:ins.length<=100000000) (_hcM:mss.length<=100000000) (k' a b:Int) (sl:Value) :
  Calls Tryz.prog 41 #[.pointer (some ⟨wb,0,none⟩),.pointer (some ⟨ks[i].bb,0,none⟩),.agg #[.int .i64 5,.int .i64 k',.int .i64 a,.int .i64 b,sl]] w fun e w'=>Lists PK B w wb sv ks ins mss lns vk vl e w':=by
 have hbA:Below w.heap.size w (w.alloc (.cells #[.int .i64 5,.int .i64 k',.int .i64 a,.int .i64 b,sl] 48)):=(Below.refl _ _).alloc (Nat.le_refl _) _
 have XA:=Blk.new w #[.int .i64 5,.int .i64 k',.int .i64 a,.int .i64 b,sl] 48
 have AMA:=hid (h.below f hbA)
 have HBA:Hid (Below B w (w.alloc (.cells #[.int .i64 5,.int .i64 k',.int .i64 a,.int .i64 b,sl] 48))):=hbA.mono hBw
 have hszA:B<=(w.alloc (.cells #[.int .i64 5,.int .i64 k',.int .i64 a,.int .i64 b,sl] 48)).heap.size:=Nat.le_trans hBw hbA.size
 obtain ⟨bb,HBB⟩:∃ x,Hid (ks[i].bb=x):=⟨_,hid rfl⟩
 rw [HBB.out]
 clear h
 go_enter Tryz.func41,Tryz.ntmps41
 go_upto_region 1 with fail
 generalize w.alloc (.cells #[.int .i64 5,.int .i64 k',.int .i64 a,.int .i64 b,sl] 48)=wA at *
 have x0:=XA.cell 0
 have x2:=XA.cell 2
 have x3:=XA.cell 3
 simp at x0 x2 x3
 have LA:=hid (AMA.out.ker i hi trivial)
 have c0:=LA.out.blk.cell 0
 simp at c0
 rw [HBB.out] at c0
 have XO:=hid XA
 clear XA hbA
 have C1:=hid (c ks[i].P wA ks[i].kb ks[i].s LA.out.pk)
 have hw8:=LA.out.rk.inv.good.wk1
 have hrl:(R.running ks[i].s).length<=8:=by rw [running_len]; omega
 go_wp2_with fail
 refine C1.out.mono ?_
 rintro e w1 ⟨v,rfl,ho1,hb1⟩
 obtain ⟨ao,ca,rfl,_,hi1,_⟩:=IntsIn.of_owns ho1
 have L1:=hid (LA.out.below f hb1)
 have c1:=L1.out.blk.cell 1
 simp at c1
 rw [HBB.out] at c1
 have C2:=hid (rkRunning_any ks[i].Q w1 ks[i].sb ks[i].s L1.out.rk)
 have OW1:=hid ho1
 have HI1:=hid hi1
 have HB1:=hid hb1
 clear ho1 hi1 hb1 C1 c0
 generalize R.running ks[i].s=rr at *
 go_wp2_with fail
 refine C2.out.mono ?_
 rintro e w2 ⟨v2,rfl,ho2,hb2⟩
 obtain ⟨bo,cb,rfl,_,hi2,_⟩:=IntsIn.of_owns ho2
 have HI2:=hid hi2
 have HI1':=hid (HI1.out.on hb2)
 have HB2:=hid (via HB1.out HB1.out.size hb2)
 have OW2:=hid (ownsRow_same OW1.out fun g hg=>hb2.block g (ownsRow_block OW1.out hg).2.1)
 clear ho2 hi2 hb2 C2 c1
 go_wp2_with fail
 refine (sameInts_eq w2 ao bo ca cb rr HI1'.out HI2.out (by omega)).mono ?_
 rintro e w3 ⟨rfl,nd,rfl⟩
 have MN:=hid (lists_mine f HBA.out AMA.out (bdrewN HB2.out nd) (show (w2.drewN nd).ownsRow wA.heap.size 3 1 (.slice ao rr.length ca) rr.length (intCells rr) from ownsRow_same OW2.out fun _ _=>rfl) hcI hszA)
 go_wp2_with fail
 refine MN.out.mono ?_
 rintro e w4 ⟨rfl,hL⟩
 have HL:=hid hL
 clear hL MN
 go_wp2
 go_ret
 obtain ⟨_,hx⟩:=HL.out
 exact ⟨by simp,hx⟩
set_option maxRecDepth 100000 in
set_option maxHeartbeats 2000000 in
theorem listsMis_any (f:KFrame PK) (c:CMisses PK) (h:AM PK B (fun _=>True) w tag wb sv ks ins mss lns vk vi vm vl) (hBw:B<=w.heap.size) (i:Nat) (hi:i < ks.length) (_hcI:ins.length<=100000000) (hcM:mss.length<=100000000) (k' a b:Int) (sl:Value) :
  Calls Tryz.prog 41 #[.pointer (some ⟨wb,0,none⟩),.pointer (some ⟨ks[i].bb,0,none⟩),.agg #[.int .i64 7,.int .i64 k',.int .i64 a,.int .i64 b,sl]] w fun e w'=>Lists PK B w wb sv ks ins mss lns vk vl e w':=by
 have hbA:Below w.heap.size w (w.alloc (.cells #[.int .i64 7,.int .i64 k',.int .i64 a,.int .i64 b,sl] 48)):=(Below.refl _ _).alloc (Nat.le_refl _) _
 have XA:=Blk.new w #[.int .i64 7,.int .i64 k',.int .i64 a,.int .i64 b,sl] 48
 have AMA:=hid (h.below f hbA)
 have HBA:Hid (Below B w (w.alloc (.cells #[.int .i64 7,.int .i64 k',.int .i64 a,.int .i64 b,sl] 48))):=hbA.mono hBw
 have hszA:B<=(w.alloc (.cells #[.int .i64 7,.int .i64 k',.int .i64 a,.int .i64 b,sl] 48)).heap.size:=Nat.le_trans hBw hbA.size
 obtain ⟨bb,HBB⟩:∃ x,Hid (ks[i].bb=x):=⟨_,hid rfl⟩
 rw [HBB.out]
 clear h
 go_enter Tryz.func41,Tryz.ntmps41
 go_upto_region 1 with fail
 generalize w.alloc (.cells #[.int .i64 7,.int .i64 k',.int .i64 a,.int .i64 b,sl] 48)=wA at *
 have x0:=XA.cell 0
 have x2:=XA.cell 2
 have x3:=XA.cell 3
 simp at x0 x2 x3
 have LA:=hid (AMA.out.ker i hi trivial)
 have c0:=LA.out.blk.cell 0
 simp at c0
 rw [HBB.out] at c0
 have XO:=hid XA
 clear XA hbA
 have C1:=hid (c ks[i].P wA ks[i].kb ks[i].s LA.out.pk)
 have hmis:ks[i].s.missed.length<=16000000000:=by
  have:=LA.out.rk.inv.mis
  have:=LA.out.rk.inv.good.now0
  have:=LA.out.rk.inv.good.now2
  omega
 go_wp2_with fail
 refine C1.out.mono ?_
 rintro e w1 ⟨v,rfl,ho1,hb1⟩
 obtain ⟨ao,ca,rfl,_,hi1⟩:=MissesIn.of_owns ho1
 have L1:=hid (LA.out.below f hb1)
 have c1:=L1.out.blk.cell 1
 simp at c1
 rw [HBB.out] at c1
 obtain ⟨F,hh,m,_,_⟩:=L1.out.rk.mem
 obtain ⟨bo,cb,hvM,_,hi3⟩:=MissesIn.of_owns m.oth.mis
 have c12:=m.blk.cell 12
 simp [rsCells] at c12
 rw [hvM] at c12
 have OW1:=hid ho1
 have HI1:=hid hi1
 have HI3:=hid hi3
 have HB1:=hid hb1
 clear ho1 hi1 hb1 C1 c0 m hvM hi3
 generalize ks[i].s.missed=rr at *
 go_wp2_with fail
 refine (sameMisses_eq w1 ao bo ca cb rr HI1.out HI3.out (by omega)).mono ?_
 rintro e w3 ⟨rfl,nd,rfl⟩
 have MN:=hid (lists_told f HBA.out AMA.out (bdrewN HB1.out nd) (show (w1.drewN nd).ownsRow wA.heap.size 95 3 (.slice ao rr.length ca) rr.length (missCells rr) from ownsRow_same OW1.out fun _ _=>rfl) hcM hszA)
 go_wp2_with fail
 refine MN.out.mono ?_
 rintro e w4 ⟨rfl,hL⟩
 have HL:=hid hL
 clear hL MN
 go_wp2
 go_ret
 obtain ⟨_,hx⟩:=HL.out
 exact ⟨by simp,hx⟩
set_option maxRecDepth 100000 in
set_option maxHeartbeats 2000000 in
theorem listsWait_any (f:KFrame PK) (c:CWaiting PK) (h:AM PK B (fun _=>True) w tag wb sv ks ins mss lns vk vi vm vl) (hBw:B<=w.heap.size) (i:Nat) (hi:i < ks.length) (hcI:ins.length<=100000000) (_hcM:mss.length<=100000000) (k' a b:Int) (sl:Value) :
  Calls Tryz.prog 41 #[.pointer (some ⟨wb,0,none⟩),.pointer (some ⟨ks[i].bb,0,none⟩),.agg #[.int .i64 9,.int .i64 k',.int .i64 a,.int .i64 b,sl]] w fun e w'=>Lists PK B w wb sv ks ins mss lns vk vl e w':=by
 have hbA:Below w.heap.size w (w.alloc (.cells #[.int .i64 9,.int .i64 k',.int .i64 a,.int .i64 b,sl] 48)):=(Below.refl _ _).alloc (Nat.le_refl _) _
 have XA:=Blk.new w #[.int .i64 9,.int .i64 k',.int .i64 a,.int .i64 b,sl] 48
 have AMA:=hid (h.below f hbA)
 have HBA:Hid (Below B w (w.alloc (.cells #[.int .i64 9,.int .i64 k',.int .i64 a,.int .i64 b,sl] 48))):=hbA.mono hBw
 have hszA:B<=(w.alloc (.cells #[.int .i64 9,.int .i64 k',.int .i64 a,.int .i64 b,sl] 48)).heap.size:=Nat.le_trans hBw hbA.size
 obtain ⟨bb,HBB⟩:∃ x,Hid (ks[i].bb=x):=⟨_,hid rfl⟩
 rw [HBB.out]
 clear h
 go_enter Tryz.func41,Tryz.ntmps41
 go_upto_region 1 with fail
 generalize w.alloc (.cells #[.int .i64 9,.int .i64 k',.int .i64 a,.int .i64 b,sl] 48)=wA at *
 have x0:=XA.cell 0
 have x2:=XA.cell 2
 have x3:=XA.cell 3
 simp at x0 x2 x3
 have LA:=hid (AMA.out.ker i hi trivial)
 have c0:=LA.out.blk.cell 0
 simp at c0
 rw [HBB.out] at c0
 have XO:=hid XA
 clear XA hbA
 have L0:=hid (LA.out.below f (Below.refl _ _).drew)
 have C1:=hid (c ks[i].P wA.drew ks[i].kb ks[i].s L0.out.pk a b)
 have hlen:=waitL_len ks[i].s a b LA.out.rk.inv.good.few
 have C2:=hid (fun wx (kx:RK ks[i].Q wx ks[i].sb ks[i].s)=>rkWaiting_any ks[i].Q wx ks[i].sb ks[i].s kx a b)
 generalize R.waitL ks[i].s a b=wl at *
 generalize R.waitE ks[i].s a b=we at *
 go_wp2_with fail
 go_region_held3 (fun w'=>w'.cell? ⟨bb,0,none⟩=some (.pointer (some ⟨ks[i].kb,0,none⟩))/\w'.cell? ⟨w.heap.size,2,none⟩=some (.int .i64 a)/\w'.cell? ⟨w.heap.size,3,none⟩=some (.int .i64 b)) (simp [*])
  (first
   | (go_at_call 82; refine C1.out.mono ?_; rintro e w1 ⟨v,rfl,ho1,hb1⟩; obtain ⟨ao,ca,rfl,_,hi1,_⟩:=IntsIn.of_owns ho1; have d0:=cell_later hb1 c0; have d2:=cell_later hb1 x2; have d3:=cell_later hb1 x3; have OW1:=hid ho1; have HI1:=hid hi1; have HB1:=hid hb1; clear ho1 hi1 hb1))
 have L1:=hid (L0.out.below f HB1.out)
 have c1:=L1.out.blk.cell 1
 simp at c1
 rw [HBB.out] at c1
 have HBw1:Hid (Below wA.heap.size wA w1):=via (Below.refl _ _).drew (Nat.le_refl _) HB1.out
 have L2:=hid (L1.out.below f (Below.refl _ _).drew)
 have C3:=hid (C2.out w1.drew L2.out.rk)
 clear C1 C2 c0 d0 x0 x2 x3
 go_wp2_with fail
 go_region_held3 (fun w'=>w'.cell? ⟨bb,1,none⟩=some (.pointer (some ⟨ks[i].sb,0,none⟩))/\w'.cell? ⟨w.heap.size,2,none⟩=some (.int .i64 a)/\w'.cell? ⟨w.heap.size,3,none⟩=some (.int .i64 b)) (simp [*])
  (first
   | (go_at_call 83; refine C3.out.mono ?_; rintro e w2 ⟨v2,rfl,ho2,hb2⟩; obtain ⟨bo,cb,rfl,_,hi2,_⟩:=IntsIn.of_owns ho2; have e0:=cell_later hb2 c1; have e2:=cell_later hb2 d2; have e3:=cell_later hb2 d3; have HI2:=hid hi2; have HB2:=hid hb2; clear ho2 hi2 hb2))
 have HBw2:Hid (Below w1.heap.size w1 w2):=via (Below.refl _ _).drew (Nat.le_refl _) HB2.out
 have HI1':=hid (HI1.out.on HBw2.out)
 have HBA2:=hid (via HBw1.out HBw1.out.size HBw2.out)
 have OW2:=hid (ownsRow_same OW1.out fun g hg=>HBw2.out.block g (ownsRow_block OW1.out hg).2.1)
 clear C3 c1 d2 d3 e0 e2 e3
 go_wp2_with fail
 refine (sameInts_eq w2 ao bo ca cb wl HI1'.out HI2.out (by omega)).mono ?_
 rintro e w3 ⟨rfl,nd,rfl⟩
 have MN:=hid (lists_mine f HBA.out AMA.out (bdrewN HBA2.out nd) (show (w2.drewN nd).ownsRow wA.heap.size 3 1 (.slice ao wl.length ca) wl.length (intCells wl) from ownsRow_same OW2.out fun _ _=>rfl) hcI hszA)
 go_wp2_with fail
 refine MN.out.mono ?_
 rintro e w4 ⟨rfl,hL⟩
 have HL:=hid hL
 clear hL MN
 go_wp2
 go_ret
 obtain ⟨_,hx⟩:=HL.out
 exact ⟨by simp,hx⟩
set_option maxRecDepth 100000 in
set_option maxHeartbeats 2000000 in
theorem listsMsg_any (f:KFrame PK) (c:CMessages PK) (h:AM PK B (fun _=>True) w tag wb sv ks ins mss lns vk vi vm vl) (hBw:B<=w.heap.size) (i:Nat) (hi:i < ks.length) (hcI:ins.length<=100000000) (_hcM:mss.length<=100000000) (k' a b:Int) (sl:Value) :
  Calls Tryz.prog 41 #[.pointer (some ⟨wb,0,none⟩),.pointer (some ⟨ks[i].bb,0,none⟩),.agg #[.int .i64 11,.int .i64 k',.int .i64 a,.int .i64 b,sl]] w fun e w'=>Lists PK B w wb sv ks ins mss lns vk vl e w':=by
 have hbA:Below w.heap.size w (w.alloc (.cells #[.int .i64 11,.int .i64 k',.int .i64 a,.int .i64 b,sl] 48)):=(Below.refl _ _).alloc (Nat.le_refl _) _
 have XA:=Blk.new w #[.int .i64 11,.int .i64 k',.int .i64 a,.int .i64 b,sl] 48
 have AMA:=hid (h.below f hbA)
 have HBA:Hid (Below B w (w.alloc (.cells #[.int .i64 11,.int .i64 k',.int .i64 a,.int .i64 b,sl] 48))):=hbA.mono hBw
 have hszA:B<=(w.alloc (.cells #[.int .i64 11,.int .i64 k',.int .i64 a,.int .i64 b,sl] 48)).heap.size:=Nat.le_trans hBw hbA.size
 obtain ⟨bb,HBB⟩:∃ x,Hid (ks[i].bb=x):=⟨_,hid rfl⟩
 rw [HBB.out]
 clear h
 go_enter Tryz.func41,Tryz.ntmps41
 go_upto_region 1 with fail
 generalize w.alloc (.cells #[.int .i64 11,.int .i64 k',.int .i64 a,.int .i64 b,sl] 48)=wA at *
 have x0:=XA.cell 0
 have x2:=XA.cell 2
 have x3:=XA.cell 3
 simp at x0 x2 x3
 have LA:=hid (AMA.out.ker i hi trivial)
 have c0:=LA.out.blk.cell 0
 simp at c0
 rw [HBB.out] at c0
 have XO:=hid XA
 clear XA hbA
 have L0:=hid (LA.out.below f (Below.refl _ _).drew)
 have C1:=hid (c ks[i].P wA.drew ks[i].kb ks[i].s L0.out.pk a)
 have ST:=hid LA.out.rk.inv.toRMid.store
 have hol:ks[i].s.box.length<=4:=LA.out.rk.inv.toRMid.store.q4
 have hbl:(R.boxL ks[i].s a).length<=1000:=by
  unfold R.boxL
  split
  ·rename_i hm
   have hk:a.toNat < ks[i].s.box.length:=by omega
   have:=ST.out.qb a.toNat hk
   have e3:ks[i].s.box.getD a.toNat []=ks[i].s.box[a.toNat]:=by simp [List.getD,hk]
   rw [e3]
   omega
  ·simp
 have EL:Hid (R.boxL ks[i].s a=if 0<=a/\a < ks[i].s.box.length then ks[i].s.box.getD a.toNat [] else []):=rfl
 have EE:Hid (R.boxE ks[i].s a=if 0<=a/\a < ks[i].s.box.length then 0 else 7):=rfl
 generalize R.boxL ks[i].s a=wl at *
 generalize R.boxE ks[i].s a=we at *
 go_wp2_with fail
 go_region_held3 (fun w'=>w'.cell? ⟨bb,0,none⟩=some (.pointer (some ⟨ks[i].kb,0,none⟩))/\w'.cell? ⟨w.heap.size,2,none⟩=some (.int .i64 a)) (simp [*])
  (first
   | (go_at_call 84; refine C1.out.mono ?_; rintro e w1 ⟨v,rfl,ho1,hb1⟩; obtain ⟨ao,ca,rfl,_,hi1,_⟩:=IntsIn.of_owns ho1; have d0:=cell_later hb1 c0; have d2:=cell_later hb1 x2; have OW1:=hid ho1; have HI1:=hid hi1; have HB1:=hid hb1; clear ho1 hi1 hb1))
 have L1:=hid (L0.out.below f HB1.out)
 have c1:=L1.out.blk.cell 1
 simp at c1
 rw [HBB.out] at c1
 have HBw1:Hid (Below wA.heap.size wA w1):=via (Below.refl _ _).drew (Nat.le_refl _) HB1.out
 obtain ⟨F,hh,m,_,_⟩:=L1.out.rk.mem
 obtain ⟨bxa,bxc,hvB,_,_⟩:=owns_cells m.oth.box.1
 have hbn:hh.bs.length=ks[i].s.box.length:=m.oth.box.1.1.trans (Nat.mul_one _)
 have c11:=m.blk.cell 11
 simp [rsCells] at c11
 have M:=hid m
 clear C1 c0 d0 x0 x2 x3 m
 by_cases hm:0<=a/\a < ks[i].s.box.length
 ·rw [if_pos hm] at EL EE
  obtain ⟨hm0,hm1⟩:=hm
  obtain ⟨k,hka⟩:=Int.eq_ofNat_of_zero_le hm0
  subst hka
  have hk:k < ks[i].s.box.length:=by omega
  obtain ⟨g,cap,v,hvB2,_,ck,_,hrow⟩:=M.out.boxAt hk
  obtain ⟨bo,cb,rfl,_,hi2,_⟩:=IntsIn.of_owns hrow
  rw [hvB2] at c11
  have e3:ks[i].s.box.getD (Int.toNat (k:Int)) []=ks[i].s.box[k]:=by simp [List.getD,hk]
  rw [e3] at EL
  have HI2:=hid hi2
  clear M hi2 hrow hvB hvB2 e3
  rw [<- EL.out] at ck HI2
  have hkI:(k:Int) < (ks[i].s.box.length:Int):=by omega
  have hk0:(0:Int)<=(k:Int):=by omega
  have E0:=EE.out
  subst E0
  clear EE
  go_wp2_with fail
  go_quiet (fail)
  go_wp2_with fail
  go_quiet (fail)
  have keyW:∀ n,Below w1.heap.size w1 (w1.drewN n):=fun n=>bdrewN (Below.refl _ _) n
  have KW:=hid keyW
  clear keyW
  go_wp2_with fail
  rename_i nq2
  refine (sameInts_eq _ ao bo ca cb wl (HI1.out.on (KW.out _)) (HI2.out.on (KW.out _)) (by omega)).mono ?_
  rintro e w3 ⟨rfl,nd,rfl⟩
  have MN:=hid (fun n=>lists_mine f HBA.out AMA.out (bdrewN HBw1.out n) (show (w1.drewN n).ownsRow wA.heap.size 3 1 (.slice ao wl.length ca) wl.length (intCells wl) from ownsRow_same OW1.out fun _ _=>rfl) hcI hszA)
  go_wp2_with fail
  refine (MN.out _).mono ?_
  rintro e w4 ⟨rfl,hL⟩
  have HL:=hid hL
  clear hL MN
  go_wp2
  go_ret
  obtain ⟨_,hx⟩:=HL.out
  exact ⟨by simp,hx⟩
 ·rw [if_neg hm] at EL EE
  rw [hvB] at c11
  have E0:=EE.out
  have E1:=EL.out
  subst E0
  subst E1
  clear EE EL M hvB
  have keyW:∀ n,Below w1.heap.size w1 (w1.drewN n):=fun n=>bdrewN (Below.refl _ _) n
  have KW:=hid keyW
  have HI2:Hid (IntsIn w1.heap.size w1 none ([]:List Int)):=fun i hi=>by simp at hi
  have MN:=hid (fun n=>lists_mine f HBA.out AMA.out (bdrewN HBw1.out n) (show (w1.drewN n).ownsRow wA.heap.size 3 1 (.slice ao ([]:List Int).length ca) ([]:List Int).length (intCells []) from ownsRow_same OW1.out fun _ _=>rfl) hcI hszA)
  have SI:=hid (fun n=>sameInts_eq (w1.drewN n) ao none ca 0 [] (HI1.out.on (KW.out n)) (HI2.out.on (KW.out n)) (by simp))
  simp only [List.length_nil] at MN SI
  clear keyW
  by_cases hneg:a < 0
  ·have hd0:decide (0<=a)=false:=by simpa using hneg
   go_wp2_with fail
   go_quiet (fail)
   go_wp2_with fail
   refine (SI.out _).mono ?_
   rintro e w3 ⟨rfl,nd,rfl⟩
   go_wp2_with fail
   refine (MN.out _).mono ?_
   rintro e w4 ⟨rfl,hL⟩
   have HL:=hid hL
   clear hL MN SI
   go_wp2
   go_ret
   obtain ⟨_,hx⟩:=HL.out
   exact ⟨by simp,hx⟩
  ·have hd0:decide (0<=a)=true:=by simpa using hneg
   have hge:(ks[i].s.box.length:Int)<=a:=by omega
   have hd1:decide (a < (ks[i].s.box.length:Int))=false:=by simpa using hge
   go_wp2_with fail
   go_quiet (fail)
   go_wp2_with fail
   refine (SI.out _).mono ?_
   rintro e w3 ⟨rfl,nd,rfl⟩
   go_wp2_with fail
   refine (MN.out _).mono ?_
   rintro e w4 ⟨rfl,hL⟩
   have HL:=hid hL
   clear hL MN SI
   go_wp2
   go_ret
   obtain ⟨_,hx⟩:=HL.out
   exact ⟨by simp,hx⟩
end
end Go.Proofs.YtbkfildnijjioaaGreat

namespace Go.Proofs.YtbkfildnijjioaaGreat
open Go.RowKit
structure CAll (PK:KP):Prop where
 f:KFrame PK
 now:CNow PK
 mis:CMisses PK
 run:CRunning PK
 look:CLook PK
 own:COwner PK
 wait:CWaiting PK
 cnt:CCount PK
 msg:CMessages PK
 pick:CPick PK
 tick:CTick PK
def Steps (PK:KP) (B:Nat) (w:World) (wb:Nat) (sv:Value) (ks:List KI) (ins mss lns:List Value) (d:Nat) (e:Ending) (w':World):Prop :=
 e=.returned (.bool true)/\∃ tag' ks' ins' mss' lns' vk' vi' vm' vl',AM PK B (fun _=>True) w' tag' wb sv ks' ins' mss' lns' vk' vi' vm' vl'/\(∀ N:Int,16<=N->(∀ j (hj:j < ks.length),ks[j].s.next<=N)->∀ j (hj:j < ks'.length),ks'[j].s.next<=N + 33)/\ks'.length<=ks.length + 1/\ins'.length<=ins.length + d/\mss'.length<=mss.length + d/\lns'.length<=lns.length + 1/\Below B w w'
section
variable {PK:KP} {B:Nat} {w:World} {tag:Tag} {wb:Nat} {sv:Value} {ks:List KI} {ins mss lns:List Value} {vk vi vm vl:Value}
theorem Steps.same (h:AM PK B (fun _=>True) w tag wb sv ks ins mss lns vk vi vm vl) (f:KFrame PK) (hBw:B<=w.heap.size) {w':World} (hb:Below w.heap.size w w') {d:Nat} {e:Ending} (he:e=.returned (.bool true)):Steps PK B w wb sv ks ins mss lns d e w' :=
 ⟨he,_,_,_,_,_,_,_,_,_,h.below f hb,fun N _ hN j hj=>by have:=hN j hj; omega,by omega,by omega,by omega,by omega,hb.mono hBw⟩
theorem Lists.steps {w0 wA:World} {e:Ending} {w':World} (hA:Below B w0 wA) (h:Lists PK B wA wb sv ks ins mss lns vk vl e w') {d:Nat} (hd:1<=d):Steps PK B w0 wb sv ks ins mss lns d e w':=by
 obtain ⟨he,tag',ins',mss',vi',vm',am,h1,h2,h3⟩:=h
 exact ⟨he,_,_,_,_,_,_,_,_,_,am,fun N _ hN j hj=>by have:=hN j hj; omega,by omega,by omega,by omega,by omega,hA.trans h3⟩
set_option maxHeartbeats 400000 in
theorem pick_det (c:Int) (n:Nat) (hn:0 < n) (hn2:n<=100000000) (hc0:-9223372036854775808<=c) (hc1:c<=9223372036854775807) :
  ∃ k:Nat,k < n/\∀ w,Calls Tryz.prog 33 #[.int .i64 c,.int .i64 n] w fun e w'=>e=.returned (.int .i64 k)/\w'=w:=by
 have hnI:(0:Int) < (n:Int):=by omega
 by_cases h:c < 0
 ·have hx:0<=-(c + 1):=by omega
  have h1:=Int.emod_nonneg (-(c + 1)) (show (n:Int) ≠ 0 by omega)
  have h2:=Int.emod_lt_of_pos (-(c + 1)) hnI
  refine ⟨(-(c + 1) % (n:Int)).toNat,by omega,fun w=>?_⟩
  have e:-(c + 1).tmod (n:Int)=-(c + 1) % (n:Int):=by
   rw [<- Int.neg_tmod,Int.tmod_eq_emod_of_nonneg hx]
  have E:=hid e
  have H1:=hid h1
  clear h1 h2 e
  go_enter Tryz.func33,Tryz.ntmps33
  go_wp2
  go_ret
  have:=H1.out
  rw [E.out]
  refine ⟨ret_int ?_,rfl⟩
  omega
 ·have hx:0<=c:=by omega
  have h1:=Int.emod_nonneg c (show (n:Int) ≠ 0 by omega)
  have h2:=Int.emod_lt_of_pos c hnI
  refine ⟨(c % (n:Int)).toNat,by omega,fun w=>?_⟩
  have H1:=hid h1
  clear h1 h2
  go_enter Tryz.func33,Tryz.ntmps33
  go_wp2
  go_ret
  have:=H1.out
  refine ⟨ret_int ?_,rfl⟩
  omega
set_option maxRecDepth 100000 in
set_option maxHeartbeats 4000000 in
theorem calls_any (C:CAll PK) (h:AM PK B (fun _=>True) w tag wb sv ks ins mss lns vk vi vm vl) (hBw:B<=w.heap.size) (hks:ks.length<=100000000) (hnx:∀ j (hj:j < ks.length),ks[j].s.next<=4611686018427386000) (hcI:ins.length<=100000000) (hcM:mss.length<=100000000) (kd k' a b:Int) (sl:Value) (hk0:-9223372036854775808<=k') (hk1:k'<=9223372036854775807) :
  Calls Tryz.prog 20 #[.pointer (some ⟨wb,0,none⟩),.agg #[.int .i64 kd,.int .i64 k',.int .i64 a,.int .i64 b,sl]] w fun e w'=>Steps PK B w wb sv ks ins mss lns 1 e w':=by
 have hbA:Below w.heap.size w (w.alloc (.cells #[.int .i64 kd,.int .i64 k',.int .i64 a,.int .i64 b,sl] 48)):=(Below.refl _ _).alloc (Nat.le_refl _) _
 have XA:=Blk.new w #[.int .i64 kd,.int .i64 k',.int .i64 a,.int .i64 b,sl] 48
 have AMA:=hid (h.below C.f hbA)
 have SAME:Hid (∀ w',Below w.heap.size w w'->Steps PK B w wb sv ks ins mss lns 1 (.returned (.bool true)) w'):=fun w' hb=>Steps.same h C.f hBw hb rfl
 have HBA:Hid (Below B w (w.alloc (.cells #[.int .i64 kd,.int .i64 k',.int .i64 a,.int .i64 b,sl] 48))):=hbA.mono hBw
 have hszA:B<=(w.alloc (.cells #[.int .i64 kd,.int .i64 k',.int .i64 a,.int .i64 b,sl] 48)).heap.size:=Nat.le_trans hBw hbA.size
 have HNX:=hid hnx
 have HC:=hid C
 clear h C hnx
 go_enter Tryz.func20,Tryz.ntmps20
 go_upto_region 1 with fail
 generalize w.alloc (.cells #[.int .i64 kd,.int .i64 k',.int .i64 a,.int .i64 b,sl] 48)=wA at *
 have x0:=XA.cell 0
 have x1:=XA.cell 1
 have x2:=XA.cell 2
 have x3:=XA.cell 3
 have x4:=XA.cell 4
 simp at x0 x1 x2 x3 x4
 have hbAs:=hid hbA
 obtain ⟨ka,kc,hvk,_,_⟩:=owns_cells (AMA.out.rk trivial)
 have c1:=(AMA.out.blk trivial).cell 1
 simp at c1
 rw [hvk] at c1
 have HVK:=hid hvk
 clear hvk hbA XA
 by_cases hzero:ks.length=0
 ·rw [hzero] at c1
  go_wp2
  go_ret
  exact SAME.out wA hbAs.out
 ·have hz':((ks.length:Int) == 0)=false:=by simpa using hzero
  have hsom:∃ g,ka=some ⟨g,0,none⟩:=by
   have hr:=AMA.out.rk trivial
   rw [HVK.out] at hr
   rcases hr.2 with ⟨_,h0⟩ | ⟨g',cap,cur',e,_⟩
   ·omega
   ·cases e
    exact ⟨_,rfl⟩
  obtain ⟨g,rfl⟩:=hsom
  obtain ⟨i,hi,pd⟩:=pick_det k' ks.length (by omega) hks hk0 hk1
  have PD:=hid pd
  have ck:wA.cell? ⟨g,i,none⟩=some (.pointer (some ⟨ks[i].bb,0,none⟩)):=by
   have hr:=AMA.out.rk trivial
   rw [HVK.out] at hr
   rw [hr.cellAt i (by omega)]
   simp [hi]
  have hiI:(i:Int) < (ks.length:Int):=by omega
  have HNI:=hid (HNX.out i hi)
  obtain ⟨bb,HBB⟩:∃ x,Hid (ks[i].bb=x):=⟨_,hid rfl⟩
  rw [HBB.out] at ck
  clear pd HVK
  go_wp2_with fail
  go_quiet ((go_at_call 33; exact Calls.quiet_of_same (PD.out _)))
  have hbQ:Below wA.heap.size wA (wA.drewN nq):=bdrewN (Below.refl _ _) nq
  have AMQ:=hid (AMA.out.below HC.out.f hbQ)
  have HBQ:Hid (Below B w (wA.drewN nq)):=HBA.out.trans (hbQ.mono hszA)
  have HSQ:Hid (Below w.heap.size w (wA.drewN nq)):=hbAs.out.trans (hbQ.mono hbAs.out.size)
  have hszQ:Hid (B<=(wA.drewN nq).heap.size):=Nat.le_trans hszA hbQ.size
  have y0:(wA.drewN nq).cell? ⟨w.heap.size,0,none⟩=some (.int .i64 kd):=x0
  have y1:(wA.drewN nq).cell? ⟨w.heap.size,1,none⟩=some (.int .i64 k'):=x1
  have y2:(wA.drewN nq).cell? ⟨w.heap.size,2,none⟩=some (.int .i64 a):=x2
  have y3:(wA.drewN nq).cell? ⟨w.heap.size,3,none⟩=some (.int .i64 b):=x3
  have y4:(wA.drewN nq).cell? ⟨w.heap.size,4,none⟩=some sl:=x4
  clear hbQ x0 x1 x2 x3 x4 c1 ck PD AMA HBA hbAs hszA
  generalize wA.drewN nq=wq at *
  have LQ:=hid (AMQ.out.ker i hi trivial)
  have hc0:=LQ.out.blk.cell 0
  have hc1:=LQ.out.blk.cell 1
  rw [HBB.out] at hc0 hc1
  have hn0:=rkNow LQ.out.rk
  simp at hc0 hc1
  by_cases k2:kd=2\/kd=3
  ·have MV:=hid (moves_any HC.out.f HC.out.pick HC.out.tick AMQ.out hszQ.out i hi HNI.out hcM kd k' a b sl k2)
   rw [HBB.out] at MV
   rcases k2 with rfl | rfl
   all_goals
    go_wp2_with fail
    refine MV.out.mono ?_
    rintro e w2 ⟨rfl,tag2,ks2,mss2,vm2,am2,hl2,hn2,hm2,hb2⟩
    have ST:Hid (Steps PK B w wb sv ks ins mss lns 1 (.returned (.bool true)) w2):=hid ⟨rfl,tag2,ks2,ins,mss2,lns,vk,vi,vm2,vl,am2,fun N hN0 hN j hj=>by
     have:=hn2 j (by omega) hj
     have:=hN j (by omega)
     omega,by omega,by omega,by omega,by omega,HBQ.out.trans hb2⟩
    clear am2 hl2 hn2 hm2 hb2 MV
    go_wp2
    go_ret
    exact ST.out
  have q2:(kd == 2)=false:=by simp; omega
  have q3:(kd == 3)=false:=by simp; omega
  by_cases k5:kd=5\/kd=9\/kd=11\/kd=7
  ·have LS:Hid (Calls Tryz.prog 41 #[.pointer (some ⟨wb,0,none⟩),.pointer (some ⟨ks[i].bb,0,none⟩),.agg #[.int .i64 kd,.int .i64 k',.int .i64 a,.int .i64 b,sl]] wq fun e w'=>Lists PK B wq wb sv ks ins mss lns vk vl e w'):=by
    rcases k5 with rfl | rfl | rfl | rfl
    ·exact hid (listsRun_any HC.out.f HC.out.run AMQ.out hszQ.out i hi hcI hcM k' a b sl)
    ·exact hid (listsWait_any HC.out.f HC.out.wait AMQ.out hszQ.out i hi hcI hcM k' a b sl)
    ·exact hid (listsMsg_any HC.out.f HC.out.msg AMQ.out hszQ.out i hi hcI hcM k' a b sl)
    ·exact hid (listsMis_any HC.out.f HC.out.mis AMQ.out hszQ.out i hi hcI hcM k' a b sl)
   rw [HBB.out] at LS
   rcases k5 with rfl | rfl | rfl | rfl
   all_goals
    go_wp2_with fail
    refine LS.out.mono ?_
    intro e w2 h2
    have he:=h2.1
    subst he
    have ST:Hid (Steps PK B w wb sv ks ins mss lns 1 (.returned (.bool true)) w2):=hid (h2.steps HBQ.out (by omega))
    clear h2 LS
    go_wp2
    go_ret
    exact ST.out
  have q5:(kd == 5)=false:=by simp; omega
  have q9:(kd == 9)=false:=by simp; omega
  have q11:(kd == 11)=false:=by simp; omega
  have q7:(kd == 7)=false:=by simp; omega
  by_cases k4:kd=4
  ·subst k4
   have CN:=hid (HC.out.now _ _ _ _ LQ.out.pk)
   go_wp2_with fail
   refine CN.out.mono ?_
   rintro e w2 ⟨rfl,hb2⟩
   have l2:=LQ.out.below HC.out.f hb2
   have HB2:=hid (HSQ.out.trans (hb2.mono HSQ.out.size))
   have hd1:=l2.blk.cell 1
   rw [HBB.out] at hd1
   have hn2:=rkNow l2.rk
   simp at hd1
   clear hb2 l2 hc0 hc1 hn0 CN
   go_wp2
   go_ret
   exact SAME.out w2 HB2.out
  have q4:(kd == 4)=false:=by simp; omega
  by_cases k6:kd=6
  ·subst k6
   have CN:=hid (lLook_any HC.out.f HC.out.look LQ.out a)
   rw [HBB.out] at CN
   go_wp2_with fail
   refine CN.out.mono ?_
   rintro e w2 ⟨rfl,hb2⟩
   have HB2:=hid (HSQ.out.trans (hb2.mono HSQ.out.size))
   clear hb2 CN
   go_wp2
   go_ret
   exact SAME.out w2 HB2.out
  have q6:(kd == 6)=false:=by simp; omega
  by_cases k8:kd=8
  ·subst k8
   have CN:=hid (lOwner_any HC.out.f HC.out.own LQ.out a)
   rw [HBB.out] at CN
   go_wp2_with fail
   refine CN.out.mono ?_
   rintro e w2 ⟨rfl,hb2⟩
   have HB2:=hid (HSQ.out.trans (hb2.mono HSQ.out.size))
   clear hb2 CN
   go_wp2
   go_ret
   exact SAME.out w2 HB2.out
  have q8:(kd == 8)=false:=by simp; omega
  by_cases k10:kd=10
  ·subst k10
   have CN:=hid (lCount_any HC.out.f HC.out.cnt LQ.out a)
   rw [HBB.out] at CN
   go_wp2_with fail
   refine CN.out.mono ?_
   rintro e w2 ⟨rfl,hb2⟩
   have HB2:=hid (HSQ.out.trans (hb2.mono HSQ.out.size))
   clear hb2 CN
   go_wp2
   go_ret
   exact SAME.out w2 HB2.out
  have q10:(kd == 10)=false:=by simp; omega
  go_wp2
  go_ret
  exact SAME.out wq HSQ.out
end
end Go.Proofs.YtbkfildnijjioaaGreat

namespace Go.Proofs.YtbkfildnijjioaaGreat
open Go.RowKit
structure TrSt (B N:Nat) (w:World) (tag:Tag) (v:Value) (n:Nat) (C:List Value) (L:List LineD) (k:Nat):Prop where
 row:w.ownsRow B 75 7 v n C
 fv:∀ g,v.ownBlock=some g->tag g=(0,0)
 nv:∀ g,v.ownBlock=some g->N<=g
 lists:∀ i (hi:i < L.length),k<=i->∃ rv mv,LineMem B w (fun _=>False) L[i] rv mv/\(∀ j,j < 7->C[i * 7 + j]?=(lineCells L[i] rv mv)[j]?)/\(∀ g,rv.ownBlock=some g->tag g=(0,0))/\(∀ g,mv.ownBlock=some g->tag g=(0,0))/\(∀ g,rv.ownBlock=some g->N<=g)/\(∀ g,mv.ownBlock=some g->N<=g)
def Keeps (N:Nat) (w w':World) (tag tag':Tag):Prop:=∀ b,b < N->b < w.heap.size->tag b=(0,0)->tag' b=(0,0)/\w'.heap[b]?=w.heap[b]?
theorem Keeps.took {B N:Nat} {w w1 w2:World} {tag tag1 tag2:Tag} {v:Value} (k:Keeps N w w1 tag tag1) (hz:w.heap.size<=w1.heap.size) (t:Took B w1 w2 tag1 tag2 v) (hv:∀ g,v.ownBlock=some g->N<=g):Keeps N w w2 tag tag2:=fun b hN hb ht=>by
 obtain ⟨h1,h2⟩:=k b hN hb ht
 obtain ⟨h3,h4⟩:=t.free b (by omega) (fun e=>by have:=hv b e; omega) h1
 exact ⟨h3,h4.trans h2⟩
section
variable {B N:Nat} {w w':World} {tag tag':Tag} {v:Value} {n:Nat} {C:List Value} {L:List LineD} {k:Nat}
theorem TrSt.mine (h:TrSt B N w tag v n C L k) (hd:LDist C L.length) (hk:k < L.length) {rv:Value} {m:Nat} {xs:List Value} (hr:w.ownsRow B 3 1 rv m xs) (hc:C[k * 7 + 5]?=some rv) (t:Took B w w' tag tag' rv):TrSt B N w' tag' v n C L (k + 1)/\∃ mv,C[k * 7 + 6]?=some mv/\w'.ownsRow B 95 3 mv (L[k]).mis.length (missCells (L[k]).mis)/\(∀ g,mv.ownBlock=some g->tag' g=(0,0))/\(∀ g,mv.ownBlock=some g->N<=g):=by
 have keep:∀ {e:TypeId} {size p:Nat} {u:Value} {ys:List Value},w.ownsRow B e size u p ys->(∀ g,u.ownBlock=some g->tag g=(0,0)/\rv.ownBlock ≠ some g)->w'.ownsRow B e size u p ys/\∀ g,u.ownBlock=some g->tag' g=(0,0):=fun hu hf=>⟨ownsRow_same hu fun g hg=>(t.free g (ownsRow_block hu hg).2.1 (hf g hg).2 (hf g hg).1).2,fun g hg=>(t.free g (ownsRow_block hu hg).2.1 (hf g hg).2 (hf g hg).1).1⟩
 have rt:∀ g,rv.ownBlock=some g->Typ w g 3:=fun g hg=>own_typ hr hg
 have vk:=keep h.row (fun g hg=>⟨h.fv g hg,fun e=>(rt g e).ne (own_typ h.row hg) (by decide) rfl⟩)
 refine ⟨⟨vk.1,vk.2,h.nv,fun i hi hki=>?_⟩,?_⟩
 ·obtain ⟨rv',mv',lm,hcc,fr,fm,n1,n2⟩:=h.lists i hi (by omega)
  have h5:C[i * 7 + 5]?=some rv':=by rw [hcc 5 (by omega)]; rfl
  have k1:=keep lm.run (fun g hg=>⟨fr g hg,fun e=>hd k i 5 hk hi (by omega) (.inl rfl) rv rv' g hc h5 e hg⟩)
  have k2:=keep lm.mis (fun g hg=>⟨fm g hg,fun e=>(rt g e).ne (own_typ lm.mis hg) (by decide) rfl⟩)
  exact ⟨rv',mv',⟨k1.1,k2.1,lm.nr,lm.nm⟩,hcc,k1.2,k2.2,n1,n2⟩
 ·obtain ⟨rv',mv',lm,hcc,fr,fm,n1,n2⟩:=h.lists k hk (Nat.le_refl _)
  have k2:=keep lm.mis (fun g hg=>⟨fm g hg,fun e=>(rt g e).ne (own_typ lm.mis hg) (by decide) rfl⟩)
  exact ⟨mv',by rw [hcc 6 (by omega)]; rfl,k2.1,k2.2,n2⟩
theorem TrSt.told (h:TrSt B N w tag v n C L (k + 1)) (hd:LDist C L.length) (hk:k < L.length) {mv:Value} {m:Nat} {xs:List Value} (hr:w.ownsRow B 95 3 mv m xs) (hc:C[k * 7 + 6]?=some mv) (t:Took B w w' tag tag' mv):TrSt B N w' tag' v n C L (k + 1):=by
 have keep:∀ {e:TypeId} {size p:Nat} {u:Value} {ys:List Value},w.ownsRow B e size u p ys->(∀ g,u.ownBlock=some g->tag g=(0,0)/\mv.ownBlock ≠ some g)->w'.ownsRow B e size u p ys/\∀ g,u.ownBlock=some g->tag' g=(0,0):=fun hu hf=>⟨ownsRow_same hu fun g hg=>(t.free g (ownsRow_block hu hg).2.1 (hf g hg).2 (hf g hg).1).2,fun g hg=>(t.free g (ownsRow_block hu hg).2.1 (hf g hg).2 (hf g hg).1).1⟩
 have rt:∀ g,mv.ownBlock=some g->Typ w g 95:=fun g hg=>own_typ hr hg
 have vk:=keep h.row (fun g hg=>⟨h.fv g hg,fun e=>(rt g e).ne (own_typ h.row hg) (by decide) rfl⟩)
 refine ⟨vk.1,vk.2,h.nv,fun i hi hki=>?_⟩
 obtain ⟨rv',mv',lm,hcc,fr,fm,n1,n2⟩:=h.lists i hi hki
 have h6:C[i * 7 + 6]?=some mv':=by rw [hcc 6 (by omega)]; rfl
 have k1:=keep lm.run (fun g hg=>⟨fr g hg,fun e=>(rt g e).ne (own_typ lm.run hg) (by decide) rfl⟩)
 have k2:=keep lm.mis (fun g hg=>⟨fm g hg,fun e=>hd k i 6 hk hi (by omega) (.inr rfl) mv mv' g hc h6 e hg⟩)
 exact ⟨rv',mv',⟨k1.1,k2.1,lm.nr,lm.nm⟩,hcc,k1.2,k2.2,n1,n2⟩
end
section
variable {PK:KP} {B:Nat} {w:World} {tag:Tag} {wb:Nat} {sv:Value} {ks:List KI} {ins mss lns:List Value} {vk vi vm vl:Value}
set_option maxRecDepth 100000 in
set_option maxHeartbeats 4000000 in
theorem traced_any (f:KFrame PK) (N:Nat) (h:AM PK B (fun _=>True) w tag wb sv ks ins mss lns vk vi vm vl) (v:Value) (C:List Value) (L:List LineD) (ht:TrSt B N w tag v L.length C L 0) (hd:LDist C L.length) (hcI:ins.length + L.length<=100000000) (hcM:mss.length + L.length<=100000000) (hc:lns.length<=100000000) (hll:L.length<=1000) (hBw:B<=w.heap.size) :
  Calls Tryz.prog 37 #[.pointer (some ⟨wb,0,none⟩),v] w fun e w'=>e=.returned (.tuple #[])/\∃ tag' ins' mss' fv vi' vm' v',AM PK B (fun _=>True) w' tag' wb sv ks ins' mss' (lns ++ [fv]) vk vi' vm' v'/\ins'.length=ins.length + L.length/\mss'.length=mss.length + L.length/\Below B w w'/\Keeps N w w' tag tag':=by
 obtain ⟨ao,ca,hv,_,_⟩:=owns_cells ht.row
 subst hv
 have H:=hid h
 have TR:=hid ht
 have HD:=hid hd
 clear h ht hd
 go_enter Tryz.func37,Tryz.ntmps37
 go_wp2
 go_loopw [4] (fun i wr=>∃ k:Nat,k<=L.length/\i=.int .i64 k/\∃ tag' ins' mss' vi' vm',AM PK B (fun _=>True) wr tag' wb sv ks ins' mss' lns vk vi' vm' vl/\ins'.length=ins.length + k/\mss'.length=mss.length + k/\TrSt B N wr tag' (.slice ao L.length ca) L.length C L k/\Below B w wr/\Keeps N w wr tag tag') (fun i _=>L.length - (intOf i).toNat)
 case atStart=>exact ⟨0,Nat.zero_le _,rfl,tag,ins,mss,vi,vm,H.out,rfl,rfl,TR.out,Below.refl _ _,fun b _ _ ht=>⟨ht,rfl⟩⟩
 case round =>
  obtain ⟨k,hk,rfl,tag1,ins1,mss1,vi1,vm1,am,hi1,hm1,tr,hb,kp⟩:=hrel
  have AM1:=hid am
  have TR1:=hid tr
  have HB1:=hid hb
  have KP1:=hid kp
  have hz1:=hb.size
  clear am tr hb H TR kp
  by_cases hlt:k < L.length
  ·have hkI:(k:Int) < (L.length:Int):=by omega
   obtain ⟨rv,mv,lm,hcc,fr,fm,n1,n2⟩:=TR1.out.lists k hlt (Nat.le_refl _)
   have hC5:C[k * 7 + 5]?=some rv:=by rw [hcc 5 (by omega)]; rfl
   obtain ⟨ra,rc,hrv,_,_⟩:=owns_cells lm.run
   subst hrv
   have hsom:∃ g,ao=some ⟨g,0,none⟩:=by
    rcases TR1.out.row.2 with ⟨e,h0⟩ | ⟨g',cap,cur',e,_⟩
    ·omega
    ·cases e
     exact ⟨_,rfl⟩
   obtain ⟨g,rfl⟩:=hsom
   have c5:wr.cell? ⟨g,k * 7 + 5,none⟩=some (.slice ra (L[k]).run.length rc):=by rw [TR1.out.row.cellAt _ (by omega)]; exact hC5
   have MN:=hid (mine_any f AM1.out (.slice ra (L[k]).run.length rc) _ _ lm.run fr (by omega) (by omega))
   have LMR:=hid lm.run
   have HN1:=hid n1
   clear lm hcc fr fm n1 n2
   generalize (L[k]).run.length=rl at *
   go_wp2_with fail
   refine MN.out.mono ?_
   rintro e w2 ⟨rfl,tag2,fv2,vi2,am2,tk2⟩
   obtain ⟨tr2,mv2,hC6,mr2,mf2,mn2⟩:=TR1.out.mine HD.out hlt LMR.out hC5 tk2
   obtain ⟨ma,mc,hmv,_,_⟩:=owns_cells mr2
   subst hmv
   have c6:w2.cell? ⟨g,k * 7 + 6,none⟩=some (.slice ma (L[k]).mis.length mc):=by rw [tr2.row.cellAt _ (by omega)]; exact hC6
   have hB2:Below B w w2:=HB1.out.trans tk2.b
   have hz2:=tk2.b.size
   have KP2:=hid (KP1.out.took hz1 tk2 HN1.out)
   have HMN2:=hid mn2
   have TL:=hid (told_any f am2 (.slice ma (L[k]).mis.length mc) _ _ mr2 mf2 (by omega) (by omega))
   have TR2:=hid tr2
   have HB2:=hid hB2
   have MR2:=hid mr2
   clear MN am2 tk2 tr2 mr2 mf2 hB2 c5 mn2
   generalize (L[k]).mis.length=ml at *
   go_wp2_with fail
   refine TL.out.mono ?_
   rintro e w3 ⟨rfl,tag3,fv3,vm3,am3,tk3⟩
   have TR3:=hid (TR2.out.told HD.out hlt MR2.out hC6 tk3)
   have AM3:=hid am3
   have HB3:=hid (HB2.out.trans tk3.b)
   have KP3:=hid (KP2.out.took (by omega) tk3 HMN2.out)
   clear TL am3 tk3
   go_wp2
   go_roundw
   case rel=>exact ⟨k + 1,by omega,by go_num,tag3,_,_,_,_,AM3.out,by simp; omega,by simp; omega,TR3.out,HB3.out,KP3.out⟩
   case measure=>simp [intOf]; omega
  ·have hkn:(L.length:Int)<=(k:Int):=by omega
   have ek:k=L.length:=by omega
   rw [ek] at hi1 hm1
   have RW:=hid TR1.out.row
   have FV:=hid TR1.out.fv
   have NV:=hid TR1.out.nv
   have hz0:=hz1
   have HZ0:=hid hz0
   clear hz0
   clear TR1 ek hlt hk
   obtain ⟨ao',cap',ys,hve,hcap,hnil,hao,hncap,hrow⟩:=own_full RW.out
   cases hve
   obtain ⟨iT,hiT,hzT0,hzT1,hzT2⟩:=info_parts Tryz.infoLines
   have HIT:=hid (And.intro hiT (And.intro hzT0 (And.intro hzT1 hzT2)))
   have HFR:Hid (∀ g,(Value.slice ao ca ca).ownBlock=some g->tag1 g=(0,0)):=fun g hg=>FV.out g (by rw [slice_own ao L.length ca ca ca]; exact hg)
   have HR:=hid hrow
   have hncI:(L.length:Int)<=(ca:Int):=by omega
   have hmx:ca<=9223372036854775807:=by unfold maxLen at hcap; omega
   have hBr0:B<=wr.heap.size:=by omega
   obtain ⟨w1,hw1⟩:∃ w1,w1=wr:=⟨wr,rfl⟩
   subst hw1
   have H:=AM1
   have hBw1:=hBr0
   clear hiT hzT0 hzT1 hzT2 hrow AM1 RW FV hz1 hBr0
   cases ao with
   | none =>
    obtain rfl:=hnil rfl
    have hL0:L.length=0:=by omega
    rw [hL0]
    have cI:=(H.out.blk trivial).cell 4
    have zI:=(H.out.blk trivial).frozen 4
    simp at cI
    have rowI:=H.out.rl trivial
    obtain ⟨ia,ic,hvi,_,_⟩:=owns_cells rowI
    rw [hvi] at cI
    have HVI:=hid hvi
    clear rowI hvi
    go_wp2
    go_loopw [6] (fun i wr=>i=.int .i64 0/\wr=w1) (fun _ _=>0)
    case atStart=>exact ⟨rfl,rfl⟩
    case round =>
     obtain ⟨rfl,hw⟩:=hrel
     have hw2:=hw.symm
     subst hw2
     clear hw
     have RI:Hid (w1.ownsRow B 33 1 (.slice ia lns.length ic) lns.length lns):=by rw [<- HVI.out]; exact hid (H.out.rl trivial)
     go_wp2_with (at_builtin; refine wpList_append_src_at rfl (.tmp 51) (.tmp 53) 44 rfl B 33 iT (.slice none 0 0) 1 24 Tryz.underlying44 HIT.out.1 HIT.out.2.1 HIT.out.2.2.1 HIT.out.2.2.2 rfl (by decide) (.slice ia lns.length ic) lns.length lns rfl (RI.out.alloc _) (some ⟨w1.heap.size,0,none⟩) 1 1 [.slice none 0 0] rfl rfl (fun h=>(by cases h)) (fun j u hj=>⟨_,rfl,(by rw [Addr.add_lit,Nat.zero_add,(Blk.new w1 #[.slice none 0 0] 33).cell]; simpa using hj)⟩) (by intro u hu; simp at hu; subst hu; rfl) (by unfold maxLen; omega) (by omega) (by simp; omega) ?_; intro v' w2 hown2 hg2 hat2; obtain ⟨tv5,tc5,rfl,_,_⟩:=owns_cells hown2; have hbA:Below w1.heap.size w1 (w1.alloc (.cells #[.slice none 0 0] 33)):=(Below.refl _ _).alloc (Nat.le_refl _) _; have hadd:=AM.addL f H.out hbA (by rw [HVI.out]; exact hg2) (fv:=.slice none 0 0) (m:=0) (by rw [List.length_append]; exact hown2) (by rw [HVI.out]; exact hat2) (World.ownsRow_nil _ _ _ _) (fun g hg=>(by cases hg)); have viN:(Value.slice ia lns.length ic).ownBlock ≠ some wb:=(fun e=>(own_typ RI.out e).ne (⟨_,H.out.blk trivial⟩:Typ w1 wb 46) (by decide) rfl); have b2:w2.heap[wb]?=w1.heap[wb]?:=(by rw [hg2.block wb (by simp; have:=(H.out.blk trivial).lt; omega) (fun e=>viN e.symm),hbA.block wb (H.out.blk trivial).lt]); have y2:w2.cell? ⟨wb,4,none⟩=some (.slice ia lns.length ic):=(by rw [World.cell?_of_block (a:=⟨wb,4,none⟩) b2]; exact cI); have z2:w2.frozen? ⟨wb,4,none⟩=false:=(by rw [World.frozen?_of_block (a:=⟨wb,4,none⟩) b2]; exact zI); have ADD:=hid hadd; have G2:=hid hg2; have HBA:=hid hbA; clear hown2 hg2 hat2 hadd hbA b2)
     go_end0
     obtain ⟨tag',ham,hfr⟩:=ADD.out
     refine ⟨rfl,tag',_,_,_,_,_,_,ham,hi1,hm1,HB1.out.trans ?_,fun b hbN hbw hbt=>?_⟩
     ·refine Below.setCell ?_ H.out.hb _
      exact ((Below.refl _ _).alloc hBw1 _).grown G2.out (by simp; omega) (fun g hg=>(ownsRow_block RI.out hg).1)
     ·obtain ⟨q1,q2⟩:=KP1.out b hbN hbw hbt
      have hlt1:b < w1.heap.size:=Nat.lt_of_lt_of_le hbw HZ0.out
      refine ⟨hfr b hlt1 (fun e=>by cases e) q1,?_⟩
      have hbne:b ≠ wb:=fun e=>by
       have:=H.out.tb
       rw [<- e,q1] at this
       cases this
      rw [Below.heap_setCell _ _ _ _ hbne,G2.out.block b (by simp; omega) (fun e=>by have:=H.out.tl b (by rw [HVI.out]; exact e.symm); rw [q1] at this; cases this),HBA.out.block b hlt1]
      exact q2
   | some a =>
    obtain ⟨g,rfl⟩:=hao a rfl
    have tg:=HFR.out g rfl
    have hgl:g < w1.heap.size:=(ownsRow_block HR.out rfl).2.1
    have hgB:B<=g:=(ownsRow_block HR.out rfl).1
    have hgw:g ≠ wb:=fun e=>by
     have:=H.out.tb
     rw [<- e,tg] at this
     cases this
    have cI:=(H.out.blk trivial).cell 4
    simp at cI
    have rowI:=H.out.rl trivial
    obtain ⟨ia,ic,hvi,_,_⟩:=owns_cells rowI
    rw [hvi] at cI
    have HVI:=hid hvi
    clear rowI hvi
    go_wp2
    go_loopw [6] (fun i wr=>∃ k:Nat,k<=ca/\i=.int .i64 k/\wr.heap.size=w1.heap.size/\Below B w1 wr/\(∀ b,b ≠ g->wr.heap[b]?=w1.heap[b]?)/\∃ ys,wr.ownsRow B 75 7 (.slice (some ⟨g,0,none⟩) ca ca) ca ys/\∀ i,i < k->∀ j,j < 7->ys[i * 7 + j]?=(markL lns.length)[j]?) (fun i _=>ca - (intOf i).toNat)
    case atStart=>exact ⟨0,Nat.zero_le _,rfl,rfl,Below.refl _ _,fun _ _=>rfl,ys,HR.out,fun i hi=>absurd hi (Nat.not_lt_zero _)⟩
    case round =>
     obtain ⟨k,hk,rfl,hsz,hbl,hoth,zs,hzr,hzc⟩:=hrel
     have cW:wr.cell? ⟨wb,4,none⟩=some (.slice ia lns.length ic):=by
      rw [World.cell?_of_block (a:=⟨wb,4,none⟩) (hoth wb (Ne.symm hgw))]
      exact cI
     have ZR:=hid hzr
     have HBL:=hid hbl
     have HOT:=hid hoth
     have HZC:=hid hzc
     have hzl:zs.length=ca * 7:=hzr.1
     clear hzr hbl hoth hzc
     by_cases hlt:k < ca
     ·have hkI:(k:Int) < (ca:Int):=by omega
      have d0:wr.cell? ⟨g,k * 7,none⟩=some (zs[k * 7]'(by omega)):=by rw [ZR.out.cellAt _ (by omega)]; exact List.getElem?_eq_getElem _
      have e0:=ZR.out.frozenAt (k * 7)
      have d1:wr.cell? ⟨g,k * 7 + 1,none⟩=some (zs[k * 7 + 1]'(by omega)):=by rw [ZR.out.cellAt _ (by omega)]; exact List.getElem?_eq_getElem _
      have e1:=ZR.out.frozenAt (k * 7 + 1)
      have d2:wr.cell? ⟨g,k * 7 + 2,none⟩=some (zs[k * 7 + 2]'(by omega)):=by rw [ZR.out.cellAt _ (by omega)]; exact List.getElem?_eq_getElem _
      have e2:=ZR.out.frozenAt (k * 7 + 2)
      have d3:wr.cell? ⟨g,k * 7 + 3,none⟩=some (zs[k * 7 + 3]'(by omega)):=by rw [ZR.out.cellAt _ (by omega)]; exact List.getElem?_eq_getElem _
      have e3:=ZR.out.frozenAt (k * 7 + 3)
      have d4:wr.cell? ⟨g,k * 7 + 4,none⟩=some (zs[k * 7 + 4]'(by omega)):=by rw [ZR.out.cellAt _ (by omega)]; exact List.getElem?_eq_getElem _
      have e4:=ZR.out.frozenAt (k * 7 + 4)
      have d5:wr.cell? ⟨g,k * 7 + 5,none⟩=some (zs[k * 7 + 5]'(by omega)):=by rw [ZR.out.cellAt _ (by omega)]; exact List.getElem?_eq_getElem _
      have e5:=ZR.out.frozenAt (k * 7 + 5)
      have d6:wr.cell? ⟨g,k * 7 + 6,none⟩=some (zs[k * 7 + 6]'(by omega)):=by rw [ZR.out.cellAt _ (by omega)]; exact List.getElem?_eq_getElem _
      have e6:=ZR.out.frozenAt (k * 7 + 6)
      have rAll:=(((((((ZR.out.stored (k * 7) (.int .i64 0)).1.stored (k * 7 + 1) (.int .i64 0)).1.stored (k * 7 + 2) (.int .i64 0)).1.stored (k * 7 + 3) (.int .i64 0)).1.stored (k * 7 + 4) (.int .i64 (-1000 - (lns.length:Int)))).1.stored (k * 7 + 5) (.slice none 0 0)).1.stored (k * 7 + 6) (.slice none 0 0)).1
      have HB2:Hid (Below B w1 (((((((wr.setCell ⟨g,k * 7,none⟩ (.int .i64 0)).setCell ⟨g,k * 7 + 1,none⟩ (.int .i64 0)).setCell ⟨g,k * 7 + 2,none⟩ (.int .i64 0)).setCell ⟨g,k * 7 + 3,none⟩ (.int .i64 0)).setCell ⟨g,k * 7 + 4,none⟩ (.int .i64 (-1000 - (lns.length:Int)))).setCell ⟨g,k * 7 + 5,none⟩ (.slice none 0 0)).setCell ⟨g,k * 7 + 6,none⟩ (.slice none 0 0))):=(((((((HBL.out.setCell hgB (.int .i64 0)).setCell hgB (.int .i64 0)).setCell hgB (.int .i64 0)).setCell hgB (.int .i64 0)).setCell hgB (.int .i64 (-1000 - (lns.length:Int)))).setCell hgB (.slice none 0 0)).setCell hgB (.slice none 0 0))
      have HO2:Hid (∀ b,b ≠ g->(((((((wr.setCell ⟨g,k * 7,none⟩ (.int .i64 0)).setCell ⟨g,k * 7 + 1,none⟩ (.int .i64 0)).setCell ⟨g,k * 7 + 2,none⟩ (.int .i64 0)).setCell ⟨g,k * 7 + 3,none⟩ (.int .i64 0)).setCell ⟨g,k * 7 + 4,none⟩ (.int .i64 (-1000 - (lns.length:Int)))).setCell ⟨g,k * 7 + 5,none⟩ (.slice none 0 0)).setCell ⟨g,k * 7 + 6,none⟩ (.slice none 0 0)).heap[b]?=w1.heap[b]?):=fun b hb=>by
       iterate 7 rw [Below.heap_setCell _ _ _ _ hb]
       exact HOT.out b hb
      have HS2:Hid ((((((((wr.setCell ⟨g,k * 7,none⟩ (.int .i64 0)).setCell ⟨g,k * 7 + 1,none⟩ (.int .i64 0)).setCell ⟨g,k * 7 + 2,none⟩ (.int .i64 0)).setCell ⟨g,k * 7 + 3,none⟩ (.int .i64 0)).setCell ⟨g,k * 7 + 4,none⟩ (.int .i64 (-1000 - (lns.length:Int)))).setCell ⟨g,k * 7 + 5,none⟩ (.slice none 0 0)).setCell ⟨g,k * 7 + 6,none⟩ (.slice none 0 0)).heap.size=w1.heap.size):=by
       simp only [setCell_size]
       exact hid hsz
      have HC2:Hid (∀ i,i < k + 1->∀ j,j < 7->(((((((zs.set (k * 7) (.int .i64 0)).set (k * 7 + 1) (.int .i64 0)).set (k * 7 + 2) (.int .i64 0)).set (k * 7 + 3) (.int .i64 0)).set (k * 7 + 4) (.int .i64 (-1000 - (lns.length:Int)))).set (k * 7 + 5) (.slice none 0 0)).set (k * 7 + 6) (.slice none 0 0))[i * 7 + j]?=(markL lns.length)[j]?):=fun i hi j hj=>by
       by_cases e:i=k
       ·subst e
        have hcases:j=0\/j=1\/j=2\/j=3\/j=4\/j=5\/j=6:=by omega
        rcases hcases with rfl | rfl | rfl | rfl | rfl | rfl | rfl <;> simp [List.getElem?_set,markL] <;> omega
       ·have h:∀ m,m < 7->k * 7 + m ≠ i * 7 + j:=by omega
        have h0:k * 7 ≠ i * 7 + j:=h 0 (by omega)
        have:=HZC.out i (by omega) j hj
        simp [h 1,h 2,h 3,h 4,h 5,h 6,h0]
        simpa using this
      have RA:=hid rAll
      clear rAll ZR HBL HOT HZC
      generalize zs[k * 7]'(by omega)=o0 at *
      generalize zs[k * 7 + 1]'(by omega)=o1 at *
      generalize zs[k * 7 + 2]'(by omega)=o2 at *
      generalize zs[k * 7 + 3]'(by omega)=o3 at *
      generalize zs[k * 7 + 4]'(by omega)=o4 at *
      generalize zs[k * 7 + 5]'(by omega)=o5 at *
      generalize zs[k * 7 + 6]'(by omega)=o6 at *
      go_wp2
      go_roundw
      case rel=>exact ⟨k + 1,by omega,by go_num,HS2.out,HB2.out,HO2.out,_,RA.out,HC2.out⟩
      case measure=>simp [intOf]; omega
     ·have hkn:(ca:Int)<=(k:Int):=by omega
      have ek:k=ca:=by omega
      have hz:=reps_ext (markL lns.length) zs ca (by simp [markL]) (by simpa [markL] using hzl) (fun i hi j hj=>by
       have:=HZC.out i (by omega) j (by simpa [markL] using hj)
       simpa [markL] using this)
      have RR:Hid (wr.ownsRow B 75 7 (.slice (some ⟨g,0,none⟩) ca ca) ca (reps (markL lns.length) ca)):=by rw [<- hz]; exact hid ZR.out
      have amr:=H.out.free f (w':=wr) (fun b hl ht=>HOT.out b (fun e=>ht (by rw [e]; exact tg))) (by omega)
      have HA:=hid amr
      have zI:=(amr.blk trivial).frozen 4
      have RI:Hid (wr.ownsRow B 33 1 (.slice ia lns.length ic) lns.length lns):=by rw [<- HVI.out]; exact hid (amr.rl trivial)
      have hBr:B<=wr.heap.size:=by omega
      have HSZ:=hid hsz
      clear amr hz hsz
      go_wp2_with (at_builtin; refine wpList_append_src_at rfl (.tmp 51) (.tmp 53) 44 rfl B 33 iT (.slice none 0 0) 1 24 Tryz.underlying44 HIT.out.1 HIT.out.2.1 HIT.out.2.2.1 HIT.out.2.2.2 rfl (by decide) (.slice ia lns.length ic) lns.length lns rfl (RI.out.alloc _) (some ⟨wr.heap.size,0,none⟩) 1 1 [.slice (some ⟨g,0,none⟩) ca ca] rfl rfl (fun h=>(by cases h)) (fun j u hj=>⟨_,rfl,(by rw [Addr.add_lit,Nat.zero_add,(Blk.new wr #[.slice (some ⟨g,0,none⟩) ca ca] 33).cell]; simpa using hj)⟩) (by intro u hu; simp at hu; subst hu; rfl) (by unfold maxLen; omega) (by omega) (by simp; omega) ?_; intro v' w2 hown2 hg2 hat2; obtain ⟨tv5,tc5,rfl,_,_⟩:=owns_cells hown2; have hbA:Below wr.heap.size wr (wr.alloc (.cells #[.slice (some ⟨g,0,none⟩) ca ca] 33)):=(Below.refl _ _).alloc (Nat.le_refl _) _; have hadd:=AM.addL f HA.out hbA (by rw [HVI.out]; exact hg2) (fv:=.slice (some ⟨g,0,none⟩) ca ca) (m:=ca) (by rw [List.length_append]; exact hown2) (by rw [HVI.out]; exact hat2) RR.out HFR.out; have viN:(Value.slice ia lns.length ic).ownBlock ≠ some wb:=(fun e=>(own_typ RI.out e).ne (⟨_,HA.out.blk trivial⟩:Typ wr wb 46) (by decide) rfl); have b2:w2.heap[wb]?=wr.heap[wb]?:=(by rw [hg2.block wb (by simp; have:=(HA.out.blk trivial).lt; omega) (fun e=>viN e.symm),hbA.block wb (HA.out.blk trivial).lt]); have y2:w2.cell? ⟨wb,4,none⟩=some (.slice ia lns.length ic):=(by rw [World.cell?_of_block (a:=⟨wb,4,none⟩) b2]; exact cW); have z2:w2.frozen? ⟨wb,4,none⟩=false:=(by rw [World.frozen?_of_block (a:=⟨wb,4,none⟩) b2]; exact zI); have ADD:=hid hadd; have G2:=hid hg2; have HBA:=hid hbA; clear hown2 hg2 hat2 hadd hbA b2)
      go_end0
      obtain ⟨tag',ham,hfr⟩:=ADD.out
      refine ⟨rfl,tag',_,_,_,_,_,_,ham,hi1,hm1,HB1.out.trans ?_,fun b hbN hbw hbt=>?_⟩
      ·refine Below.setCell ?_ HA.out.hb _
       exact (HBL.out.alloc hBr _).grown G2.out (by simp; omega) (fun g hg=>(ownsRow_block RI.out hg).1)
      ·obtain ⟨q1,q2⟩:=KP1.out b hbN hbw hbt
       have hlt1:b < w1.heap.size:=Nat.lt_of_lt_of_le hbw HZ0.out
       have hNg:N<=g:=NV.out g rfl
       have hlt2:b < wr.heap.size:=by rw [HSZ.out]; exact hlt1
       refine ⟨hfr b hlt2 (fun e=>by have e2:g=b:=Option.some.inj e; omega) q1,?_⟩
       have hbne:b ≠ wb:=fun e=>by
        have:=HA.out.tb
        rw [<- e,q1] at this
        cases this
       rw [Below.heap_setCell _ _ _ _ hbne,G2.out.block b (by simp; omega) (fun e=>by have:=HA.out.tl b (by rw [HVI.out]; exact e.symm); rw [q1] at this; cases this),HBA.out.block b hlt2,HOT.out b (fun e=>by omega)]
       exact q2
end
end Go.Proofs.YtbkfildnijjioaaGreat
