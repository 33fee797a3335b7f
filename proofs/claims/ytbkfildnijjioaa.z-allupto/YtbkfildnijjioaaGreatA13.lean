import Derived.Test.YtbkfildnijjioaaGreatA12
import Derived.Test.YtbkfildnijjioaaGreatA10
import Derived.Test.YtbkfildnijjioaaGreatA04
namespace Go.Proofs.YtbkfildnijjioaaGreat
open Go.RowKit
theorem doesS_set (s:RS) (t:Nat) (i:InstrD):(R.doesS s t i).set=s.set:=by
 have hg:∀ what of_,(R.giveS s what of_).set=s.set:=fun what of_=>(giveS_owner s what of_).2.1
 have h6:∀ m n,(R.lockS s t m n).set=s.set:=fun m n=>by unfold R.lockS; split; rfl; split <;> rfl
 have h7:∀ m,(R.unlockS s t m).set=s.set:=fun m=>by unfold R.unlockS; split; exact hg _ _; rfl
 have h8:∀ m n,(R.downS s t m n).set=s.set:=fun m n=>by unfold R.downS; split; rfl; split <;> rfl
 have h9:∀ m,(R.upS s m).set=s.set:=fun m=>by unfold R.upS; split; exact hg _ _; split <;> rfl
 have h10:∀ m n,(R.sendS s m n).set=s.set:=fun m n=>by unfold R.sendS; split; exact hg _ _; split <;> rfl
 have h11:∀ m n,(R.recvS s t m n).set=s.set:=fun m n=>by unfold R.recvS; split; rfl; split <;> rfl
 unfold R.doesS
 split
 ·rfl
 split
 ·rfl
 split
 ·rfl
 split
 ·exact h6 _ _
 split
 ·exact h7 _
 split
 ·exact h8 _ _
 split
 ·exact h9 _
 split
 ·exact h10 _ _
 split
 ·exact h11 _ _
 ·rfl
theorem stop_set (s:RS) (t:Nat):(R.stop s t).set=s.set:=by
 have h:=(unlocksTo_len (R.stop0 s t) t s.owner.length).2.2
 unfold R.stop
 split <;> exact h
theorem actS_set (s:RS) (t:Nat):(R.actS s t).set=s.set:=by
 unfold R.actS
 split
 ·exact stop_set s t
 ·split
  ·split <;> rfl
  ·exact doesS_set (R.toAt s t _) t _
section
variable {Q:Nat->Prop} {w:World} {kb:Nat} {s:RS}
set_option maxRecDepth 100000 in
set_option maxHeartbeats 4000000 in
theorem cPick:CPick KPK:=by
 intro Q w kb s k hnx wk
 obtain ⟨F,h,tk,wt,ws,m,a,hq,wkk,f,h8⟩:=k.open
 have hlen:=wkk.len
 have hw1:=k.inv.good.wk1
 have hw0:=k.inv.good.wk0
 have hbA:Below w.heap.size w (w.alloc (.cells #[.int .i64 0,.int .i64 0,.int .i64 0] 72)):=(Below.refl _ _).alloc (Nat.le_refl _) _
 have XA:=Blk.new w #[.int .i64 0,.int .i64 0,.int .i64 0] 72
 have HK:=hid k
 have stay:R.pickS s wk=s->∀ w',Below w.heap.size w w'->∃ Q',KPK Q' w' kb (R.pickS s wk)/\(∀ b,Q' b->Q b\/w.heap.size<=b)/\Turns Q w w':=by
  intro e w' hb
  rw [e]
  exact ⟨Q,kframe.below k hb,fun b hb=>.inl hb,Turns.of_below hb⟩
 have STAY:=hid stay
 clear stay
 by_cases hw:wk < 0\/s.set.workers<=wk
 ·have E1:R.pickT s wk=0:=by unfold R.pickT; rw [if_pos hw]
  have E2:R.pickA s wk=0:=by unfold R.pickA; rw [if_pos hw]
  have E3:R.pickC s wk=0:=by unfold R.pickC; rw [if_pos hw]
  have E4:R.pickE s wk=7:=by unfold R.pickE; rw [if_pos hw]
  have E5:R.pickS s wk=s:=by unfold R.pickS; rw [if_pos hw]
  rw [E1,E2,E3,E4]
  have ST:=hid (STAY.out E5)
  have c5:=m.blk.cell 5
  simp [kCells] at c5
  have hsl:=m.blk.lt
  clear E1 E2 E3 E4 E5 STAY m a f hq wkk
  generalize R.pickS s wk=sp at *
  go_enter Tryz.func93,Tryz.ntmps93
  by_cases hneg:wk < 0
  ·go_wp2
   refine bodyPost_ret (v:=.tuple #[.agg #[.int .i64 0,.int .i64 0,.int .i64 0],.int .i64 7]) ?_ rfl ⟨rfl,ST.out _ ?_⟩
   ·simp [results,Tryz.results93,go_sem]
   ·exact (Below.refl _ _).alloc (Nat.le_refl _) _
  ·have hge:(ws.length:Int)<=wk:=by omega
   go_wp2
   refine bodyPost_ret (v:=.tuple #[.agg #[.int .i64 0,.int .i64 0,.int .i64 0],.int .i64 7]) ?_ rfl ⟨rfl,ST.out _ ?_⟩
   ·simp [results,Tryz.results93,go_sem]
   ·exact (Below.refl _ _).alloc (Nat.le_refl _) _
 ·obtain ⟨v,rfl⟩:=Int.eq_ofNat_of_zero_le (show 0<=wk by omega)
  have hv:v < ws.length:=by omega
  have hon:=wkk.on v hv
  have E4:R.pickE s (v:Int)=0:=by unfold R.pickE; rw [if_neg hw]
  rw [E4]
  have hvI:(v:Int) < (ws.length:Int):=by omega
  have XR:=hid XA
  have MA:=hid (m.below hbA)
  have HBA:=hid hbA
  clear hbA XA
  by_cases hneg:R.on s.T (v:Int) < 0
  ·have hwv:ws[v]=-1:=by have:=(wkk.wb v hv).1; omega
   have E1:R.pickT s (v:Int)=-1:=by unfold R.pickT; rw [if_neg hw,if_pos hneg]
   have E2:R.pickA s (v:Int)=0:=by unfold R.pickA; rw [if_neg hw,if_pos hneg]
   have E3:R.pickC s (v:Int)=0:=by unfold R.pickC; rw [if_neg hw,if_pos hneg]
   have E5:R.pickS s (v:Int)=s:=by unfold R.pickS; rw [if_neg hw,if_pos hneg]
   rw [E1,E2,E3]
   have ST:=hid (STAY.out E5)
   clear E1 E2 E3 E5 STAY m a f hq wkk hon hneg
   generalize R.pickS s (v:Int)=sp at *
   go_enter Tryz.func93,Tryz.ntmps93
   go_upto_region 1 with fail
   generalize w.alloc (.cells #[.int .i64 0,.int .i64 0,.int .i64 0] 72)=wA at *
   have c5:=MA.out.blk.cell 5
   simp [kCells] at c5
   have y:=MA.out.wcell hv
   rw [hwv] at y
   have x0:=XR.out.cell 0
   have x1:=XR.out.cell 1
   have x2:=XR.out.cell 2
   simp at x0 x1 x2
   have z0:=XR.out.frozen 0
   have z1:=XR.out.frozen 1
   have z2:=XR.out.frozen 2
   go_wp2
   refine bodyPost_ret (v:=.tuple #[.agg #[.int .i64 (-1),.int .i64 0,.int .i64 0],.int .i64 0]) ?_ rfl ⟨rfl,ST.out _ ?_⟩
   ·simp [results,Tryz.results93,go_sem,x0,x1,x2]
   ·iterate 3 refine Below.setCell ?_ (by simp) _
    exact HBA.out
  ·obtain ⟨t,hot,ht,hf0,hat,hen,hc32,o0,o7,ki,hri,hpk⟩:=step_ready k.inv hnx hw hneg
   have hwv:ws[v]=(t:Int):=by omega
   have E1:R.pickT s (v:Int)=(t:Int):=by unfold R.pickT; rw [if_neg hw,if_neg hneg,hot]
   have E2:R.pickA s (v:Int)=s.T[t].at_:=by unfold R.pickA; rw [if_neg hw,if_neg hneg,hot,show Int.toNat (t:Int)=t by omega,th_ext ht]
   have E3:R.pickC s (v:Int)=R.actC s t:=by unfold R.pickC; rw [if_neg hw,if_neg hneg,hot,show Int.toNat (t:Int)=t by omega]
   rw [E1,E2,E3,hpk]
   obtain ⟨fa,awo⟩:=RInv.unsettle hri
   have keep:=R.keepW_actS s t
   have WW:=hid (WkW.of_keep wkk keep)
   have g0:=k.inv.good.now0
   have g1:=k.inv.good.now1
   have g2:=k.inv.good.now2
   have CS:=hid (fun wx (hb:Below w.heap.size w wx)=>kStep_any (m.below hb) f a t ht hf0 (by omega) g2 hat hen hc32 o0 o7 ki k.inv.toRMid.ksto fa)
   have FA:=hid fa
   have AWO:=hid awo
   have HRI:=hid hri
   have HQ:=hid hq
   have hset:=actS_set s t
   have HOLD:Hid (∀ b,KB F kb h b->b < w.heap.size):=KB.lt m
   have HSET:=hid hset
   have htI:(t:Int) < (s.T.length:Int):=by omega
   have hfew:=f.few
   clear E1 E2 E3 STAY m a f hq hneg fa awo hri keep hset hpk hot hon ki
   obtain ⟨at_,HAT⟩:∃ at_,Hid (s.T[t].at_=at_):=⟨_,hid rfl⟩
   rw [HAT.out]
   generalize hca:R.actC s t=ca at *
   generalize hsa:R.actS s t=sa at *
   clear hca hsa
   go_enter Tryz.func93,Tryz.ntmps93
   go_upto_region 1 with fail
   generalize w.alloc (.cells #[.int .i64 0,.int .i64 0,.int .i64 0] 72)=wA at *
   have c5:=MA.out.blk.cell 5
   have c1:=MA.out.blk.cell 1
   simp [kCells] at c5 c1
   have y:=MA.out.wcell hv
   rw [hwv] at y
   have a5:=MA.out.tcell ht 5 (by decide)
   simp [ktCells] at a5
   rw [HAT.out] at a5
   have hszA:=HBA.out.size
   have hxl:=XR.out.lt
   have hkbl:=MA.out.kT.lt
   have CSA:=hid (CS.out wA HBA.out)
   clear CS
   go_wp2_with fail
   refine CSA.out.mono ?_
   rintro e w2 ⟨rfl,h2,tk2,wt2,m2,a2,o2,u2⟩
   have M2:=hid m2
   have A2:=hid a2
   have U2:=hid u2
   have O2:=hid o2
   have hszA2:=o2.size
   have hnot:w.heap.size ∉ kW kb h:=by
    intro hm
    have:=HOLD.out _ (kW_sub _ hm)
    omega
   have XR2:=hid (XR.out.only o2 hnot)
   have GO:=hid (kGiveOut_any m2 FA.out a2 AWO.out h8)
   have hgw2:h2.gW=h.gW:=u2.gW
   have hgw:h.gW < w.heap.size:=HOLD.out _ (.inr (.inr (.inr (.inr (.inl rfl)))))
   clear m2 a2 u2 o2 CSA c5 c1 y a5
   go_wp2_with fail
   refine GO.out.mono ?_
   rintro e w3 ⟨rfl,m3,o3⟩
   have XR3:=hid (XR2.out.only o3 (by rw [hgw2]; simp; omega))
   have M3:=hid m3
   have O3:=hid o3
   have hsz3:=o3.size
   clear m3 o3 GO
   have x0:=XR3.out.cell 0
   have x1:=XR3.out.cell 1
   have x2:=XR3.out.cell 2
   simp at x0 x1 x2
   have z0:=XR3.out.frozen 0
   have z1:=XR3.out.frozen 1
   have z2:=XR3.out.frozen 2
   go_wp2
   refine bodyPost_ret (v:=.tuple #[.agg #[.int .i64 (t:Int),.int .i64 at_,.int .i64 ca],.int .i64 0]) ?_ rfl ⟨rfl,?_⟩
   ·simp [results,Tryz.results93,go_sem,x0,x1,x2]
   ·have hnk:∀ b,KB F kb h2 b->b ≠ w.heap.size:=fun b hb e=>by
     rcases U2.out.blocks b hb with h' | h'
     ·have:=HOLD.out b h'; omega
     ·have:=XR.out.lt; omega
    generalize hw4:((w3.setCell ⟨w.heap.size,0,none⟩ (.int .i64 (t:Int))).setCell ⟨w.heap.size,1,none⟩ (.int .i64 at_)).setCell ⟨w.heap.size,2,none⟩ (.int .i64 ca)=w4
    have same:∀ b,b ≠ w.heap.size->w4.heap[b]?=w3.heap[b]?:=fun b hb=>by
     rw [<- hw4]
     iterate 3 rw [Below.heap_setCell _ _ _ _ hb]
    have m4:KMem F w4 kb h2 sa tk2 wt2 (Ln.seatAll sa tk2 ws):=M3.out.frame (fun b hb=>same b (hnk b hb))
    have o4:Only (h.gW :: kW kb h) w w4:=by
     have h1:Only (h.gW :: kW kb h) w w3:=((Only.of_below HBA.out).trans (O2.out.mono (fun b hb=>List.mem_cons_of_mem _ hb))).trans (O3.out.mono (fun b hb=>by rw [hgw2] at hb; simp at hb; simp [hb]))
     rw [<- hw4]
     exact ((h1.setCell (.inr (Nat.le_refl _)) _).setCell (.inr (Nat.le_refl _)) _).setCell (.inr (Nat.le_refl _)) _
    refine ⟨KB F kb h2,⟨⟨_,⟨⟨F,h2,tk2,wt2,m4.settle,A2.out.settle FA.out,fun _ hb=>hb⟩,KB.lt m4⟩,?_⟩,HRI.out⟩,fun b hb=>?_,Turns.of_only o4 (fun b hb=>?_)⟩
    ·have hs:sa.set.workers.toNat=s.set.workers.toNat:=by rw [HSET.out]
     exact Ln.seatAll_settle A2.out.tk (by rw [hs]; exact WW.out)
    ·rcases U2.out.blocks b hb with h' | h'
     ·exact .inl (HQ.out b h')
     ·exact .inr (by omega)
    ·rcases List.mem_cons.1 hb with e | e
     ·exact HQ.out b (.inr (.inr (.inr (.inr (.inl e)))))
     ·exact HQ.out b (kW_sub b e)
end
end Go.Proofs.YtbkfildnijjioaaGreat

namespace Go.Proofs.YtbkfildnijjioaaGreat
open Go.RowKit
section
variable {F:Nat->Prop} {w w':World} {kb:Nat} {h:KH} {s:RS} {tk wt:List Nat} {ws:List Int}
set_option maxHeartbeats 400000 in
theorem kNewestJob_any (m:KMem F w kb h s tk wt ws) (t:Nat) (ht:t < s.T.length) (_hfew:s.T.length<=16) (hr:0<=s.T[t].rel/\s.T[t].rel<=2000000000) :
  Calls Tryz.prog 141 #[.pointer (some ⟨kb,0,none⟩),.int .i64 t] w fun e w'=>e=.returned (.int .i64 (s.T[t].rel - 1))/\w'=w:=by
 have c1:=m.blk.cell 1
 simp [kCells] at c1
 have a7:=m.tcell ht 8 (by decide)
 simp [ktCells] at a7
 have htI:(t:Int) < (s.T.length:Int):=by omega
 obtain ⟨h0,h1⟩:=hr
 clear m
 generalize s.T[t].rel=rl at *
 go_enter Tryz.func141,Tryz.ntmps141
 go_wp2
 go_ret
 exact ⟨rfl,rfl⟩
def kLate (s:RS) (t:Nat) (x:RT):Bool:=!((s.set.threads.getD t P3.none0).deadline == 0) && (decide (x.ended < x.rel) && (s.set.start + (s.set.threads.getD t P3.none0).offset + (x.rel - 1) * (s.set.threads.getD t P3.none0).period + (s.set.threads.getD t P3.none0).deadline == s.now))
set_option maxHeartbeats 1000000 in
theorem kMissesDeadline_any (m:KMem F w kb h s tk wt ws) (t:Nat) (ht:t < s.T.length) (hfew:s.T.length<=16) (hr:0<=s.T[t].rel/\s.T[t].rel<=2000000000) (he:0<=s.T[t].ended) (ks:KSet s t) :
  Calls Tryz.prog 140 #[.pointer (some ⟨kb,0,none⟩),.int .i64 t] w fun e w'=>e=.returned (.bool (kLate s t s.T[t]))/\∃ n,w'=w.drewN n:=by
 have c1:=m.blk.cell 1
 simp [kCells] at c1
 have a4:=m.tcell ht 4 (by decide)
 simp only [ktCells] at a4
 have htI:(t:Int) < (s.T.length:Int):=by omega
 have HJ:=hid (kHasJob_any m t ht hfew)
 have NJ:=hid (fun n=>kNewestJob_any (m.drewN n) t ht hfew hr)
 have RT:=hid (fun n (hj:s.T[t].ended < s.T[t].rel)=>kReleaseTime_any (m.drewN n) t ht hfew (s.T[t].rel - 1) ⟨by omega,by omega⟩ ks.st ks.of ks.pe)
 have C0:=hid (fun n=>(m.drewN n).blk.cell 0)
 have EL:Hid (kLate s t s.T[t]=(!((s.set.threads.getD t P3.none0).deadline == 0) && (decide (s.T[t].ended < s.T[t].rel) && (s.set.start + (s.set.threads.getD t P3.none0).offset + (s.T[t].rel - 1) * (s.set.threads.getD t P3.none0).period + (s.set.threads.getD t P3.none0).deadline == s.now)))):=rfl
 have hst:=ks.st
 have hof:=ks.of
 have hpe:=ks.pe
 have hdl:=ks.dl
 have mu0:s.T[t].ended < s.T[t].rel->0<=(s.T[t].rel - 1) * (s.set.threads.getD t P3.none0).period/\(s.T[t].rel - 1) * (s.set.threads.getD t P3.none0).period<=2000000000 * 1000:=fun hj=>⟨Int.mul_nonneg (by omega) hpe.1,Int.mul_le_mul (by omega) hpe.2 hpe.1 (by decide)⟩
 have MU:=hid mu0
 clear m ks mu0
 generalize kLate s t s.T[t]=res at *
 generalize s.T[t]=x at *
 generalize (s.set.threads.getD t P3.none0).deadline=dl at *
 generalize (s.set.threads.getD t P3.none0).offset=of at *
 generalize (s.set.threads.getD t P3.none0).period=pe at *
 generalize s.set.start=st at *
 simp at a4
 go_enter Tryz.func140,Tryz.ntmps140
 by_cases hd:dl=0
 ·subst hd
  have HE:Hid (res=false):=by rw [EL.out]; exact hid rfl
  clear EL
  go_wp2
  go_ret
  refine ⟨?_,0,rfl⟩
  rw [HE.out]
  rfl
 ·have hd':(dl == 0)=false:=by simpa using hd
  go_wp2_with fail
  refine HJ.out.mono ?_
  rintro e w1 ⟨rfl,n,rfl⟩
  by_cases hj:x.ended < x.rel
  ·have hjd:decide (x.ended < x.rel)=true:=by simpa using hj
   have NJN:=hid (NJ.out n)
   have RTN:=hid (RT.out (n + 1) hj)
   have mu:=MU.out hj
   generalize hmu:(x.rel - 1) * pe=mp at *
   clear hmu
   have HE:Hid (res=(st + of + mp + dl == s.now)):=by rw [EL.out,hd',hjd]; exact hid (by simp)
   obtain ⟨mu1,mu2⟩:=mu
   obtain ⟨st1,st2⟩:=hst
   obtain ⟨of1,of2⟩:=hof
   obtain ⟨dl1,dl2⟩:=hdl
   obtain ⟨r1,r2⟩:=hr
   have c0:=C0.out n
   simp [kCells] at c0
   clear EL HJ NJ RT MU
   go_wp2_with fail
   refine NJN.out.mono ?_
   rintro e w2 ⟨rfl,hw2⟩
   have hw3:=hw2.symm
   subst hw3
   clear hw2 NJN
   have RTM:Hid (Calls Tryz.prog 133 #[.pointer (some ⟨kb,0,none⟩),.int .i64 t,.int .i64 (x.rel - 1)] (w.drewN n).drew fun e w'=>e=.returned (.int .i64 (st + of + mp))/\∃ n',w'=(w.drewN (n + 1)).drewN n'):=RTN.out
   clear RTN
   go_wp2_with fail
   go_region_held3 (fun w'=>w'.cell? ⟨kb,0,none⟩=some (.int .i64 s.now)) (simp [*])
    (first
     | (go_at_call 133; refine RTM.out.mono ?_; rintro e w3 ⟨rfl,n',rfl⟩; have k0:((w.drewN (n + 1)).drewN n').cell? ⟨kb,0,none⟩=some (.int .i64 s.now):=c0))
   go_wp2
   go_ret
   refine ⟨?_,(n + 1) + n',by simp⟩
   rw [HE.out]
   simp [IntWalk.i64_in (st + of + mp + dl) (by omega)]
  ·have hjd:decide (x.ended < x.rel)=false:=by simpa using hj
   have HE:Hid (res=false):=by rw [EL.out,hjd]; exact hid (by simp)
   clear EL
   go_wp2
   go_ret
   refine ⟨?_,n,rfl⟩
   rw [HE.out]
   rfl
theorem KMem.grownMs (m:KMem F w kb h s tk wt ws) {v:Value} {l:List MissD} (hg:w.grownBy w' h.vMs.ownBlock) (hr:w'.ownsRow 0 95 3 v l.length (missCells l)) (hat:v.ownBlock=h.vMs.ownBlock\/v.ownBlock=some w.heap.size) :
  Blk w' kb (kCells h s ws) 109/\∃ h',KMem F (w'.setCell ⟨kb,8,none⟩ v) kb h' { s with missed:=l } tk wt ws/\KUp w h h'/\h'.vMs=v:=by
 have other:∀ b e,Typ w b e->e ≠ 95->w'.heap[b]?=w.heap[b]?:=fun b e hb he=>hg.block b hb.lt (fun x=>(own_typ m.mss x.symm).ne hb (Ne.symm he) rfl)
 have hblk:Blk w' kb (kCells h s ws) 109:=by
  have:=m.blk
  unfold Blk at this ⊢
  rw [other kb _ m.kT (by decide)]
  exact this
 have kT':Typ w' kb 109:=⟨_,hblk⟩
 have away:∀ b,b ≠ kb->(w'.setCell ⟨kb,8,none⟩ v).heap[b]?=w'.heap[b]?:=fun b hb=>Below.heap_setCell _ _ _ _ hb
 have offs:∀ b e,Typ w b e->e ≠ 95->e ≠ 109->(w'.setCell ⟨kb,8,none⟩ v).heap[b]?=w.heap[b]?:=fun b e hb h1 h2=>by
  rw [away b (ne_of_typ m.kT hb (Ne.symm h2)),other b e hb h1]
 refine ⟨hblk,{ h with vMs:=v },m.remake (h':={ h with vMs:=v }) (s':={ s with missed:=l }) rfl rfl ?_ ?_ ?_ ?_ ?_ m.dTk m.dWt (fun g hg'=>(m.dSt g hg').2),⟨rfl,rfl,rfl,fun _=>.inl,fun _=>.inl,fun g hg'=>?_,rfl,rfl,fun _=>.inl⟩,rfl⟩
 ·have:=hblk.set 8 v
  simpa [kCells] using this
 ·rintro b (hb | rfl | rfl | rfl | hb)
  ·exact offs b _ (m.ft b hb) (by decide) (by decide)
  ·exact offs _ _ m.tT (by decide) (by decide)
  ·exact offs _ _ m.mT (by decide) (by decide)
  ·exact offs _ _ m.wT (by decide) (by decide)
  ·rcases m.st.typ hb with ht | ht | ht
   ·exact offs _ _ ht (by decide) (by decide)
   ·exact offs _ _ ht (by decide) (by decide)
   ·exact offs _ _ ht (by decide) (by decide)
 ·exact ownsRow_same m.tks fun g hg'=>offs g _ (own_typ m.tks hg') (by decide) (by decide)
 ·exact ownsRow_same m.wts fun g hg'=>offs g _ (own_typ m.wts hg') (by decide) (by decide)
 ·exact ownsRow_same hr fun g hg'=>away g (ne_of_typ kT' (own_typ hr hg') (by decide))
 ·have hg2:v.ownBlock=some g:=hg'
  rcases hat with e | e
  ·rw [e] at hg2
   exact .inl hg2
  ·rw [e] at hg2
   cases hg2
   exact .inr (Nat.le_refl _)
theorem late_is {s:RS} {t:Nat} (ht:t < s.T.length) (rk:RelOk s t s.T[t]) (ks:KSet s t) (hdp:(s.set.threads.getD t P3.none0).period ≠ 0->(s.set.threads.getD t P3.none0).deadline<=(s.set.threads.getD t P3.none0).period) :
  R.lateTo s (t + 1)=if kLate s t s.T[t]=true then R.lateTo s t ++ [⟨(t:Int),s.T[t].rel - 1,s.now⟩] else R.lateTo s t:=by
 have hd:=ks.dl
 show (if (s.set.threads.getD t P3.none0).deadline=0 then R.lateTo s t else if 0<=R.numberAt s t (s.set.threads.getD t P3.none0).deadline/\(R.th s.T t).ended<=R.numberAt s t (s.set.threads.getD t P3.none0).deadline then R.lateTo s t ++ [⟨(t:Int),R.numberAt s t (s.set.threads.getD t P3.none0).deadline,s.now⟩] else R.lateTo s t)=_
 rw [th_ext ht]
 by_cases h0:(s.set.threads.getD t P3.none0).deadline=0
 ·have e:kLate s t s.T[t]=false:=by unfold kLate; rw [h0]; rfl
  rw [if_pos h0,e,if_neg (by decide)]
 ·have hl:=Ln.late_iff s.set t s.now s.T[t].rel s.T[t].ended ks.pe.1 rk.r0 rk.e0 (by omega) hdp
  have e:kLate s t s.T[t]=true ↔ (s.T[t].ended < s.T[t].rel/\s.set.start + (s.set.threads.getD t P3.none0).offset + (s.T[t].rel - 1) * (s.set.threads.getD t P3.none0).period + (s.set.threads.getD t P3.none0).deadline=s.now):=by
   unfold kLate
   have hb:((s.set.threads.getD t P3.none0).deadline == 0)=false:=by simpa using h0
   rw [hb]
   simp only [Bool.not_false,Bool.true_and,Bool.and_eq_true,decide_eq_true_eq,beq_iff_eq]
  rw [if_neg h0]
  unfold R.numberAt
  by_cases hk:kLate s t s.T[t]=true
  ·have h1:=hl.1.1 (e.1 hk)
   rw [if_pos h1,if_pos hk,hl.2 h1.1]
  ·rw [if_neg hk,if_neg (fun hh=>hk (e.2 (hl.1.2 hh)))]
set_option maxRecDepth 100000 in
set_option maxHeartbeats 4000000 in
theorem kLookAtDeadlines_any (m:KMem F w kb h s tk wt ws) (hfew:s.T.length<=16) (hrk:∀ t (ht:t < s.T.length),RelOk s t s.T[t]) (hks:∀ t,t < s.T.length->KSet s t) (hdp:∀ t,t < s.T.length->(s.set.threads.getD t P3.none0).period ≠ 0->(s.set.threads.getD t P3.none0).deadline<=(s.set.threads.getD t P3.none0).period) (hmis:s.missed.length<=16000000000) :
  Calls Tryz.prog 121 #[.pointer (some ⟨kb,0,none⟩)] w fun e w'=>∃ v h',e=.returned v/\w'.ownsRow w.heap.size 95 3 v (R.late s).length (missCells (R.late s))/\KMem F w' kb h' { s with missed:=s.missed ++ R.late s } tk wt ws/\Only (kb :: h.vMs.ownBlock.toList) w w'/\KUp w h h'/\∀ g,v.ownBlock=some g->h'.vMs.ownBlock ≠ some g:=by
 have c1:=m.blk.cell 1
 simp [kCells] at c1
 have M:=hid m
 have HRK:=hid hrk
 have HKS:=hid hks
 have HDP:=hid hdp
 have EL:Hid (R.late s=R.lateTo s s.T.length):=rfl
 clear m hrk hks hdp
 generalize R.late s=LT at *
 obtain ⟨i3,hi3,hz30,hz31,hz32⟩:=info_parts Tryz.infoMiss
 have HI3:=hid (And.intro hi3 (And.intro hz30 (And.intro hz31 hz32)))
 clear hi3 hz30 hz31 hz32
 go_enter Tryz.func121,Tryz.ntmps121
 go_wp2
 go_loopw [3,10] (fun v i wr=>∃ k:Nat,k<=s.T.length/\i=.int .i64 k/\wr.ownsRow w.heap.size 95 3 v (R.lateTo s k).length (missCells (R.lateTo s k))/\Below w.heap.size w wr) (fun _ i _=>s.T.length - (intOf i).toNat)
 case atStart=>exact ⟨0,Nat.zero_le _,rfl,World.ownsRow_nil _ _ _ _,Below.refl _ _⟩
 case round =>
  obtain ⟨k,hk,rfl,hrow,hb⟩:=hrel
  have ROW:=hid hrow
  have HB:=hid hb
  have hsz:=hb.size
  have hll:=R.lateTo_len s k
  clear hrow hb
  by_cases hkl:k < s.T.length
  ·have hkI:(k:Int) < (s.T.length:Int):=by omega
   have rk:=HRK.out k hkl
   have ks:=HKS.out k hkl
   have ES:=hid (late_is hkl rk ks (HDP.out k hkl))
   have MD:=hid (kMissesDeadline_any (M.out.below HB.out) k hkl hfew rk.r1 rk.e0 ks)
   have NJ:=hid (fun n=>kNewestJob_any ((M.out.below HB.out).drewN n) k hkl hfew rk.r1)
   have C0:=hid (fun n=>((M.out.below HB.out).drewN n).blk.cell 0)
   clear rk ks
   generalize kLate s k s.T[k]=dd at *
   generalize s.T[k].rel=rl at *
   generalize R.lateTo s k=f at *
   go_wp2_with fail
   refine MD.out.mono ?_
   rintro e w3 ⟨rfl,n,rfl⟩
   cases dd with
   | false =>
    have HE:Hid (R.lateTo s (k + 1)=f):=by rw [ES.out,if_neg (by decide)]; exact hid rfl
    go_wp2
    go_roundw
    case rel=>exact ⟨k + 1,by omega,by go_num,by rw [HE.out]; exact ownsRow_same ROW.out fun _ _=>rfl,bdrewN HB.out n⟩
    case measure=>simp [intOf]; omega
   | true =>
    have HE:Hid (R.lateTo s (k + 1)=f ++ [⟨(k:Int),rl - 1,s.now⟩]):=by rw [ES.out,if_pos rfl]; exact hid rfl
    have c0:=C0.out n
    simp [kCells] at c0
    have NJN:Hid (Calls Tryz.prog 141 #[.pointer (some ⟨kb,0,none⟩),.int .i64 k] (wr.drewN n).drew fun e w'=>e=.returned (.int .i64 (rl - 1))/\w'=(wr.drewN n).drew):=NJ.out (n + 1)
    have ROW1:Hid ((wr.drewN n).drew.ownsRow w.heap.size 95 3 u3 f.length (missCells f)):=ownsRow_same ROW.out fun _ _=>rfl
    have HB1:Hid (Below w.heap.size w (wr.drewN n).drew):=bdrewN HB.out (n + 1)
    have hsz1:w.heap.size<=(wr.drewN n).drew.heap.size:=hsz
    have hkbl:kb < wr.heap.size:=(M.out.below HB.out).kT.lt
    have hnew:=World.new_ne (wr.drewN (n + 1)) ⟨kb,0,none⟩ (by simpa using c0)
    clear NJ C0 MD ROW HB
    go_wp2_with fail
    go_region_held3 (fun w'=>w'.cell? ⟨kb,0,none⟩=some (.int .i64 s.now)) (go_keep)
     (first
      | (refine step_append_own rfl (.tmp 16) (.tmp 26) 73 rfl w.heap.size 95 i3 (.agg #[.int .i64 0,.int .i64 0,.int .i64 0]) 3 24 Tryz.underlying73 HI3.out.1 HI3.out.2.1 HI3.out.2.2.1 HI3.out.2.2.2 rfl (by decide) u3 f.length (missCells f) (by simp [Act.eval]) (ROW1.out.alloc _) ⟨(wr.drewN n).drew.heap.size,0,none⟩ 1 1 [.int .i64 (k:Int),.int .i64 (rl - 1),.int .i64 s.now] (by simp [Act.eval]) rfl (fun j u hj=>(by rw [Addr.add_lit,Nat.zero_add]; exact ((Blk.new (wr.drewN n).drew #[.int .i64 (k:Int),.int .i64 (rl - 1),.int .i64 s.now] 95).cell j).trans (by simpa using hj))) (by intro u hu; simp at hu; rcases hu with rfl | rfl | rfl <;> rfl) (by unfold maxLen; omega) (by omega) (by simp; omega) ?_; intro v' w5 hown5 hg5; have O5:=hid hown5; have HB5:=hid ((HB1.out.alloc (by omega) _).grown hg5 (by simp; omega) (fun g hg=>(ownsRow_block ROW1.out hg).1)); have k0:w5.cell? ⟨kb,0,none⟩=some (.int .i64 s.now):=(by have:=(M.out.below HB5.out).blk.cell 0; simpa [kCells] using this); clear hown5 hg5)
      | (go_at_call 141; refine NJN.out.mono ?_; rintro e w4 ⟨rfl,hw4⟩; have hw5:=hw4.symm; subst hw5; clear hw4))
    all_goals
     go_wp2
     go_roundw
     case rel=>exact ⟨k + 1,by omega,by go_num,by rw [HE.out,missCells_append,List.length_append]; exact O5.out,HB5.out⟩
     case measure=>simp [intOf]; omega
  ·have e:k=s.T.length:=by omega
   subst e
   rw [<- EL.out] at ROW hll
   obtain ⟨ao,ca,rfl,hn,ha⟩:=owns_cells ROW.out
   have HN:=hid hn
   have hsrc:∀ j u,(missCells LT)[j]?=some u->∃ ad,ao=some ad/\wr.cell? (ad.add j)=some u:=by
    intro j u hj
    have hjl:j < (missCells LT).length:=by
     rcases Nat.lt_or_ge j (missCells LT).length with h' | h'
     ·exact h'
     ·rw [List.getElem?_eq_none h'] at hj; cases hj
    rw [missCells_length] at hjl
    cases ao with
    | none=>have:=(hn rfl).1; omega
    | some ad =>
     obtain ⟨gl,rfl,_,_,_,hc⟩:=ha ad rfl
     refine ⟨_,rfl,?_⟩
     rw [Addr.add_lit,Nat.zero_add,hc _ hjl]
     exact hj
   have HSRC:=hid hsrc
   have MK:=hid (M.out.below HB.out)
   have OMS:=hid MK.out.mss
   have c8:=MK.out.blk.cell 8
   simp [kCells] at c8
   have hgl:∀ g,(Value.slice ao LT.length ca).ownBlock=some g->w.heap.size<=g/\g < wr.heap.size:=fun g hg=>⟨(ownsRow_block ROW.out hg).1,(ownsRow_block ROW.out hg).2.1⟩
   have HGL:=hid hgl
   have HOLD:Hid (∀ g,h.vMs.ownBlock=some g->g < w.heap.size):=fun g hg=>(own_typ M.out.mss hg).lt
   clear hn ha hsrc hgl
   go_wp2_with (at_builtin; refine wpList_append_src_at rfl (.tmp 33) (.tmp 34) 73 rfl 0 95 i3 (.agg #[.int .i64 0,.int .i64 0,.int .i64 0]) 3 24 Tryz.underlying73 HI3.out.1 HI3.out.2.1 HI3.out.2.2.1 HI3.out.2.2.2 rfl (by decide) h.vMs s.missed.length (missCells s.missed) rfl OMS.out ao LT.length ca (missCells LT) rfl (missCells_length _) (fun hh=>(HN.out hh).2) HSRC.out (missCells_one _) (by unfold maxLen; omega) (by omega) (Nat.zero_le _) ?_; intro v' w3 hown3 hg3 hat3; obtain ⟨tv5,tc5,rfl,_,_⟩:=owns_cells hown3; have hr3:w3.ownsRow 0 95 3 (.slice tv5 (s.missed.length + LT.length) tc5) (s.missed ++ LT).length (missCells (s.missed ++ LT)):=(by rw [List.length_append]; simpa [missCells] using hown3); obtain ⟨b3,h3,m3,u3',e3⟩:=MK.out.grownMs hg3 hr3 hat3; have M3:=hid m3; have U3:=hid u3'; have E3:=hid e3; have y3:=b3.cell 8; have z3:=b3.frozen 8; simp [kCells] at y3; have G3:=hid hg3; have AT3:=hid hat3; clear hown3 hg3 hat3 hr3 b3 m3 u3' e3)
   go_ret
   have hszr:=HB.out.size
   refine ⟨_,h3,rfl,?_,M3.out,?_,(KUp.refl w h).trans U3.out hszr,fun g hg=>?_⟩
   ·refine ownsRow_same ROW.out fun g hg=>?_
    have hgg:=HGL.out g hg
    rw [Below.heap_setCell _ _ _ _ (fun e=>?_),G3.out.block g hgg.2 (fun e=>?_)]
    ·have:=HOLD.out g e.symm
     omega
    ·have e':g=kb:=e
     have:=M.out.kT.lt
     omega
   ·have o1:Only (kb :: h.vMs.ownBlock.toList) w w3:=by
     have o0:Only (kb :: h.vMs.ownBlock.toList) w wr:=Only.of_below HB.out
     refine ⟨G3.out.os.trans o0.os,G3.out.tape.trans o0.tape,G3.out.output.trans o0.output,Nat.le_trans o0.size G3.out.size,fun b hb hn=>?_⟩
     rw [G3.out.block b (Nat.lt_of_lt_of_le hb o0.size) (fun e=>hn (by simp [<- e]))]
     exact o0.block b hb hn
    exact o1.setCell (.inl (by simp)) _
   ·have hgg:=HGL.out g hg
    rw [E3.out]
    intro e
    rcases AT3.out with h' | h'
    ·rw [h'] at e
     have:=HOLD.out g e
     omega
    ·rw [h'] at e
     have:=Option.some.inj e
     omega
end
end Go.Proofs.YtbkfildnijjioaaGreat

namespace Go.Proofs.YtbkfildnijjioaaGreat
open Go.RowKit
theorem keep_endsTo (s:RS) (k:Nat):R.Keep s (R.endsTo s k):=by
 induction k with
 | zero=>exact R.Keep.refl s
 | succ k ih =>
  refine ih.trans ?_
  show R.Keep _ (R.endOne (R.endsTo s k))
  unfold R.endOne
  split
  ·exact R.Keep.refl _
  ·exact R.keep_endW _ _ _
theorem keep_release (s:RS):R.Keep s (R.release s):=⟨R.releaseTo_len _ _,fun u=>(releaseTo_keeps s s.T.length u).1,fun u=>(releaseTo_keeps s s.T.length u).2⟩
theorem endsTo_jobs (s:RS) (k u:Nat):(R.th (R.endsTo s k).T u).rel=(R.th s.T u).rel/\(R.th (R.endsTo s k).T u).ended=(R.th s.T u).ended:=by
 induction k with
 | zero=>exact ⟨rfl,rfl⟩
 | succ k ih =>
  have one:∀ s:RS,(R.th (R.endOne s).T u).rel=(R.th s.T u).rel/\(R.th (R.endOne s).T u).ended=(R.th s.T u).ended:=by
   intro s
   have hm:∀ (T:List RT) (t:Nat) (f:RT->RT),(∀ x,(f x).rel=x.rel/\(f x).ended=x.ended)->(R.th (T.modify t f) u).rel=(R.th T u).rel/\(R.th (T.modify t f) u).ended=(R.th T u).ended:=fun T t f hf=>by
    rw [Ln.th_modify]
    split
    ·exact hf _
    ·exact ⟨rfl,rfl⟩
   unfold R.endOne R.endW R.wake
   split
   ·exact ⟨rfl,rfl⟩
   ·have h1:=hm s.T (R.due s).toNat (fun x=>{ x with for_:=0,of_:=0,until_:=0,last:=if (R.th s.T (R.due s).toNat).for_=4 then 0 else 2 }) (fun _=>⟨rfl,rfl⟩)
    have h2:=hm (s.T.modify (R.due s).toNat (fun x=>{ x with for_:=0,of_:=0,until_:=0,last:=if (R.th s.T (R.due s).toNat).for_=4 then 0 else 2 })) (R.due s).toNat (fun x=>{ x with awake:=true,tick:=s.next + 1 }) (fun _=>⟨rfl,rfl⟩)
    exact ⟨h2.1.trans h1.1,h2.2.trans h1.2⟩
  show (R.th (R.endOne (R.endsTo s k)).T u).rel=_/\(R.th (R.endOne (R.endsTo s k)).T u).ended=_
  rw [(one _).1,(one _).2]
  exact ih
theorem ok_dline {S:SetD} (h:P3.err S=0) (t:Nat) (ht:t < S.threads.length):(S.threads.getD t P3.none0).period ≠ 0->(S.threads.getD t P3.none0).deadline<=(S.threads.getD t P3.none0).period:=by
 have:=badOr_good (ok_parts h).2.2.2.2.1 S.threads[t] (List.getElem_mem ht)
 have e:S.threads.getD t P3.none0=S.threads[t]:=by simp [List.getD,ht]
 rw [e]
 unfold P3.threadP P3.threadB P3.latest at this
 rw [decide_eq_true_iff] at this
 intro hp
 obtain ⟨_,_,_,_,_,_,_,hd,_⟩:=this
 rw [if_neg hp] at hd
 exact hd
section
variable {F:Nat->Prop} {w w':World} {kb:Nat} {h:KH} {s:RS} {tk wt:List Nat} {ws:List Int}
theorem Only.at {L:List Nat} {w w':World} (o:Only L w w') {v:Value} {base n:Nat} {e:TypeId} {size:Nat} {xs:List Value} (hr:w.ownsRow base e size v n xs) (hb:∀ b,b ∈ L->b < base):w'.ownsRow base e size v n xs :=
 ownsRow_same hr fun g hg=>o.block g (ownsRow_block hr hg).2.1 (fun hm=>by have:=hb g hm; have:=(ownsRow_block hr hg).1; omega)
theorem KMem.setNow (m:KMem F w kb h s tk wt ws) (n:Int):KMem F (w.setCell ⟨kb,0,none⟩ (.int .i64 n)) kb h { s with now:=n } tk wt ws :=
 m.setK 0 (.int .i64 n) rfl rfl (by simp [kCells]) m.tks m.wts m.mss m.dTk m.dWt (fun g hg=>(m.dSt g hg).2)
theorem Ln.Aux.other (a:Ln.Aux s tk wt) (n:Int) (l:List MissD):Ln.Aux { s with now:=n,missed:=l } tk wt:=⟨⟨a.tk.perm,a.tk.ord,a.tk.bd,a.tk.aw⟩,⟨a.wt.mem,a.wt.ord,a.wt.top⟩,fun u hu=>by
  obtain ⟨k,hk⟩:=a.ch u hu
  refine ⟨k,?_⟩
  have:∀ k o,Ln.EndsIn s k o->Ln.EndsIn { s with now:=n,missed:=l } k o:=by
   intro k o he
   induction he with
   | stop o h=>exact .stop o h
   | step k o h r ih=>exact .step k o h ih
  exact this k _ hk,a.n0⟩
theorem KFit.other (f:KFit s) (n:Int) (l:List MissD):KFit { s with now:=n,missed:=l }:=⟨f.few,f.m8,f.ok.len,f.ok.own,f.ok.of1,f.ok.kind⟩
end
set_option maxRecDepth 100000 in
set_option maxHeartbeats 4000000 in
theorem cTick:CTick KPK:=by
 intro Q w kb s k hnx
 obtain ⟨F,h,tk,wt,ws,m,a,hq,wkk,f,h8⟩:=k.open
 have g0:=k.inv.good.now0
 have g1:=k.inv.good.now1
 have g2:=k.inv.good.now2
 have c0:=m.blk.cell 0
 have z0:=m.blk.frozen 0
 simp [kCells] at c0
 by_cases hmax:s.now=1000000000
 ·have E1:R.tickS s=s:=by unfold R.tickS; rw [if_pos hmax]
  have E2:R.tickE s=8:=by unfold R.tickE; rw [if_pos hmax]
  have E3:R.tickL s=[]:=by unfold R.tickL; rw [if_pos hmax]
  rw [E1,E2,E3]
  rw [hmax] at c0
  have KK:Hid (KPK Q w kb s):=k
  clear E1 E2 E3 m a f hq wkk k
  go_enter Tryz.func81,Tryz.ntmps81
  go_wp2
  go_ret2
  exact ⟨_,Q,rfl,World.ownsRow_nil _ _ _ _,KK.out,fun b hb=>.inl hb,fun b hb=>(by cases hb),Turns.refl _ _⟩
 ·have hlt:s.now < 1000000000:=by omega
  have E1:R.tickS s=R.settle (R.release (R.ends { s with now:=s.now + 1,missed:=s.missed ++ R.late { s with now:=s.now + 1 } })):=by unfold R.tickS; rw [if_neg hmax]; rfl
  have E2:R.tickE s=0:=by unfold R.tickE; rw [if_neg hmax]
  have E3:R.tickL s=R.late { s with now:=s.now + 1 }:=by unfold R.tickL; rw [if_neg hmax]; rfl
  have hri:=k.inv.tick hlt hnx
  have e0:R.tick s=R.settle (R.release (R.ends { s with now:=s.now + 1,missed:=s.missed ++ R.late { s with now:=s.now + 1 } })):=rfl
  rw [e0] at hri
  rw [E1,E2,E3]
  obtain ⟨LT,HLT⟩:∃ LT,Hid (R.late { s with now:=s.now + 1 }=LT):=⟨_,hid rfl⟩
  rw [HLT.out] at hri ⊢
  obtain ⟨s3,HS3⟩:∃ s3,Hid (R.ends { s with now:=s.now + 1,missed:=s.missed ++ LT }=s3):=⟨_,hid rfl⟩
  rw [HS3.out] at hri ⊢
  obtain ⟨s4,HS4⟩:∃ s4,Hid (R.release s3=s4):=⟨_,hid rfl⟩
  rw [HS4.out] at hri ⊢
  have hthr:∀ t (ht:t < s.T.length),RelOk { s with now:=s.now + 1 } t s.T[t]:=fun t ht=>by
   have tok:=k.inv.thr t ht
   have hc:=k.inv.toRMid.code.ended t ht
   have ks:=k.inv.toRMid.kset t ht
   refine ⟨?_,tok.e0,tok.e1,?_⟩
   ·show s.T[t].rel=R.relBy s.set t (s.now + 1 - 1)
    rw [show s.now + 1 - 1=s.now by omega]
    exact tok.r0
   ·have hb:=relBy_bd (S:=s.set) (t:=t) (now:=s.now) g0 (by omega) g2 ks.of.1 ks.pe.1
    rw [tok.r0]
    omega
  have hks:∀ t,t < s.T.length->KSet { s with now:=s.now + 1 } t:=fun t ht=>by
   have ks:=k.inv.toRMid.kset t ht
   exact ⟨ks.st,ks.of,ks.pe,ks.dl⟩
  have hdp:∀ t,t < s.T.length->(s.set.threads.getD t P3.none0).period ≠ 0->(s.set.threads.getD t P3.none0).deadline<=(s.set.threads.getD t P3.none0).period:=fun t ht=>ok_dline k.inv.ok t (by have:=k.inv.good.len; omega)
  have hmis:s.missed.length<=16000000000:=by
   have:=k.inv.mis
   omega
  have M1:=hid (m.setNow (s.now + 1))
  have HOLD:Hid (∀ b,KB F kb h b->b < w.heap.size):=KB.lt m
  have O1:Hid (Only [kb] w (w.setCell ⟨kb,0,none⟩ (.int .i64 (s.now + 1)))):=(Only.refl _ _).setCell (.inl (by simp)) _
  have hsz1:w.heap.size=(w.setCell ⟨kb,0,none⟩ (.int .i64 (s.now + 1))).heap.size:=(setCell_size _ _ _).symm
  have FI:=hid f
  have AX:=hid a
  have HQ:=hid hq
  have WKK:=hid wkk
  have KK:=hid k
  have HRI:=hid hri
  have HTH:=hid hthr
  have HKS:=hid hks
  have HDP:=hid hdp
  have hfew:=f.few
  clear E1 E2 E3 m a f hq wkk k hri hthr hks hdp e0
  go_enter Tryz.func81,Tryz.ntmps81
  go_upto_region 4 with fail
  clear c0 z0
  generalize w.setCell ⟨kb,0,none⟩ (.int .i64 (s.now + 1))=w1 at *
  have LD:=hid (kLookAtDeadlines_any M1.out hfew HTH.out HKS.out HDP.out hmis)
  rw [HLT.out] at LD
  go_wp2_with fail
  refine LD.out.mono ?_
  rintro e w2 ⟨v,h2,rfl,hr2,m2,o2,u2,hn2⟩
  obtain ⟨va,vc,rfl,_,_⟩:=owns_cells hr2
  have R2:=hid (show w2.ownsRow w.heap.size 95 3 (.slice va LT.length vc) LT.length (missCells LT) from by rw [hsz1]; exact hr2)
  have M2:=hid m2
  have U2:=hid u2
  have HN2:=hid hn2
  have hz2:=o2.size
  have O2:Hid (Only (kb :: h.gT :: h.gW :: h.vMs.ownBlock.toList) w w2):=(O1.out.mono (fun b hb=>by simp at hb; simp [hb])).trans (o2.mono (fun b hb=>by simp at hb ⊢; rcases hb with h | h <;> simp [h]))
  have A2:=hid (AX.out.other (s.now + 1) (s.missed ++ LT))
  have F2:=hid (FI.out.other (s.now + 1) (s.missed ++ LT))
  have R2':=hid R2.out
  clear hr2 m2 o2 u2 hn2 LD
  have hgT:h.gT < w.heap.size:=HOLD.out _ (.inr (.inr (.inl rfl)))
  have hgW:h.gW < w.heap.size:=HOLD.out _ (.inr (.inr (.inr (.inr (.inl rfl)))))
  have hkb:kb < w.heap.size:=HOLD.out _ (.inr (.inl rfl))
  have ED:=hid (kEndDueWaits_any M2.out F2.out A2.out)
  have JB:Hid (∀ u,(R.th (R.ends { s with now:=s.now + 1,missed:=s.missed ++ LT }).T u).rel=(R.th s.T u).rel/\(R.th (R.ends { s with now:=s.now + 1,missed:=s.missed ++ LT }).T u).ended=(R.th s.T u).ended):=fun u=>endsTo_jobs _ _ u
  have SE:Hid ((R.ends { s with now:=s.now + 1,missed:=s.missed ++ LT }).set=s.set/\(R.ends { s with now:=s.now + 1,missed:=s.missed ++ LT }).now=s.now + 1/\(R.ends { s with now:=s.now + 1,missed:=s.missed ++ LT }).T.length=s.T.length):=by
   have:=R.endsTo_set { s with now:=s.now + 1,missed:=s.missed ++ LT } s.T.length
   exact ⟨this.1,this.2.1,this.2.2.2.1⟩
  have KE:Hid (R.Keep s (R.ends { s with now:=s.now + 1,missed:=s.missed ++ LT })):=by
   have h1:R.Keep s { s with now:=s.now + 1,missed:=s.missed ++ LT }:=R.keep_same rfl
   exact h1.trans (keep_endsTo _ _)
  have F3:Hid (KFit (R.ends { s with now:=s.now + 1,missed:=s.missed ++ LT })):=by
   rw [Ln.ends_all A2.out F2.out.ok]
   exact hid (F2.out.endAll _ (fun u hu=>((A2.out.wt.mem u).1 (List.mem_filter.1 hu).1).1))
  rw [HS3.out] at ED JB SE KE F3
  go_wp2_with fail
  refine ED.out.mono ?_
  rintro e w3 ⟨rfl,h3,tk3,wt3,m3,a3,o3,u3⟩
  have M3:=hid m3
  have A3:=hid a3
  have U3:=hid (U2.out.trans u3 (by omega))
  have U32:=hid u3
  have R3:=hid (o3.at R2.out (fun b hb=>by simp [U2.out.gT] at hb; rcases hb with e | e <;> omega))
  have O3:=hid (O2.out.trans (o3.mono (fun b hb=>by rw [U2.out.gT] at hb; simp at hb ⊢; rcases hb with h | h <;> simp [h])))
  have hz3:=o3.size
  clear m3 a3 o3 u3 ED R2 O2
  have RJ:=hid (kReleaseJobs_any M3.out F3.out A3.out (fun t ht=>by
    have ht':t < s.T.length:=by rw [<- SE.out.2.2]; exact ht
    have h1:=HTH.out t ht'
    have hj:=JB.out t
    rw [th_ext ht,th_ext ht'] at hj
    refine ⟨?_,?_,?_,?_⟩
    ·rw [hj.1,SE.out.1,SE.out.2.1]; exact h1.r0
    ·rw [hj.2]; exact h1.e0
    ·rw [hj.1,hj.2]; exact h1.e1
    ·rw [hj.1]; exact h1.r1) (fun t ht=>by
    have ks:=HKS.out t (by rw [<- SE.out.2.2]; exact ht)
    refine ⟨?_,?_,?_,?_⟩ <;> rw [SE.out.1]
    ·exact ks.st
    ·exact ks.of
    ·exact ks.pe
    ·exact ks.dl))
  have KR:=hid (KE.out.trans (keep_release s3))
  have SR:Hid ((R.release s3).set=s.set):=by
   have h1:(R.release s3).set=s3.set:=R.releaseTo_set _ _
   rw [h1]
   exact hid SE.out.1
  rw [HS4.out] at RJ KR SR
  go_wp2_with fail
  refine RJ.out.mono ?_
  rintro e w4 ⟨rfl,h4,tk4,m4,a4,f4,o4,u4⟩
  have M4:=hid m4
  have A4:=hid a4
  have F4:=hid f4
  have U4:=hid (U3.out.trans u4 (by omega))
  have U42:=hid (U32.out.trans u4 hz3)
  have R4:=hid (o4.at R3.out (fun b hb=>by simp [U3.out.gT] at hb; rcases hb with e | e <;> omega))
  have O4:=hid (O3.out.trans (o4.mono (fun b hb=>by rw [U3.out.gT] at hb; simp at hb ⊢; rcases hb with h | h <;> simp [h])))
  have hz4:=o4.size
  clear m4 a4 f4 o4 u4 RJ R3 O3
  have GO:=hid (kGiveOut_any M4.out F4.out A4.out (RInv.unsettle HRI.out).2 h8)
  go_wp2_with fail
  refine GO.out.mono ?_
  rintro e w5 ⟨rfl,m5,o5⟩
  have M5:=hid m5
  have R5:=hid (o5.at R4.out (fun b hb=>by simp [U4.out.gW] at hb; omega))
  have O5:=hid (O4.out.trans (o5.mono (fun b hb=>by rw [U4.out.gW] at hb; simp at hb; simp [hb])))
  clear m5 o5 GO R4 O4
  go_wp2
  go_ret2
  have hs:s4.set.workers.toNat=s.set.workers.toNat:=by rw [SR.out]
  refine ⟨_,KB F kb h4,rfl,R5.out,⟨⟨_,⟨⟨F,h4,tk4,wt3,M5.out.settle,A4.out.settle F4.out,fun _ hb=>hb⟩,KB.lt M5.out⟩,?_⟩,HRI.out⟩,fun b hb=>?_,fun b hb hk=>?_,Turns.of_only O5.out (fun b hb=>?_)⟩
  ·exact Ln.seatAll_settle A4.out.tk (by rw [hs]; exact WkW.of_keep WKK.out KR.out.weak)
  ·rcases U4.out.blocks b hb with h' | h'
   ·exact .inl (HQ.out b h')
   ·exact .inr (by omega)
  ·have hge:=(ownsRow_block R5.out hb).1
   have hty:=own_typ R5.out hb
   rcases hk with hk | hk | hk | hk | hk | hk | hk | hk | hk
   ·exact hty.ne (M5.out.ft b hk) (by decide) rfl
   ·exact hty.ne M5.out.kT (by decide) hk
   ·exact hty.ne M5.out.tT (by decide) hk
   ·exact hty.ne M5.out.mT (by decide) hk
   ·exact hty.ne M5.out.wT (by decide) hk
   ·exact hty.ne (own_typ M5.out.tks hk) (by decide) rfl
   ·exact hty.ne (own_typ M5.out.wts hk) (by decide) rfl
   ·rcases U42.out.ms b hk with h' | h'
    ·exact HN2.out b hb h'
    ·have:=(ownsRow_block R2'.out hb).2.1
     omega
   ·rcases M5.out.st.typ hk with ht | ht | ht
    ·exact hty.ne ht (by decide) rfl
    ·exact hty.ne ht (by decide) rfl
    ·exact hty.ne ht (by decide) rfl
  ·simp at hb
   rcases hb with e | e | e | e
   ·exact HQ.out b (.inr (.inl e))
   ·exact HQ.out b (.inr (.inr (.inl e)))
   ·exact HQ.out b (.inr (.inr (.inr (.inr (.inl e)))))
   ·exact HQ.out b (.inr (.inr (.inr (.inr (.inr (.inr (.inr (.inl e))))))))
end Go.Proofs.YtbkfildnijjioaaGreat

namespace Go.Proofs.YtbkfildnijjioaaGreat
open Go.RowKit
structure LineD where
 th:Int
 at_:Int
 cd:Int
 er:Int
 now:Int
 run:List Int
 mis:List MissD
namespace R
def lineOf (s:RS) (n:Int):LineD :=
 if n=-1 then ⟨-1,0,0,tickE s,(tickS s).now,running (tickS s),tickL s⟩ else ⟨pickT s n,pickA s n,pickC s n,pickE s n,(pickS s n).now,running (pickS s n),[]⟩
def stTo (s:RS) (l:List Int):Nat->RS
 | 0=>s
 | k + 1=>R.entry (stTo s l k) (l.getD k 0)
def linesTo (s:RS) (l:List Int):Nat->List LineD
 | 0=>[]
 | k + 1=>linesTo s l k ++ [lineOf (stTo s l k) (l.getD k 0)]
def runE (S:SetD) (l:List Int):Int:=if 1000 < l.length then 9 else P3.err S
def runL (S:SetD) (l:List Int):List LineD:=if 1000 < l.length then [] else if P3.err S ≠ 0 then [] else linesTo (R.new S) l l.length
theorem linesTo_length (s:RS) (l:List Int) (k:Nat):(linesTo s l k).length=k:=by
 induction k with
 | zero=>rfl
 | succ k ih=>simp [linesTo,ih]
end R
theorem RInv.entry {s:RS} (h:RInv s) (n:Int) (hnx:s.next<=4611686018427386000):RInv (R.entry s n):=by
 unfold R.entry
 split
 ·unfold R.tickS
  split
  ·exact h
  ·exact h.tick (by have:=h.good.now2; omega) hnx
 ·exact h.pick n hnx
theorem stTo_inv {s:RS} (h:RInv s) (l:List Int) (k:Nat) (hs:s.next + 33 * k<=4611686018427386000):RInv (R.stTo s l k)/\(R.stTo s l k).next<=s.next + 33 * k:=by
 induction k with
 | zero=>exact ⟨h,by simp [R.stTo]⟩
 | succ k ih =>
  obtain ⟨i1,i2⟩:=ih (by omega)
  refine ⟨i1.entry _ (by omega),?_⟩
  have:=entry_next (R.stTo s l k) (l.getD k 0) i1
  show (R.entry _ _).next<=_
  omega
def lineCells (x:LineD) (rv mv:Value):List Value:=[.int .i64 x.th,.int .i64 x.at_,.int .i64 x.cd,.int .i64 x.er,.int .i64 x.now,rv,mv]
structure LineMem (B:Nat) (w:World) (Q:Nat->Prop) (x:LineD) (rv mv:Value):Prop where
 run:w.ownsRow B 3 1 rv x.run.length (intCells x.run)
 mis:w.ownsRow B 95 3 mv x.mis.length (missCells x.mis)
 nr:∀ b,rv.ownBlock=some b->¬ Q b
 nm:∀ b,mv.ownBlock=some b->¬ Q b
structure LRow (B:Nat) (w:World) (Q:Nat->Prop) (C:List Value) (L:List LineD):Prop where
 cells:∀ i (hi:i < L.length),∃ rv mv,LineMem B w Q L[i] rv mv/\∀ j,j < 7->C[i * 7 + j]?=(lineCells L[i] rv mv)[j]?
section
variable {B:Nat} {w w':World} {Q Q':Nat->Prop} {x:LineD} {rv mv:Value} {C C':List Value} {L:List LineD}
theorem LineMem.turn (m:LineMem B w Q x rv mv) (hs:∀ b,b < w.heap.size->¬ Q b->(Typ w b 3\/Typ w b 95)->w'.heap[b]?=w.heap[b]?) (hq:∀ b,Q' b->Q b\/w.heap.size<=b):LineMem B w' Q' x rv mv:=by
 have r1:∀ b,rv.ownBlock=some b->b < w.heap.size:=fun b hb=>(ownsRow_block m.run hb).2.1
 have m1:∀ b,mv.ownBlock=some b->b < w.heap.size:=fun b hb=>(ownsRow_block m.mis hb).2.1
 refine ⟨ownsRow_same m.run fun g hg=>hs g (r1 g hg) (m.nr g hg) (.inl (own_typ m.run hg)),ownsRow_same m.mis fun g hg=>hs g (m1 g hg) (m.nm g hg) (.inr (own_typ m.mis hg)),fun b hb hq'=>?_,fun b hb hq'=>?_⟩
 ·rcases hq b hq' with h | h
  ·exact m.nr b hb h
  ·have:=r1 b hb
   omega
 ·rcases hq b hq' with h | h
  ·exact m.nm b hb h
  ·have:=m1 b hb
   omega
theorem LRow.turn (m:LRow B w Q C L) (hs:∀ b,b < w.heap.size->¬ Q b->(Typ w b 3\/Typ w b 95)->w'.heap[b]?=w.heap[b]?) (hq:∀ b,Q' b->Q b\/w.heap.size<=b):LRow B w' Q' C L :=
 ⟨fun i hi=>by
  obtain ⟨rv,mv,h1,h2⟩:=m.cells i hi
  exact ⟨rv,mv,h1.turn hs hq,h2⟩⟩
theorem LRow.turns (m:LRow B w Q C L) (t:Turns Q w w') (hq:∀ b,Q' b->Q b\/w.heap.size<=b):LRow B w' Q' C L:=m.turn (fun b hb hn _=>t.block b hb hn) hq
theorem LRow.below (m:LRow B w Q C L) (hb:Below w.heap.size w w'):LRow B w' Q C L:=m.turn (fun b hl _ _=>hb.block b hl) (fun _ h=>.inl h)
theorem LRow.nil (B:Nat) (w:World) (Q:Nat->Prop) (C:List Value):LRow B w Q C []:=⟨fun i hi=>by simp at hi⟩
theorem LRow.snoc (m:LRow B w Q C L) (hm:LineMem B w Q x rv mv) (ho:∀ i,i < L.length->∀ j,j < 7->C'[i * 7 + j]?=C[i * 7 + j]?) (hx:∀ j,j < 7->C'[L.length * 7 + j]?=(lineCells x rv mv)[j]?):LRow B w Q C' (L ++ [x]):=by
 refine ⟨fun i hi=>?_⟩
 by_cases h:i < L.length
 ·obtain ⟨rv',mv',h1,h2⟩:=m.cells i h
  have e:(L ++ [x])[i]=L[i]:=List.getElem_append_left h
  rw [e]
  exact ⟨rv',mv',h1,fun j hj=>(ho i h j hj).trans (h2 j hj)⟩
 ·have e1:i=L.length:=by simp at hi; omega
  subst e1
  have e:(L ++ [x])[L.length]=x:=by simp
  rw [e]
  exact ⟨rv,mv,hm,hx⟩
end
theorem set7 (L:List Value) (k:Nat) (v0 v1 v2 v3 v4 v5 v6:Value) (hk:k * 7 + 6 < L.length) (i j:Nat) (hj:j < 7) :
  ((((((((L.set (k * 7) v0).set (k * 7 + 1) v1).set (k * 7 + 2) v2).set (k * 7 + 3) v3).set (k * 7 + 4) v4).set (k * 7 + 5) v5).set (k * 7 + 6) v6)[i * 7 + j]?)=if i=k then [v0,v1,v2,v3,v4,v5,v6][j]? else L[i * 7 + j]?:=by
 by_cases e:i=k
 ·subst e
  rw [if_pos rfl]
  have hcases:j=0\/j=1\/j=2\/j=3\/j=4\/j=5\/j=6:=by omega
  rcases hcases with rfl | rfl | rfl | rfl | rfl | rfl | rfl <;> simp [List.getElem?_set] <;> omega
 ·rw [if_neg e]
  have h:∀ m,m < 7->k * 7 + m ≠ i * 7 + j:=by omega
  have h0:k * 7 ≠ i * 7 + j:=h 0 (by omega)
  simp [h 1,h 2,h 3,h 4,h 5,h 6,h0]
def LDist (C:List Value) (n:Nat):Prop:=∀ i j p,i < n->j < n->i ≠ j->(p=5\/p=6)->∀ u u' g,C[i * 7 + p]?=some u->C[j * 7 + p]?=some u'->u.ownBlock=some g->u'.ownBlock ≠ some g
theorem LRow.old {B:Nat} {w:World} {Q:Nat->Prop} {C:List Value} {L:List LineD} (m:LRow B w Q C L) {i p:Nat} (hi:i < L.length) (hp:p=5\/p=6) {u:Value} (hu:C[i * 7 + p]?=some u) {g:Nat} (hg:u.ownBlock=some g):g < w.heap.size:=by
 obtain ⟨rv,mv,h1,h2⟩:=m.cells i hi
 rcases hp with rfl | rfl
 ·rw [h2 5 (by omega)] at hu
  cases hu
  exact (ownsRow_block h1.run hg).2.1
 ·rw [h2 6 (by omega)] at hu
  cases hu
  exact (ownsRow_block h1.mis hg).2.1
theorem LDist.snoc {C C':List Value} {n N:Nat} {x:LineD} {rv mv:Value} (h:LDist C n) (ho:∀ i,i < n->∀ j,j < 7->C'[i * 7 + j]?=C[i * 7 + j]?) (hx:∀ j,j < 7->C'[n * 7 + j]?=(lineCells x rv mv)[j]?) (hold:∀ i p u g,i < n->(p=5\/p=6)->C[i * 7 + p]?=some u->u.ownBlock=some g->g < N) (hr:∀ g,rv.ownBlock=some g->N<=g) (hm:∀ g,mv.ownBlock=some g->N<=g):LDist C' (n + 1):=by
 have new:∀ p u g,(p=5\/p=6)->C'[n * 7 + p]?=some u->u.ownBlock=some g->N<=g:=by
  rintro p u g (rfl | rfl) hu hg
  ·rw [hx 5 (by omega)] at hu
   cases hu
   exact hr g hg
  ·rw [hx 6 (by omega)] at hu
   cases hu
   exact hm g hg
 have old:∀ i p u g,i < n->(p=5\/p=6)->C'[i * 7 + p]?=some u->u.ownBlock=some g->g < N:=fun i p u g hi hp hu hg=>by
  rw [ho i hi p (by omega)] at hu
  exact hold i p u g hi hp hu hg
 intro i j p hi hj hne hp u u' g hu hu' hg hg'
 by_cases e1:i=n
 ·subst e1
  have a:=new p u g hp hu hg
  have b:=old j p u' g (by omega) hp hu' hg'
  omega
 ·by_cases e2:j=n
  ·subst e2
   have a:=new p u' g hp hu' hg'
   have b:=old i p u g (by omega) hp hu hg
   omega
  ·rw [ho i (by omega) p (by omega)] at hu
   rw [ho j (by omega) p (by omega)] at hu'
   exact h i j p (by omega) (by omega) hne hp u u' g hu hu' hg hg'
def RunOk (S:SetD) (l:List Int) (w:World) (e:Ending) (w':World):Prop :=
 ∃ v C,e=.returned (.tuple #[v,.int .i64 (R.runE S l)])/\w'.ownsRow w.heap.size 75 7 v (R.runL S l).length C/\LRow w.heap.size w' (fun _=>False) C (R.runL S l)/\Below w.heap.size w w'
def RunOkD (S:SetD) (l:List Int) (w:World) (e:Ending) (w':World):Prop :=
 ∃ v C,e=.returned (.tuple #[v,.int .i64 (R.runE S l)])/\w'.ownsRow w.heap.size 75 7 v (R.runL S l).length C/\LRow w.heap.size w' (fun _=>False) C (R.runL S l)/\LDist C (R.runL S l).length/\Below w.heap.size w w'
def CRun:Prop:=∀ (tv mv sv qv:Option Addr) (tc mc sc qc:Nat) (S:SetD) (w:World),SetIn w.heap.size w tv mv sv qv S->Fits S->((tv=none->tc=0)/\(mv=none->mc=0)/\(sv=none->sc=0)/\(qv=none->qc=0))->∀ (av:Option Addr) (ac:Nat) (l:List Int),IntsIn w.heap.size w av l->l.length<=9223372036854775807 ->
 Calls Tryz.prog 16 #[.agg #[.int .i64 S.workers,.int .i64 S.start,.slice tv S.threads.length tc,.slice mv S.mutexes.length mc,.slice sv S.sems.length sc,.slice qv S.queues.length qc],.slice av l.length ac] w fun e w'=>RunOkD S l w e w'
theorem runL_long {S:SetD} {l:List Int} (h:1000 < l.length):R.runL S l=[]/\R.runE S l=9:=by
 unfold R.runL R.runE
 rw [if_pos h,if_pos h]
 exact ⟨rfl,rfl⟩
theorem runL_bad {S:SetD} {l:List Int} (h:¬ 1000 < l.length) (he:P3.err S ≠ 0):R.runL S l=[]/\R.runE S l=P3.err S:=by
 unfold R.runL R.runE
 rw [if_neg h,if_neg h,if_pos he]
 exact ⟨rfl,rfl⟩
theorem runL_ok {S:SetD} {l:List Int} (h:¬ 1000 < l.length) (he:P3.err S=0):R.runL S l=R.linesTo (R.new S) l l.length/\R.runE S l=0:=by
 unfold R.runL R.runE
 rw [if_neg h,if_neg h,if_neg (fun hh=>hh he)]
 exact ⟨rfl,he⟩
end Go.Proofs.YtbkfildnijjioaaGreat
