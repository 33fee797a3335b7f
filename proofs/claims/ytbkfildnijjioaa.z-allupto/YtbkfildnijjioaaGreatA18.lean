import Derived.Test.YtbkfildnijjioaaGreatA08
import Derived.Test.YtbkfildnijjioaaGreatA17
import Derived.Deep.RegionHeld3
import Derived.Test.YtbkfildnijjioaaGreatA15
namespace Go.Proofs.YtbkfildnijjioaaGreat
open Go.RowKit
theorem RMem.boxCell {F:Nat->Prop} {w:World} {sb:Nat} {h:RH} {s:RS} (m:RMem F w sb h s) {g cap k:Nat} {v:Value} (hv:h.vB=.slice (some ⟨g,0,none⟩) s.box.length cap) (hb:h.bs[k]?=some v):w.cell? ⟨g,k,none⟩=some v:=by
 have h1:=m.oth.box.1
 rw [hv] at h1
 have hk:k < h.bs.length:=by
  rcases Nat.lt_or_ge k h.bs.length with h' | h'
  ·exact h'
  ·rw [List.getElem?_eq_none h'] at hb; cases hb
 rw [h1.cellAt k (by have:=h1.1; omega)]
 exact hb
theorem RMem.boxFrozen {F:Nat->Prop} {w:World} {sb:Nat} {h:RH} {s:RS} (m:RMem F w sb h s) {g cap k:Nat} (hv:h.vB=.slice (some ⟨g,0,none⟩) s.box.length cap):w.frozen? ⟨g,k,none⟩=false:=by
 have h1:=m.oth.box.1
 rw [hv] at h1
 exact h1.frozenAt k
set_option linter.unusedSimpArgs false in
set_option maxRecDepth 100000 in
set_option maxHeartbeats 2000000 in
theorem rSend_any (F:Nat->Prop) (w:World) (sb:Nat) (h:RH) (s:RS) (m:RMem F w sb h s) (ap:RApart F h) (g:RGood s) (t:Nat) (k:Nat) (hk:k < s.box.length) (hcs:s.box.length=s.set.queues.length)
  (hcb:s.box[k].length<=8) (n:Int) (hnx:s.next<=4611686018427386000) :
  Calls Tryz.prog 119 #[.pointer (some ⟨sb,0,none⟩),.int .i64 t,.agg #[.int .i64 10,.int .i64 k,.int .i64 n]] w fun e w'=>e=.returned (.int .i64 (R.sendC s k))/\∃ h',RMem F w' sb h' (R.sendS s k n)/\RApart F h'/\RNext h h' w.heap.size/\Only (sb :: h.foot) w w':=by
 have hfew:=g.few
 have hn0:=g.nxt0
 have hkq:k < s.set.queues.length:=by omega
 have eg:R.boxAt s k=s.box[k]:=by simp [R.boxAt,List.getD,hk]
 have eq:s.set.queues.getD k 0=s.set.queues[k]:=by simp [List.getD,hkq]
 have EC:Hid (R.sendC s k=if 0<=R.giveT s 3 (k:Int) then 0 else if ((R.boxAt s k).length:Int)=s.set.queues.getD k 0 then 7 else 0):=rfl
 have ESS:Hid (R.sendS s k n=if 0<=R.giveT s 3 (k:Int) then R.gets (R.giveS s 3 (k:Int)) (R.giveT s 3 (k:Int)).toNat n else if ((R.boxAt s k).length:Int)=s.set.queues.getD k 0 then s else { s with box:=s.box.set k (R.boxAt s k ++ [n]) }):=rfl
 rw [eg,eq] at EC ESS
 clear eg eq
 obtain ⟨hgb0,hgb1⟩:=R.firstTo_bd s 3 (k:Int) [] s.T.length
 have hgT:R.firstTo s 3 (k:Int) [] s.T.length=R.giveT s 3 (k:Int):=rfl
 rw [hgT] at hgb0 hgb1
 clear hgT
 have hglen:=(giveS_parts s 3 (k:Int)).2.2.2.1
 have MA:=hid (m.below ((Below.refl _ _).alloc (Nat.le_refl _) (.cells #[.int .i64 10,.int .i64 k,.int .i64 n] 61)))
 have OA:Hid (Only (sb :: h.foot) w (w.alloc (.cells #[.int .i64 10,.int .i64 k,.int .i64 n] 61))):=Only.of_below ((Below.refl _ _).alloc (Nat.le_refl _) _)
 have BA:Hid (Blk (w.alloc (.cells #[.int .i64 10,.int .i64 k,.int .i64 n] 61)) w.heap.size #[.int .i64 10,.int .i64 k,.int .i64 n] 61):=Blk.new _ _ _
 have hne1:w.heap.size ≠ sb:=by have:=m.blk.lt; omega
 have hne2:w.heap.size ≠ h.gT:=by have:=m.gT_lt; omega
 have NE:=hid (And.intro hne1 hne2)
 clear hne1 hne2
 have G:=hid g
 have AP:=hid ap
 generalize hbox:s.box[k]=B at *
 have HBOX:=hid hbox
 generalize hqk:s.set.queues[k]=qk at *
 have HQK:=hid hqk
 have HGS:Hid (R.giveT s 3 (k:Int) < 0->R.giveS s 3 (k:Int)=s):=by
  intro hh
  unfold R.giveS
  rw [if_neg (by omega)]
 clear hbox m g ap hqk
 generalize R.sendC s k=uc at *
 generalize R.sendS s k n=us at *
 have hkI:(k:Int) < (s.box.length:Int):=by omega
 have hkI2:(k:Int) < (s.set.queues.length:Int):=by omega
 go_enter Tryz.func119,Tryz.ntmps119
 go_upto_region 1 with fail
 generalize hwA:w.alloc (.cells #[.int .i64 10,.int .i64 k,.int .i64 n] 61)=wA at *
 have hszA:w.heap.size < wA.heap.size:=by rw [<- hwA]; simp
 clear hwA
 have b0:=BA.out.cell 0
 have b1:=BA.out.cell 1
 simp at b0 b1
 obtain ⟨gB,cB,v,hvB,hbs,xk,fk,hrow⟩:=MA.out.boxAt hk
 rw [HBOX.out] at hrow
 have c11:=MA.out.blk.cell 11
 simp [rsCells] at c11
 rw [hvB] at c11
 have HVB:=hid hvB
 have HBS:=hid hbs
 obtain ⟨ao,cq,rfl,hqn,hqa⟩:=owns_cells hrow
 clear hvB hbs hrow hqn hqa
 go_wp2_with fail
 go_quiet (fail)
 go_wp2_with fail
 refine (rGive_any F _ sb h s (MA.out.drewN nq) G.out 3 k (by omega)).mono ?_
 rintro e wB ⟨rfl,hmB,hoB⟩
 have MB:=hid hmB
 have OB:=hid ((OA.out.drewN nq).trans (hoB.mono (RH.foot_two h sb)))
 have BB:=hid ((show Blk (wA.drewN nq) w.heap.size #[.int .i64 10,.int .i64 k,.int .i64 n] 61 from BA.out).only hoB (by simp; exact ⟨NE.out.1,NE.out.2⟩))
 have hszB:w.heap.size < wB.heap.size:=Nat.lt_of_lt_of_le hszA hoB.size
 clear hmB hoB b0 b1 BA MA OA xk fk c11
 generalize R.giveT s 3 (k:Int)=gt at *
 have b1:=BB.out.cell 1
 have b2:=BB.out.cell 2
 simp at b1 b2
 by_cases hgp:0<=gt
 ·rw [if_pos hgp] at EC ESS
  obtain ⟨u,rfl⟩:=Int.eq_ofNat_of_zero_le hgp
  have hu:u < (R.giveS s 3 (k:Int)).T.length:=by rw [hglen]; omega
  have hud:decide ((0:Int)<=(u:Int))=true:=by simp
  have c8:=MB.out.blk.cell 8
  simp [rsCells] at c8
  have a3:=MB.out.tcell hu 3 (by decide)
  simp [rtCells] at a3
  have f3:=MB.out.tfrozen (u * 13 + 3)
  have huI:(u:Int) < ((R.giveS s 3 (k:Int)).T.length:Int):=by omega
  go_wp2_with fail
  go_region
  go_wp2
  go_ret
  have hmC:=(MB.out.setT hu (j:=3) (by decide) (.int .i64 n) (fun x=>{ x with got:=n }) rfl).below (Below.refl _ _).drew
  refine ⟨?_,h,?_,AP.out,RNext.refl _ _,?_⟩
  ·rw [EC.out]
   rfl
  ·rw [ESS.out]
   exact hmC
  ·exact (Only.setCell OB.out (.inl (by simp [RH.foot])) _).via (Below.refl _ _).drew
 ·rw [if_neg hgp] at EC ESS
  rw [HGS.out (by omega)] at MB
  obtain ⟨gB2,cB2,v2,hvB2,hbs2,xk2,fk2,hrow2⟩:=MB.out.boxAt (k:=k) hk
  have e2:=hvB2
  rw [HVB.out] at e2
  simp at e2
  obtain ⟨e3,e4⟩:=e2
  subst e3
  subst e4
  have e5:=hbs2
  rw [HBS.out] at e5
  cases e5
  rw [HBOX.out] at hrow2
  have ROW2:=hid hrow2
  have c11:=MB.out.blk.cell 11
  have c5:=MB.out.blk.cell 5
  simp [rsCells] at c11 c5
  rw [HVB.out] at c11
  obtain ⟨mb,mo,hma,hmb,hmx⟩:=MB.out.set.queues k hkq
  rw [HQK.out] at hmx
  rw [hma] at c5
  clear hvB2 hbs2 hrow2 hma hmb HGS
  cases hfull:((B.length:Int) == qk)
  ·rw [if_neg (by simpa using hfull)] at EC ESS
   go_wp2_with fail
   go_quiet (fail)
   generalize hwC:wB.drewN nq=wC at *
   have MC:Hid (RMem F wC sb h s):=by rw [<- hwC]; exact MB.out.drewN nq
   have OC:Hid (Only (sb :: h.foot) w wC):=by rw [<- hwC]; exact OB.out.drewN nq
   have b1':wC.cell? ⟨w.heap.size,1,none⟩=some (.int .i64 k):=by rw [<- hwC]; exact b1
   have b2':wC.cell? ⟨w.heap.size,2,none⟩=some (.int .i64 n):=by rw [<- hwC]; exact b2
   have c11':wC.cell? ⟨sb,11,none⟩=some (.slice (some ⟨gB,0,none⟩) s.box.length cB):=by rw [<- hwC]; exact c11
   have xk':wC.cell? ⟨gB,k,none⟩=some (.slice ao B.length cq):=by rw [<- hwC]; exact xk2
   have fk':wC.frozen? ⟨gB,k,none⟩=false:=by rw [<- hwC]; exact fk2
   have ROWC:Hid (wC.ownsRow 0 3 1 (.slice ao B.length cq) B.length (intCells B)):=by rw [<- hwC]; exact ROW2.out
   have hszC:w.heap.size < wC.heap.size:=by rw [<- hwC]; exact hszB
   have BC:Hid (Blk wC w.heap.size #[.int .i64 10,.int .i64 k,.int .i64 n] 61):=by rw [<- hwC]; exact BB.out
   clear hwC b1 b2 c11 c5 xk2 fk2 MB OB BB ROW2 hmx
   obtain ⟨i3,hi3,hz30,hz31,hz32⟩:=info_parts Tryz.infoInt
   have HI3:=hid (And.intro hi3 (And.intro hz30 (And.intro hz31 hz32)))
   clear hi3 hz30 hz31 hz32
   have hgBl:gB < wC.heap.size:=(ownsRow_block MC.out.oth.box.1 (by rw [HVB.out]; rfl)).2.1
   have hsbl:sb < wC.heap.size:=MC.out.blk.lt
   have hgBn:(Value.slice ao B.length cq).ownBlock ≠ some gB:=by
    intro e
    obtain ⟨_,_,cur,hc⟩:=ownsRow_block ROWC.out e
    obtain ⟨_,_,cur',hc'⟩:=ownsRow_block MC.out.oth.box.1 (by rw [HVB.out]; rfl)
    rw [hc] at hc'
    cases hc'
   have HGN:=hid hgBn
   have hgIn:(Value.slice ao B.length cq).ownBlock ≠ some w.heap.size:=by
    intro e
    obtain ⟨_,_,cur,hc⟩:=ownsRow_block ROWC.out e
    have hb:=BC.out
    unfold Blk at hb
    rw [hb] at hc
    cases hc
   have HIN:=hid hgIn
   have hgSn:(Value.slice ao B.length cq).ownBlock ≠ some sb:=by
    intro e
    obtain ⟨_,_,cur,hc⟩:=ownsRow_block ROWC.out e
    exact absurd (blk_type MC.out.blk hc) (by decide)
   have HSN:=hid hgSn
   clear hgIn hgSn
   have MD:=hid (MC.out.below (((Below.refl _ _).drew).alloc (Nat.le_refl _) (.cells #[.int .i64 n] 3)))
   have OD:=hid (OC.out.via (((Below.refl _ _).drew).alloc (Nat.le_refl _) (.cells #[.int .i64 n] 3)))
   have ROWD:Hid ((wC.drew.alloc (.cells #[.int .i64 n] 3)).ownsRow 0 3 1 (.slice ao B.length cq) B.length (intCells B)):=ROWC.out.drew.alloc _
   clear hgBn
   go_wp2_with fail
   have hgBnb:gB ≠ w.heap.size:=by
    intro e
    obtain ⟨_,_,cur,hc⟩:=ownsRow_block MC.out.oth.box.1 (by rw [HVB.out]; rfl)
    have hb:=BC.out
    unfold Blk at hb
    rw [e,hb] at hc
    cases hc
   have hgBs:gB ≠ sb:=by
    intro e
    obtain ⟨_,_,cur,hc⟩:=ownsRow_block MC.out.oth.box.1 (by rw [HVB.out]; rfl)
    rw [e] at hc
    exact absurd (blk_type MC.out.blk hc) (by decide)
   have hgBnb':=hgBnb.symm
   have hgBs':=hgBs.symm
   have ka1:(wC.alloc (.cells #[.int .i64 n] 3)).cell? ⟨sb,11,none⟩=some (.slice (some ⟨gB,0,none⟩) s.box.length cB):=by
    rw [((Below.refl _ _).alloc (Nat.le_refl _) _).cell (p:=⟨sb,11,none⟩) hsbl]; exact c11'
   have ka2:(wC.alloc (.cells #[.int .i64 n] 3)).cell? ⟨w.heap.size,1,none⟩=some (.int .i64 k):=by
    rw [((Below.refl _ _).alloc (Nat.le_refl _) _).cell (p:=⟨w.heap.size,1,none⟩) hszC]; exact b1'
   have ka3:(wC.alloc (.cells #[.int .i64 n] 3)).cell? ⟨w.heap.size,2,none⟩=some (.int .i64 n):=by
    rw [((Below.refl _ _).alloc (Nat.le_refl _) _).cell (p:=⟨w.heap.size,2,none⟩) hszC]; exact b2'
   have ka4:(wC.alloc (.cells #[.int .i64 n] 3)).cell? ⟨gB,k,none⟩=some (.slice ao B.length cq):=by
    rw [((Below.refl _ _).alloc (Nat.le_refl _) _).cell (p:=⟨gB,k,none⟩) hgBl]; exact xk'
   refine wp_region_held_drew (S:=(fun w'=>w'.cell? ⟨sb,11,none⟩=some (.slice (some ⟨gB,0,none⟩) s.box.length cB)/\w'.cell? ⟨w.heap.size,1,none⟩=some (.int .i64 k)/\w'.cell? ⟨w.heap.size,2,none⟩=some (.int .i64 n))) (by kernel_rfl) ?_ (fun hHeld=>?_)
   ·exact ⟨c11',b1',b2'⟩
   (refine wpAnyH_take (i:=0) (v:=?_) rfl (by kernel_rfl) (by kernel_rfl) (by kernel_rfl) (fun _ _ _ h=>h) (Or.inl ⟨by rfl,?_⟩) (by assumption) ?_; rotate_left 1; (intro w hSw; (try dsimp only at hSw); go_simp); (try with_reducible rfl); (try simp only [Act.put,List.setIfInBounds_toArray,List.set_cons_zero,List.set_cons_succ]))
   (refine wpAnyH_take (i:=1) (v:=?_) rfl (by kernel_rfl) (by kernel_rfl) (by kernel_rfl) (fun _ _ _ h=>h) (Or.inl ⟨by rfl,?_⟩) (by assumption) ?_; rotate_left 1; (intro w hSw; (try dsimp only at hSw); go_simp); (try with_reducible rfl); (try simp only [Act.put,List.setIfInBounds_toArray,List.set_cons_zero,List.set_cons_succ]))
   (refine wpAnyH_take (i:=2) (v:=?_) rfl (by kernel_rfl) (by kernel_rfl) (by kernel_rfl) (fun _ _ _ h=>h) (Or.inl ⟨by rfl,?_⟩) (by assumption) ?_; rotate_left 1; (intro w hSw; (try dsimp only at hSw); go_simp); (try with_reducible rfl); (try simp only [Act.put,List.setIfInBounds_toArray,List.set_cons_zero,List.set_cons_succ]))
   (refine wpAnyH_take (i:=3) (v:=?_) rfl (by kernel_rfl) (by kernel_rfl) (by kernel_rfl) (fun _ _ _ h=>h) (Or.inl ⟨by rfl,?_⟩) (by assumption) ?_; rotate_left 1; (intro w hSw; (try dsimp only at hSw); go_simp); (try with_reducible rfl); (try simp only [Act.put,List.setIfInBounds_toArray,List.set_cons_zero,List.set_cons_succ]))
   (refine wpAnyH_take (i:=4) (v:=?_) rfl (by kernel_rfl) (by kernel_rfl) (by kernel_rfl) (fun _ _ _ h=>h) (Or.inl ⟨by rfl,?_⟩) (by assumption) ?_; rotate_left 1; (intro w hSw; (try dsimp only at hSw); go_simp); (try with_reducible rfl); (try simp only [Act.put,List.setIfInBounds_toArray,List.set_cons_zero,List.set_cons_succ]))
   (refine wpAnyH_take (i:=5) (v:=?_) rfl (by kernel_rfl) (by kernel_rfl) (by kernel_rfl) (fun _ _ _ h=>h) (Or.inl ⟨by rfl,?_⟩) (by assumption) ?_; rotate_left 1; (intro w hSw; (try dsimp only at hSw); go_simp); (try with_reducible rfl); (try simp only [Act.put,List.setIfInBounds_toArray,List.set_cons_zero,List.set_cons_succ]))
   (refine wpAnyH_take (i:=6) (v:=?_) rfl (by kernel_rfl) (by kernel_rfl) (by kernel_rfl) (fun _ _ _ h=>h) (Or.inl ⟨by rfl,?_⟩) (by assumption) ?_; rotate_left 1; (intro w hSw; (try dsimp only at hSw); go_simp); (try with_reducible rfl); (try simp only [Act.put,List.setIfInBounds_toArray,List.set_cons_zero,List.set_cons_succ]))
   (refine wpAnyH_take (i:=7) (v:=?_) rfl (by kernel_rfl) (by kernel_rfl) (by kernel_rfl) (fun _ _ _ h=>h) (Or.inl ⟨by rfl,?_⟩) (by assumption) ?_; rotate_left 1; (intro w hSw; (try dsimp only at hSw); go_simp); (try with_reducible rfl); (try simp only [Act.put,List.setIfInBounds_toArray,List.set_cons_zero,List.set_cons_succ]))
   (refine wpAnyH_take (i:=8) (v:=?_) rfl (by kernel_rfl) (by kernel_rfl) (by kernel_rfl) (fun _ _ _ h=>h) (Or.inl ⟨by rfl,?_⟩) (by assumption) ?_; rotate_left 1; (intro w hSw; (try dsimp only at hSw); go_simp); (try with_reducible rfl); (try simp only [Act.put,List.setIfInBounds_toArray,List.set_cons_zero,List.set_cons_succ]))
   (refine wpAnyH_take (i:=9) (v:=?_) rfl (by kernel_rfl) (by kernel_rfl) (by kernel_rfl) (fun _ _ _ h=>h) (Or.inl ⟨by rfl,?_⟩) (by assumption) ?_; rotate_left 1; (intro w hSw; (try dsimp only at hSw); go_simp); (try with_reducible rfl); (try simp only [Act.put,List.setIfInBounds_toArray,List.set_cons_zero,List.set_cons_succ]))
   (refine wpAnyH_take (i:=10) (v:=?_) rfl (by kernel_rfl) (by kernel_rfl) (by kernel_rfl) (fun _ _ _ h=>h) (Or.inl ⟨by rfl,?_⟩) (by assumption) ?_; rotate_left 1; (intro w hSw; (try dsimp only at hSw); go_simp); (try with_reducible rfl); (try simp only [Act.put,List.setIfInBounds_toArray,List.set_cons_zero,List.set_cons_succ]))
   (refine wpAnyH_take (i:=11) (v:=?_) rfl (by kernel_rfl) (by kernel_rfl) (by kernel_rfl) (fun _ _ _ h=>h) (Or.inl ⟨by rfl,?_⟩) (by assumption) ?_; rotate_left 1; (intro w hSw; (try dsimp only at hSw); go_simp); (try with_reducible rfl); (try simp only [Act.put,List.setIfInBounds_toArray,List.set_cons_zero,List.set_cons_succ]))
   (refine wpAnyH_take (i:=12) (v:=?_) rfl (by kernel_rfl) (by kernel_rfl) (by kernel_rfl) (fun _ _ _ h=>h) (Or.inl ⟨by rfl,?_⟩) (by assumption) ?_; rotate_left 1; (intro w hSw; (try dsimp only at hSw); go_simp); (try with_reducible rfl); (try simp only [Act.put,List.setIfInBounds_toArray,List.set_cons_zero,List.set_cons_succ]))
   (refine wpAnyH_take (i:=14) (v:=?_) rfl (by kernel_rfl) (by kernel_rfl) (by kernel_rfl) (fun _ _ _ h=>h) (Or.inl ⟨by rfl,?_⟩) (by assumption) ?_; rotate_left 1; (intro w hSw; (try dsimp only at hSw); go_simp); (try with_reducible rfl); (try simp only [Act.put,List.setIfInBounds_toArray,List.set_cons_zero,List.set_cons_succ]))
   (refine wpAnyH_take (i:=15) (v:=?_) rfl (by kernel_rfl) (by kernel_rfl) (by kernel_rfl) (fun _ _ _ h=>h) (Or.inl ⟨by rfl,?_⟩) (by assumption) ?_; rotate_left 1; (intro w hSw; (try dsimp only at hSw); go_simp); (try with_reducible rfl); (try simp only [Act.put,List.setIfInBounds_toArray,List.set_cons_zero,List.set_cons_succ]))
   refine wpAnyH_ready (rs:=[13,16]) (by kernel_rfl) (by simp) ?_
   refine AllReadyH.cons (i:=13) rfl (fun K hK=>?_) (AllReadyH.cons (i:=16) rfl (fun K hK=>?_) AllReadyH.nil)
   ·go_simp
    refine hK.out _ _ ?_ (fun hHeld=>?_)
    ·exact ⟨c11',b1',b2'⟩
    clear hK K
    try simp only [Act.put,List.setIfInBounds_toArray,List.set_cons_zero,List.set_cons_succ]
    refine wpAnyH_ready (rs:=[16]) (by kernel_rfl) (by simp) ?_
    refine AllReadyH.cons (i:=16) rfl (fun K hK=>?_) AllReadyH.nil
    go_simp
    refine hK.out _ _ ?_ (fun hHeld=>?_)
    ·exact ⟨ka1,ka2,ka3⟩
    clear hK K
    try simp only [Act.put,List.setIfInBounds_toArray,List.set_cons_zero,List.set_cons_succ]
    refine wpAnyH_ready (rs:=[17]) (by kernel_rfl) (by simp) ?_
    refine AllReadyH.cons (i:=17) rfl (fun K hK=>?_) AllReadyH.nil
    refine step_append_own_at rfl (.tmp 96) (.tmp 99) 25 rfl 0 3 i3 (.int .i64 0) 1 8 Tryz.underlying25 HI3.out.1 HI3.out.2.1 HI3.out.2.2.1 HI3.out.2.2.2 rfl (by decide) (.slice ao B.length cq) B.length (intCells B) (by simp [Act.eval]) ROWD.out ⟨wC.heap.size,0,none⟩ 1 1 [.int .i64 n] (by simp [Act.eval]) rfl (fun j u hj=>(by rw [Addr.add_lit,Nat.zero_add]; exact ((Blk.new wC.drew #[.int .i64 n] 3).cell j).trans (by simpa using hj))) (by intro u hu; simp at hu; subst hu; rfl) (by unfold maxLen; omega) (by omega) (Nat.zero_le _) ?_; intro v' w5 hown5 hg5 hat5; obtain ⟨tv5,tc5,rfl,_,_⟩:=owns_cells hown5; have z5:w5.frozen? ⟨gB,k,none⟩=false:=(by rw [World.frozen?_of_block (hg5.block gB (by simp; omega) (fun e=>HGN.out e.symm))]; exact MD.out.boxFrozen HVB.out); have y5:w5.cell? ⟨gB,k,none⟩=some (.slice ao B.length cq):=(by rw [World.cell?_of_block (hg5.block gB (by simp; omega) (fun e=>HGN.out e.symm))]; exact MD.out.boxCell HVB.out HBS.out); have x5:w5.cell? ⟨w.heap.size,1,none⟩=some (.int .i64 k):=(by rw [World.cell?_of_block (hg5.block w.heap.size (by simp; omega) (fun e=>HIN.out e.symm))]; exact ((BC.out.alloc _).cell 1)); have s5:w5.cell? ⟨sb,11,none⟩=some (.slice (some ⟨gB,0,none⟩) s.box.length cB):=(by rw [World.cell?_of_block (hg5.block sb (by simp; omega) (fun e=>HSN.out e.symm))]; exact ((MD.out.blk.cell 11).trans (by simp [rsCells]; exact HVB.out))); have t5:w5.cell? ⟨w.heap.size,2,none⟩=some (.int .i64 n):=(by rw [World.cell?_of_block (hg5.block w.heap.size (by simp; omega) (fun e=>HIN.out e.symm))]; exact ((BC.out.alloc _).cell 2)); have O5:=hid hown5; have G5:=hid hg5; have A5:=hid hat5; clear hown5 hg5 hat5
    refine hK.out _ _ ?_ (fun hHeld=>?_)
    ·exact ⟨s5,x5,t5⟩
    clear hK K
    try simp only [Act.put,List.setIfInBounds_toArray,List.set_cons_zero,List.set_cons_succ]
    (refine wpAnyH_take (i:=18) (v:=?_) rfl (by kernel_rfl) (by kernel_rfl) (by kernel_rfl) (fun _ _ _ h=>h) (Or.inl ⟨by rfl,?_⟩) (by assumption) ?_; rotate_left 1; (intro w hSw; (try dsimp only at hSw); go_simp); (try with_reducible rfl); (try simp only [Act.put,List.setIfInBounds_toArray,List.set_cons_zero,List.set_cons_succ]))
    refine wpAnyH_ready (rs:=[19]) (by kernel_rfl) (by simp) ?_
    refine AllReadyH.cons (i:=19) rfl (fun K hK=>?_) AllReadyH.nil
    go_simp
    refine hK.out _ _ ?_ (fun hHeld=>?_)
    ·exact ⟨(World.cell?_of_block (Below.heap_setCell _ _ _ _ hgBs')).trans s5,(World.cell?_of_block (Below.heap_setCell _ _ _ _ hgBnb')).trans x5,(World.cell?_of_block (Below.heap_setCell _ _ _ _ hgBnb')).trans t5⟩
    clear hK K
    try simp only [Act.put,List.setIfInBounds_toArray,List.set_cons_zero,List.set_cons_succ]
    refine wpAnyH_done (by kernel_rfl) ?_ _
    go_wp2
    go_ret
    have hr5:w5.ownsRow 0 3 1 (.slice tv5 (B.length + 1) tc5) (B ++ [n]).length (intCells (B ++ [n])):=by
     rw [intCells_append,List.length_append]
     exact O5.out
    have hm2:=MD.out.setBox AP.out HVB.out hk HBS.out (.inr rfl) G5.out hr5 (by rw [HBOX.out]; exact ROWD.out)
    have hat:∀ b,(Value.slice tv5 (B.length + 1) tc5).ownBlock=some b->(Value.slice ao B.length cq).ownBlock=some b\/(wC.drew.alloc (.cells #[.int .i64 n] 3)).heap.size<=b:=by
     intro b hb
     rcases A5.out with e | e
     ·rw [e] at hb
      exact .inl hb
     ·rw [e] at hb
      cases hb
      exact .inr (Nat.le_refl _)
    refine ⟨?_,_,?_,AP.out.setBox HBS.out MD.out.lt MD.out.lts.1 MD.out.lts.2.1 MD.out.lts.2.2 hat,RNext.setBox HBS.out (fun b hb=>(hat b hb).imp id (fun h1=>by simp at h1; omega)),?_⟩
    ·rw [EC.out]
     rfl
    ·rw [ESS.out]
     exact hm2
    ·refine Only.setCell ⟨G5.out.os.trans OD.out.os,G5.out.tape.trans OD.out.tape,G5.out.output.trans OD.out.output,Nat.le_trans OD.out.size G5.out.size,fun b hb hc=>?_⟩ (.inl ?_) _
     ·refine (G5.out.block b (Nat.lt_of_lt_of_le hb OD.out.size) (fun e=>hc ?_)).trans (OD.out.block b hb hc)
      simp only [RH.foot,List.mem_cons,List.mem_append,List.mem_flatMap,Option.mem_toList]
      exact .inr (.inr (.inr ⟨_,List.mem_of_getElem? HBS.out,e.symm⟩))
     ·rw [RH.foot,HVB.out]
      simp [Value.ownBlock]
   ·go_simp
    refine hK.out _ _ ?_ (fun hHeld=>?_)
    ·exact ⟨ka1,ka2,ka3⟩
    clear hK K
    try simp only [Act.put,List.setIfInBounds_toArray,List.set_cons_zero,List.set_cons_succ]
    refine wpAnyH_ready (rs:=[13]) (by kernel_rfl) (by simp) ?_
    refine AllReadyH.cons (i:=13) rfl (fun K hK=>?_) AllReadyH.nil
    go_simp
    refine hK.out _ _ ?_ (fun hHeld=>?_)
    ·exact ⟨ka1,ka2,ka3⟩
    clear hK K
    try simp only [Act.put,List.setIfInBounds_toArray,List.set_cons_zero,List.set_cons_succ]
    refine wpAnyH_ready (rs:=[17]) (by kernel_rfl) (by simp) ?_
    refine AllReadyH.cons (i:=17) rfl (fun K hK=>?_) AllReadyH.nil
    refine step_append_own_at rfl (.tmp 96) (.tmp 99) 25 rfl 0 3 i3 (.int .i64 0) 1 8 Tryz.underlying25 HI3.out.1 HI3.out.2.1 HI3.out.2.2.1 HI3.out.2.2.2 rfl (by decide) (.slice ao B.length cq) B.length (intCells B) (by simp [Act.eval]) ROWD.out ⟨wC.heap.size,0,none⟩ 1 1 [.int .i64 n] (by simp [Act.eval]) rfl (fun j u hj=>(by rw [Addr.add_lit,Nat.zero_add]; exact ((Blk.new wC.drew #[.int .i64 n] 3).cell j).trans (by simpa using hj))) (by intro u hu; simp at hu; subst hu; rfl) (by unfold maxLen; omega) (by omega) (Nat.zero_le _) ?_; intro v' w5 hown5 hg5 hat5; obtain ⟨tv5,tc5,rfl,_,_⟩:=owns_cells hown5; have z5:w5.frozen? ⟨gB,k,none⟩=false:=(by rw [World.frozen?_of_block (hg5.block gB (by simp; omega) (fun e=>HGN.out e.symm))]; exact MD.out.boxFrozen HVB.out); have y5:w5.cell? ⟨gB,k,none⟩=some (.slice ao B.length cq):=(by rw [World.cell?_of_block (hg5.block gB (by simp; omega) (fun e=>HGN.out e.symm))]; exact MD.out.boxCell HVB.out HBS.out); have x5:w5.cell? ⟨w.heap.size,1,none⟩=some (.int .i64 k):=(by rw [World.cell?_of_block (hg5.block w.heap.size (by simp; omega) (fun e=>HIN.out e.symm))]; exact ((BC.out.alloc _).cell 1)); have s5:w5.cell? ⟨sb,11,none⟩=some (.slice (some ⟨gB,0,none⟩) s.box.length cB):=(by rw [World.cell?_of_block (hg5.block sb (by simp; omega) (fun e=>HSN.out e.symm))]; exact ((MD.out.blk.cell 11).trans (by simp [rsCells]; exact HVB.out))); have t5:w5.cell? ⟨w.heap.size,2,none⟩=some (.int .i64 n):=(by rw [World.cell?_of_block (hg5.block w.heap.size (by simp; omega) (fun e=>HIN.out e.symm))]; exact ((BC.out.alloc _).cell 2)); have O5:=hid hown5; have G5:=hid hg5; have A5:=hid hat5; clear hown5 hg5 hat5
    refine hK.out _ _ ?_ (fun hHeld=>?_)
    ·exact ⟨s5,x5,t5⟩
    clear hK K
    try simp only [Act.put,List.setIfInBounds_toArray,List.set_cons_zero,List.set_cons_succ]
    (refine wpAnyH_take (i:=18) (v:=?_) rfl (by kernel_rfl) (by kernel_rfl) (by kernel_rfl) (fun _ _ _ h=>h) (Or.inl ⟨by rfl,?_⟩) (by assumption) ?_; rotate_left 1; (intro w hSw; (try dsimp only at hSw); go_simp); (try with_reducible rfl); (try simp only [Act.put,List.setIfInBounds_toArray,List.set_cons_zero,List.set_cons_succ]))
    refine wpAnyH_ready (rs:=[19]) (by kernel_rfl) (by simp) ?_
    refine AllReadyH.cons (i:=19) rfl (fun K hK=>?_) AllReadyH.nil
    go_simp
    refine hK.out _ _ ?_ (fun hHeld=>?_)
    ·exact ⟨(World.cell?_of_block (Below.heap_setCell _ _ _ _ hgBs')).trans s5,(World.cell?_of_block (Below.heap_setCell _ _ _ _ hgBnb')).trans x5,(World.cell?_of_block (Below.heap_setCell _ _ _ _ hgBnb')).trans t5⟩
    clear hK K
    try simp only [Act.put,List.setIfInBounds_toArray,List.set_cons_zero,List.set_cons_succ]
    refine wpAnyH_done (by kernel_rfl) ?_ _
    go_wp2
    go_ret
    have hr5:w5.ownsRow 0 3 1 (.slice tv5 (B.length + 1) tc5) (B ++ [n]).length (intCells (B ++ [n])):=by
     rw [intCells_append,List.length_append]
     exact O5.out
    have hm2:=MD.out.setBox AP.out HVB.out hk HBS.out (.inr rfl) G5.out hr5 (by rw [HBOX.out]; exact ROWD.out)
    have hat:∀ b,(Value.slice tv5 (B.length + 1) tc5).ownBlock=some b->(Value.slice ao B.length cq).ownBlock=some b\/(wC.drew.alloc (.cells #[.int .i64 n] 3)).heap.size<=b:=by
     intro b hb
     rcases A5.out with e | e
     ·rw [e] at hb
      exact .inl hb
     ·rw [e] at hb
      cases hb
      exact .inr (Nat.le_refl _)
    refine ⟨?_,_,?_,AP.out.setBox HBS.out MD.out.lt MD.out.lts.1 MD.out.lts.2.1 MD.out.lts.2.2 hat,RNext.setBox HBS.out (fun b hb=>(hat b hb).imp id (fun h1=>by simp at h1; omega)),?_⟩
    ·rw [EC.out]
     rfl
    ·rw [ESS.out]
     exact hm2
    ·refine Only.setCell ⟨G5.out.os.trans OD.out.os,G5.out.tape.trans OD.out.tape,G5.out.output.trans OD.out.output,Nat.le_trans OD.out.size G5.out.size,fun b hb hc=>?_⟩ (.inl ?_) _
     ·refine (G5.out.block b (Nat.lt_of_lt_of_le hb OD.out.size) (fun e=>hc ?_)).trans (OD.out.block b hb hc)
      simp only [RH.foot,List.mem_cons,List.mem_append,List.mem_flatMap,Option.mem_toList]
      exact .inr (.inr (.inr ⟨_,List.mem_of_getElem? HBS.out,e.symm⟩))
     ·rw [RH.foot,HVB.out]
      simp [Value.ownBlock]
  ·rw [if_pos (by simpa using hfull)] at EC ESS
   go_wp2_with fail
   go_quiet (fail)
   go_wp2
   go_ret
   refine ⟨?_,h,?_,AP.out,RNext.refl _ _,OB.out.drewN _⟩
   ·rw [EC.out]
    rfl
   ·rw [ESS.out]
    exact MB.out.drewN _
end Go.Proofs.YtbkfildnijjioaaGreat

namespace Go.Proofs.YtbkfildnijjioaaGreat
open Go.RowKit
set_option maxRecDepth 100000 in
set_option maxHeartbeats 2000000 in
theorem rDown_any (F:Nat->Prop) (w:World) (sb:Nat) (h:RH) (s:RS) (m:RMem F w sb h s) (ap:RApart F h) (g:RGood s) (t:Nat) (ht:t < s.T.length) (k:Nat) (hk:k < s.count.length) (hc4:s.count.length<=4)
  (hcb:0<=s.count[k]/\s.count[k]<=100) (n:Int) (hn1:n<=1000) (hnx:s.next<=4611686018427386000) :
  Calls Tryz.prog 118 #[.pointer (some ⟨sb,0,none⟩),.int .i64 t,.agg #[.int .i64 8,.int .i64 k,.int .i64 n]] w fun e w'=>e=.returned (.int .i64 (R.downC s k n))/\RMem F w' sb h (R.downS s t k n)/\Only (sb :: h.foot) w w':=by
 have hfew:=g.few
 have hn0:=g.nxt0
 have hnow:0<=s.now:=by have:=g.now0; have:=g.now1; omega
 have hnow1:=g.now2
 obtain ⟨hcb0,hcb1⟩:=hcb
 have eg:s.count.getD k 0=s.count[k]:=by simp [List.getD,hk]
 have EC:Hid (R.downC s k n=if 0 < s.count.getD k 0 then 0 else if n=0 then 2 else 1):=rfl
 have ESS:Hid (R.downS s t k n=if R.downC s k n=0 then { s with count:=s.count.set k (s.count.getD k 0 - 1) } else if R.downC s k n=1 then R.beginW s t 2 (k:Int) n else s):=rfl
 rw [eg] at EC ESS
 clear eg
 have MA:=hid (m.below ((Below.refl _ _).alloc (Nat.le_refl _) (.cells #[.int .i64 8,.int .i64 k,.int .i64 n] 61)))
 have OA:Hid (Only (sb :: h.foot) w (w.alloc (.cells #[.int .i64 8,.int .i64 k,.int .i64 n] 61))):=Only.of_below ((Below.refl _ _).alloc (Nat.le_refl _) _)
 have BA:Hid (Blk (w.alloc (.cells #[.int .i64 8,.int .i64 k,.int .i64 n] 61)) w.heap.size #[.int .i64 8,.int .i64 k,.int .i64 n] 61):=Blk.new _ _ _
 have G:=hid g
 have AP:=hid ap
 generalize hck:s.count[k]=ck at *
 have HCK:=hid hck
 clear hck m g ap
 generalize R.downC s k n=uc at *
 generalize R.downS s t k n=us at *
 have hkI:(k:Int) < (s.count.length:Int):=by omega
 go_enter Tryz.func118,Tryz.ntmps118
 go_upto_region 1 with fail
 generalize w.alloc (.cells #[.int .i64 8,.int .i64 k,.int .i64 n] 61)=wA at *
 have b0:=BA.out.cell 0
 have b1:=BA.out.cell 1
 have b2:=BA.out.cell 2
 simp at b0 b1 b2
 obtain ⟨go,co,hvC,hco,hfo⟩:=MA.out.cntAt (by omega)
 have c10:=MA.out.blk.cell 10
 simp [rsCells] at c10
 rw [hvC] at c10
 have xk:=hco k hk
 rw [HCK.out] at xk
 have fk:=hfo k
 have HVC:=hid hvC
 clear hvC hco hfo
 by_cases hpos:0 < ck
 ·rw [if_pos hpos] at EC
  go_wp2_with fail
  go_quiet (fail)
  generalize hwB:wA.drewN nq=wB at *
  have MB:Hid (RMem F wB sb h s):=by rw [<- hwB]; exact MA.out.drewN nq
  have OB:Hid (Only (sb :: h.foot) w wB):=by rw [<- hwB]; exact OA.out.drewN nq
  have b1':wB.cell? ⟨w.heap.size,1,none⟩=some (.int .i64 k):=by rw [<- hwB]; exact b1
  have c10':wB.cell? ⟨sb,10,none⟩=some (.slice (some ⟨go,0,none⟩) s.count.length co):=by rw [<- hwB]; exact c10
  have xk':wB.cell? ⟨go,k,none⟩=some (.int .i64 ck):=by rw [<- hwB]; exact xk
  have fk':wB.frozen? ⟨go,k,none⟩=false:=by rw [<- hwB]; exact fk
  clear hwB b0 b1 b2 c10 xk fk MA OA BA
  go_wp2_with fail
  go_region
  go_wp2
  go_ret
  have hm2:=(MB.out.setCount AP.out HVC.out k (ck - 1)).below (Below.refl _ _).drew
  refine ⟨?_,?_,?_⟩
  ·rw [EC.out]
   rfl
  ·rw [ESS.out,EC.out]
   exact hm2
  ·refine (Only.setCell OB.out (.inl ?_) _).via (Below.refl _ _).drew
   rw [RH.foot,HVC.out]
   simp [Value.ownBlock]
 ·rw [if_neg hpos] at EC
  cases hz:(n == 0)
  ·rw [if_neg (by simpa using hz)] at EC
   go_wp2_with fail
   go_quiet (fail)
   go_wp2_with fail
   refine (rBegin_any F _ sb h s (MA.out.drewN nq) t ht hfew 2 (k:Int) n hn1 hnow hnow1 hn0 (by omega)).mono ?_
   rintro e w2 ⟨rfl,hm2,ho2⟩
   have M2:=hid hm2
   have O2:=hid ((OA.out.drewN nq).trans (ho2.mono (RH.foot_two h sb)))
   clear hm2 ho2
   go_wp2
   go_ret
   refine ⟨?_,?_,O2.out⟩
   ·rw [EC.out]
    rfl
   ·rw [ESS.out,EC.out]
    exact M2.out
  ·rw [if_pos (by simpa using hz)] at EC
   go_wp2_with fail
   go_quiet (fail)
   go_wp2
   go_ret
   refine ⟨?_,?_,OA.out.drewN _⟩
   ·rw [EC.out]
    rfl
   ·rw [ESS.out,EC.out]
    exact MA.out.drewN _
set_option maxRecDepth 100000 in
set_option maxHeartbeats 2000000 in
theorem rUp_any (F:Nat->Prop) (w:World) (sb:Nat) (h:RH) (s:RS) (m:RMem F w sb h s) (ap:RApart F h) (g:RGood s) (t:Nat) (k:Nat) (hk:k < s.count.length) (hc4:s.count.length<=4) (hcs:s.count.length=s.set.sems.length)
  (hcb:0<=s.count[k]/\s.count[k]<=100) (n:Int) (hnx:s.next<=4611686018427386000) :
  Calls Tryz.prog 118 #[.pointer (some ⟨sb,0,none⟩),.int .i64 t,.agg #[.int .i64 9,.int .i64 k,.int .i64 n]] w fun e w'=>e=.returned (.int .i64 (R.upC s k))/\RMem F w' sb h (R.upS s k)/\Only (sb :: h.foot) w w':=by
 have hn0:=g.nxt0
 obtain ⟨hcb0,hcb1⟩:=hcb
 have hks:k < s.set.sems.length:=by omega
 have eg:s.count.getD k 0=s.count[k]:=by simp [List.getD,hk]
 have em:s.set.sems.getD k R.pair0=s.set.sems[k]:=by simp [List.getD,hks]
 have EC:Hid (R.upC s k=if 0<=R.giveT s 2 (k:Int) then 0 else if s.count.getD k 0=(s.set.sems.getD k R.pair0).y then 7 else 0):=rfl
 have ESS:Hid (R.upS s k=if 0<=R.giveT s 2 (k:Int) then R.giveS s 2 (k:Int) else if s.count.getD k 0=(s.set.sems.getD k R.pair0).y then s else { s with count:=s.count.set k (s.count.getD k 0 + 1) }):=rfl
 rw [eg,em] at EC ESS
 clear eg em
 have MA:=hid (m.below ((Below.refl _ _).alloc (Nat.le_refl _) (.cells #[.int .i64 9,.int .i64 k,.int .i64 n] 61)))
 have OA:Hid (Only (sb :: h.foot) w (w.alloc (.cells #[.int .i64 9,.int .i64 k,.int .i64 n] 61))):=Only.of_below ((Below.refl _ _).alloc (Nat.le_refl _) _)
 have BA:Hid (Blk (w.alloc (.cells #[.int .i64 9,.int .i64 k,.int .i64 n] 61)) w.heap.size #[.int .i64 9,.int .i64 k,.int .i64 n] 61):=Blk.new _ _ _
 have hne1:w.heap.size ≠ sb:=by have:=m.blk.lt; omega
 have hne2:w.heap.size ≠ h.gT:=by have:=m.gT_lt; omega
 have NE:=hid (And.intro hne1 hne2)
 clear hne1 hne2
 have G:=hid g
 have AP:=hid ap
 generalize hck:s.count[k]=ck at *
 have HCK:=hid hck
 generalize hsy:s.set.sems[k].y=sy at *
 have HSY:=hid hsy
 clear hck m g ap hsy
 have HGS:Hid (R.giveT s 2 (k:Int) < 0->R.giveS s 2 (k:Int)=s):=by
  intro hh
  unfold R.giveS
  rw [if_neg (by omega)]
 generalize R.upC s k=uc at *
 generalize R.upS s k=us at *
 have hkI:(k:Int) < (s.count.length:Int):=by omega
 go_enter Tryz.func118,Tryz.ntmps118
 go_upto_region 1 with fail
 generalize w.alloc (.cells #[.int .i64 9,.int .i64 k,.int .i64 n] 61)=wA at *
 have b0:=BA.out.cell 0
 have b1:=BA.out.cell 1
 simp at b0 b1
 go_wp2_with fail
 refine (rGive_any F wA sb h s MA.out G.out 2 k (by omega)).mono ?_
 rintro e wB ⟨rfl,hmB,hoB⟩
 have MB:=hid hmB
 have OB:=hid (OA.out.trans (hoB.mono (RH.foot_two h sb)))
 have BB:=hid (BA.out.only hoB (by simp; exact ⟨NE.out.1,NE.out.2⟩))
 clear hmB hoB b0 b1 BA MA OA
 generalize hgt:R.giveT s 2 (k:Int)=gt at *
 clear hgt
 by_cases hgp:0<=gt
 ·rw [if_pos hgp] at EC ESS
  go_wp2
  go_ret
  refine ⟨?_,?_,OB.out⟩
  ·rw [EC.out]
   rfl
  ·rw [ESS.out]
   exact MB.out
 ·rw [if_neg hgp] at EC ESS
  rw [HGS.out (by omega)] at MB
  have b1:=BB.out.cell 1
  simp at b1
  obtain ⟨go,co,hvC,hco,hfo⟩:=MB.out.cntAt (by omega)
  have c10:=MB.out.blk.cell 10
  have c4:=MB.out.blk.cell 4
  simp [rsCells] at c10 c4
  rw [hvC] at c10
  have xk:=hco k hk
  rw [HCK.out] at xk
  have fk:=hfo k
  have HVC:=hid hvC
  obtain ⟨mb,mo,hma,hmb,hmx,hmy⟩:=MB.out.set.sems k hks
  rw [HSY.out] at hmy
  rw [hma] at c4
  clear hvC hco hfo hma hmb hmx HGS
  have hkI2:(k:Int) < (s.set.sems.length:Int):=by omega
  cases hcy:(ck == sy)
  ·rw [if_neg (by simpa using hcy)] at EC ESS
   go_wp2_with fail
   go_quiet (fail)
   generalize hwC:wB.drewN nq=wC at *
   have MC:Hid (RMem F wC sb h s):=by rw [<- hwC]; exact MB.out.drewN nq
   have OC:Hid (Only (sb :: h.foot) w wC):=by rw [<- hwC]; exact OB.out.drewN nq
   have b1':wC.cell? ⟨w.heap.size,1,none⟩=some (.int .i64 k):=by rw [<- hwC]; exact b1
   have c10':wC.cell? ⟨sb,10,none⟩=some (.slice (some ⟨go,0,none⟩) s.count.length co):=by rw [<- hwC]; exact c10
   have xk':wC.cell? ⟨go,k,none⟩=some (.int .i64 ck):=by rw [<- hwC]; exact xk
   have fk':wC.frozen? ⟨go,k,none⟩=false:=by rw [<- hwC]; exact fk
   clear hwC b1 c10 c4 xk fk MB OB BB hmy
   go_wp2_with fail
   go_region
   go_wp2
   go_ret
   have hm2:=(MC.out.setCount AP.out HVC.out k (ck + 1)).below (Below.refl _ _).drew
   refine ⟨?_,?_,?_⟩
   ·rw [EC.out]
    rfl
   ·rw [ESS.out]
    exact hm2
   ·refine (Only.setCell OC.out (.inl ?_) _).via (Below.refl _ _).drew
    rw [RH.foot,HVC.out]
    simp [Value.ownBlock]
  ·rw [if_pos (by simpa using hcy)] at EC ESS
   go_wp2_with fail
   go_quiet (fail)
   go_wp2
   go_ret
   refine ⟨?_,?_,OB.out.drewN _⟩
   ·rw [EC.out]
    rfl
   ·rw [ESS.out]
    exact MB.out.drewN _
end Go.Proofs.YtbkfildnijjioaaGreat

namespace Go.Proofs.YtbkfildnijjioaaGreat
open Go.RowKit
theorem RNext.mono {h h':RH} {N N':Nat} (r:RNext h h' N) (hn:N'<=N):RNext h h' N':=⟨r.t,fun b hb=>(r.all b hb).imp id (fun h1=>by omega),fun b hb=>(r.m b hb).imp id (fun h1=>by omega)⟩
set_option maxRecDepth 100000 in
set_option maxHeartbeats 4000000 in
theorem rDoes_any (F:Nat->Prop) (w:World) (sb:Nat) (h:RH) (s:RS) (m:RMem F w sb h s) (ap:RApart F h) (g:RGood s) (ln:RLinks s) (st:RStore s) (t:Nat) (ht:t < s.T.length) (op a b:Int) (hi:RIns s ⟨op,a,b⟩) (hnx:s.next<=4611686018427386000) :
  Calls Tryz.prog 75 #[.pointer (some ⟨sb,0,none⟩),.int .i64 t,.agg #[.int .i64 op,.int .i64 a,.int .i64 b]] w fun e w' =>
   e=.returned (.int .i64 (R.doesC s t ⟨op,a,b⟩))/\∃ h',RMem F w' sb h' (R.doesS s t ⟨op,a,b⟩)/\RApart F h'/\RNext h h' w.heap.size/\Only (sb :: h.foot) w w':=by
 have hfew:=g.few
 have hn0:=g.nxt0
 have hnow:0<=s.now:=by have:=g.now0; have:=g.now1; omega
 have hnow1:=g.now2
 have MA:=hid (m.below ((Below.refl _ _).alloc (Nat.le_refl _) (.cells #[.int .i64 op,.int .i64 a,.int .i64 b] 61)))
 have OA:Hid (Only (sb :: h.foot) w (w.alloc (.cells #[.int .i64 op,.int .i64 a,.int .i64 b] 61))):=Only.of_below ((Below.refl _ _).alloc (Nat.le_refl _) _)
 have BA:Hid (Blk (w.alloc (.cells #[.int .i64 op,.int .i64 a,.int .i64 b] 61)) w.heap.size #[.int .i64 op,.int .i64 a,.int .i64 b] 61):=Blk.new _ _ _
 have hNA:w.heap.size<=(w.alloc (.cells #[.int .i64 op,.int .i64 a,.int .i64 b] 61)).heap.size:=by simp
 have G:=hid g
 have AP:=hid ap
 have LN:=hid ln
 have ST:=hid st
 have HI:=hid hi
 have o0:0<=op:=hi.op0
 have o1:op<=11:=hi.op1
 clear m g ap ln st hi
 have htI:(t:Int) < (s.T.length:Int):=by omega
 go_enter Tryz.func75,Tryz.ntmps75
 go_upto_region 1 with fail
 generalize w.alloc (.cells #[.int .i64 op,.int .i64 a,.int .i64 b] 61)=wA at *
 have b0:=BA.out.cell 0
 have b1:=BA.out.cell 1
 have b2:=BA.out.cell 2
 simp at b0 b1 b2
 have hcases:op=0\/op=1\/op=2\/op=3\/op=4\/op=5\/op=6\/op=7\/op=8\/op=9\/op=10\/op=11:=by omega
 rcases hcases with rfl | rfl | rfl | rfl | rfl | rfl | rfl | rfl | rfl | rfl | rfl | rfl
 ·go_wp2
  go_ret
  exact ⟨rfl,h,MA.out,AP.out,RNext.refl _ _,OA.out⟩
 ·go_wp2
  go_ret
  exact ⟨rfl,h,MA.out,AP.out,RNext.refl _ _,OA.out⟩
 ·
  go_wp2_with fail
  refine (rDraw_any F wA sb h s MA.out hn0 (by omega)).mono ?_
  rintro e wX ⟨rfl,rfl⟩
  have hmX:=MA.out.setNext (s.next + 1)
  have hoX:Only (sb :: h.foot) w (wA.setCell ⟨sb,7,none⟩ (.int .i64 (s.next + 1))):=OA.out.setCell (.inl (by simp)) _
  clear MA OA b0 b1 b2 BA
  generalize wA.setCell ⟨sb,7,none⟩ (.int .i64 (s.next + 1))=wX at hmX hoX ⊢
  have MX:=hid hmX
  have OX:=hid hoX
  clear hmX hoX
  have c8:=MX.out.blk.cell 8
  simp [rsCells] at c8
  have ac:=MX.out.tcell (i:=t) (by simpa using ht) 7 (by decide)
  simp [rtCells] at ac
  have fc:=MX.out.tfrozen (t * 13 + 7)
  go_wp2
  go_ret
  have hmY:=MX.out.setT (i:=t) (j:=7) (by simpa using ht) (by decide) (.int .i64 (s.next + 1)) (fun x=>{ x with tick:=s.next + 1 }) rfl
  exact ⟨rfl,h,hmY,AP.out,RNext.refl _ _,OX.out.setCell (.inl (by simp [RH.foot])) _⟩
 ·go_wp2
  go_ret
  exact ⟨rfl,h,MA.out,AP.out,RNext.refl _ _,OA.out⟩
 ·
  obtain ⟨ha0,ha1⟩:=HI.out.prio rfl
  obtain ⟨k,rfl⟩:=Int.eq_ofNat_of_zero_le ha0
  have hk:k < s.T.length:=by have:((k:Int)) < (s.T.length:Int):=ha1; omega
  have hkI:(k:Int) < (s.T.length:Int):=by omega
  have c8:=MA.out.blk.cell 8
  simp [rsCells] at c8
  have ac:=MA.out.tcell hk 0 (by decide)
  simp [rtCells] at ac
  have fc:=MA.out.tfrozen (k * 13 + 0)
  simp at fc
  go_wp2_with fail
  go_region
  go_wp2
  go_ret
  have hmY:=(MA.out.setT hk (j:=0) (by decide) (.int .i64 b) (fun x=>{ x with base:=b }) rfl).below (Below.refl _ _).drew
  exact ⟨rfl,h,hmY,AP.out,RNext.refl _ _,(OA.out.setCell (.inl (by simp [RH.foot])) _).via (Below.refl _ _).drew⟩
 ·
  have ha1:a<=1000:=HI.out.sleep rfl
  go_wp2_with fail
  refine (rBegin_any F wA sb h s MA.out t ht hfew 4 0 a ha1 hnow hnow1 hn0 (by omega)).mono ?_
  rintro e w2 ⟨rfl,hm2,ho2⟩
  have M2:=hid hm2
  have O2:=hid (OA.out.trans (ho2.mono (RH.foot_two h sb)))
  clear hm2 ho2
  go_wp2
  go_ret
  exact ⟨rfl,h,M2.out,AP.out,RNext.refl _ _,O2.out⟩
 ·
  obtain ⟨ha0,ha1⟩:=HI.out.mtx (.inl rfl)
  obtain ⟨k,rfl⟩:=Int.eq_ofNat_of_zero_le ha0
  have hk:k < s.owner.length:=by have:((k:Int)) < (s.owner.length:Int):=ha1; omega
  have hb1:b<=1000:=HI.out.wait (.inl rfl)
  go_wp2_with fail
  refine (rLock_any F wA sb h s MA.out AP.out G.out LN.out t k ht hk b hb1 (by omega)).mono ?_
  rintro e w2 ⟨rfl,hm2,ho2⟩
  have M2:=hid hm2
  have O2:=hid (OA.out.trans ho2)
  clear hm2 ho2
  go_wp2
  go_ret
  exact ⟨rfl,h,M2.out,AP.out,RNext.refl _ _,O2.out⟩
 ·
  obtain ⟨ha0,ha1⟩:=HI.out.mtx (.inr rfl)
  obtain ⟨k,rfl⟩:=Int.eq_ofNat_of_zero_le ha0
  have hk:k < s.owner.length:=by have:((k:Int)) < (s.owner.length:Int):=ha1; omega
  go_wp2_with fail
  refine (rUnlock_any F wA sb h s MA.out AP.out G.out t k hk (by omega)).mono ?_
  rintro e w2 ⟨rfl,hm2,ho2⟩
  have M2:=hid hm2
  have O2:=hid (OA.out.trans ho2)
  clear hm2 ho2
  go_wp2
  go_ret
  exact ⟨rfl,h,M2.out,AP.out,RNext.refl _ _,O2.out⟩
 ·
  obtain ⟨ha0,ha1⟩:=HI.out.sem (.inl rfl)
  obtain ⟨k,rfl⟩:=Int.eq_ofNat_of_zero_le ha0
  have hk:k < s.count.length:=by have:((k:Int)) < (s.count.length:Int):=ha1; omega
  have hb1:b<=1000:=HI.out.wait (.inr (.inl rfl))
  go_wp2_with fail
  refine (rDown_any F wA sb h s MA.out AP.out G.out t ht k hk ST.out.c4 (ST.out.cb k hk) b hb1 hnx).mono ?_
  rintro e w2 ⟨rfl,hm2,ho2⟩
  have M2:=hid hm2
  have O2:=hid (OA.out.trans ho2)
  clear hm2 ho2
  go_wp2
  go_ret
  exact ⟨rfl,h,M2.out,AP.out,RNext.refl _ _,O2.out⟩
 ·
  obtain ⟨ha0,ha1⟩:=HI.out.sem (.inr rfl)
  obtain ⟨k,rfl⟩:=Int.eq_ofNat_of_zero_le ha0
  have hk:k < s.count.length:=by have:((k:Int)) < (s.count.length:Int):=ha1; omega
  go_wp2_with fail
  refine (rUp_any F wA sb h s MA.out AP.out G.out t k hk ST.out.c4 ST.out.cs (ST.out.cb k hk) b hnx).mono ?_
  rintro e w2 ⟨rfl,hm2,ho2⟩
  have M2:=hid hm2
  have O2:=hid (OA.out.trans ho2)
  clear hm2 ho2
  go_wp2
  go_ret
  exact ⟨rfl,h,M2.out,AP.out,RNext.refl _ _,O2.out⟩
 ·
  obtain ⟨ha0,ha1⟩:=HI.out.que (.inl rfl)
  obtain ⟨k,rfl⟩:=Int.eq_ofNat_of_zero_le ha0
  have hk:k < s.box.length:=by have:((k:Int)) < (s.box.length:Int):=ha1; omega
  go_wp2_with fail
  refine (rSend_any F wA sb h s MA.out AP.out G.out t k hk ST.out.qs (ST.out.qb k hk) b hnx).mono ?_
  rintro e w2 ⟨rfl,h',hm2,hap2,hnx2,ho2⟩
  have M2:=hid hm2
  have A2:=hid hap2
  have N2:=hid (hnx2.mono hNA)
  have O2:=hid (OA.out.trans ho2)
  clear hm2 ho2 hap2 hnx2
  go_wp2
  go_ret
  exact ⟨rfl,h',M2.out,A2.out,N2.out,O2.out⟩
 ·
  obtain ⟨ha0,ha1⟩:=HI.out.que (.inr rfl)
  obtain ⟨k,rfl⟩:=Int.eq_ofNat_of_zero_le ha0
  have hk:k < s.box.length:=by have:((k:Int)) < (s.box.length:Int):=ha1; omega
  have hb1:b<=1000:=HI.out.wait (.inr (.inr rfl))
  go_wp2_with fail
  refine (rRecv_any F wA sb h s MA.out AP.out G.out t ht k hk ST.out.q4 (ST.out.qb k hk) b hb1 hnx).mono ?_
  rintro e w2 ⟨rfl,h',hm2,hap2,hnx2,ho2⟩
  have M2:=hid hm2
  have A2:=hid hap2
  have N2:=hid (hnx2.mono hNA)
  have O2:=hid (OA.out.trans ho2)
  clear hm2 ho2 hap2 hnx2
  go_wp2
  go_ret
  exact ⟨rfl,h',M2.out,A2.out,N2.out,O2.out⟩
end Go.Proofs.YtbkfildnijjioaaGreat

namespace Go.Proofs.YtbkfildnijjioaaGreat
open Go.RowKit
theorem RMem.foot_lt {F:Nat->Prop} {w:World} {sb:Nat} {h:RH} {s:RS} (m:RMem F w sb h s):∀ b,b ∈ sb :: h.foot->b < w.heap.size:=by
 intro b hb
 obtain ⟨h1,h2,h3⟩:=m.lts
 simp only [RH.foot,List.mem_cons,List.mem_append,List.mem_flatMap,Option.mem_toList] at hb
 rcases hb with rfl | rfl | ((hb | hb) | hb) | ⟨u,hu,hb⟩
 ·exact m.blk.lt
 ·exact m.gT_lt
 ·exact h1 b hb
 ·exact h2 b hb
 ·exact (ownsRow_block m.oth.box.1 hb).2.1
 ·obtain ⟨j,hj,e⟩:=List.getElem_of_mem hu
  exact h3 j u b (by rw [List.getElem?_eq_getElem hj,e]) hb
end Go.Proofs.YtbkfildnijjioaaGreat
