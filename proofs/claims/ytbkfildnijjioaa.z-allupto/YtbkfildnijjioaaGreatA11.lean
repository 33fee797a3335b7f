import Derived.Test.YtbkfildnijjioaaGreatA10
import Derived.Test.YtbkfildnijjioaaGreatA03
namespace Go.Proofs.YtbkfildnijjioaaGreat
open Go.RowKit
theorem bare_get {S:SetD} {i:Nat} (hi:i < (R.bare S).T.length):(R.bare S).T[i]=bareT (S.threads[i]'(by simpa [R.bare] using hi)):=by
 simp only [bare_T,List.getElem_map]
theorem bare_len (S:SetD):(R.bare S).T.length=S.threads.length:=by simp [R.bare]
theorem bare_cnt (S:SetD):(R.bare S).count.length=S.sems.length:=by simp [R.bare]
theorem bare_box (S:SetD):(R.bare S).box.length=S.queues.length:=by simp [R.bare]
theorem bare_own (S:SetD):(R.bare S).owner.length=S.mutexes.length:=by simp [R.bare]
theorem bare_th {S:SetD} {t:Nat} (ht:t < S.threads.length):R.th (R.bare S).T t=bareT S.threads[t]:=by
 rw [th_ext (by rw [bare_len]; exact ht),bare_get]
theorem bare_fit {S:SetD} (h:P3.err S=0):KFit (R.bare S):=by
 have g:=good_bare h
 refine ⟨g.few,by rw [g.own]; exact g.mfew,g.own,fun i hi=>?_,fun t ht hf=>?_,fun i hi=>ok_mutex h i (by rw [<- bare_own]; exact hi)⟩
 ·have hi':i < S.mutexes.length:=by rw [<- bare_own]; exact hi
  have e:(R.bare S).owner.getD i 0=-1:=by simp [R.bare,List.getD,hi']
  rw [e]
  omega
 ·rw [bare_th (by rw [<- bare_len]; exact ht)] at hf
  cases hf
theorem bare_aux (S:SetD):Ln.Aux (R.bare S) (List.range S.threads.length) []:=by
 have hth:∀ t,t < (R.bare S).T.length->R.th (R.bare S).T t=bareT (S.threads.getD t P3.none0):=fun t ht=>by
  have ht':t < S.threads.length:=by rw [<- bare_len]; exact ht
  rw [bare_th ht']
  simp [List.getD,ht']
 refine ⟨⟨by rw [bare_len],?_,fun u hu=>?_,fun u hu ha=>?_⟩,⟨fun u=>?_,List.Pairwise.nil,fun u hu=>by cases hu⟩,fun u hu=>?_,Int.le_refl _⟩
 ·refine Ln.pairwise_mem (R:=fun _ _=>True) (List.pairwise_of_forall (fun _ _=>trivial)) fun a b ha hb _=>?_
  rw [hth a (by rw [bare_len]; simpa using ha),hth b (by rw [bare_len]; simpa using hb)]
  exact .inr ⟨rfl,rfl⟩
 ·rw [hth u hu]
  exact ⟨Int.le_refl _,Int.le_refl _⟩
 ·rw [hth u hu] at ha
  cases ha
 ·constructor
  ·intro hu; cases hu
  ·rintro ⟨hu,hf⟩
   rw [hth u hu] at hf
   exact absurd rfl hf
 ·refine ⟨1,.step 0 _ (by omega) (.stop _ ?_)⟩
  unfold R.ahd
  have e:Int.toNat (u:Int)=u:=by omega
  rw [e,hth u hu,if_neg (show ¬ (bareT (S.threads.getD u P3.none0)).for_=1 from fun hh=>by cases hh)]
  decide
theorem bare_rel {S:SetD} (h:P3.err S=0) (t:Nat) (ht:t < (R.bare S).T.length):RelOk (R.bare S) t (R.bare S).T[t]:=by
 have g:=good_bare h
 have ht':t < S.threads.length:=by rw [<- bare_len]; exact ht
 have ho:=g.off S.threads[t] (List.getElem_mem ht')
 have e:S.threads.getD t P3.none0=S.threads[t]:=by simp [List.getD,ht']
 rw [bare_get]
 refine ⟨?_,Int.le_refl _,Int.le_refl _,⟨Int.le_refl _,show (0:Int)<=2000000000 by decide⟩⟩
 show (0:Int)=R.relBy S t (S.start - 1)
 unfold R.relBy
 rw [if_pos (by rw [e]; omega)]
theorem bare_kset {S:SetD} (h:P3.err S=0) (t:Nat) (ht:t < (R.bare S).T.length):KSet (R.bare S) t:=by
 have g:=good_bare h
 have ht':t < S.threads.length:=by rw [<- bare_len]; exact ht
 have ho:=g.off S.threads[t] (List.getElem_mem ht')
 have e:S.threads.getD t P3.none0=S.threads[t]:=by simp [List.getD,ht']
 have h0:=g.now0
 have h2:=g.now2
 have hn:(R.bare S).now=S.start:=rfl
 have hs:(R.bare S).set=S:=rfl
 rw [hn] at h2
 rw [hs] at h0
 refine ⟨⟨h0,h2⟩,?_,?_,?_⟩ <;> (show _/\_; rw [hs,e]; omega)
theorem releaseTo_keeps (s:RS) (k u:Nat):(R.th (R.releaseTo s k).T u).wkr=(R.th s.T u).wkr/\(R.th (R.releaseTo s k).T u).got=(R.th s.T u).got:=by
 induction k with
 | zero=>exact ⟨rfl,rfl⟩
 | succ k ih =>
  have one:∀ s:RS,(R.th (R.releaseOne s k).T u).wkr=(R.th s.T u).wkr/\(R.th (R.releaseOne s k).T u).got=(R.th s.T u).got:=by
   intro s
   unfold R.releaseOne R.wake
   split
   ·split
    ·simp only [Ln.th_modify]
     split <;> (try split) <;> exact ⟨rfl,rfl⟩
    ·simp only [Ln.th_modify]
     split <;> exact ⟨rfl,rfl⟩
   ·exact ⟨rfl,rfl⟩
  unfold R.releaseTo
  rw [(one _).1,(one _).2]
  exact ih
theorem new_wkw {S:SetD} (n:Nat):Ln.WkW n (List.replicate n (-1)) (R.release (R.bare S)).T:=by
 have hl:(R.release (R.bare S)).T.length=(R.bare S).T.length:=R.releaseTo_len _ _
 have hw:∀ t (ht:t < (R.release (R.bare S)).T.length),(R.release (R.bare S)).T[t].wkr=-1:=fun t ht=>by
  have h1:=(releaseTo_keeps (R.bare S) (R.bare S).T.length t).1
  have ht':t < S.threads.length:=by rw [<- bare_len,<- hl]; exact ht
  have h2:R.th (R.releaseTo (R.bare S) (R.bare S).T.length).T t=(R.release (R.bare S)).T[t]:=th_ext ht
  rw [h2,bare_th ht'] at h1
  exact h1
 refine ⟨by simp,fun t ht=>by rw [hw t ht]; omega,fun w hw'=>by simp; omega,fun w hw' t ht _=>?_⟩
 rw [hw t ht]
 simp
theorem kmem_new {B gT gM gS gQ gW gK:Nat} {S:SetD} {w3 w4 wS wQ w5 w6:World} {cs:Nat->Value} {L LM LS LQ:List Value} {n:Nat} (nt:NT B gT S.start S.threads w3 S.threads.length cs L) (h34:Below w3.heap.size w3 w4) (nm:NMu w3.heap.size gM S.mutexes w4 S.mutexes.length LM) (h4S:Below w4.heap.size w4 wS) (ns:NSe w4.heap.size gS S.sems wS S.sems.length LS) (hSQ:Below wS.heap.size wS wQ) (nq:NQu wS.heap.size gQ S.queues wQ S.queues.length LQ) (hQ5:Below wQ.heap.size wQ w5)
  (hW:w5.ownsRow wQ.heap.size 3 1 (.slice (some ⟨gW,0,none⟩) n n) n (intCells (List.replicate n (-1)))) (h56:Below w5.heap.size w5 w6)
  (hK:w6.ownsRow w5.heap.size 3 1 (.slice (some ⟨gK,0,none⟩) S.threads.length S.threads.length) S.threads.length (intCells (Ln.ints (List.range S.threads.length)))) :
  ∃ F h,KMem F (w6.alloc (.cells #[.int .i64 S.start,.slice (some ⟨gT,0,none⟩) S.threads.length S.threads.length,.slice (some ⟨gM,0,none⟩) S.mutexes.length S.mutexes.length,.slice (some ⟨gS,0,none⟩) S.sems.length S.sems.length,.slice (some ⟨gQ,0,none⟩) S.queues.length S.queues.length,.slice (some ⟨gW,0,none⟩) n n,.slice (some ⟨gK,0,none⟩) S.threads.length S.threads.length,.slice none 0 0,.slice none 0 0] 109)) w6.heap.size h (R.bare S) (List.range S.threads.length) [] (List.replicate n (-1))/\∀ b,KB F w6.heap.size h b->B<=b\/w3.heap.size<=b:=by
 generalize hv:(#[.int .i64 S.start,.slice (some ⟨gT,0,none⟩) S.threads.length S.threads.length,.slice (some ⟨gM,0,none⟩) S.mutexes.length S.mutexes.length,.slice (some ⟨gS,0,none⟩) S.sems.length S.sems.length,.slice (some ⟨gQ,0,none⟩) S.queues.length S.queues.length,.slice (some ⟨gW,0,none⟩) n n,.slice (some ⟨gK,0,none⟩) S.threads.length S.threads.length,.slice none 0 0,.slice none 0 0]:Array Value)=vs
 have hbA:Below w6.heap.size w6 (w6.alloc (.cells vs 109)):=(Below.refl _ _).alloc (Nat.le_refl _) _
 have h5A:Below w5.heap.size w5 (w6.alloc (.cells vs 109)):=via h56 h56.size hbA
 have hQA:Below wQ.heap.size wQ (w6.alloc (.cells vs 109)):=via hQ5 hQ5.size h5A
 have hSA:Below wS.heap.size wS (w6.alloc (.cells vs 109)):=via hSQ hSQ.size hQA
 have h4A:Below w4.heap.size w4 (w6.alloc (.cells vs 109)):=via h4S h4S.size hSA
 have h3A:Below w3.heap.size w3 (w6.alloc (.cells vs 109)):=via h34 h34.size h4A
 have bA:Blk (w6.alloc (.cells vs 109)) w6.heap.size vs 109:=Blk.new _ _ _
 generalize w6.alloc (.cells vs 109)=wA at *
 obtain ⟨hgT0,hgT,_⟩:=ownsRow_block nt.row rfl
 obtain ⟨hgM0,hgM,_⟩:=ownsRow_block nm.row rfl
 obtain ⟨hgS0,hgS,hgST⟩:=ownsRow_block ns.row rfl
 obtain ⟨hgQ0,hgQ,hgQT⟩:=ownsRow_block nq.row rfl
 obtain ⟨hgW0,hgW,_⟩:=ownsRow_block hW rfl
 obtain ⟨hgK0,hgK,_⟩:=ownsRow_block hK rfl
 have hgT0:B<=gT:=hgT0
 have hgM0:w3.heap.size<=gM:=hgM0
 have hgS0:w4.heap.size<=gS:=hgS0
 have hgS:gS < wS.heap.size:=hgS
 have hgQ0:wS.heap.size<=gQ:=hgQ0
 have hgQ:gQ < wQ.heap.size:=hgQ
 have hgW0:wQ.heap.size<=gW:=hgW0
 have hgK0:w5.heap.size<=gK:=hgK0
 have hgW:gW < w5.heap.size:=hgW
 have s34:=h34.size
 have s4S:=h4S.size
 have sSQ:=hSQ.size
 have sQ5:=hQ5.size
 have s56:=h56.size
 refine ⟨fun b=>B<=b/\Typ w3 b 61,⟨gT,S.threads.length,L,cs,gM,S.mutexes.length,LM,gW,n,.slice (some ⟨gK,0,none⟩) S.threads.length S.threads.length,.slice none 0 0,.slice none 0 0,gS,S.sems.length,LS,gQ,S.queues.length,LQ,fun _=>.slice none 0 0,S.queues.length⟩,⟨?_,?_,fun i hi j hj=>?_,fun i hi=>?_,?_,fun i hi j hj=>?_,?_,?_,World.ownsRow_nil _ _ _ _,World.ownsRow_nil _ _ _ _,fun b hb=>?_,fun g hg=>?_,fun g hg=>(by cases hg),⟨?_,fun i hi j hj=>?_,?_,?_,fun i hi j hj=>?_,fun i hi=>?_,fun i j g _ _ _ hg=>(by cases hg)⟩,?_⟩,?_⟩
 ·have e:vs=kCells ⟨gT,S.threads.length,L,cs,gM,S.mutexes.length,LM,gW,n,.slice (some ⟨gK,0,none⟩) S.threads.length S.threads.length,.slice none 0 0,.slice none 0 0,gS,S.sems.length,LS,gQ,S.queues.length,LQ,fun _=>.slice none 0 0,S.queues.length⟩ (R.bare S) (List.replicate n (-1)):=by
   rw [<- hv]
   simp [kCells,bare_len,bare_own,bare_cnt,bare_box]
   rfl
  rw [<- e]
  exact bA
 ·rw [bare_len]
  exact ownsRow_mono (ownsRow_same nt.row fun g hg=>by cases hg; exact h3A.block _ hgT) (Nat.zero_le _)
 ·have hi':i < S.threads.length:=by rw [<- bare_len]; exact hi
  rw [nt.cells i hi' hi' j hj,bare_get]
  have e:S.threads.getD i P3.none0=S.threads[i]:=by simp [List.getD,hi']
  show (bareCells S.start (cs i) S.threads[i])[j]?=(ktCells S i (cs i) (bareT S.threads[i]))[j]?
  unfold ktCells
  rw [e]
  rfl
 ·have hi':i < S.threads.length:=by rw [<- bare_len]; exact hi
  have e:S.threads.getD i P3.none0=S.threads[i]:=by simp [List.getD,hi']
  have hco:=nt.codes i hi' hi'
  obtain ⟨cv,cc,hcv,_,hci,hna⟩:=InstrsIn.of_owns hco
  refine ⟨cv,cc,?_,?_⟩
  ·show cs i=.slice cv (S.threads.getD i P3.none0).code.length cc
   rw [e]
   exact hcv
  ·show InstrsF _ _ cv (S.threads.getD i P3.none0).code
   rw [e]
   intro j hj
   obtain ⟨b,o,ha,hbl,x0,x1,x2⟩:=hci j hj
   obtain ⟨g',e1,h1,h2⟩:=hna _ ha
   cases e1
   have hbk:(cs i).ownBlock=some b:=by rw [hcv,ha]; rfl
   obtain ⟨hB,_,cur,hcur⟩:=ownsRow_block hco hbk
   have same:∀ o',wA.cell? ⟨b,o',none⟩=w3.cell? ⟨b,o',none⟩:=fun o'=>h3A.cell (p:=⟨b,o',none⟩) hbl
   exact ⟨b,0,ha,⟨hB,cur,hcur⟩,(same _).trans x0,(same _).trans x1,(same _).trans x2⟩
 ·rw [bare_own]
  exact ownsRow_mono (ownsRow_same nm.row fun g hg=>by cases hg; exact h4A.block _ hgM) (Nat.zero_le _)
 ·have hi':i < S.mutexes.length:=by rw [<- bare_own]; exact hi
  rw [nm.cells i hi' hi' j hj]
  have e:S.mutexes.getD i R.pair0=S.mutexes[i]:=by simp [List.getD,hi']
  have e2:(R.bare S).owner[i]=-1:=by simp [R.bare]
  show _=(kmCells S i (R.bare S).owner[i])[j]?
  unfold kmCells
  rw [e,e2]
 ·have:=ownsRow_mono (ownsRow_same hW fun g hg=>by cases hg; exact h5A.block _ hgW) (Nat.zero_le _)
  simpa using this
 ·have:=ownsRow_mono (ownsRow_same hK fun g hg=>by cases hg; exact hbA.block _ hgK) (Nat.zero_le _)
  simpa using this
 ·exact hb.2.same (h3A.block b hb.2.lt)
 ·cases hg
  show gK ≠ gW
  omega
 ·rw [bare_cnt]
  exact ownsRow_mono (ownsRow_same ns.row fun g hg=>by cases hg; exact hSA.block _ hgS) (Nat.zero_le _)
 ·have hi':i < S.sems.length:=by rw [<- bare_cnt]; exact hi
  show LS[i * 2 + j]?=_
  rw [ns.cells i hi' hi' j hj]
  have e:S.sems.getD i R.pair0=S.sems[i]:=by simp [List.getD,hi']
  have e2:(R.bare S).count[i]=S.sems[i].x:=by simp [R.bare]
  show _=(ksCells S i (R.bare S).count[i])[j]?
  unfold ksCells
  rw [e,e2]
 ·rw [bare_box]
  exact ownsRow_mono (ownsRow_same nq.row fun g hg=>by cases hg; exact hQA.block _ hgQ) (Nat.zero_le _)
 ·rw [bare_box]
 ·have hi':i < S.queues.length:=by rw [<- bare_box]; exact hi
  show LQ[i * 2 + j]?=(kqCells S i (.slice none 0 0))[j]?
  rw [nq.cells i hi' j hj,if_pos hi']
  have e:S.queues.getD i 0=S.queues[i]:=by simp [List.getD,hi']
  unfold kqCells
  rw [e]
 ·have e2:(R.bare S).box[i]=[]:=by simp [R.bare]
  rw [e2]
  exact World.ownsRow_nil _ _ _ _
 ·rintro g (hb | hb | ⟨i,_,hb⟩)
  ·have hb':g=gS:=hb
   refine ⟨?_,fun e=>?_,fun e=>by cases e⟩
   ·show g ≠ gW
    omega
   ·have e':some gK=some g:=e
    cases e'
    omega
  ·have hb':g=gQ:=hb
   refine ⟨?_,fun e=>?_,fun e=>by cases e⟩
   ·show g ≠ gW
    omega
   ·have e':some gK=some g:=e
    cases e'
    omega
  ·cases hb
 ·rintro b (hb | hb | hb | hb | hb | hb | hb | hb | hb | hb | ⟨i,_,hb⟩)
  ·exact .inl hb.1
  ·right; omega
  ·have hb':b=gT:=hb
   left; omega
  ·have hb':b=gM:=hb
   right; omega
  ·have hb':b=gW:=hb
   right; omega
  ·have hb':some gK=some b:=hb
   cases hb'
   right; omega
  ·cases hb
  ·cases hb
  ·have hb':b=gS:=hb
   right; omega
  ·have hb':b=gQ:=hb
   right; omega
  ·cases hb
theorem ok_code {S:SetD} (h:P3.err S=0):∀ x ∈ S.threads,x.code.length<=32:=by
 intro x hx
 have:=badOr_good (ok_parts h).2.2.2.2.1 x hx
 unfold P3.threadP P3.threadB at this
 rw [decide_eq_true_iff] at this
 omega
theorem new_awOk {S:SetD} (h:P3.err S=0):AwOk (R.release (R.bare S)):=by
 intro t ht
 have inv:=(inv_new h).toRMid.awOk
 have hl:t < (R.new S).T.length:=by show t < (R.settle _).T.length; rw [settle_len]; exact ht
 have h1:=inv t hl
 obtain ⟨x,hx⟩:=settle_get (s:=R.release (R.bare S)) ht
 have hx':(R.new S).T[t]={ (R.release (R.bare S)).T[t] with wkr:=x }:=hx
 rw [hx'] at h1
 exact h1
set_option maxRecDepth 100000 in
set_option maxHeartbeats 4000000 in
theorem cNew:CNew KPK (fun _=>True):=by
 intro tv mv sv qv tc mc sc qc S w hS hF hnil _
 have HS:=hid hS
 clear hS hF hnil
 go_enter Tryz.func25,Tryz.ntmps25
 go_upto_region 1 with fail
 have hb0:Below w.heap.size w (w.alloc (.cells #[.int .i64 S.workers,.int .i64 S.start,.slice tv S.threads.length tc,.slice mv S.mutexes.length mc,.slice sv S.sems.length sc,.slice qv S.queues.length qc] 27)):=(Below.refl _ _).alloc (Nat.le_refl _) _
 have b0:=Blk.new w #[.int .i64 S.workers,.int .i64 S.start,.slice tv S.threads.length tc,.slice mv S.mutexes.length mc,.slice sv S.sems.length sc,.slice qv S.queues.length qc] 27
 generalize w.alloc (.cells #[.int .i64 S.workers,.int .i64 S.start,.slice tv S.threads.length tc,.slice mv S.mutexes.length mc,.slice sv S.sems.length sc,.slice qv S.queues.length qc] 27)=w0 at hb0 b0 ⊢
 have HS0:=hid (HS.out.later hb0)
 have HB0:=hid hb0
 have B0:=hid b0
 have y0:=b0.cell 0
 have y1:=b0.cell 1
 have y2:=b0.cell 2
 have y3:=b0.cell 3
 have y4:=b0.cell 4
 have y5:=b0.cell 5
 simp at y0 y1 y2 y3 y4 y5
 clear hb0 b0 HS
 go_wp2_with fail
 refine (checkSet_any tv mv sv qv tc mc sc qc S w0 HS0.out).mono ?_
 rintro e w1 ⟨rfl,hb1⟩
 have HS1:=hid (HS0.out.later hb1)
 have HB1:=hid (via HB0.out HB0.out.size hb1)
 have B1:=hid (B0.out.below' hb1)
 clear hb1 HS0 HB0 B0 y0 y1 y2 y3 y4 y5
 go_upto_region 2 with fail
 have hb2:Below w1.heap.size w1 (w1.alloc (.cells #[.int .i64 (P3.err S),.int .i64 (P3.place S)] 97)):=(Below.refl _ _).alloc (Nat.le_refl _) _
 have b2:=Blk.new w1 #[.int .i64 (P3.err S),.int .i64 (P3.place S)] 97
 generalize w1.alloc (.cells #[.int .i64 (P3.err S),.int .i64 (P3.place S)] 97)=w2 at hb2 b2 ⊢
 have HS2:=hid (HS1.out.later hb2)
 have HB2:=hid (via HB1.out HB1.out.size hb2)
 have B2:=hid (B1.out.below' hb2)
 have q0:=b2.cell 0
 simp at q0
 clear hb2 HS1 HB1 B1 b2
 cases herr:(P3.err S != 0)
 ·have hok:P3.err S=0:=by simpa using herr
  have HOK:=hid hok
  have hsz:=(ok_parts hok).1
  unfold P3.sizesB at hsz
  rw [decide_eq_true_iff] at hsz
  obtain ⟨z1,z2,z3,z4,z5,z6,z7,z8,z9⟩:=hsz
  obtain ⟨nw,hnw⟩:=Int.eq_ofNat_of_zero_le (show 0<=S.workers by omega)
  have HNW:=hid hnw
  have HNW2:Hid (S.workers.toNat=nw):=by rw [hnw]; exact hid rfl
  have y0:=B2.out.cell 0
  have y1:=B2.out.cell 1
  have y2:=B2.out.cell 2
  simp at y0 y1 y2
  have OFF:Hid (∀ x ∈ S.threads,0<=x.offset/\x.offset<=1000):=fun x hx=>by have:=(good_bare hok).off x hx; omega
  clear hok
  go_wp2_with fail
  refine (kNewThreads_any tv tc S.threads S.start w2 HS2.out.threads (by omega) (by omega) (ok_code HOK.out) ⟨z3,z4⟩ OFF.out).mono ?_
  rintro e w3 ⟨gT,cs,L,rfl,hgT,nt,hb3⟩
  have NTH:=hid nt
  have HB3:=hid (via HB2.out HB2.out.size hb3)
  have HS3:=hid (HS2.out.later hb3)
  have B3:=hid (B2.out.below' hb3)
  have y3:=B3.out.cell 3
  simp at y3
  clear nt hb3 HS2 B2 y0 y1 y2 q0
  go_wp2_with fail
  refine (kNewMutexes_any mv mc S.mutexes w3 HS3.out.mutexes (by omega)).mono ?_
  rintro e w4 ⟨gM,LM,rfl,hgM,nm,hb4⟩
  have NMH:=hid nm
  have H34:=hid hb4
  have HB4:=hid (via HB3.out HB3.out.size hb4)
  have HS4:=hid (HS3.out.later hb4)
  have B4:=hid (B3.out.below' hb4)
  have y4:=B4.out.cell 4
  simp at y4
  clear nm hb4 B3 y3 HS3
  go_wp2_with fail
  refine (kNewSems_any sv sc S.sems w4 HS4.out.sems (by omega)).mono ?_
  rintro e wS ⟨gS,LS,rfl,hgS,ns,hbS⟩
  have NSH:=hid ns
  have H4S:=hid hbS
  have HBS:=hid (via HB4.out HB4.out.size hbS)
  have HSS:=hid (HS4.out.later hbS)
  have BS:=hid (B4.out.below' hbS)
  have y5:=BS.out.cell 5
  simp at y5
  clear ns hbS B4 y4 HS4
  go_wp2_with fail
  refine (kNewQueues_any qv qc S.queues wS HSS.out.queues (by omega)).mono ?_
  rintro e wQ ⟨gQ,LQ,rfl,hgQ,nqu,hbQ⟩
  have NQH:=hid nqu
  have HSQ:=hid hbQ
  have HBQ:=hid (via HBS.out HBS.out.size hbQ)
  have BQ:=hid (BS.out.below' hbQ)
  have y0:=BQ.out.cell 0
  simp at y0
  rw [HNW.out] at y0
  clear nqu hbQ BS y5 HSS
  go_wp2_with fail
  refine (kFreeWorkers_any wQ nw (by omega) (by omega)).mono ?_
  rintro e w5 ⟨gW,rfl,hW,hb5⟩
  have HW:=hid hW
  have HQ5:=hid hb5
  have HB5:=hid (via HBQ.out HBQ.out.size hb5)
  have B5:=hid (BQ.out.below' hb5)
  have y2:=B5.out.cell 2
  simp at y2
  clear hW hb5 BQ y0
  go_wp2_with fail
  refine (kFirstTickets_any w5 S.threads.length (by omega)).mono ?_
  rintro e w6 ⟨gK,rfl,hK,hb6⟩
  have HK:=hid hK
  have H56:=hid hb6
  have HB6:=hid (via HB5.out HB5.out.size hb6)
  have B6:=hid (B5.out.below' hb6)
  have y1:=B6.out.cell 1
  simp at y1
  clear hK hb6 B5 y2
  go_upto_region 11 with fail
  obtain ⟨F,h,m7,hq7⟩:=kmem_new NTH.out H34.out NMH.out H4S.out NSH.out HSQ.out NQH.out HQ5.out HW.out H56.out HK.out
  obtain ⟨w7,hw7⟩:∃ w7,w7=w6.alloc (.cells #[.int .i64 S.start,.slice (some ⟨gT,0,none⟩) S.threads.length S.threads.length,.slice (some ⟨gM,0,none⟩) S.mutexes.length S.mutexes.length,.slice (some ⟨gS,0,none⟩) S.sems.length S.sems.length,.slice (some ⟨gQ,0,none⟩) S.queues.length S.queues.length,.slice (some ⟨gW,0,none⟩) nw nw,.slice (some ⟨gK,0,none⟩) S.threads.length S.threads.length,.slice none 0 0,.slice none 0 0] 109):=⟨_,rfl⟩
  have hb7:Below w6.heap.size w6 w7:=by rw [hw7]; exact (Below.refl _ _).alloc (Nat.le_refl _) _
  rw [<- hw7] at m7
  rw [<- hw7]
  have HB7:=hid (via HB6.out HB6.out.size hb7)
  have hz3:=HB3.out.size
  have hz2:=HB2.out.size
  have HQ7:Hid (∀ b,KB F w6.heap.size h b->w.heap.size<=b):=fun b hb=>by rcases hq7 b hb with h' | h' <;> omega
  have hkb:w.heap.size<=w6.heap.size:=HB6.out.size
  have M7:=hid m7
  clear hw7 m7 hq7 hb7 y1 B6 H34 H4S HSQ HQ5 H56 NTH NMH NSH NQH HW HK
  have RJ:=hid (kReleaseJobs_any M7.out (bare_fit HOK.out) (bare_aux S) (bare_rel HOK.out) (bare_kset HOK.out))
  generalize w6.heap.size=kb at *
  go_wp2_with fail
  refine RJ.out.mono ?_
  rintro e w8 ⟨rfl,h8,tk8,m8,a8,f8,o8,u8⟩
  have M8:=hid m8
  have A8:=hid a8
  have F8:=hid f8
  have U8:=hid u8
  have HB8:=hid (HB7.out.trans (o8.below (B:=w.heap.size) HB7.out.size (fun b hb=>by
   simp at hb
   rcases hb with rfl | rfl
   ·exact hkb
   ·exact HQ7.out _ (.inr (.inr (.inl rfl))))))
  have HQ8:Hid (∀ b,KB F kb h8 b->w.heap.size<=b):=fun b hb=>by
   rcases u8.blocks b hb with h' | h'
   ·exact HQ7.out b h'
   ·exact Nat.le_trans HB7.out.size h'
  clear m8 a8 f8 o8 u8 RJ
  have GO:=hid (kGiveOut_any M8.out F8.out A8.out (new_awOk HOK.out) (by simp; omega))
  go_wp2_with fail
  refine GO.out.mono ?_
  rintro e w9 ⟨rfl,m9,o9⟩
  have HB9:=hid (HB8.out.trans (o9.below (B:=w.heap.size) HB8.out.size (fun b hb=>by
   simp at hb
   subst hb
   exact HQ8.out _ (.inr (.inr (.inr (.inr (.inl rfl))))))))
  have M9:=hid m9
  clear m9 o9 GO
  go_wp2
  go_ret2
  have hset:(R.release (R.bare S)).set.workers.toNat=nw:=by
   have:(R.release (R.bare S)).set=S:=R.releaseTo_set _ _
   rw [this]
   exact HNW2.out
  refine ⟨HB9.out,.inr ⟨HOK.out,kb,KB F kb h8,rfl,⟨⟨_,⟨⟨F,h8,tk8,[],M9.out.settle,A8.out.settle F8.out,fun _ hb=>hb⟩,KB.lt M9.out⟩,?_⟩,inv_new HOK.out⟩,HQ8.out⟩⟩
  exact Ln.seatAll_settle A8.out.tk (by rw [hset]; exact new_wkw nw)
 ·have hno:P3.err S ≠ 0:=by simpa using herr
  have HNO:=hid hno
  clear hno
  go_wp2_with fail
  go_quiet (fail)
  go_wp2
  go_ret2
  exact ⟨bdrewN HB2.out _,.inl ⟨HNO.out,rfl⟩⟩
end Go.Proofs.YtbkfildnijjioaaGreat

namespace Go.Proofs.YtbkfildnijjioaaGreat
namespace R
theorem modify_comm (T:List RT) (t u:Nat) (f g:RT->RT) (h:∀ x,f (g x)=g (f x)):(T.modify t f).modify u g=(T.modify u g).modify t f:=by
 apply List.ext_getElem
 ·simp
 ·intro i h1 h2
  simp only [List.getElem_modify]
  by_cases e1:u=i <;> by_cases e2:t=i <;> simp [e1,e2,h]
structure Alike (s s':RS):Prop where
 set:s'.set=s.set
 owner:s'.owner=s.owner
 len:s'.T.length=s.T.length
 th:∀ u,(R.th s'.T u).base=(R.th s.T u).base/\(R.th s'.T u).for_=(R.th s.T u).for_/\(R.th s'.T u).of_=(R.th s.T u).of_/\(R.th s'.T u).since=(R.th s.T u).since
section
variable {s s':RS}
theorem Alike.inner (a:Alike s s') (f:Nat->Int) (m:Nat) (v:Int) (k:Nat):innerTo s'.T f m v k=innerTo s.T f m v k:=by
 induction k with
 | zero=>rfl
 | succ k ih=>unfold innerTo; rw [(a.th k).2.1,(a.th k).2.2.1,ih]
theorem Alike.outer (a:Alike s s') (f:Nat->Int) (pos:Bool) (t k:Nat):outerTo s' f pos t k=outerTo s f pos t k:=by
 induction k with
 | zero=>unfold outerTo; exact (a.th t).1
 | succ k ih=>unfold outerTo; rw [a.owner,a.set,ih,a.inner,a.len]
theorem Alike.lvl (a:Alike s s') (d:Nat):level s' d=level s d:=by
 induction d with
 | zero=>funext t; unfold level; rw [a.outer,a.owner]
 | succ d ih=>funext t; unfold level; rw [a.outer,a.owner,ih]
theorem Alike.Level (a:Alike s s') (t:Nat):R.Level s' t=R.Level s t:=by unfold R.Level; rw [a.len,a.lvl]
theorem Alike.firstTo (a:Alike s s') (what of_:Int) (l:List Int) (k:Nat):R.firstTo s' what of_ l k=R.firstTo s what of_ l k:=by
 induction k with
 | zero=>rfl
 | succ k ih =>
  have eg:∀ b,goesFirst s' k b=goesFirst s k b:=fun b=>by
   unfold goesFirst
   rw [a.Level,a.Level,(a.th k).2.2.2,(a.th b).2.2.2]
  unfold R.firstTo
  rw [ih,(a.th k).2.1,(a.th k).2.2.1,eg]
theorem Alike.giveT (a:Alike s s') (what of_:Int):R.giveT s' what of_=R.giveT s what of_:=by
 unfold R.giveT R.first
 rw [a.len,a.firstTo]
theorem Alike.roundTo (a:Alike s s') (t n:Nat) (o:Int):R.roundTo s' t n o=R.roundTo s t n o:=by
 induction n generalizing o with
 | zero=>rfl
 | succ n ih=>unfold R.roundTo; rw [(a.th o.toNat).2.1,(a.th o.toNat).2.2.1,a.owner,ih]
theorem Alike.round (a:Alike s s') (t m:Nat):R.round s' t m=R.round s t m:=by
 unfold R.round
 rw [a.roundTo,a.owner,a.len]
end
theorem alike_toAt (s:RS) (t:Nat) (a:Int):Alike s (toAt s t a):=by
 refine ⟨rfl,rfl,by simp [toAt],fun u=>?_⟩
 show (R.th (s.T.modify t (fun x=>{ x with at_:=a })) u).base=_/\_
 unfold toAt
 dsimp only
 rw [Ln.th_modify]
 split <;> exact ⟨rfl,rfl,rfl,rfl⟩
section
variable (s:RS) (t:Nat) (a:Int)
theorem beginW_toAt (u:Nat) (what of_ n:Int):beginW (toAt s t a) u what of_ n=toAt (beginW s u what of_ n) t a:=by
 unfold beginW toAt
 simp only [RS.mk.injEq,true_and,and_true]
 exact modify_comm _ _ _ _ _ (fun _=>rfl)
theorem endW_toAt (u:Nat) (c:Int):endW (toAt s t a) u c=toAt (endW s u c) t a:=by
 unfold endW wake toAt
 simp only [RS.mk.injEq,true_and,and_true]
 rw [modify_comm s.T t u (fun x=>{ x with at_:=a }) _ (fun _=>rfl),modify_comm _ t u (fun x=>{ x with at_:=a }) _ (fun _=>rfl)]
theorem giveS_toAt (what of_:Int):giveS (toAt s t a) what of_=toAt (giveS s what of_) t a:=by
 unfold giveS
 rw [(alike_toAt s t a).giveT]
 split
 ·exact endW_toAt s t a _ _
 ·rfl
theorem base_toAt (u:Nat):(R.th (toAt s t a).T u).base=(R.th s.T u).base:=((alike_toAt s t a).th u).1
theorem lockC_toAt (u m:Nat) (n:Int):lockC (toAt s t a) u m n=lockC s u m n:=by
 unfold lockC
 rw [base_toAt,(alike_toAt s t a).round]
 rfl
theorem lockS_toAt (u m:Nat) (n:Int):lockS (toAt s t a) u m n=toAt (lockS s u m n) t a:=by
 unfold lockS
 rw [lockC_toAt]
 split
 ·rfl
 ·split
  ·exact beginW_toAt s t a _ _ _ _
  ·rfl
theorem unlockS_toAt (u m:Nat):unlockS (toAt s t a) u m=toAt (unlockS s u m) t a:=by
 unfold unlockS
 rw [giveS_toAt,(alike_toAt s t a).giveT]
 show (if s.owner.getD m 0=(u:Int) then _ else _)=_
 split <;> rfl
theorem gets_toAt (u:Nat) (v:Int):gets (toAt s t a) u v=toAt (gets s u v) t a:=by
 unfold gets toAt
 simp only [RS.mk.injEq,true_and,and_true]
 exact modify_comm _ _ _ _ _ (fun _=>rfl)
theorem downS_toAt (u m:Nat) (b:Int):downS (toAt s t a) u m b=toAt (downS s u m b) t a:=by
 unfold downS
 show (if downC s m b=0 then _ else if downC s m b=1 then _ else _)=_
 split
 ·rfl
 ·split
  ·exact beginW_toAt s t a _ _ _ _
  ·rfl
theorem upS_toAt (m:Nat):upS (toAt s t a) m=toAt (upS s m) t a:=by
 unfold upS
 rw [(alike_toAt s t a).giveT,giveS_toAt]
 split
 ·rfl
 ·show (if s.count.getD m 0=(s.set.sems.getD m pair0).y then _ else _)=_
  split <;> rfl
theorem recvS_toAt (u m:Nat) (b:Int):recvS (toAt s t a) u m b=toAt (recvS s u m b) t a:=by
 unfold recvS
 show (if recvC s m b=0 then _ else if recvC s m b=1 then _ else _)=_
 split
 ·show { gets (toAt s t a) u ((boxAt s m).getD 0 0) with box:=s.box.set m ((boxAt s m).drop 1) }=_
  rw [gets_toAt]
  rfl
 ·split
  ·exact beginW_toAt s t a _ _ _ _
  ·rfl
theorem sendS_toAt (m:Nat) (b:Int):sendS (toAt s t a) m b=toAt (sendS s m b) t a:=by
 unfold sendS
 rw [(alike_toAt s t a).giveT,giveS_toAt]
 split
 ·exact gets_toAt _ _ _ _ _
 ·show (if ((boxAt s m).length:Int)=s.set.queues.getD m 0 then _ else _)=_
  split <;> rfl
theorem doesS_toAt (i:InstrD):doesS (toAt s t a) t i=toAt (doesS s t i) t a:=by
 unfold doesS
 rw [beginW_toAt,lockS_toAt,unlockS_toAt,downS_toAt,upS_toAt,sendS_toAt,recvS_toAt]
 split
 ·unfold toAt
  simp only [RS.mk.injEq,true_and,and_true]
  exact modify_comm _ _ _ _ _ (fun _=>rfl)
 ·split
  ·unfold toAt
   simp only [RS.mk.injEq,true_and,and_true]
   exact modify_comm _ _ _ _ _ (fun _=>rfl)
  ·repeat (first | rfl | split)
theorem doesC_toAt (i:InstrD):doesC (toAt s t a) t i=doesC s t i:=by
 unfold doesC
 rw [lockC_toAt]
 have e1:∀ m,upC (toAt s t a) m=upC s m:=fun m=>by unfold upC; rw [(alike_toAt s t a).giveT]; rfl
 have e2:∀ m,sendC (toAt s t a) m=sendC s m:=fun m=>by unfold sendC; rw [(alike_toAt s t a).giveT]; rfl
 rw [e1,e2]
 rfl
end
theorem actS_is (s:RS) (t:Nat) (h0:(instrAt s t).op ≠ 0) (h3:(instrAt s t).op ≠ 3):actS s t=toLast (toAt (doesS s t (instrAt s t)) t ((R.th s.T t).at_ + 1)) t (doesC s t (instrAt s t))/\actC s t=doesC s t (instrAt s t):=by
 have hc:actC s t=doesC s t (instrAt s t):=by
  unfold actC
  rw [if_neg (by rintro (h | h); exact h0 h; exact h3 h),doesC_toAt]
 refine ⟨?_,hc⟩
 unfold actS
 rw [if_neg h0,if_neg h3,hc,doesS_toAt]
end R
end Go.Proofs.YtbkfildnijjioaaGreat

namespace Go.Proofs.YtbkfildnijjioaaGreat
namespace R
structure Keep (s s':RS):Prop where
 len:s'.T.length=s.T.length
 wkr:∀ u,(R.th s'.T u).wkr=(R.th s.T u).wkr
 got:∀ u,(R.th s'.T u).got=(R.th s.T u).got
structure KeepW (s s':RS):Prop where
 len:s'.T.length=s.T.length
 wkr:∀ u,(R.th s'.T u).wkr=(R.th s.T u).wkr\/((R.th s'.T u).wkr=-1/\(R.th s'.T u).awake=false)
section
variable {s s' s'':RS}
theorem Keep.refl (s:RS):Keep s s:=⟨rfl,fun _=>rfl,fun _=>rfl⟩
theorem Keep.trans (k:Keep s s') (l:Keep s' s''):Keep s s'':=⟨l.len.trans k.len,fun u=>(l.wkr u).trans (k.wkr u),fun u=>(l.got u).trans (k.got u)⟩
theorem Keep.weak (k:Keep s s'):KeepW s s':=⟨k.len,fun u=>.inl (k.wkr u)⟩
theorem keep_of (hT:∀ u,(R.th s'.T u).wkr=(R.th s.T u).wkr/\(R.th s'.T u).got=(R.th s.T u).got) (hl:s'.T.length=s.T.length):Keep s s':=⟨hl,fun u=>(hT u).1,fun u=>(hT u).2⟩
theorem keep_modify {s s':RS} (t:Nat) {f:RT->RT} (h:s'.T=s.T.modify t f) (hf:∀ x,(f x).wkr=x.wkr/\(f x).got=x.got):Keep s s':=by
 refine keep_of (fun u=>?_) (by rw [h]; simp)
 rw [h,Ln.th_modify]
 split
 ·exact hf _
 ·exact ⟨rfl,rfl⟩
theorem keep_same (h:s'.T=s.T):Keep s s':=keep_of (fun u=>by rw [h]; exact ⟨rfl,rfl⟩) (by rw [h])
theorem keep_wake (s:RS) (t:Nat):Keep s (wake s t):=keep_modify t rfl (fun _=>⟨rfl,rfl⟩)
theorem keep_endW (s:RS) (t:Nat) (c:Int):Keep s (endW s t c):=(keep_modify (s':={ s with T:=s.T.modify t (fun x=>{ x with for_:=0,of_:=0,until_:=0,last:=c }) }) t rfl (fun _=>⟨rfl,rfl⟩)).trans (keep_wake _ t)
theorem keep_giveS (s:RS) (what of_:Int):Keep s (giveS s what of_):=by
 unfold giveS
 split
 ·exact keep_endW _ _ _
 ·exact Keep.refl s
theorem keep_unlockS (s:RS) (t m:Nat):Keep s (unlockS s t m):=by
 unfold unlockS
 split
 ·exact (keep_giveS s 1 (m:Int)).trans (keep_same rfl)
 ·exact Keep.refl s
theorem keep_unlocksTo (s:RS) (t k:Nat):Keep s (unlocksTo s t k):=by
 induction k with
 | zero=>exact Keep.refl s
 | succ k ih=>exact ih.trans (keep_unlockS _ t k)
theorem keep_stop (s:RS) (t:Nat):Keep s (stop s t):=by
 have h1:Keep s (stop0 s t):=keep_modify t rfl (fun _=>⟨rfl,rfl⟩)
 have h2:=h1.trans (keep_unlocksTo (stop0 s t) t s.owner.length)
 have h3:Keep s (asleep (unlocksTo (stop0 s t) t s.owner.length) t):=h2.trans (keep_modify t rfl (fun _=>⟨rfl,rfl⟩))
 unfold stop
 split
 ·exact h3.trans (keep_wake _ t)
 ·exact h3
theorem keep_toAt (s:RS) (t:Nat) (a:Int):Keep s (toAt s t a):=keep_modify t rfl (fun _=>⟨rfl,rfl⟩)
theorem keepW_beginW (s:RS) (t:Nat) (what of_ n:Int):KeepW s (beginW s t what of_ n):=by
 have hth:∀ u,(R.th (beginW s t what of_ n).T u=R.th s.T u)\/((R.th (beginW s t what of_ n).T u).wkr=-1/\(R.th (beginW s t what of_ n).T u).awake=false/\(R.th (beginW s t what of_ n).T u).got=(R.th s.T u).got):=by
  intro u
  unfold beginW
  dsimp only
  rw [Ln.th_modify]
  split
  ·exact .inr ⟨rfl,rfl,rfl⟩
  ·exact .inl rfl
 refine ⟨by simp [beginW],fun u=>?_⟩
 rcases hth u with h | h
 ·exact .inl (by rw [h])
 ·exact .inr ⟨h.1,h.2.1⟩
theorem KeepW.trans' (k:KeepW s s') (hl:s''.T.length=s'.T.length) (h:∀ u,(R.th s''.T u).wkr=(R.th s'.T u).wkr/\(R.th s''.T u).awake=(R.th s'.T u).awake):KeepW s s'' :=
 ⟨hl.trans k.len,fun u=>by rw [(h u).1,(h u).2]; exact k.wkr u⟩
theorem keepW_gets (s:RS) (t:Nat) (v:Int):KeepW s (gets s t v):=by
 refine ⟨by simp [gets],fun u=>.inl ?_⟩
 unfold gets
 dsimp only
 rw [Ln.th_modify]
 split <;> rfl
theorem keepW_same (h:s'.T=s.T):KeepW s s':=(keep_same h).weak
theorem keepW_doesS (s:RS) (t:Nat) (i:InstrD):KeepW s (doesS s t i):=by
 unfold doesS
 split
 ·exact Keep.weak (keep_modify t rfl (fun _=>⟨rfl,rfl⟩))
 split
 ·exact Keep.weak (keep_modify i.a.toNat rfl (fun _=>⟨rfl,rfl⟩))
 split
 ·exact keepW_beginW _ _ _ _ _
 split
 ·unfold lockS
  split
  ·exact keepW_same rfl
  ·split
   ·exact keepW_beginW _ _ _ _ _
   ·exact (Keep.refl s).weak
 split
 ·exact (keep_unlockS s t _).weak
 split
 ·unfold downS
  split
  ·exact keepW_same rfl
  ·split
   ·exact keepW_beginW _ _ _ _ _
   ·exact (Keep.refl s).weak
 split
 ·unfold upS
  split
  ·exact (keep_giveS s 2 _).weak
  ·split
   ·exact (Keep.refl s).weak
   ·exact keepW_same rfl
 split
 ·unfold sendS
  split
  ·refine (keep_giveS s 3 (i.a.toNat:Int)).weak.trans' (by simp [gets]) fun u=>?_
   unfold gets
   dsimp only
   rw [Ln.th_modify]
   split <;> exact ⟨rfl,rfl⟩
  ·split
   ·exact (Keep.refl s).weak
   ·exact keepW_same rfl
 split
 ·unfold recvS
  split
  ·exact (keepW_gets s t _).trans' rfl fun u=>⟨rfl,rfl⟩
  ·split
   ·exact keepW_beginW _ _ _ _ _
   ·exact (Keep.refl s).weak
 ·exact (Keep.refl s).weak
theorem keepW_actS (s:RS) (t:Nat):KeepW s (actS s t):=by
 by_cases h0:(instrAt s t).op=0
 ·unfold actS
  rw [if_pos h0]
  exact (keep_stop s t).weak
 ·by_cases h3:(instrAt s t).op=3
  ·unfold actS
   rw [if_neg h0,if_pos h3]
   split
   ·exact (keep_toAt _ _ _).weak
   ·exact (keep_toAt _ _ _).weak
  ·rw [(actS_is s t h0 h3).1]
   refine (keepW_doesS s t (instrAt s t)).trans' (by simp [toLast,toAt]) fun u=>?_
   unfold toLast toAt
   dsimp only
   rw [Ln.th_modify,Ln.th_modify]
   split <;> split <;> exact ⟨rfl,rfl⟩
end
end R
end Go.Proofs.YtbkfildnijjioaaGreat

namespace Go.Proofs.YtbkfildnijjioaaGreat
open Go.RowKit
section
variable {F:Nat->Prop} {w w':World} {kb:Nat} {h:KH} {s:RS} {tk wt:List Nat} {ws:List Int}
set_option maxRecDepth 100000 in
set_option maxHeartbeats 2000000 in
theorem kNextInstr_any (m:KMem F w kb h s tk wt ws) (t:Nat) (ht:t < s.T.length) (_hfew:s.T.length<=16) (ha0:0<=s.T[t].at_) (_hc32:(s.set.threads.getD t P3.none0).code.length<=32) :
  Calls Tryz.prog 148 #[.pointer (some ⟨kb,0,none⟩),.int .i64 t] w fun e w'=>e=.returned (.agg #[.int .i64 (R.instrAt s t).op,.int .i64 (R.instrAt s t).a,.int .i64 (R.instrAt s t).b])/\Below w.heap.size w w':=by
 have hbA:Below w.heap.size w (w.alloc (.cells #[.int .i64 0,.int .i64 0,.int .i64 0] 61)):=(Below.refl _ _).alloc (Nat.le_refl _) _
 have XA:=Blk.new w #[.int .i64 0,.int .i64 0,.int .i64 0] 61
 have EI:Hid (R.instrAt s t=((s.set.threads.getD t P3.none0).code)[s.T[t].at_.toNat]?.getD ⟨0,0,0⟩):=by
  unfold R.instrAt
  rw [th_ext ht]
  exact hid rfl
 have M:=hid m
 clear m
 generalize R.instrAt s t=ii at *
 go_enter Tryz.func148,Tryz.ntmps148
 go_upto_region 1 with fail
 generalize w.alloc (.cells #[.int .i64 0,.int .i64 0,.int .i64 0] 61)=wA at hbA XA ⊢
 have MA:=hid (M.out.below hbA)
 have HBA:=hid hbA
 have HXA:=hid XA
 clear XA hbA
 have c1:=MA.out.blk.cell 1
 simp [kCells] at c1
 obtain ⟨cv,cc,hcs,hcode⟩:=MA.out.codes t ht
 have a0:=MA.out.tcell ht 0 (by decide)
 have a5:=MA.out.tcell ht 5 (by decide)
 rw [hcs] at a0
 simp [ktCells] at a5
 simp only [ktCells] at a0
 have x0:=HXA.out.cell 0
 have x1:=HXA.out.cell 1
 have x2:=HXA.out.cell 2
 simp at x0 x1 x2
 have z0:=HXA.out.frozen 0
 have z1:=HXA.out.frozen 1
 have z2:=HXA.out.frozen 2
 have hxl:=HXA.out.lt
 have htI:(t:Int) < (s.T.length:Int):=by omega
 have HCODE:=hid hcode
 clear hcs hcode
 generalize s.T[t].at_=at_ at *
 generalize (s.set.threads.getD t P3.none0).code=C at *
 simp at a0
 obtain ⟨k,rfl⟩:=Int.eq_ofNat_of_zero_le ha0
 have ek:Int.toNat (k:Int)=k:=by omega
 rw [ek] at EI
 by_cases hin:k < C.length
 ·obtain ⟨b,o,ha,hF,y0,y1,y2⟩:=HCODE.out k hin
  subst ha
  have HE:Hid (ii=C[k]):=by rw [EI.out]; exact hid (by simp [hin])
  have hkI:(k:Int) < (C.length:Int):=by omega
  generalize C[k]=x at *
  go_wp2
  refine bodyPost_ret (v:=.agg #[.int .i64 x.op,.int .i64 x.a,.int .i64 x.b]) ?_ rfl ⟨by rw [HE.out],?_⟩
  ·simp [results,Tryz.results148,go_sem,x0,x1,x2]
  ·iterate 3 refine Below.setCell ?_ (by simp) _
   exact HBA.out
 ·have HE:Hid (ii=⟨0,0,0⟩):=by rw [EI.out]; exact hid (by simp [show C.length<=k by omega])
  have hge:(C.length:Int)<=(k:Int):=by omega
  go_wp2
  refine bodyPost_ret (v:=.agg #[.int .i64 0,.int .i64 0,.int .i64 0]) ?_ rfl ⟨by rw [HE.out],?_⟩
  ·simp [results,Tryz.results148,go_sem,x0,x1,x2]
  ·iterate 3 refine Below.setCell ?_ (by simp) _
   exact HBA.out
set_option maxHeartbeats 1000000 in
theorem kJumpWhen_any (m:KMem F w kb h s tk wt ws) (t:Nat) (ht:t < s.T.length) (_hfew:s.T.length<=16) (la pl:Int) (ha0:0<=s.T[t].at_/\s.T[t].at_<=1000) :
  Calls Tryz.prog 150 #[.pointer (some ⟨kb,0,none⟩),.int .i64 t,.int .i64 la,.int .i64 pl] w fun e w'=>e=.returned (.tuple #[])/\∃ h',KMem F w' kb h' (if s.T[t].last=la then R.toAt s t pl else R.toAt s t (s.T[t].at_ + 1)) tk wt ws/\Only [kb,h.gT] w w'/\KUp w h h':=by
 have c1:=m.blk.cell 1
 simp [kCells] at c1
 have a5:=m.tcell ht 5 (by decide)
 have a6:=m.tcell ht 6 (by decide)
 simp [ktCells] at a5 a6
 have f5:=m.tfrozen (t * 13 + 5)
 have htI:(t:Int) < (s.T.length:Int):=by omega
 have SET:=hid (fun v:Int=>m.setT' ht (j:=5) (by decide) (.int .i64 v) (fun x=>{ x with at_:=v }) (ktCells_at _ _ _ _ _))
 have ONL:Hid (∀ v,Only [kb,h.gT] w (w.setCell ⟨h.gT,t * 13 + 5,none⟩ v)):=fun v=>(Only.refl _ _).setCell (.inl (by simp)) v
 obtain ⟨h0,h1⟩:=ha0
 clear m
 generalize s.T[t].last=ls at *
 generalize s.T[t].at_=at_ at *
 by_cases hl:ls=la
 ·simp only [if_pos hl]
  subst hl
  obtain ⟨h2,m2,u2⟩:=SET.out pl
  have M2:=hid m2
  have U2:=hid u2
  clear m2 u2
  go_enter Tryz.func150,Tryz.ntmps150
  go_wp2
  (try simp only [Exit.inBlock,Exit.then])
  refine bodyPost_ret (results_none rfl _ _ _) rfl ?_
  exact ⟨rfl,h2,M2.out,ONL.out _,U2.out⟩
 ·simp only [if_neg hl]
  have hl':(ls == la)=false:=by simpa using hl
  obtain ⟨h2,m2,u2⟩:=SET.out (at_ + 1)
  have M2:=hid m2
  have U2:=hid u2
  clear m2 u2
  go_enter Tryz.func150,Tryz.ntmps150
  go_wp2
  go_end0
  exact ⟨rfl,h2,M2.out,ONL.out _,U2.out⟩
theorem KMem.setEnd (m:KMem F w kb h s tk wt ws) {t:Nat} (ht:t < s.T.length):∃ h',KMem F (((w.setCell ⟨h.gT,t * 13 + 9,none⟩ (.int .i64 (s.T[t].ended + 1))).setCell ⟨h.gT,t * 13 + 5,none⟩ (.int .i64 0)).setCell ⟨h.gT,t * 13 + 6,none⟩ (.int .i64 0)) kb h' (R.stop0 s t) tk wt ws/\KUp w h h':=by
 obtain ⟨h1,m1,u1⟩:=m.setT' ht (j:=9) (by decide) (.int .i64 (s.T[t].ended + 1)) (fun x=>{ x with ended:=s.T[t].ended + 1 }) (ktCells_ended _ _ _ _ _)
 obtain ⟨h2,m2,u2⟩:=m1.setT' (t:=t) (by simpa using ht) (j:=5) (by decide) (.int .i64 0) (fun x=>{ x with at_:=0 }) (ktCells_at _ _ _ _ _)
 obtain ⟨h3,m3,u3⟩:=m2.setT' (t:=t) (by simpa using ht) (j:=6) (by decide) (.int .i64 0) (fun x=>{ x with last:=0 }) (ktCells_last _ _ _ _ _)
 dsimp only at m3
 rw [u2.gT,u1.gT] at m3
 refine ⟨h3,?_,(u1.trans u2 (setCell_sz _ _ _)).trans u3 (Nat.le_trans (setCell_sz _ _ _) (setCell_sz _ _ _))⟩
 refine m3.cong rfl rfl (by simp [R.stop0]) rfl rfl rfl rfl (fun i hi=>?_)
 simp only [R.stop0,List.getElem_modify]
 by_cases e:t=i
 ·subst e
  simp only [if_pos]
 ·simp only [if_neg e]
theorem KMem.asleep (m:KMem F w kb h s tk wt ws) (t:Nat):KMem F w kb h (R.asleep s t) tk wt ws:=by
 refine m.cong rfl rfl (by simp [R.asleep]) rfl rfl rfl rfl (fun i hi=>?_)
 simp only [R.asleep,List.getElem_modify]
 by_cases e:t=i
 ·simp only [if_pos e]
  rfl
 ·simp only [if_neg e]
set_option maxHeartbeats 1000000 in
theorem kEndJob_any (m:KMem F w kb h s tk wt ws) (f:KFit s) (a:Ln.Aux s tk wt) (t:Nat) (ht:t < s.T.length) (he:0<=s.T[t].ended/\s.T[t].ended<=2000000000) :
  Calls Tryz.prog 149 #[.pointer (some ⟨kb,0,none⟩),.int .i64 t] w fun e w'=>e=.returned (.tuple #[])/\∃ h' tk' wt',KMem F w' kb h' (R.stop s t) tk' wt' ws/\Ln.Aux (R.stop s t) tk' wt'/\Only [kb,h.gT,h.gM] w w'/\KUp w h h':=by
 have c1:=m.blk.cell 1
 simp [kCells] at c1
 have a8:=m.tcell ht 9 (by decide)
 have a5:=m.tcell ht 5 (by decide)
 have a6:=m.tcell ht 6 (by decide)
 simp [ktCells] at a5 a6 a8
 have f8:=m.tfrozen (t * 13 + 9)
 have f5:=m.tfrozen (t * 13 + 5)
 have f6:=m.tfrozen (t * 13 + 6)
 have htI:(t:Int) < (s.T.length:Int):=by omega
 obtain ⟨h1,m1,u1⟩:=m.setEnd ht
 have fs:KFit (R.stop0 s t):=f.modify t _ (fun _=>⟨rfl,rfl⟩)
 have as0:Ln.Aux (R.stop0 s t) tk wt:=a.modify f.ok t _ (fun _=>⟨rfl,rfl,rfl,rfl,id⟩)
 have CU:=hid (kUnlockAll_any m1 fs as0 t)
 have O1:Hid (Only [kb,h.gT,h.gM] w (((w.setCell ⟨h.gT,t * 13 + 9,none⟩ (.int .i64 (s.T[t].ended + 1))).setCell ⟨h.gT,t * 13 + 5,none⟩ (.int .i64 0)).setCell ⟨h.gT,t * 13 + 6,none⟩ (.int .i64 0))):=(((Only.refl _ _).setCell (.inl (by simp)) _).setCell (.inl (by simp)) _).setCell (.inl (by simp)) _
 have U1:=hid u1
 have F4:=hid (fs.unlocks t s.owner.length)
 obtain ⟨l1,l2,l3⟩:=unlocksTo_len (R.stop0 s t) t s.owner.length
 have hl4:(R.unlocksTo (R.stop0 s t) t s.owner.length).T.length=s.T.length:=by rw [l2]; simp [R.stop0]
 have ES:Hid (R.stop s t=if (R.th (R.asleep (R.unlocksTo (R.stop0 s t) t s.owner.length) t).T t).ended < (R.th (R.asleep (R.unlocksTo (R.stop0 s t) t s.owner.length) t).T t).rel then R.wake (R.asleep (R.unlocksTo (R.stop0 s t) t s.owner.length) t) t else R.asleep (R.unlocksTo (R.stop0 s t) t s.owner.length) t):=rfl
 obtain ⟨e0,e1⟩:=he
 clear m f a m1 u1 fs as0 l1 l2 l3
 generalize R.stop s t=res at *
 have CU':Hid (Calls Tryz.prog 155 #[.pointer (some ⟨kb,0,none⟩),.int .i64 t] (((w.setCell ⟨h.gT,t * 13 + 9,none⟩ (.int .i64 (s.T[t].ended + 1))).setCell ⟨h.gT,t * 13 + 5,none⟩ (.int .i64 0)).setCell ⟨h.gT,t * 13 + 6,none⟩ (.int .i64 0)) fun e w'=>e=.returned (.tuple #[])/\∃ h' tk' wt',KMem F w' kb h' (R.unlocksTo (R.stop0 s t) t s.owner.length) tk' wt' ws/\Ln.Aux (R.unlocksTo (R.stop0 s t) t s.owner.length) tk' wt'/\Only [kb,h1.gT,h1.gM] (((w.setCell ⟨h.gT,t * 13 + 9,none⟩ (.int .i64 (s.T[t].ended + 1))).setCell ⟨h.gT,t * 13 + 5,none⟩ (.int .i64 0)).setCell ⟨h.gT,t * 13 + 6,none⟩ (.int .i64 0)) w'/\KUp (((w.setCell ⟨h.gT,t * 13 + 9,none⟩ (.int .i64 (s.T[t].ended + 1))).setCell ⟨h.gT,t * 13 + 5,none⟩ (.int .i64 0)).setCell ⟨h.gT,t * 13 + 6,none⟩ (.int .i64 0)) h1 h'):=CU.out
 clear CU
 generalize R.unlocksTo (R.stop0 s t) t s.owner.length=s4 at *
 have ht4:t < s4.T.length:=by rw [hl4]; exact ht
 have eth:R.th (R.asleep s4 t).T t={ s4.T[t] with awake:=false }:=by
  show R.th (s4.T.modify t _) t=_
  rw [Ln.th_modify,if_pos ⟨rfl,ht4⟩,th_ext ht4]
 rw [eth] at ES
 have ES2:Hid (res=if s4.T[t].ended < s4.T[t].rel then R.wake (R.asleep s4 t) t else R.asleep s4 t):=ES.out
 clear ES eth
 generalize s.T[t]=x at *
 go_enter Tryz.func149,Tryz.ntmps149
 go_upto_region 3 with fail
 clear c1 a8 a5 a6 f8 f5 f6
 generalize ((w.setCell ⟨h.gT,t * 13 + 9,none⟩ (.int .i64 (x.ended + 1))).setCell ⟨h.gT,t * 13 + 5,none⟩ (.int .i64 0)).setCell ⟨h.gT,t * 13 + 6,none⟩ (.int .i64 0)=w1 at *
 go_wp2_with fail
 refine CU'.out.mono ?_
 rintro e w4 ⟨rfl,h4,tk4,wt4,m4,a4,o4,u4⟩
 have M4:=hid m4
 have A4:=hid a4
 have U4:=hid (U1.out.trans u4 O1.out.size)
 have O4:=hid (O1.out.trans (o4.mono (fun b hb=>by rw [U1.out.gT,U1.out.gM] at hb; exact hb)))
 have hsm:=a4.few F4.out.few
 have AS:Hid (Ln.Aux (R.asleep s4 t) tk4 wt4):=a4.modify F4.out.ok t _ (fun _=>⟨rfl,rfl,rfl,rfl,fun hh=>by cases hh⟩)
 have FS:Hid (KFit (R.asleep s4 t)):=F4.out.modify t _ (fun _=>⟨rfl,rfl⟩)
 have HJ:=hid (kHasJob_any m4 t ht4 F4.out.few)
 clear m4 a4 o4 u4 CU'
 go_wp2_with fail
 refine HJ.out.mono ?_
 rintro e w5 ⟨rfl,n,rfl⟩
 have O5:=hid (O4.out.drewN n)
 have M5:=hid (M4.out.drewN n)
 have hsz5:=O5.out.size
 clear HJ M4 O4
 generalize w4.drewN n=w5 at *
 cases hj:decide (s4.T[t].ended < s4.T[t].rel)
 ·have hn:¬ s4.T[t].ended < s4.T[t].rel:=by simpa using hj
  have HE:Hid (res=R.asleep s4 t):=by rw [ES2.out,if_neg hn]; exact hid rfl
  clear hn ES2
  go_wp2
  go_end0
  refine ⟨rfl,h4,tk4,wt4,?_,?_,O5.out,U4.out⟩
  ·rw [HE.out]; exact M5.out.asleep t
  ·rw [HE.out]; exact AS.out
 ·have hn:s4.T[t].ended < s4.T[t].rel:=by simpa using hj
  have HE:Hid (res=R.wake (R.asleep s4 t) t):=by rw [ES2.out,if_pos hn]; exact hid rfl
  clear hn ES2
  go_wp2_with fail
  refine (kDraw_any M5.out t hsm.1).mono ?_
  rintro e w6 ⟨rfl,h6,m6,o6,u6⟩
  have M6:=hid m6
  have U6:=hid (U4.out.trans u6 hsz5)
  have O6:=hid (O5.out.trans (o6.mono (fun b hb=>by simp at hb; simp [hb])))
  clear m6 o6 u6
  go_wp2
  go_end0
  refine ⟨rfl,h6,Ln.less tk4 t ++ [t],wt4,?_,?_,O6.out,U6.out⟩
  ·rw [HE.out]; exact (M6.out.asleep t).wake t
  ·rw [HE.out]; exact AS.out.wake FS.out.ok t (by simpa [R.asleep] using ht4)
end
end Go.Proofs.YtbkfildnijjioaaGreat

namespace Go.Proofs.YtbkfildnijjioaaGreat
open Go.RowKit
def kW (kb:Nat) (h:KH):List Nat:=kb :: h.gT :: h.gM :: h.gS :: h.gQ :: (h.vWt.ownBlock.toList ++ (List.range h.nq).filterMap fun i=>(h.qv i).ownBlock)
theorem kW_sub {F:Nat->Prop} {kb:Nat} {h:KH}:∀ b,b ∈ kW kb h->KB F kb h b:=by
 intro b hb
 simp only [kW,List.mem_cons,List.mem_append,Option.mem_toList,List.mem_filterMap,List.mem_range] at hb
 rcases hb with e | e | e | e | e | e | ⟨i,hi,e⟩
 ·exact .inr (.inl e)
 ·exact .inr (.inr (.inl e))
 ·exact .inr (.inr (.inr (.inl e)))
 ·exact .inr (.inr (.inr (.inr (.inr (.inr (.inr (.inr (.inl e))))))))
 ·exact .inr (.inr (.inr (.inr (.inr (.inr (.inr (.inr (.inr (.inl e)))))))))
 ·exact .inr (.inr (.inr (.inr (.inr (.inr (.inl e))))))
 ·exact .inr (.inr (.inr (.inr (.inr (.inr (.inr (.inr (.inr (.inr ⟨i,hi,e⟩)))))))))
theorem kW_kb {kb:Nat} {h:KH}:kb ∈ kW kb h:=by simp [kW]
theorem kW_gT {kb:Nat} {h:KH}:h.gT ∈ kW kb h:=by simp [kW]
theorem kW_gM {kb:Nat} {h:KH}:h.gM ∈ kW kb h:=by simp [kW]
theorem kW_gS {kb:Nat} {h:KH}:h.gS ∈ kW kb h:=by simp [kW]
theorem kW_gQ {kb:Nat} {h:KH}:h.gQ ∈ kW kb h:=by simp [kW]
theorem kW_wt {kb:Nat} {h:KH} {b:Nat} (e:h.vWt.ownBlock=some b):b ∈ kW kb h:=by simp [kW,e]
theorem kW_q {kb:Nat} {h:KH} {b i:Nat} (hi:i < h.nq) (e:(h.qv i).ownBlock=some b):b ∈ kW kb h:=by
 simp only [kW,List.mem_cons,List.mem_append,Option.mem_toList,List.mem_filterMap,List.mem_range]
 exact .inr (.inr (.inr (.inr (.inr (.inr ⟨i,hi,e⟩)))))
theorem kW_lock {kb:Nat} {h:KH}:∀ b,b ∈ kb :: h.gT :: h.gM :: h.vWt.ownBlock.toList->b ∈ kW kb h:=by
 intro b hb
 simp only [List.mem_cons,Option.mem_toList] at hb
 rcases hb with e | e | e | e
 ·rw [e]; exact kW_kb
 ·rw [e]; exact kW_gT
 ·rw [e]; exact kW_gM
 ·exact kW_wt e
theorem kW_wait {kb:Nat} {h:KH}:∀ b,b ∈ kb :: h.gT :: h.vWt.ownBlock.toList->b ∈ kW kb h:=by
 intro b hb
 simp only [List.mem_cons,Option.mem_toList] at hb
 rcases hb with e | e | e
 ·rw [e]; exact kW_kb
 ·rw [e]; exact kW_gT
 ·exact kW_wt e
theorem kW_give {kb:Nat} {h:KH}:∀ b,b ∈ [kb,h.gT]->b ∈ kW kb h:=by
 intro b hb
 simp at hb
 rcases hb with e | e
 ·rw [e]; exact kW_kb
 ·rw [e]; exact kW_gT
section
variable {F:Nat->Prop} {w w':World} {kb:Nat} {h:KH} {s:RS} {tk wt:List Nat} {ws:List Int}
theorem Ln.Aux.stores (a:Ln.Aux s tk wt) (f:KFit s) (c:List Int) (b:List (List Int)):Ln.Aux { s with count:=c,box:=b } tk wt:=a.same f.ok rfl rfl (Int.le_refl _) fun _ _=>⟨rfl,rfl,rfl,rfl,id⟩
set_option maxRecDepth 100000 in
set_option maxHeartbeats 2000000 in
theorem kDown_any (m:KMem F w kb h s tk wt ws) (f:KFit s) (a:Ln.Aux s tk wt) (t k:Nat) (ht:t < s.T.length) (hf0:s.T[t].for_=0) (hk:k < s.count.length) (_h8:s.count.length<=8) (hc0:0<=s.count[k]/\s.count[k]<=1000000) (n:Int) (hn0:-1<=n) (hn1:n<=1000) (g0:0<=s.now) (g1:s.now<=1000000000) :
  Calls Tryz.prog 159 #[.pointer (some ⟨kb,0,none⟩),.int .i64 t,.int .i64 k,.int .i64 n] w fun e w'=>e=.returned (.int .i64 (R.downC s k n))/\∃ h' tk' wt',KMem F w' kb h' (R.downS s t k n) tk' wt' ws/\Ln.Aux (R.downS s t k n) tk' wt'/\Only (kW kb h) w w'/\KUp w h h':=by
 have c3:=m.blk.cell 3
 simp [kCells] at c3
 have b3:=m.scell hk 0 (by decide)
 simp [ksCells] at b3
 have f3:=m.sfrozen (k * 2)
 have ec:s.count.getD k 0=s.count[k]:=by simp [List.getD,hk]
 have EC:Hid (R.downC s k n=if 0 < s.count[k] then 0 else if n=0 then 2 else 1):=by unfold R.downC; rw [ec]; exact hid rfl
 have ES:Hid (R.downS s t k n=if R.downC s k n=0 then { s with count:=s.count.set k (s.count[k] - 1) } else if R.downC s k n=1 then R.beginW s t 2 (k:Int) n else s):=by unfold R.downS; rw [ec]; exact hid rfl
 have hkI:(k:Int) < (s.count.length:Int):=by omega
 have hf0':(R.th s.T t).for_=0:=by rw [th_ext ht]; exact hf0
 have AB:=hid (a.beginW f.ok t ht hf0' 2 (k:Int) n (by decide) (fun hh=>absurd hh (by decide)))
 have BW:=hid (kWaitFor_any m t ht f.few (a.few f.few).2 2 (k:Int) n hn0 hn1 g0 g1)
 have SS:=hid (m.setS' k hk (s.count[k] - 1))
 have AS:Hid (Ln.Aux { s with count:=s.count.set k (s.count[k] - 1) } tk wt):=a.stores f _ s.box
 have M:=hid m
 have AX:=hid a
 clear m f a ec hf0 hf0'
 generalize R.downS s t k n=ss at *
 generalize R.downC s k n=cc at *
 generalize R.beginW s t 2 (k:Int) n=sb at *
 go_enter Tryz.func159,Tryz.ntmps159
 by_cases hz:s.count[k]=0
 ·have HC:Hid (cc=if n=0 then 2 else 1):=by rw [EC.out,if_neg (by omega)]; exact hid rfl
  have HS:Hid (ss=if n=0 then s else sb):=by
   rw [ES.out,HC.out]
   by_cases hz:n=0
   ·simp only [if_pos hz]
    exact hid rfl
   ·simp only [if_neg hz]
    exact hid rfl
  have HA:Hid (Ln.Aux (if n=0 then s else sb) tk (if n=0 then wt else wt ++ [t])):=by
   by_cases hz:n=0
   ·simp only [if_pos hz]
    exact hid AX.out
   ·simp only [if_neg hz]
    exact hid AB.out
  rw [hz] at b3
  clear ES EC AB SS AS hc0
  generalize (if n=0 then s else sb)=s4 at *
  generalize (if n=0 then wt else wt ++ [t])=wt4 at *
  generalize (if n=0 then (2:Int) else 1)=c4 at *
  go_wp2_with fail
  refine BW.out.mono ?_
  rintro e w3 ⟨rfl,h3,m3,o3,u3⟩
  have M3:=hid m3
  have U3:=hid u3
  have O3:=hid (o3.mono kW_wait)
  clear m3 o3 u3 BW
  go_wp2
  go_ret
  refine ⟨ret_int HC.out.symm,h3,tk,wt4,?_,?_,O3.out,U3.out⟩
  ·rw [HS.out]; exact M3.out
  ·rw [HS.out]; exact HA.out
 ·have HC:Hid (cc=0):=by rw [EC.out,if_pos (by omega)]; exact hid rfl
  have HS:Hid (ss={ s with count:=s.count.set k (s.count[k] - 1) }):=by rw [ES.out,if_pos HC.out]; exact hid rfl
  obtain ⟨h2,m2,u2⟩:=SS.out
  have M2:=hid m2
  have U2:=hid u2
  have O2:Hid (Only (kW kb h) w (w.setCell ⟨h.gS,k * 2,none⟩ (.int .i64 (s.count[k] - 1)))):=(Only.refl _ _).setCell (.inl kW_gS) _
  have hz':(s.count[k] == 0)=false:=by simpa using hz
  obtain ⟨hc1,hc2⟩:=hc0
  clear EC ES SS m2 u2 BW
  generalize hold:s.count[k]=old at *
  clear hold
  go_wp2
  go_ret
  refine ⟨ret_int HC.out.symm,h2,tk,wt,?_,?_,O2.out,U2.out⟩
  ·rw [HS.out]; exact M2.out
  ·rw [HS.out]; exact AS.out
theorem giveS_stores (s:RS) (what of_:Int):(R.giveS s what of_).count=s.count/\(R.giveS s what of_).box=s.box/\(R.giveT s what of_ < 0->R.giveS s what of_=s):=by
 unfold R.giveS
 split
 ·exact ⟨rfl,rfl,fun _=>by omega⟩
 ·exact ⟨rfl,rfl,fun _=>rfl⟩
set_option maxRecDepth 100000 in
set_option maxHeartbeats 2000000 in
theorem kUp_any (m:KMem F w kb h s tk wt ws) (f:KFit s) (a:Ln.Aux s tk wt) (k:Nat) (hk:k < s.count.length) (_h8:s.count.length<=8) (hc0:0<=s.count[k]/\s.count[k]<=(s.set.sems.getD k R.pair0).y) (hc1:(s.set.sems.getD k R.pair0).y<=1000000) :
  Calls Tryz.prog 160 #[.pointer (some ⟨kb,0,none⟩),.int .i64 k] w fun e w'=>e=.returned (.int .i64 (R.upC s k))/\∃ h' tk' wt',KMem F w' kb h' (R.upS s k) tk' wt' ws/\Ln.Aux (R.upS s k) tk' wt'/\Only (kW kb h) w w'/\KUp w h h':=by
 have ec:s.count.getD k 0=s.count[k]:=by simp [List.getD,hk]
 have EC:Hid (R.upC s k=if 0<=R.giveT s 2 (k:Int) then 0 else if s.count[k]=(s.set.sems.getD k R.pair0).y then 7 else 0):=by unfold R.upC; rw [ec]; exact hid rfl
 have ES:Hid (R.upS s k=if 0<=R.giveT s 2 (k:Int) then R.giveS s 2 (k:Int) else if s.count[k]=(s.set.sems.getD k R.pair0).y then s else { s with count:=s.count.set k (s.count[k] + 1) }):=by unfold R.upS; rw [ec]; exact hid rfl
 have hkI:(k:Int) < (s.count.length:Int):=by omega
 have CG:=hid (kGive_any m f a 2 (k:Int) (by decide))
 obtain ⟨e1,e2,e3⟩:=giveS_stores s 2 (k:Int)
 have E3:=hid e3
 have hbd:=giveT_bd' s 2 (k:Int)
 have FT:=hid f
 clear m a ec e1 e2 e3 f
 generalize R.upS s k=ss at *
 generalize R.upC s k=cc at *
 generalize R.giveS s 2 (k:Int)=sg at *
 generalize R.giveT s 2 (k:Int)=tg at *
 go_enter Tryz.func160,Tryz.ntmps160
 go_wp2_with fail
 refine CG.out.mono ?_
 rintro e w1 ⟨rfl,h1,tk1,wt1,m1,a1,o1,u1⟩
 have M1:=hid m1
 have A1:=hid a1
 have O1:=hid (o1.mono kW_give)
 have U1:=hid u1
 clear m1 a1 o1 u1 CG
 by_cases hg:tg=-1
 ·have hsg:sg=s:=E3.out (by omega)
  subst hsg
  rw [if_neg (by omega)] at EC ES
  have c3:=M1.out.blk.cell 3
  simp [kCells] at c3
  have b3:=M1.out.scell hk 0 (by decide)
  have b4:w1.cell? ⟨h1.gS,k * 2 + 1,none⟩=some (.int .i64 (sg.set.sems.getD k R.pair0).y):=M1.out.scell hk 1 (by decide)
  simp [ksCells] at b3
  have f3:=M1.out.sfrozen (k * 2)
  have SS:=hid (fun nd=>(M1.out.drewN nd).setS' k hk (sg.count[k] + 1))
  have O2:Hid (∀ nd,Only (kW kb h) w ((w1.drewN nd).setCell ⟨h1.gS,k * 2,none⟩ (.int .i64 (sg.count[k] + 1)))):=fun nd=>(O1.out.drewN nd).setCell (.inl (by rw [U1.out.gS]; exact kW_gS)) _
  have A2:Hid (Ln.Aux { sg with count:=sg.count.set k (sg.count[k] + 1) } tk1 wt1):=A1.out.stores FT.out _ sg.box
  subst hg
  clear E3
  generalize hold:sg.count[k]=old at *
  obtain ⟨most,HMO⟩:∃ x,Hid ((sg.set.sems.getD k R.pair0).y=x):=⟨_,hid rfl⟩
  rw [HMO.out] at hc0 hc1 b4 EC ES
  clear hold HMO
  by_cases hfull:old=most
  ·have HC:Hid (cc=7):=by rw [EC.out,if_pos hfull]; exact hid rfl
   have HS:Hid (ss=sg):=by rw [ES.out,if_pos hfull]; exact hid rfl
   subst hfull
   clear EC ES A2 O2 SS
   go_wp2_with fail
   go_quiet (fail)
   go_wp2
   go_ret
   refine ⟨ret_int HC.out.symm,h1,tk1,wt1,?_,?_,O1.out.drewN _,U1.out⟩
   ·rw [HS.out]; exact M1.out.drewN _
   ·rw [HS.out]; exact A1.out
  ·have HC:Hid (cc=0):=by rw [EC.out,if_neg hfull]; exact hid rfl
   have HS:Hid (ss={ sg with count:=sg.count.set k (old + 1) }):=by rw [ES.out,if_neg hfull]; exact hid rfl
   have hlt:old < most:=by omega
   obtain ⟨hc2,hc3⟩:=hc0
   clear EC ES
   go_wp2_with fail
   go_quiet (fail)
   go_wp2
   go_ret
   obtain ⟨h2,m2,u2⟩:=SS.out nq
   refine ⟨ret_int HC.out.symm,h2,tk1,wt1,?_,?_,O2.out nq,U1.out.trans u2 (O1.out.drewN nq).size⟩
   ·rw [HS.out]; exact m2
   ·rw [HS.out]; exact A2.out
 ·have HC:Hid (cc=0):=by rw [EC.out,if_pos (by omega)]; exact hid rfl
  have HS:Hid (ss=sg):=by rw [ES.out,if_pos (by omega)]; exact hid rfl
  have hg':(tg == -1)=false:=by simpa using hg
  clear EC ES E3
  go_wp2
  go_ret
  refine ⟨ret_int HC.out.symm,h1,tk1,wt1,?_,?_,O1.out,U1.out⟩
  ·rw [HS.out]; exact M1.out
  ·rw [HS.out]; exact A1.out
end
end Go.Proofs.YtbkfildnijjioaaGreat
