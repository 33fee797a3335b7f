import Derived.Test.YtbkfildnijjioaaGreatA25
import Derived.Test.YtbkfildnijjioaaGreatA26
import Derived.Test.YtbkfildnijjioaaGreatA10
import Derived.Test.YtbkfildnijjioaaGreatA24
namespace Go.Proofs.YtbkfildnijjioaaGreat
open Go.RowKit
set_option maxHeartbeats 400000 in
theorem checkA_any (tv mv sv qv:Option Addr) (tc mc sc qc:Nat) (S:SetD) (w:World) (hS:SetIn w.heap.size w tv mv sv qv S) :
  Calls Tryz.prog 35 #[.agg #[.int .i64 S.workers,.int .i64 S.start,.slice tv S.threads.length tc,.slice mv S.mutexes.length mc,.slice sv S.sems.length sc,.slice qv S.queues.length qc]] w fun e w' =>
   e=.returned (.tuple #[.int .i64 (P3.err S),.int .i64 (P3.place S)])/\Below w.heap.size w w':=by
 have HS:Hid (SetIn w.heap.size w tv mv sv qv S):=hS
 clear hS
 go_enter Tryz.func35,Tryz.ntmps35
 go_wp2_with fail
 refine (checkSet_any _ _ _ _ _ _ _ _ S _ (HS.out.later ((Below.refl _ _).alloc (Nat.le_refl _) _))).mono ?_
 rintro e w1 ⟨rfl,hb1⟩
 go_wp2
 go_quiet (fail)
 go_wp2
 go_ret2
 exact ⟨rfl,bdrew ((via ((Below.refl _ _).alloc (Nat.le_refl _) _) (by simp) hb1).alloc (by have:=hb1.size; simp at this; omega) _) _⟩
section
variable {PK:KP} {B:Nat} {w:World} {tag:Tag} {wb:Nat} {sv:Value} {ks:List KI} {ins mss lns:List Value} {vk vi vm vl:Value}
open Classical in
theorem AM.addK (f:KFrame PK) (h:AM PK B (fun _=>True) w tag wb sv ks ins mss lns vk vi vm vl) {w1 w2:World} (hb:Below w.heap.size w w1) (hg:w1.grownBy w2 vk.ownBlock) {v':Value} (k:KI) (hrow:w2.ownsRow B 52 1 v' (ks ++ [k]).length ((ks ++ [k]).map fun k=>Value.pointer (some ⟨k.bb,0,none⟩))) (hat:v'.ownBlock=vk.ownBlock\/v'.ownBlock=some w1.heap.size)
  (hf:LK PK B w k.bb k.kb k.sb k.P k.Q k.s) (hfree:∀ g,k.has g->tag g=(0,0)) :
  ∃ tag',AM PK B (fun _=>True) (w2.setCell ⟨wb,1,none⟩ v') tag' wb sv (ks ++ [k]) ins mss lns v' vi vm vl/\(∀ b,b < w.heap.size->¬ k.has b->tag b=(0,0)->tag' b=(0,0)/\(w2.setCell ⟨wb,1,none⟩ v').heap[b]?=w.heap[b]?):=by
 have hz1:=hb.size
 have hz2:=hg.size
 let tag':Tag:=fun b=>if k.has b then (10,ks.length) else if v'.ownBlock=some b then (2,0) else if b < w.heap.size then tag b else (0,0)
 have hold:∀ b,b < w.heap.size->tag b ≠ (0,0)->tag' b=tag b:=fun b hl hne=>by
  show (if k.has b then (10,ks.length) else if v'.ownBlock=some b then (2,0) else if b < w.heap.size then tag b else (0,0))=tag b
  rw [if_neg (fun e=>hne (hfree b e))]
  by_cases e:v'.ownBlock=some b
  ·rw [if_pos e]
   rcases hat with h1 | h1
   ·exact (h.tk b (by rw [<- h1]; exact e)).symm
   ·rw [h1] at e
    cases e
    omega
  ·rw [if_neg e,if_pos hl]
 have h1:=h.retag f (tag':=tag') hold
 have same:∀ b,b < w.heap.size->tag' b ≠ (2,0)->tag' b ≠ (1,0)->(w2.setCell ⟨wb,1,none⟩ v').heap[b]?=w.heap[b]?:=fun b hl n3 n1=>by
  have e1:b ≠ wb:=fun e=>n1 (by rw [e]; exact h1.tb)
  have e2:vk.ownBlock ≠ some b:=fun e=>n3 (h1.tk b e)
  rw [Below.heap_setCell _ _ _ _ e1,hg.block b (by omega) (fun e=>e2 e.symm),hb.block b hl]
 have h2:AM PK B (fun t=>t ≠ (2,0)/\t ≠ (1,0)) (w2.setCell ⟨wb,1,none⟩ v') tag' wb sv ks ins mss lns vk vi vm vl:=h1.turn f (fun b hl hn=>same b hl hn.1 hn.2) (by simp [World.setCell]; omega) (fun _ _=>trivial)
 have hwbl:=(h.blk trivial).lt
 have wbt:Typ w wb 46:=⟨_,h.blk trivial⟩
 have viN:vk.ownBlock ≠ some wb:=fun e=>by
  have:=own_typ (h.rk trivial) e
  exact this.ne wbt (by decide) rfl
 have blk2:Blk w2 wb #[sv,vk,vi,vm,vl] 46:=by
  have h3:=h.blk trivial
  unfold Blk at h3 ⊢
  rw [hg.block wb (by omega) (fun e=>viN e.symm),hb.block wb hwbl]
  exact h3
 have vN:v'.ownBlock ≠ some wb:=fun e=>by
  rcases hat with h3 | h3
  ·exact viN (by rw [<- h3]; exact e)
  ·rw [h3] at e
   cases e
   omega
 have fN:∀ g,k.has g->g < w.heap.size/\g ≠ wb/\vk.ownBlock ≠ some g/\v'.ownBlock ≠ some g:=fun g hg'=>by
  have hl:=hf.lt f hg'
  have t0:=hfree g hg'
  have e3:vk.ownBlock ≠ some g:=fun e=>by
   have:=h.tk g e
   rw [t0] at this
   cases this
  refine ⟨hl,fun e=>?_,e3,fun e=>?_⟩
  ·have:=h.tb
   rw [<- e,t0] at this
   cases this
  ·rcases hat with h3 | h3
   ·exact e3 (by rw [<- h3]; exact e)
   ·rw [h3] at e
    cases e
    omega
 have fsame:∀ g,k.has g->(w2.setCell ⟨wb,1,none⟩ v').heap[g]?=w.heap[g]?:=fun g hg'=>by
  obtain ⟨hl,n1,n2,_⟩:=fN g hg'
  rw [Below.heap_setCell _ _ _ _ n1,hg.block g (by omega) (fun e=>n2 e.symm),hb.block g hl]
 refine ⟨tag',⟨fun _=>?_,h1.tb,h.hb,fun _=>?_,fun g hg'=>?_,fun _=>h2.ri (by simp),h2.ti,fun _=>h2.rm (by simp),h2.tm,fun _=>h2.rl (by simp),h2.tl,fun i hi _=>?_,fun i hi g hg'=>?_,fun i hi _=>h2.mi i hi (by simp),h2.tmi,fun i hi _=>h2.mm i hi (by simp),h2.tmm,fun i hi _=>h2.ml i hi (by simp),h2.tml⟩,fun b hl hn ht=>?_⟩
 ·have:=blk2.set 1 v'
  simpa using this
 ·exact ownsRow_same hrow fun g hg'=>Below.heap_setCell _ _ _ _ (fun e=>vN (by have e':g=wb:=e; rw [<- e']; exact hg'))
 ·show (if k.has g then (10,ks.length) else if v'.ownBlock=some g then (2,0) else if g < w.heap.size then tag g else (0,0))=(2,0)
  rw [if_neg (fun e=>(fN g e).2.2.2 hg'),if_pos hg']
 ·by_cases hlt:i < ks.length
  ·have:=h2.ker i hlt (by simp)
   rw [List.getElem_append_left hlt]
   exact this
  ·have e:i=ks.length:=by simp at hi; omega
   subst e
   have e2:(ks ++ [k])[ks.length]=k:=by simp
   rw [e2]
   exact hf.frame f (fun b hb'=>fsame b hb') (by simp [World.setCell]; omega)
 ·by_cases hlt:i < ks.length
  ·rw [List.getElem_append_left hlt] at hg'
   exact h2.tker i hlt g hg'
  ·have e:i=ks.length:=by simp at hi; omega
   subst e
   have e2:(ks ++ [k])[ks.length]=k:=by simp
   rw [e2] at hg'
   show (if k.has g then (10,ks.length) else if v'.ownBlock=some g then (2,0) else if g < w.heap.size then tag g else (0,0))=(10,ks.length)
   rw [if_pos hg']
 ·have ht':tag' b=(0,0):=by
   show (if k.has b then (10,ks.length) else if v'.ownBlock=some b then (2,0) else if b < w.heap.size then tag b else (0,0))=(0,0)
   rw [if_neg hn]
   by_cases e:v'.ownBlock=some b
   ·rcases hat with h3 | h3
    ·have:=h.tk b (by rw [<- h3]; exact e)
     rw [ht] at this
     cases this
    ·rw [h3] at e
     cases e
     omega
   ·rw [if_neg e,if_pos hl]
    exact ht
  exact ⟨ht',same b hl (by rw [ht']; decide) (by rw [ht']; decide)⟩
end
def SetsIn (B:Nat) (w:World) (sa:Option Addr) (Ss:List SetD):Prop :=
 ∀ i (h:i < Ss.length),∃ b o tv mv sv qv tc mc sc qc,sa=some ⟨b,o,none⟩/\b < B/\w.cell? ⟨b,o + i * 6,none⟩=some (.int .i64 Ss[i].workers)/\w.cell? ⟨b,o + i * 6 + 1,none⟩=some (.int .i64 Ss[i].start) /\
  w.cell? ⟨b,o + i * 6 + 2,none⟩=some (.slice tv Ss[i].threads.length tc)/\w.cell? ⟨b,o + i * 6 + 3,none⟩=some (.slice mv Ss[i].mutexes.length mc)/\w.cell? ⟨b,o + i * 6 + 4,none⟩=some (.slice sv Ss[i].sems.length sc)/\w.cell? ⟨b,o + i * 6 + 5,none⟩=some (.slice qv Ss[i].queues.length qc) /\
  SetIn B w tv mv sv qv Ss[i]/\((tv=none->tc=0)/\(mv=none->mc=0)/\(sv=none->sc=0)/\(qv=none->qc=0))
theorem SetsIn.stays {B:Nat} {w w':World} {sa:Option Addr} {Ss:List SetD} (h:SetsIn B w sa Ss) (hb:Below B w w'):SetsIn B w' sa Ss:=by
 intro i hi
 obtain ⟨b,o,tv,mv,sv,qv,tc,mc,sc,qc,ha,hlt,h0,h1,h2,h3,h4,h5,hs,hn⟩:=h i hi
 exact ⟨b,o,tv,mv,sv,qv,tc,mc,sc,qc,ha,hlt,(hb.cell (p:=⟨b,_,none⟩) hlt).trans h0,(hb.cell (p:=⟨b,_,none⟩) hlt).trans h1,(hb.cell (p:=⟨b,_,none⟩) hlt).trans h2,(hb.cell (p:=⟨b,_,none⟩) hlt).trans h3,(hb.cell (p:=⟨b,_,none⟩) hlt).trans h4,(hb.cell (p:=⟨b,_,none⟩) hlt).trans h5,hs.stays hb,hn⟩
theorem RoomySet.spoils {B:Nat} {w:World} {ta ma sa qa:Option Addr} {tc mc sc qc:Nat} {S:SetD} {ca:Nat->Option Addr} {cc:Nat->Nat} (h:RoomySet B w ta ma sa qa tc mc sc qc S ca cc) (E:Nat) (hE:w.heap.size<=E) {w':World} (hs:∀ b,B<=b->b < E->w'.heap[b]?=w.heap[b]?) :
  Spoils (fun b=>B<=b/\b < E) B w' w' S.threads.length (.slice ma S.mutexes.length mc) (.slice sa S.sems.length sc) (.slice qa S.queues.length qc) (.slice ta S.threads.length tc) S.mutexes.length S.sems.length S.queues.length (fun i=>.slice (ca i) (S.threads.getD i P3.none0).code.length (cc i)) (fun i=>(S.threads.getD i P3.none0).code.length) 0:=by
 have keep:∀ {e:TypeId} {size n:Nat} {v:Value} {xs:List Value},w.ownsRow B e size v n xs->w'.ownsRow B e size v n xs:=fun hr=>ownsRow_same hr fun g hg=>hs g (ownsRow_block hr hg).1 (by have:=(ownsRow_block hr hg).2.1; omega)
 have inn:∀ {e:TypeId} {size n:Nat} {v:Value} {xs:List Value},w.ownsRow B e size v n xs->∀ g,v.ownBlock=some g->B<=g/\g < E:=fun hr g hg=>⟨(ownsRow_block hr hg).1,by have:=(ownsRow_block hr hg).2.1; omega⟩
 obtain ⟨y1,m1,_⟩:=own_prefix h.m
 obtain ⟨y2,s1,_⟩:=own_prefix h.s
 obtain ⟨y3,q1,_⟩:=own_prefix h.q
 obtain ⟨y4,t1,e4⟩:=own_prefix h.t
 have c1:∀ i (hi:i < S.threads.length),∃ ys,w.ownsRow B 61 3 (.slice (ca i) (S.threads.getD i P3.none0).code.length (cc i)) (S.threads.getD i P3.none0).code.length ys:=fun i hi=>by
  obtain ⟨y5,r5,_⟩:=own_prefix (h.c i hi)
  have e:S.threads.getD i P3.none0=S.threads[i]:=by simp [List.getD,hi]
  rw [e]
  exact ⟨y5,r5⟩
 refine ⟨⟨_,keep m1⟩,⟨_,keep s1⟩,⟨_,keep q1⟩,⟨y4,keep t1,fun i hi _=>?_⟩,fun i hi=>?_,Turns.refl _ _,inn m1,inn s1,inn q1,inn t1,fun i hi=>?_⟩
 ·rw [e4,List.getElem?_take,if_pos (by omega),List.getElem?_append_left (by rw [thCells_length]; omega),thCells_at _ _ _ i 4 hi (by omega)]
  rfl
 ·obtain ⟨ys,r⟩:=c1 i hi
  exact ⟨ys,keep r⟩
 ·obtain ⟨ys,r⟩:=c1 i hi
  exact inn r
theorem RoomySet.same {B:Nat} {w w':World} {ta ma sa qa:Option Addr} {tc mc sc qc:Nat} {S:SetD} {ca:Nat->Option Addr} {cc:Nat->Nat} (h:RoomySet B w ta ma sa qa tc mc sc qc S ca cc) (hs:∀ b,B<=b->b < w.heap.size->w'.heap[b]?=w.heap[b]?):RoomySet B w' ta ma sa qa tc mc sc qc S ca cc:=by
 have keep:∀ {e:TypeId} {size n:Nat} {v:Value} {xs:List Value},w.ownsRow B e size v n xs->w'.ownsRow B e size v n xs:=fun hr=>ownsRow_same hr fun g hg=>hs g (ownsRow_block hr hg).1 (ownsRow_block hr hg).2.1
 exact ⟨keep h.t,fun i hi=>keep (h.c i hi),h.d,keep h.m,keep h.s,keep h.q⟩
section
variable {PK:KP} {B:Nat} {w wz wy:World} {tag:Tag} {wb:Nat} {sv:Value} {ks ks':List KI} {ins mss lns ins' mss' lns':List Value} {vk vi vm vl vk' vi' vm' vl':Value}
def AMF (PK:KP) (B n:Nat) (w:World) (wb:Nat) (sv:Value) (ks:List KI) (ins mss lns:List Value) (vk vi vm vl:Value):Prop:=∃ tag,AM PK B (fun _=>True) w tag wb sv ks ins mss lns vk vi vm vl/\∀ b,n<=b->tag b=(0,0)
theorem AMF.below {n:Nat} (f:KFrame PK) (h:AMF PK B n w wb sv ks ins mss lns vk vi vm vl) (hb:Below w.heap.size w wz):AMF PK B n wz wb sv ks ins mss lns vk vi vm vl:=by
 obtain ⟨tag,am,hf⟩:=h
 refine ⟨_,am.below f hb,fun b hn=>?_⟩
 unfold fresh
 split
 ·exact hf b hn
 ·rfl
theorem AM.toF (h:AM PK B (fun _=>True) w tag wb sv ks ins mss lns vk vi vm vl) (f:KFrame PK) (hb:Below w.heap.size w wz):AMF PK B w.heap.size wz wb sv ks ins mss lns vk vi vm vl:=by
 refine ⟨_,h.below f hb,fun b hn=>?_⟩
 unfold fresh
 rw [if_neg (by omega)]
def AMG (PK:KP) (B n m:Nat) (w:World) (wb:Nat) (sv:Value) (ks:List KI) (ins mss lns:List Value) (vk vi vm vl:Value):Prop:=∃ tag,AM PK B (fun _=>True) w tag wb sv ks ins mss lns vk vi vm vl/\∀ b,n<=b->b < m->tag b=(0,0)
theorem AMF.toG {n n':Nat} (h:AMF PK B n w wb sv ks ins mss lns vk vi vm vl) (hn:n<=n') (m:Nat):AMG PK B n' m w wb sv ks ins mss lns vk vi vm vl:=by
 obtain ⟨tag,am,hf⟩:=h
 exact ⟨tag,am,fun b h1 _=>hf b (by omega)⟩
theorem AMG.below {n m:Nat} (f:KFrame PK) (h:AMG PK B n m w wb sv ks ins mss lns vk vi vm vl) (hb:Below w.heap.size w wz):AMG PK B n m wz wb sv ks ins mss lns vk vi vm vl:=by
 obtain ⟨tag,am,hf⟩:=h
 refine ⟨_,am.below f hb,fun b h1 h2=>?_⟩
 unfold fresh
 split
 ·exact hf b h1 h2
 ·rfl
theorem AMG.done {n m d:Nat} (f:KFrame PK) (h:AMG PK B n m wz wb sv ks' ins' mss' lns' vk' vi' vm' vl') (hBn:B<=n) (t:Turns (fun b=>n<=b/\b < m) wz wy) (hB:Below B w wz) (hN:∀ N:Int,16<=N->(∀ j (hj:j < ks.length),ks[j].s.next<=N)->∀ j (hj:j < ks'.length),ks'[j].s.next<=N + 33) (h1:ks'.length<=ks.length + 1) (h2:ins'.length<=ins.length + d) (h3:mss'.length<=mss.length + d) (h4:lns'.length<=lns.length + 1):Steps PK B w wb sv ks ins mss lns d (.returned (.bool true)) wy:=by
 obtain ⟨tag,am,hf⟩:=h
 refine ⟨rfl,tag,ks',ins',mss',lns',vk',vi',vm',vl',am.free f (fun b hl ht=>t.block b hl (fun hq=>ht (hf b hq.1 hq.2))) t.size,hN,h1,h2,h3,h4,hB.trans ?_⟩
 have q1:=am.hb
 have q2:=(am.blk trivial).lt
 exact t.below (by omega) (fun b hb=>by have:=hb.1; omega)
theorem AMF.traced {n N:Nat} (f:KFrame PK) (h:AMF PK B n w wb sv ks ins mss lns vk vi vm vl) (hn:n<=N) (hBN:B<=N) (hN:N<=w.heap.size) (v:Value) (C:List Value) (L:List LineD) (hr:w.ownsRow N 75 7 v L.length C) (hl:LRow N w (fun _=>False) C L) (hd:LDist C L.length) (hcI:ins.length + L.length<=100000000) (hcM:mss.length + L.length<=100000000) (hc:lns.length<=100000000) (hll:L.length<=1000) :
  Calls Tryz.prog 37 #[.pointer (some ⟨wb,0,none⟩),v] w fun e w'=>e=.returned (.tuple #[])/\∃ tag' ins' mss' fv vi' vm' v',AM PK B (fun _=>True) w' tag' wb sv ks ins' mss' (lns ++ [fv]) vk vi' vm' v'/\ins'.length=ins.length + L.length/\mss'.length=mss.length + L.length/\Below B w w'/\(∀ b,n<=b->b < N->tag' b=(0,0)/\w'.heap[b]?=w.heap[b]?):=by
 obtain ⟨tag,am,hf⟩:=h
 have inn:∀ {e:TypeId} {size m:Nat} {u:Value} {xs:List Value},w.ownsRow N e size u m xs->∀ g,u.ownBlock=some g->N<=g:=fun hr g hg=>(ownsRow_block hr hg).1
 have tr:TrSt B N w tag v L.length C L 0:=⟨ownsRow_mono hr hBN,fun g hg=>hf g (by have:=inn hr g hg; omega),inn hr,fun i hi _=>by
  obtain ⟨rv,mv,lm,hc⟩:=hl.cells i hi
  exact ⟨rv,mv,⟨ownsRow_mono lm.run hBN,ownsRow_mono lm.mis hBN,lm.nr,lm.nm⟩,hc,fun g hg=>hf g (by have:=inn lm.run g hg; omega),fun g hg=>hf g (by have:=inn lm.mis g hg; omega),inn lm.run,inn lm.mis⟩⟩
 refine (traced_any f N am v C L tr hd hcI hcM hc hll (by omega)).mono ?_
 rintro e w' ⟨rfl,tag',ins',mss',fv,vi',vm',v',am',h1,h2,h3,h4⟩
 exact ⟨rfl,tag',ins',mss',fv,vi',vm',v',am',h1,h2,h3,fun b hb1 hb2=>h4 b hb2 (by omega) (hf b hb1)⟩
end
theorem runL_le (S:SetD) (l:List Int):(R.runL S l).length<=l.length:=by
 unfold R.runL
 split
 ·simp
 ·split
  ·simp
  ·rw [R.linesTo_length]
   omega
end Go.Proofs.YtbkfildnijjioaaGreat

namespace Go.Proofs.YtbkfildnijjioaaGreat
open Go.RowKit
section
variable {PK:KP} {B:Nat} {w:World} {tag:Tag} {wb:Nat} {ks:List KI} {ins mss lns:List Value} {vk vi vm vl:Value}
set_option linter.unusedVariables false in
set_option maxRecDepth 100000 in
set_option maxHeartbeats 4000000 in
theorem makesC_any (C:CAll PK) (cn:CNew PK (fun _=>True)) (cr:CRun) (sa:Option Addr) (scap:Nat) (Ss:List SetD) (h:AM PK B (fun _=>True) w tag wb (.slice sa Ss.length scap) ks ins mss lns vk vi vm vl) (hBw:B<=w.heap.size) (hSs:SetsIn B w sa Ss) (hFs:∀ S,S ∈ Ss->Fits S) (hn:Ss.length<=100000000)
  (k' a b:Int) (ov:Option Addr) (oc:Nat) (l:List Int) (hl:IntsIn B w ov l) (hov:ov=none->oc=0) (hll:l.length<=100000000) (hks:ks.length<=100000000) (hcI:ins.length + 1000<=100000000) (hcM:mss.length + 1000<=100000000) (hcL:lns.length<=100000000) (ha0:-9223372036854775808<=a) (ha1:a<=9223372036854775807) :
  Calls Tryz.prog 19 #[.pointer (some ⟨wb,0,none⟩),.agg #[.int .i64 12,.int .i64 k',.int .i64 a,.int .i64 b,.slice ov l.length oc]] w fun e w'=>Steps PK B w wb (.slice sa Ss.length scap) ks ins mss lns (1 + l.length) e w':=by
 have hbA:Below w.heap.size w (w.alloc (.cells #[.int .i64 12,.int .i64 k',.int .i64 a,.int .i64 b,.slice ov l.length oc] 48)):=(Below.refl _ _).alloc (Nat.le_refl _) _
 have XA:=Blk.new w #[.int .i64 12,.int .i64 k',.int .i64 a,.int .i64 b,.slice ov l.length oc] 48
 have AMA:=hid (h.below C.f hbA)
 have AMFA:=hid (h.toF C.f hbA)
 have SAME:Hid (∀ w',Below w.heap.size w w'->Steps PK B w wb (.slice sa Ss.length scap) ks ins mss lns (1 + l.length) (.returned (.bool true)) w'):=fun w' hb=>Steps.same h C.f hBw hb rfl
 have hszA:B<=(w.alloc (.cells #[.int .i64 12,.int .i64 k',.int .i64 a,.int .i64 b,.slice ov l.length oc] 48)).heap.size:=Nat.le_trans hBw hbA.size
 have HC:=hid C
 have HSS:=hid hSs
 have HLB:=hid hl
 have HFS:=hid hFs
 have HCN:=hid cn
 have HCR:=hid cr
 have HOV:=hid hov
 clear h C hSs hl hFs cn cr hov
 go_enter Tryz.func19,Tryz.ntmps19
 go_upto_region 1 with fail
 generalize w.alloc (.cells #[.int .i64 12,.int .i64 k',.int .i64 a,.int .i64 b,.slice ov l.length oc] 48)=wA at *
 have x2:=XA.cell 2
 simp at x2
 have HXA:=hid XA
 have hbAs:=hid hbA
 have c0:=(AMA.out.blk trivial).cell 0
 simp at c0
 clear hbA XA
 by_cases hzero:Ss.length=0
 ·rw [hzero] at c0
  go_wp2
  go_ret
  exact SAME.out wA hbAs.out
 ·have hz':((Ss.length:Int) == 0)=false:=by simpa using hzero
  obtain ⟨i,hi,pd⟩:=pick_det a Ss.length (by omega) hn ha0 ha1
  obtain ⟨gs,os,tv,mv,sv,qv,tc,mc,sc,qc,rfl,hgs,s0,s1,s2,s3,s4,s5,hS0,hnil⟩:=HSS.out i hi
  have hbAB:=hbAs.out.mono hBw
  replace s0:=(hbAB.cell (p:=⟨gs,_,none⟩) hgs).trans s0
  replace s1:=(hbAB.cell (p:=⟨gs,_,none⟩) hgs).trans s1
  replace s2:=(hbAB.cell (p:=⟨gs,_,none⟩) hgs).trans s2
  replace s3:=(hbAB.cell (p:=⟨gs,_,none⟩) hgs).trans s3
  replace s4:=(hbAB.cell (p:=⟨gs,_,none⟩) hgs).trans s4
  replace s5:=(hbAB.cell (p:=⟨gs,_,none⟩) hgs).trans s5
  have hF:=HFS.out _ (List.getElem_mem hi)
  generalize Ss[i]=S at *
  have HSB:=hid hS0
  have HS:=hid ((hS0.stays hbAB).mono hszA)
  have HF:=hid hF
  have HN:=hid hnil
  have PD:=hid pd
  have hiI:(i:Int) < (Ss.length:Int):=by omega
  clear pd hS0 hF hnil HSS HFS hbAB
  have hwb:=(AMA.out.blk trivial).lt
  have hxl:=HXA.out.lt
  have hgl:gs < wA.heap.size:=by omega
  have n1:wb ≠ wA.heap.size:=by omega
  have n2:w.heap.size ≠ wA.heap.size:=by omega
  have n3:gs ≠ wA.heap.size:=by omega
  have hbZ:Below wA.heap.size wA (wA.drew.alloc (.cells #[.int .i64 0,.int .i64 0,.slice none 0 0,.slice none 0 0,.slice none 0 0,.slice none 0 0] 27)):=(Below.refl _ _).drew.alloc (Nat.le_refl _) _
  have z0:=(hbZ.cell (p:=⟨wb,0,none⟩) hwb).trans c0
  have z2:=(hbZ.cell (p:=⟨w.heap.size,2,none⟩) hxl).trans x2
  have t0:=(hbZ.cell (p:=⟨gs,_,none⟩) hgl).trans s0
  have t1:=(hbZ.cell (p:=⟨gs,_,none⟩) hgl).trans s1
  have t2:=(hbZ.cell (p:=⟨gs,_,none⟩) hgl).trans s2
  have t3:=(hbZ.cell (p:=⟨gs,_,none⟩) hgl).trans s3
  have t4:=(hbZ.cell (p:=⟨gs,_,none⟩) hgl).trans s4
  have t5:=(hbZ.cell (p:=⟨gs,_,none⟩) hgl).trans s5
  have hbY:Below wA.heap.size wA (wA.alloc (.cells #[.int .i64 S.workers,.int .i64 S.start,.slice tv S.threads.length tc,.slice mv S.mutexes.length mc,.slice sv S.sems.length sc,.slice qv S.queues.length qc] 27)).drew:=((Below.refl _ _).alloc (Nat.le_refl _) _).drew
  have X5:Blk (wA.alloc (.cells #[.int .i64 S.workers,.int .i64 S.start,.slice tv S.threads.length tc,.slice mv S.mutexes.length mc,.slice sv S.sems.length sc,.slice qv S.queues.length qc] 27)).drew wA.heap.size #[.int .i64 S.workers,.int .i64 S.start,.slice tv S.threads.length tc,.slice mv S.mutexes.length mc,.slice sv S.sems.length sc,.slice qv S.queues.length qc] 27:=Blk.new wA _ _
  have y0:=(hbY.cell (p:=⟨wb,0,none⟩) hwb).trans c0
  have y2:=(hbY.cell (p:=⟨w.heap.size,2,none⟩) hxl).trans x2
  have r0:=(hbY.cell (p:=⟨gs,_,none⟩) hgl).trans s0
  have r1:=(hbY.cell (p:=⟨gs,_,none⟩) hgl).trans s1
  have r2:=(hbY.cell (p:=⟨gs,_,none⟩) hgl).trans s2
  have r3:=(hbY.cell (p:=⟨gs,_,none⟩) hgl).trans s3
  have r4:=(hbY.cell (p:=⟨gs,_,none⟩) hgl).trans s4
  have r5:=(hbY.cell (p:=⟨gs,_,none⟩) hgl).trans s5
  have AM1:=hid (AMFA.out.below HC.out.f hbY)
  have HS1:=hid (HS.out.later hbY)
  have HX1:=hid (HXA.out.onto hbY)
  have HB1:Hid (Below w.heap.size w _):=hid (hbAs.out.trans (hbY.mono hbAs.out.size))
  have HY5:=hid X5
  have hsz1:Hid (B<=_):=hid (Nat.le_trans hszA hbY.size)
  clear hbZ hbY X5
  go_wp2_with fail
  go_region_held3 (fun w'=>w'.cell? ⟨wb,0,none⟩=some (.slice (some ⟨gs,os,none⟩) Ss.length scap)/\w'.cell? ⟨w.heap.size,2,none⟩=some (.int .i64 a)/\w'.cell? ⟨gs,os + i * 6,none⟩=some (.int .i64 S.workers)/\w'.cell? ⟨gs,os + i * 6 + 1,none⟩=some (.int .i64 S.start)/\w'.cell? ⟨gs,os + i * 6 + 2,none⟩=some (.slice tv S.threads.length tc)/\w'.cell? ⟨gs,os + i * 6 + 3,none⟩=some (.slice mv S.mutexes.length mc)/\w'.cell? ⟨gs,os + i * 6 + 4,none⟩=some (.slice sv S.sems.length sc)/\w'.cell? ⟨gs,os + i * 6 + 5,none⟩=some (.slice qv S.queues.length qc)) (first | exact ⟨c0,x2,s0,s1,s2,s3,s4,s5⟩ | exact ⟨z0,z2,t0,t1,t2,t3,t4,t5⟩ | exact ⟨y0,y2,r0,r1,r2,r3,r4,r5⟩)
   (first
    | (go_at_call 33; refine (PD.out _).mono ?_; rintro e w1 ⟨rfl,hw1⟩; have hw2:=hw1.symm; subst hw2; clear hw1))
  all_goals
   clear y0 y2 r0 r1 r2 r3 r4 r5 z0 z2 t0 t1 t2 t3 t4 t5 s0 s1 s2 s3 s4 s5 c0 x2 PD AMA AMFA HS HXA
   obtain ⟨n5,HN5⟩:∃ x,Hid (wA.heap.size=x):=⟨_,hid rfl⟩
   rw [HN5.out] at HY5 ⊢
   have hn5:w.heap.size<=n5:=by have:=hbAs.out.size; rw [HN5.out] at this; exact this
   generalize (wA.alloc (.cells #[.int .i64 S.workers,.int .i64 S.start,.slice tv S.threads.length tc,.slice mv S.mutexes.length mc,.slice sv S.sems.length sc,.slice qv S.queues.length qc] 27)).drew=w1 at *
   clear n1 n2 n3 hwb hxl hgl hszA hbAs HN5
   have q0:=HY5.out.cell 0
   have q1:=HY5.out.cell 1
   have q2:=HY5.out.cell 2
   have q3:=HY5.out.cell 3
   have q4:=HY5.out.cell 4
   have q5:=HY5.out.cell 5
   simp at q0 q1 q2 q3 q4 q5
   go_wp2_with fail
   refine (roomy_any tv mv sv qv tc mc sc qc S w1 HS1.out HF.out HN.out).mono ?_
   rintro e w2 ⟨ta,ma,sb,qa,tc',mc',sc',qc',ca,cc,rfl,ro,hb2⟩
   have hb3:Below w2.heap.size w2 (w2.alloc (.cells #[.int .i64 S.workers,.int .i64 S.start,.slice ta S.threads.length tc',.slice ma S.mutexes.length mc',.slice sb S.sems.length sc',.slice qa S.queues.length qc'] 27)):=(Below.refl _ _).alloc (Nat.le_refl _) _
   have hz12:=hb2.size
   have AM3:=hid ((AM1.out.below HC.out.f hb2).below HC.out.f hb3)
   have HS3:=hid ((HS1.out.later hb2).later hb3)
   have hb13:=hb2.trans (hb3.mono hb2.size)
   have HX3:=hid (HX1.out.onto hb13)
   have Y3:=HY5.out.onto hb13
   have Z3:=Blk.new w2 #[.int .i64 S.workers,.int .i64 S.start,.slice ta S.threads.length tc',.slice ma S.mutexes.length mc',.slice sb S.sems.length sc',.slice qa S.queues.length qc'] 27
   have HB3:=hid (HB1.out.trans (hb13.mono HB1.out.size))
   have RO:=hid ro
   have RS3:Hid (∀ b,b < w2.heap.size->(w2.alloc (.cells #[.int .i64 S.workers,.int .i64 S.start,.slice ta S.threads.length tc',.slice ma S.mutexes.length mc',.slice sb S.sems.length sc',.slice qa S.queues.length qc'] 27)).heap[b]?=w2.heap[b]?):=fun b hb=>hb3.block b hb
   have HB13:=hid hb13
   have hz13:Hid (w1.heap.size<=_):=hid hb13.size
   clear ro hb2 hb3 hb13 q0 q1 q2 q3 q4 q5 HS1 HX1 HY5 AM1
   go_upto_region 5 with fail
   generalize w2.alloc (.cells #[.int .i64 S.workers,.int .i64 S.start,.slice ta S.threads.length tc',.slice ma S.mutexes.length mc',.slice sb S.sems.length sc',.slice qa S.queues.length qc'] 27)=w3 at *
   have q0:=Y3.cell 0
   have q1:=Y3.cell 1
   have q2:=Y3.cell 2
   have q3:=Y3.cell 3
   have q4:=Y3.cell 4
   have q5:=Y3.cell 5
   simp at q0 q1 q2 q3 q4 q5
   have Y3H:=hid Y3
   have Z3H:=hid Z3
   clear Y3 Z3
   go_wp2_with fail
   refine (rCheck_any tv mv sv qv tc mc sc qc S w3 HS3.out).mono ?_
   rintro e w4 ⟨rfl,hb4⟩
   have AM4:=hid (AM3.out.below HC.out.f hb4)
   have HS4:=hid (HS3.out.later hb4)
   have HX4:=hid (HX3.out.onto hb4)
   have Y4:=hid (Y3H.out.onto hb4)
   have Z4:=hid (Z3H.out.onto hb4)
   have HB4:=hid (HB3.out.trans (hb4.mono HB3.out.size))
   have hz4:=hb4.size
   have hz23:w2.heap.size<=w3.heap.size:=by have:=Z3H.out.lt; omega
   have RS4:Hid (∀ b,b < w2.heap.size->w4.heap[b]?=w2.heap[b]?):=fun b hb=>(hb4.block b (by omega)).trans (RS3.out b hb)
   have RO4:Hid (RoomySet w1.heap.size w4 ta ma sb qa tc' mc' sc' qc' S ca cc):=hid (RO.out.same (fun b _ hb=>RS4.out b hb))
   have hz24:Hid (w2.heap.size<=w4.heap.size):=hid (by omega)
   have hsz4:Hid (B<=w4.heap.size):=hid (Nat.le_trans (Nat.le_trans hsz1.out hz13.out) hz4)
   clear hb4 q0 q1 q2 q3 q4 q5 HS3 HX3 Y3H Z3H HB3 RS3 AM3 HB13 hz4 hz23
   have x0:=HX4.out.cell 0
   simp at x0
   have z0:=Z4.out.cell 0
   have z1:=Z4.out.cell 1
   have z2:=Z4.out.cell 2
   have z3:=Z4.out.cell 3
   have z4:=Z4.out.cell 4
   have z5:=Z4.out.cell 5
   simp at z0 z1 z2 z3 z4 z5
   have SI:=hid RO4.out.toIn
   go_wp2_with fail
   refine (checkA_any ta ma sb qa tc' mc' sc' qc' S w4 SI.out.1).mono ?_
   rintro e w5 ⟨rfl,hb5⟩
   have AMz:=hid ((AM4.out.below HC.out.f hb5).toG HB1.out.size w2.heap.size)
   have Yz:=hid (Y4.out.onto hb5)
   have Zz:=hid (Z4.out.onto hb5)
   have RSz:Hid (∀ b,w1.heap.size<=b->b < w2.heap.size->w5.heap[b]?=w2.heap[b]?):=fun b _ hb=>(hb5.block b (Nat.lt_of_lt_of_le hb hz24.out)).trans (RS4.out b hb)
   have HBz:Hid (Below B w w5):=hid ((HB4.out.trans (hb5.mono HB4.out.size)).mono hBw)
   have HSz:Hid (SetIn w5.heap.size w5 tv mv sv qv S):=hid ((HSB.out.stays HBz.out).mono (Nat.le_trans hBw HBz.out.size))
   have HZZ:Hid (w2.heap.size<=w5.heap.size):=hid (Nat.le_trans hz24.out hb5.size)
   have CNT:Hid ((∀ N:Int,16<=N->(∀ j (hj:j < ks.length),ks[j].s.next<=N)->∀ j (hj:j < ks.length),ks[j].s.next<=N + 33)/\ks.length<=ks.length + 1/\ins.length<=ins.length + (1 + l.length)/\mss.length<=mss.length + (1 + l.length)/\lns.length<=lns.length + 1):=hid ⟨fun N _ hN j hj=>by have:=hN j hj; omega,by omega,by omega,by omega,by omega⟩
   clear hb5 z0 z1 z2 z3 z4 z5 AM4 HS4 HX4 Y4 Z4 HB4 RS4 x0 SI
   have ROz:=hid (RO.out.same RSz.out)
   have y0:=Yz.out.cell 0
   have y1:=Yz.out.cell 1
   have y2:=Yz.out.cell 2
   have y3:=Yz.out.cell 3
   have y4:=Yz.out.cell 4
   have y5:=Yz.out.cell 5
   simp at y0 y1 y2 y3 y4 y5
   have z0:=Zz.out.cell 0
   have z1:=Zz.out.cell 1
   have z2:=Zz.out.cell 2
   have z3:=Zz.out.cell 3
   have z4:=Zz.out.cell 4
   have z5:=Zz.out.cell 5
   simp at z0 z1 z2 z3 z4 z5
   go_wp2_with fail
   refine (kept_any tv mv sv qv tc mc sc qc S w5 HSz.out HF.out ta ma sb qa tc' mc' sc' qc' ROz.out.toRead).mono ?_
   rintro e w6 ⟨rfl,hb6⟩
   have Z6:=Zz.out.onto hb6
   have AM6:=hid (AMz.out.below HC.out.f hb6)
   have hzz:w2.heap.size<=w5.heap.size:=HZZ.out
   have RS6:Hid (∀ b,w1.heap.size<=b->b < w2.heap.size->w6.heap[b]?=w2.heap[b]?):=fun b h1 h2=>(hb6.block b (Nat.lt_of_lt_of_le h2 hzz)).trans (RSz.out b h1 h2)
   have HB6:Hid (Below B w w6):=hid (HBz.out.trans (hb6.mono (Nat.le_trans hsz1.out (Nat.le_trans hz12 hzz))))
   clear y0 y1 y2 y3 y4 y5 z0 z1 z2 z3 z4 z5 hb6 AMz Yz Zz HSz RSz HBz ROz
   have z0:=Z6.cell 0
   have z1:=Z6.cell 1
   have z2:=Z6.cell 2
   have z3:=Z6.cell 3
   have z4:=Z6.cell 4
   have z5:=Z6.cell 5
   simp at z0 z1 z2 z3 z4 z5
   clear Z6
   go_wp2_with fail
   have f1:=HF.out.threads
   have f2:=HF.out.mutexes
   have f3:=HF.out.sems
   have f4:=HF.out.queues
   refine (spoil_any (fun b=>w1.heap.size<=b/\b < w2.heap.size) w1.heap.size w6 S.workers S.start ta ma sb qa tc' mc' sc' qc' S.threads.length S.mutexes.length S.sems.length S.queues.length ca (fun i=>(S.threads.getD i P3.none0).code.length) cc (by omega) (by omega) (by omega) (by omega) (fun i hi=>by
    have:=HF.out.codes i hi
    have e:S.threads.getD i P3.none0=S.threads[i]:=by simp [List.getD,hi]
    rw [e]
    omega) (RO.out.spoils w2.heap.size (Nat.le_refl _) RS6.out)).mono ?_
   rintro e w7 ⟨rfl,t7⟩
   have T7:=hid t7
   clear t7 z0 z1 z2 z3 z4 z5 f1 f2 f3 f4
   go_wp2
   go_ret
   exact AM6.out.done HC.out.f hsz1.out T7.out HB6.out CNT.out.1 CNT.out.2.1 CNT.out.2.2.1 CNT.out.2.2.2.1 CNT.out.2.2.2.2
end
end Go.Proofs.YtbkfildnijjioaaGreat

namespace Go.Proofs.YtbkfildnijjioaaGreat
open Go.RowKit
theorem Tryz.infoBothP:(Tryz.prog.info? 52).map (fun i=>(i.zero,i.size,i.bytes))=some (some (.pointer none),1,8):=by kernel_rfl
section
variable {PK:KP} {B:Nat} {w:World} {tag:Tag} {wb:Nat} {ks:List KI} {ins mss lns:List Value} {vk vi vm vl:Value}
set_option linter.unusedVariables false in
set_option maxRecDepth 100000 in
set_option maxHeartbeats 4000000 in
theorem makesN_any (C:CAll PK) (cn:CNew PK (fun _=>True)) (cr:CRun) (sa:Option Addr) (scap:Nat) (Ss:List SetD) (h:AM PK B (fun _=>True) w tag wb (.slice sa Ss.length scap) ks ins mss lns vk vi vm vl) (hBw:B<=w.heap.size) (hSs:SetsIn B w sa Ss) (hFs:∀ S,S ∈ Ss->Fits S) (hn:Ss.length<=100000000)
  (k' a b:Int) (ov:Option Addr) (oc:Nat) (l:List Int) (hl:IntsIn B w ov l) (hov:ov=none->oc=0) (hll:l.length<=100000000) (hks:ks.length<=100000000) (hcI:ins.length + 1000<=100000000) (hcM:mss.length + 1000<=100000000) (hcL:lns.length<=100000000) (ha0:-9223372036854775808<=a) (ha1:a<=9223372036854775807) :
  Calls Tryz.prog 19 #[.pointer (some ⟨wb,0,none⟩),.agg #[.int .i64 1,.int .i64 k',.int .i64 a,.int .i64 b,.slice ov l.length oc]] w fun e w'=>Steps PK B w wb (.slice sa Ss.length scap) ks ins mss lns (1 + l.length) e w':=by
 have hbA:Below w.heap.size w (w.alloc (.cells #[.int .i64 1,.int .i64 k',.int .i64 a,.int .i64 b,.slice ov l.length oc] 48)):=(Below.refl _ _).alloc (Nat.le_refl _) _
 have XA:=Blk.new w #[.int .i64 1,.int .i64 k',.int .i64 a,.int .i64 b,.slice ov l.length oc] 48
 have AMA:=hid (h.below C.f hbA)
 have AMFA:=hid (h.toF C.f hbA)
 have SAME:Hid (∀ w',Below w.heap.size w w'->Steps PK B w wb (.slice sa Ss.length scap) ks ins mss lns (1 + l.length) (.returned (.bool true)) w'):=fun w' hb=>Steps.same h C.f hBw hb rfl
 have hszA:B<=(w.alloc (.cells #[.int .i64 1,.int .i64 k',.int .i64 a,.int .i64 b,.slice ov l.length oc] 48)).heap.size:=Nat.le_trans hBw hbA.size
 have HC:=hid C
 have HSS:=hid hSs
 have HLB:=hid hl
 have HFS:=hid hFs
 have HCN:=hid cn
 have HCR:=hid cr
 have HOV:=hid hov
 clear h C hSs hl hFs cn cr hov
 go_enter Tryz.func19,Tryz.ntmps19
 go_upto_region 1 with fail
 generalize w.alloc (.cells #[.int .i64 1,.int .i64 k',.int .i64 a,.int .i64 b,.slice ov l.length oc] 48)=wA at *
 have x2:=XA.cell 2
 simp at x2
 have HXA:=hid XA
 have hbAs:=hid hbA
 have c0:=(AMA.out.blk trivial).cell 0
 simp at c0
 clear hbA XA
 by_cases hzero:Ss.length=0
 ·rw [hzero] at c0
  go_wp2
  go_ret
  exact SAME.out wA hbAs.out
 ·have hz':((Ss.length:Int) == 0)=false:=by simpa using hzero
  obtain ⟨i,hi,pd⟩:=pick_det a Ss.length (by omega) hn ha0 ha1
  obtain ⟨gs,os,tv,mv,sv,qv,tc,mc,sc,qc,rfl,hgs,s0,s1,s2,s3,s4,s5,hS0,hnil⟩:=HSS.out i hi
  have hbAB:=hbAs.out.mono hBw
  replace s0:=(hbAB.cell (p:=⟨gs,_,none⟩) hgs).trans s0
  replace s1:=(hbAB.cell (p:=⟨gs,_,none⟩) hgs).trans s1
  replace s2:=(hbAB.cell (p:=⟨gs,_,none⟩) hgs).trans s2
  replace s3:=(hbAB.cell (p:=⟨gs,_,none⟩) hgs).trans s3
  replace s4:=(hbAB.cell (p:=⟨gs,_,none⟩) hgs).trans s4
  replace s5:=(hbAB.cell (p:=⟨gs,_,none⟩) hgs).trans s5
  have hF:=HFS.out _ (List.getElem_mem hi)
  generalize Ss[i]=S at *
  have HSB:=hid hS0
  have HS:=hid ((hS0.stays hbAB).mono hszA)
  have HF:=hid hF
  have HN:=hid hnil
  have PD:=hid pd
  have hiI:(i:Int) < (Ss.length:Int):=by omega
  clear pd hS0 hF hnil HSS HFS hbAB
  have hwb:=(AMA.out.blk trivial).lt
  have hxl:=HXA.out.lt
  have hgl:gs < wA.heap.size:=by omega
  have n1:wb ≠ wA.heap.size:=by omega
  have n2:w.heap.size ≠ wA.heap.size:=by omega
  have n3:gs ≠ wA.heap.size:=by omega
  have hbZ:Below wA.heap.size wA (wA.drew.alloc (.cells #[.int .i64 0,.int .i64 0,.slice none 0 0,.slice none 0 0,.slice none 0 0,.slice none 0 0] 27)):=(Below.refl _ _).drew.alloc (Nat.le_refl _) _
  have z0:=(hbZ.cell (p:=⟨wb,0,none⟩) hwb).trans c0
  have z2:=(hbZ.cell (p:=⟨w.heap.size,2,none⟩) hxl).trans x2
  have t0:=(hbZ.cell (p:=⟨gs,_,none⟩) hgl).trans s0
  have t1:=(hbZ.cell (p:=⟨gs,_,none⟩) hgl).trans s1
  have t2:=(hbZ.cell (p:=⟨gs,_,none⟩) hgl).trans s2
  have t3:=(hbZ.cell (p:=⟨gs,_,none⟩) hgl).trans s3
  have t4:=(hbZ.cell (p:=⟨gs,_,none⟩) hgl).trans s4
  have t5:=(hbZ.cell (p:=⟨gs,_,none⟩) hgl).trans s5
  have hbY:Below wA.heap.size wA (wA.alloc (.cells #[.int .i64 S.workers,.int .i64 S.start,.slice tv S.threads.length tc,.slice mv S.mutexes.length mc,.slice sv S.sems.length sc,.slice qv S.queues.length qc] 27)).drew:=((Below.refl _ _).alloc (Nat.le_refl _) _).drew
  have X5:Blk (wA.alloc (.cells #[.int .i64 S.workers,.int .i64 S.start,.slice tv S.threads.length tc,.slice mv S.mutexes.length mc,.slice sv S.sems.length sc,.slice qv S.queues.length qc] 27)).drew wA.heap.size #[.int .i64 S.workers,.int .i64 S.start,.slice tv S.threads.length tc,.slice mv S.mutexes.length mc,.slice sv S.sems.length sc,.slice qv S.queues.length qc] 27:=Blk.new wA _ _
  have y0:=(hbY.cell (p:=⟨wb,0,none⟩) hwb).trans c0
  have y2:=(hbY.cell (p:=⟨w.heap.size,2,none⟩) hxl).trans x2
  have r0:=(hbY.cell (p:=⟨gs,_,none⟩) hgl).trans s0
  have r1:=(hbY.cell (p:=⟨gs,_,none⟩) hgl).trans s1
  have r2:=(hbY.cell (p:=⟨gs,_,none⟩) hgl).trans s2
  have r3:=(hbY.cell (p:=⟨gs,_,none⟩) hgl).trans s3
  have r4:=(hbY.cell (p:=⟨gs,_,none⟩) hgl).trans s4
  have r5:=(hbY.cell (p:=⟨gs,_,none⟩) hgl).trans s5
  have AM1:=hid (AMFA.out.below HC.out.f hbY)
  have HS1:=hid (HS.out.later hbY)
  have HX1:=hid (HXA.out.onto hbY)
  have HB1:Hid (Below w.heap.size w _):=hid (hbAs.out.trans (hbY.mono hbAs.out.size))
  have HY5:=hid X5
  have hsz1:Hid (B<=_):=hid (Nat.le_trans hszA hbY.size)
  clear hbZ hbY X5
  go_wp2_with fail
  go_region_held3 (fun w'=>w'.cell? ⟨wb,0,none⟩=some (.slice (some ⟨gs,os,none⟩) Ss.length scap)/\w'.cell? ⟨w.heap.size,2,none⟩=some (.int .i64 a)/\w'.cell? ⟨gs,os + i * 6,none⟩=some (.int .i64 S.workers)/\w'.cell? ⟨gs,os + i * 6 + 1,none⟩=some (.int .i64 S.start)/\w'.cell? ⟨gs,os + i * 6 + 2,none⟩=some (.slice tv S.threads.length tc)/\w'.cell? ⟨gs,os + i * 6 + 3,none⟩=some (.slice mv S.mutexes.length mc)/\w'.cell? ⟨gs,os + i * 6 + 4,none⟩=some (.slice sv S.sems.length sc)/\w'.cell? ⟨gs,os + i * 6 + 5,none⟩=some (.slice qv S.queues.length qc)) (first | exact ⟨c0,x2,s0,s1,s2,s3,s4,s5⟩ | exact ⟨z0,z2,t0,t1,t2,t3,t4,t5⟩ | exact ⟨y0,y2,r0,r1,r2,r3,r4,r5⟩)
   (first
    | (go_at_call 33; refine (PD.out _).mono ?_; rintro e w1 ⟨rfl,hw1⟩; have hw2:=hw1.symm; subst hw2; clear hw1))
  all_goals
   clear y0 y2 r0 r1 r2 r3 r4 r5 z0 z2 t0 t1 t2 t3 t4 t5 s0 s1 s2 s3 s4 s5 c0 x2 PD AMA AMFA HS HXA
   obtain ⟨n5,HN5⟩:∃ x,Hid (wA.heap.size=x):=⟨_,hid rfl⟩
   rw [HN5.out] at HY5 ⊢
   have hn5:w.heap.size<=n5:=by have:=hbAs.out.size; rw [HN5.out] at this; exact this
   generalize (wA.alloc (.cells #[.int .i64 S.workers,.int .i64 S.start,.slice tv S.threads.length tc,.slice mv S.mutexes.length mc,.slice sv S.sems.length sc,.slice qv S.queues.length qc] 27)).drew=w1 at *
   clear n1 n2 n3 hwb hxl hgl hszA hbAs HN5
   have q0:=HY5.out.cell 0
   have q1:=HY5.out.cell 1
   have q2:=HY5.out.cell 2
   have q3:=HY5.out.cell 3
   have q4:=HY5.out.cell 4
   have q5:=HY5.out.cell 5
   simp at q0 q1 q2 q3 q4 q5
   go_wp2_with fail
   refine (roomy_any tv mv sv qv tc mc sc qc S w1 HS1.out HF.out HN.out).mono ?_
   rintro e w2 ⟨ta,ma,sb,qa,tc',mc',sc',qc',ca,cc,rfl,ro,hb2⟩
   have hb3:Below w2.heap.size w2 (w2.alloc (.cells #[.int .i64 S.workers,.int .i64 S.start,.slice ta S.threads.length tc',.slice ma S.mutexes.length mc',.slice sb S.sems.length sc',.slice qa S.queues.length qc'] 27)):=(Below.refl _ _).alloc (Nat.le_refl _) _
   have hz12:=hb2.size
   have AM3:=hid ((AM1.out.below HC.out.f hb2).below HC.out.f hb3)
   have HS3:=hid ((HS1.out.later hb2).later hb3)
   have hb13:=hb2.trans (hb3.mono hb2.size)
   have HX3:=hid (HX1.out.onto hb13)
   have Y3:=HY5.out.onto hb13
   have Z3:=Blk.new w2 #[.int .i64 S.workers,.int .i64 S.start,.slice ta S.threads.length tc',.slice ma S.mutexes.length mc',.slice sb S.sems.length sc',.slice qa S.queues.length qc'] 27
   have HB3:=hid (HB1.out.trans (hb13.mono HB1.out.size))
   have RO:=hid ro
   have RS3:Hid (∀ b,b < w2.heap.size->(w2.alloc (.cells #[.int .i64 S.workers,.int .i64 S.start,.slice ta S.threads.length tc',.slice ma S.mutexes.length mc',.slice sb S.sems.length sc',.slice qa S.queues.length qc'] 27)).heap[b]?=w2.heap[b]?):=fun b hb=>hb3.block b hb
   have HB13:=hid hb13
   have hz13:Hid (w1.heap.size<=_):=hid hb13.size
   clear ro hb2 hb3 hb13 q0 q1 q2 q3 q4 q5 HS1 HX1 HY5 AM1
   go_upto_region 5 with fail
   generalize w2.alloc (.cells #[.int .i64 S.workers,.int .i64 S.start,.slice ta S.threads.length tc',.slice ma S.mutexes.length mc',.slice sb S.sems.length sc',.slice qa S.queues.length qc'] 27)=w3 at *
   have q0:=Y3.cell 0
   have q1:=Y3.cell 1
   have q2:=Y3.cell 2
   have q3:=Y3.cell 3
   have q4:=Y3.cell 4
   have q5:=Y3.cell 5
   simp at q0 q1 q2 q3 q4 q5
   have Y3H:=hid Y3
   have Z3H:=hid Z3
   clear Y3 Z3
   go_wp2_with fail
   refine (rCheck_any tv mv sv qv tc mc sc qc S w3 HS3.out).mono ?_
   rintro e w4 ⟨rfl,hb4⟩
   have AM4:=hid (AM3.out.below HC.out.f hb4)
   have HS4:=hid (HS3.out.later hb4)
   have HX4:=hid (HX3.out.onto hb4)
   have Y4:=hid (Y3H.out.onto hb4)
   have Z4:=hid (Z3H.out.onto hb4)
   have HB4:=hid (HB3.out.trans (hb4.mono HB3.out.size))
   have hz4:=hb4.size
   have hz23:w2.heap.size<=w3.heap.size:=by have:=Z3H.out.lt; omega
   have RS4:Hid (∀ b,b < w2.heap.size->w4.heap[b]?=w2.heap[b]?):=fun b hb=>(hb4.block b (by omega)).trans (RS3.out b hb)
   have RO4:Hid (RoomySet w1.heap.size w4 ta ma sb qa tc' mc' sc' qc' S ca cc):=hid (RO.out.same (fun b _ hb=>RS4.out b hb))
   have hz24:Hid (w2.heap.size<=w4.heap.size):=hid (by omega)
   have hsz4:Hid (B<=w4.heap.size):=hid (Nat.le_trans (Nat.le_trans hsz1.out hz13.out) hz4)
   clear hb4 q0 q1 q2 q3 q4 q5 HS3 HX3 Y3H Z3H HB3 RS3 AM3 HB13 hz4 hz23
   have x0:=HX4.out.cell 0
   simp at x0
   have z0:=Z4.out.cell 0
   have z1:=Z4.out.cell 1
   have z2:=Z4.out.cell 2
   have z3:=Z4.out.cell 3
   have z4:=Z4.out.cell 4
   have z5:=Z4.out.cell 5
   simp at z0 z1 z2 z3 z4 z5
   have SI:=hid RO4.out.toIn
   go_wp2_with fail
   refine (HCN.out ta ma sb qa tc' mc' sc' qc' S w4 SI.out.1 HF.out SI.out.2 trivial).mono ?_
   rintro e w5 ⟨hb5,hcase⟩
   rcases hcase with ⟨herr,rfl⟩ | ⟨herr,kb,P,rfl,hpk,hP⟩
   ·have hne:(P3.err S != 0)=true:=by simpa using herr
    have heq:(P3.err S == P3.err S)=true:=by simp
    have AMz:=hid ((AM4.out.below HC.out.f hb5).toG HB1.out.size w2.heap.size)
    have Yz:=hid (Y4.out.onto hb5)
    have Zz:=hid (Z4.out.onto hb5)
    have RSz:Hid (∀ b,w1.heap.size<=b->b < w2.heap.size->w5.heap[b]?=w2.heap[b]?):=fun b _ hb=>(hb5.block b (Nat.lt_of_lt_of_le hb hz24.out)).trans (RS4.out b hb)
    have HBz:Hid (Below B w w5):=hid ((HB4.out.trans (hb5.mono HB4.out.size)).mono hBw)
    have HSz:Hid (SetIn w5.heap.size w5 tv mv sv qv S):=hid ((HSB.out.stays HBz.out).mono (Nat.le_trans hBw HBz.out.size))
    have HZZ:Hid (w2.heap.size<=w5.heap.size):=hid (Nat.le_trans hz24.out hb5.size)
    have CNT:Hid ((∀ N:Int,16<=N->(∀ j (hj:j < ks.length),ks[j].s.next<=N)->∀ j (hj:j < ks.length),ks[j].s.next<=N + 33)/\ks.length<=ks.length + 1/\ins.length<=ins.length + (1 + l.length)/\mss.length<=mss.length + (1 + l.length)/\lns.length<=lns.length + 1):=hid ⟨fun N _ hN j hj=>by have:=hN j hj; omega,by omega,by omega,by omega,by omega⟩
    clear hb5 z0 z1 z2 z3 z4 z5 AM4 HS4 HX4 Y4 Z4 HB4 RS4 x0 SI herr
    have ROz:=hid (RO.out.same RSz.out)
    have y0:=Yz.out.cell 0
    have y1:=Yz.out.cell 1
    have y2:=Yz.out.cell 2
    have y3:=Yz.out.cell 3
    have y4:=Yz.out.cell 4
    have y5:=Yz.out.cell 5
    simp at y0 y1 y2 y3 y4 y5
    have z0:=Zz.out.cell 0
    have z1:=Zz.out.cell 1
    have z2:=Zz.out.cell 2
    have z3:=Zz.out.cell 3
    have z4:=Zz.out.cell 4
    have z5:=Zz.out.cell 5
    simp at z0 z1 z2 z3 z4 z5
    go_wp2_with fail
    refine (kept_any tv mv sv qv tc mc sc qc S w5 HSz.out HF.out ta ma sb qa tc' mc' sc' qc' ROz.out.toRead).mono ?_
    rintro e w6 ⟨rfl,hb6⟩
    have Z6:=Zz.out.onto hb6
    have AM6:=hid (AMz.out.below HC.out.f hb6)
    have hzz:w2.heap.size<=w5.heap.size:=HZZ.out
    have RS6:Hid (∀ b,w1.heap.size<=b->b < w2.heap.size->w6.heap[b]?=w2.heap[b]?):=fun b h1 h2=>(hb6.block b (Nat.lt_of_lt_of_le h2 hzz)).trans (RSz.out b h1 h2)
    have HB6:Hid (Below B w w6):=hid (HBz.out.trans (hb6.mono (Nat.le_trans hsz1.out (Nat.le_trans hz12 hzz))))
    clear y0 y1 y2 y3 y4 y5 z0 z1 z2 z3 z4 z5 hb6 AMz Yz Zz HSz RSz HBz ROz
    have z0:=Z6.cell 0
    have z1:=Z6.cell 1
    have z2:=Z6.cell 2
    have z3:=Z6.cell 3
    have z4:=Z6.cell 4
    have z5:=Z6.cell 5
    simp at z0 z1 z2 z3 z4 z5
    clear Z6
    go_wp2_with fail
    have f1:=HF.out.threads
    have f2:=HF.out.mutexes
    have f3:=HF.out.sems
    have f4:=HF.out.queues
    refine (spoil_any (fun b=>w1.heap.size<=b/\b < w2.heap.size) w1.heap.size w6 S.workers S.start ta ma sb qa tc' mc' sc' qc' S.threads.length S.mutexes.length S.sems.length S.queues.length ca (fun i=>(S.threads.getD i P3.none0).code.length) cc (by omega) (by omega) (by omega) (by omega) (fun i hi=>by
     have:=HF.out.codes i hi
     have e:S.threads.getD i P3.none0=S.threads[i]:=by simp [List.getD,hi]
     rw [e]
     omega) (RO.out.spoils w2.heap.size (Nat.le_refl _) RS6.out)).mono ?_
    rintro e w7 ⟨rfl,t7⟩
    have T7:=hid t7
    clear t7 z0 z1 z2 z3 z4 z5 f1 f2 f3 f4
    go_wp2
    go_ret
    exact AM6.out.done HC.out.f hsz1.out T7.out HB6.out CNT.out.1 CNT.out.2.1 CNT.out.2.2.1 CNT.out.2.2.2.1 CNT.out.2.2.2.2
   ·have HERR:=hid herr
    have HPK:=hid hpk
    have HP:=hid hP
    have AM5:=hid (AM4.out.below HC.out.f hb5)
    have Y5:=hid (Y4.out.onto hb5)
    have Z5:=hid (Z4.out.onto hb5)
    have HS5:=hid (HS4.out.later hb5)
    have HB5:=hid (HB4.out.trans (hb5.mono HB4.out.size))
    have RS5:Hid (∀ b,b < w2.heap.size->w5.heap[b]?=w2.heap[b]?):=fun b hb=>(hb5.block b (Nat.lt_of_lt_of_le hb hz24.out)).trans (RS4.out b hb)
    have hz45:=hb5.size
    have Z4L:=hid Z4.out.lt
    have Y4L:=hid Y4.out.lt
    have PLT:=hid (HC.out.f.lt hpk)
    clear hb5 hpk hP z0 z1 z2 z3 z4 z5 AM4 HS4 HX4 Y4 Z4 HB4 RS4 SI
    rw [herr]
    clear herr
    have y0:=Y5.out.cell 0
    have y1:=Y5.out.cell 1
    have y2:=Y5.out.cell 2
    have y3:=Y5.out.cell 3
    have y4:=Y5.out.cell 4
    have y5:=Y5.out.cell 5
    simp at y0 y1 y2 y3 y4 y5
    go_wp2_with fail
    refine (rkNew_any tv mv sv qv tc mc sc qc S w5 HS5.out HF.out HN.out HERR.out).mono ?_
    rintro e w6 ⟨sb',Q,rfl,rk6,hQ,hb6⟩
    have hbW:Below w6.heap.size w6 (w6.alloc (.cells #[.pointer (some ⟨kb,0,none⟩),.pointer (some ⟨sb',0,none⟩)] 87)):=(Below.refl _ _).alloc (Nat.le_refl _) _
    have hz56:=hb6.size
    have hz4n:=hz24.out
    have hB1n:=HB1.out.size
    have hw1n:=hz12
    have hBw1:=hsz1.out
    obtain ⟨tagB,amB,hfB⟩:=(AM5.out.below HC.out.f hb6).below HC.out.f hbW
    have lkB:LK PK B (w6.alloc (.cells #[.pointer (some ⟨kb,0,none⟩),.pointer (some ⟨sb',0,none⟩)] 87)) w6.heap.size kb sb' P Q (R.new S):=by
     refine ⟨Blk.new _ _ _,HC.out.f.below (HC.out.f.below HPK.out hb6) hbW,rk6.below hbW,fun b hb hq=>?_,fun hb=>?_,fun hq=>?_,fun b hb=>?_,fun b hb=>?_,by omega⟩
     ·have:=PLT.out b hb
      have:=hQ b hq
      omega
     ·have:=PLT.out _ hb
      omega
     ·have:=rk6.lt _ hq
      omega
     ·have:=HP.out b hb
      omega
     ·have:=hQ b hb
      omega
    have HAS:Hid (∀ b,KI.has ⟨w6.heap.size,kb,sb',P,Q,R.new S⟩ b->w4.heap.size<=b):=hid (fun b hb=>by
     rcases hb with hb | hb | hb
     ·rw [hb]
      show w4.heap.size<=w6.heap.size
      omega
     ·exact HP.out b hb
     ·have:=hQ b hb
      omega)
    have AMB:=hid amB
    have LKB:=hid lkB
    have HFB:=hid hfB
    have HB6B:=hid (hb6.trans (hbW.mono hb6.size))
    have c1:=(AMB.out.blk trivial).cell 1
    have zI:=(AMB.out.blk trivial).frozen 1
    have c16:w6.cell? ⟨wb,1,none⟩=some vk:=by
     obtain ⟨tag6,am6,_⟩:=AM5.out.below HC.out.f hb6
     have:=(am6.blk trivial).cell 1
     simpa using this
    simp at c1
    obtain ⟨ia,ic,hvi,_,_⟩:=owns_cells (AMB.out.rk trivial)
    rw [hvi] at c1 c16
    have HVI:=hid hvi
    have RI:Hid ((w6.alloc (.cells #[.pointer (some ⟨kb,0,none⟩),.pointer (some ⟨sb',0,none⟩)] 87)).ownsRow B 52 1 (.slice ia ks.length ic) ks.length (ks.map fun k=>Value.pointer (some ⟨k.bb,0,none⟩))):=by rw [<- HVI.out]; exact hid (AMB.out.rk trivial)
    obtain ⟨iT,hiT,hzT0,hzT1,hzT2⟩:=info_parts Tryz.infoBothP
    have HIT:=hid (And.intro hiT (And.intro hzT0 (And.intro hzT1 hzT2)))
    have hwB:(w6.alloc (.cells #[.pointer (some ⟨kb,0,none⟩),.pointer (some ⟨sb',0,none⟩)] 87)).heap.size=w6.heap.size + 1:=by simp
    have HWB:=hid hwB
    have HZ:=hid (And.intro hz45 (And.intro hz56 (And.intro hz4n (And.intro hB1n (And.intro hw1n hBw1)))))
    clear hbW hb6 rk6 hQ amB lkB hfB hvi hiT hzT0 hzT1 hzT2 y0 y1 y2 y3 y4 y5 HS5 AM5 hz45 hz56 hz4n hB1n hw1n hBw1 hwB
    have BN1:Hid (∀ j u,([Value.pointer (some ⟨w6.heap.size,0,none⟩)]:List Value)[j]?=some u->((w6.alloc (.cells #[.pointer (some ⟨kb,0,none⟩),.pointer (some ⟨sb',0,none⟩)] 87)).alloc (.cells #[.pointer (some ⟨w6.heap.size,0,none⟩)] 52)).cell? ⟨w6.heap.size + 1,j,none⟩=some u):=fun j u hj=>by
     have:=(Blk.new (w6.alloc (.cells #[.pointer (some ⟨kb,0,none⟩),.pointer (some ⟨sb',0,none⟩)] 87)) #[.pointer (some ⟨w6.heap.size,0,none⟩)] 52).cell j
     rw [HWB.out] at this
     rw [this]
     simpa using hj
    go_upto_region 27 with (at_builtin; refine wpList_append_src_at rfl (.tmp 94) (.tmp 99) 41 rfl B 52 iT (.pointer none) 1 8 Tryz.underlying41 HIT.out.1 HIT.out.2.1 HIT.out.2.2.1 HIT.out.2.2.2 rfl (by decide) (.slice ia ks.length ic) ks.length (ks.map fun k=>Value.pointer (some ⟨k.bb,0,none⟩)) rfl (RI.out.alloc _) (some ⟨w6.heap.size + 1,0,none⟩) 1 1 [.pointer (some ⟨w6.heap.size,0,none⟩)] rfl rfl (fun h=>(by cases h)) (fun j u hj=>⟨_,rfl,(by rw [Addr.add_lit,Nat.zero_add]; exact BN1.out j u hj)⟩) (by intro u hu; simp at hu; subst hu; rfl) (by unfold maxLen; omega) (by omega) (by have:=HZ.out.1; have:=HZ.out.2.1; have:=hsz4.out; simp; omega) ?_; intro v' w7 hown7 hg7 hat7; obtain ⟨tv7,tc7,rfl,_,_⟩:=owns_cells hown7; have hbA:Below (w6.alloc (.cells #[.pointer (some ⟨kb,0,none⟩),.pointer (some ⟨sb',0,none⟩)] 87)).heap.size (w6.alloc (.cells #[.pointer (some ⟨kb,0,none⟩),.pointer (some ⟨sb',0,none⟩)] 87)) ((w6.alloc (.cells #[.pointer (some ⟨kb,0,none⟩),.pointer (some ⟨sb',0,none⟩)] 87)).alloc (.cells #[.pointer (some ⟨w6.heap.size,0,none⟩)] 52)):=(Below.refl _ _).alloc (Nat.le_refl _) _; have hadd:=AM.addK HC.out.f AMB.out hbA (by rw [HVI.out]; exact hg7) ⟨w6.heap.size,kb,sb',P,Q,R.new S⟩ (by rw [List.length_append,List.map_append]; exact hown7) (by rw [HVI.out]; exact hat7) LKB.out (fun g hg=>HFB.out g (by have:=HAS.out g hg; have:=HZ.out.2.2.1; have:=HZ.out.2.2.2.1; have:=HZ.out.2.2.2.2.1; omega)); have viN:(Value.slice ia ks.length ic).ownBlock ≠ some wb:=(fun e=>(own_typ RI.out e).ne (⟨_,AMB.out.blk trivial⟩:Typ (w6.alloc (.cells #[.pointer (some ⟨kb,0,none⟩),.pointer (some ⟨sb',0,none⟩)] 87)) wb 46) (by decide) rfl); have b2:w7.heap[wb]?=(w6.alloc (.cells #[.pointer (some ⟨kb,0,none⟩),.pointer (some ⟨sb',0,none⟩)] 87)).heap[wb]?:=(by rw [hg7.block wb (by have:=(AMB.out.blk trivial).lt; have:=hbA.size; omega) (fun e=>viN e.symm),hbA.block wb (AMB.out.blk trivial).lt]); have y7:w7.cell? ⟨wb,1,none⟩=some (.slice ia ks.length ic):=(by rw [World.cell?_of_block (a:=⟨wb,1,none⟩) b2]; exact c1); have z7:w7.frozen? ⟨wb,1,none⟩=false:=(by rw [World.frozen?_of_block (a:=⟨wb,1,none⟩) b2]; exact zI); have ADD:=hid hadd; have G7:=hid hg7; have HBA7:=hid hbA; have VI7:=hid viN; clear hown7 hg7 hat7 hadd hbA b2 viN)
    obtain ⟨tag8,am8,fr8⟩:=ADD.out
    have HBz:Hid (Below B w (w7.setCell ⟨wb,1,none⟩ (.slice tv7 (ks.length + 1) tc7))):=by
     have h1:Below B w (w6.alloc (.cells #[.pointer (some ⟨kb,0,none⟩),.pointer (some ⟨sb',0,none⟩)] 87)):=(HB5.out.trans (HB6B.out.mono HB5.out.size)).mono hBw
     have h2:=h1.trans (HBA7.out.mono (Nat.le_trans hBw h1.size))
     exact hid ((h2.grown G7.out (Nat.le_trans hBw h2.size) (fun g hg=>(ownsRow_block RI.out hg).1)).setCell AMB.out.hb _)
    have HZZ:Hid (w2.heap.size<=(w7.setCell ⟨wb,1,none⟩ (.slice tv7 (ks.length + 1) tc7)).heap.size):=by
     have h1:=HBA7.out.size
     have h2:=G7.out.size
     have h3:=HZ.out.1
     have h4:=HZ.out.2.1
     have h5:=HZ.out.2.2.1
     rw [HWB.out] at h1
     rw [setCell_size]
     exact hid (by omega)
    have AM8:=hid am8
    have FR8:=hid fr8
    clear am8 fr8 ADD y7 z7 c1 zI c16 G7 HBA7 VI7 RI
    generalize w7.setCell ⟨wb,1,none⟩ (.slice tv7 (ks.length + 1) tc7)=w8 at *
    have hsame:∀ b,w.heap.size<=b->b < w4.heap.size->tag8 b=(0,0)/\w8.heap[b]?=w5.heap[b]?:=fun b h1 h2=>by
     have q1:=HZ.out.1
     have q2:=HZ.out.2.1
     obtain ⟨e1,e2⟩:=FR8.out b (by rw [HWB.out]; omega) (fun hh=>by have:=HAS.out b hh; omega) (HFB.out b h1)
     exact ⟨e1,e2.trans (HB6B.out.block b (by omega))⟩
    have q3:=HZ.out.2.2.1
    have q4:=HZ.out.2.2.2.1
    have Yz:Hid (Blk w8 n5 #[.int .i64 S.workers,.int .i64 S.start,.slice tv S.threads.length tc,.slice mv S.mutexes.length mc,.slice sv S.sems.length sc,.slice qv S.queues.length qc] 27):=by
     have h1:=Y5.out
     unfold Blk at h1
     refine hid (show Blk _ _ _ _ from ?_)
     unfold Blk
     rw [(hsame n5 hn5 Y4L.out).2]
     exact h1
    have Zz:Hid (Blk w8 w2.heap.size #[.int .i64 S.workers,.int .i64 S.start,.slice ta S.threads.length tc',.slice ma S.mutexes.length mc',.slice sb S.sems.length sc',.slice qa S.queues.length qc'] 27):=by
     have h1:=Z5.out
     unfold Blk at h1
     refine hid (show Blk _ _ _ _ from ?_)
     unfold Blk
     rw [(hsame w2.heap.size (by omega) Z4L.out).2]
     exact h1
    have RSz:Hid (∀ b,w1.heap.size<=b->b < w2.heap.size->w8.heap[b]?=w2.heap[b]?):=fun b h1 h2=>((hsame b (by omega) (by omega)).2).trans (RS5.out b h2)
    have AMz:Hid (AMG PK B w1.heap.size w2.heap.size w8 wb _ (ks ++ [⟨w6.heap.size,kb,sb',P,Q,R.new S⟩]) ins mss lns _ vi vm vl):=hid ⟨tag8,AM8.out,fun b h1 h2=>(hsame b (by omega) (by omega)).1⟩
    have HSz:Hid (SetIn w8.heap.size w8 tv mv sv qv S):=hid ((HSB.out.stays HBz.out).mono (Nat.le_trans hBw HBz.out.size))
    have hT:S.threads.length<=16:=by
     have hz:=(ok_parts HERR.out).1
     unfold P3.sizesB at hz
     rw [decide_eq_true_iff] at hz
     omega
    have hnx:=new_next S hT
    have CNT:Hid ((∀ N:Int,16<=N->(∀ j (hj:j < ks.length),ks[j].s.next<=N)->∀ j (hj:j < (ks ++ [(⟨w6.heap.size,kb,sb',P,Q,R.new S⟩:KI)]).length),(ks ++ [(⟨w6.heap.size,kb,sb',P,Q,R.new S⟩:KI)])[j].s.next<=N + 33)/\(ks ++ [(⟨w6.heap.size,kb,sb',P,Q,R.new S⟩:KI)]).length<=ks.length + 1/\ins.length<=ins.length + (1 + l.length)/\mss.length<=mss.length + (1 + l.length)/\lns.length<=lns.length + 1):=hid ⟨fun N hN0 hN j hj=>by
     by_cases hlt:j < ks.length
     ·rw [List.getElem_append_left hlt]
      have:=hN j hlt
      omega
     ·have e:j=ks.length:=by simp at hj; omega
      subst e
      simp
      omega,by simp,by omega,by omega,by omega⟩
    clear hsame q3 q4 hT hnx AM8 FR8 Y5 Z5 HB5 RS5 Z4L Y4L PLT HPK HP HAS AMB LKB HFB HB6B HVI HIT HWB HZ BN1 HERR x0
    have ROz:=hid (RO.out.same RSz.out)
    have y0:=Yz.out.cell 0
    have y1:=Yz.out.cell 1
    have y2:=Yz.out.cell 2
    have y3:=Yz.out.cell 3
    have y4:=Yz.out.cell 4
    have y5:=Yz.out.cell 5
    simp at y0 y1 y2 y3 y4 y5
    have z0:=Zz.out.cell 0
    have z1:=Zz.out.cell 1
    have z2:=Zz.out.cell 2
    have z3:=Zz.out.cell 3
    have z4:=Zz.out.cell 4
    have z5:=Zz.out.cell 5
    simp at z0 z1 z2 z3 z4 z5
    go_wp2_with fail
    refine (kept_any tv mv sv qv tc mc sc qc S w8 HSz.out HF.out ta ma sb qa tc' mc' sc' qc' ROz.out.toRead).mono ?_
    rintro e w6 ⟨rfl,hb6⟩
    have Z6:=Zz.out.onto hb6
    have AM6:=hid (AMz.out.below HC.out.f hb6)
    have hzz:w2.heap.size<=w8.heap.size:=HZZ.out
    have RS6:Hid (∀ b,w1.heap.size<=b->b < w2.heap.size->w6.heap[b]?=w2.heap[b]?):=fun b h1 h2=>(hb6.block b (Nat.lt_of_lt_of_le h2 hzz)).trans (RSz.out b h1 h2)
    have HB6:Hid (Below B w w6):=hid (HBz.out.trans (hb6.mono (Nat.le_trans hsz1.out (Nat.le_trans hz12 hzz))))
    clear y0 y1 y2 y3 y4 y5 z0 z1 z2 z3 z4 z5 hb6 AMz Yz Zz HSz RSz HBz ROz
    have z0:=Z6.cell 0
    have z1:=Z6.cell 1
    have z2:=Z6.cell 2
    have z3:=Z6.cell 3
    have z4:=Z6.cell 4
    have z5:=Z6.cell 5
    simp at z0 z1 z2 z3 z4 z5
    clear Z6
    go_wp2_with fail
    have f1:=HF.out.threads
    have f2:=HF.out.mutexes
    have f3:=HF.out.sems
    have f4:=HF.out.queues
    refine (spoil_any (fun b=>w1.heap.size<=b/\b < w2.heap.size) w1.heap.size w6 S.workers S.start ta ma sb qa tc' mc' sc' qc' S.threads.length S.mutexes.length S.sems.length S.queues.length ca (fun i=>(S.threads.getD i P3.none0).code.length) cc (by omega) (by omega) (by omega) (by omega) (fun i hi=>by
     have:=HF.out.codes i hi
     have e:S.threads.getD i P3.none0=S.threads[i]:=by simp [List.getD,hi]
     rw [e]
     omega) (RO.out.spoils w2.heap.size (Nat.le_refl _) RS6.out)).mono ?_
    rintro e w7 ⟨rfl,t7⟩
    have T7:=hid t7
    clear t7 z0 z1 z2 z3 z4 z5 f1 f2 f3 f4
    go_wp2
    go_ret
    exact AM6.out.done HC.out.f hsz1.out T7.out HB6.out CNT.out.1 CNT.out.2.1 CNT.out.2.2.1 CNT.out.2.2.2.1 CNT.out.2.2.2.2
end
end Go.Proofs.YtbkfildnijjioaaGreat
