import Derived.Test.YtbkfildnijjioaaGreatA15
import Derived.Test.YtbkfildnijjioaaGreatA07
import Derived.Test.YtbkfildnijjioaaGreatA01
import Derived.Deep.DeepCutAuto
import Derived.Test.YtbkfildnijjioaaGreatA14
namespace Go.Proofs.YtbkfildnijjioaaGreat
open Go.RowKit
section
variable {F:Nat->Prop} {w w':World} {sb:Nat} {h:RH} {s:RS}
theorem RMem.boxAt (m:RMem F w sb h s) {k:Nat} (hk:k < s.box.length):∃ g cap v,h.vB=.slice (some ⟨g,0,none⟩) s.box.length cap/\h.bs[k]?=some v/\w.cell? ⟨g,k,none⟩=some v/\w.frozen? ⟨g,k,none⟩=false/\w.ownsRow 0 3 1 v s.box[k].length (intCells s.box[k]):=by
 obtain ⟨hb,hbi⟩:=m.oth.box
 obtain ⟨v,hv,hr⟩:=hbi k hk
 have h2:=hb.2
 rcases h2 with ⟨_,h0⟩ | ⟨g,cap,cur,e,_⟩
 ·omega
 ·rw [e] at hb
  refine ⟨g,cap,v,e,hv,?_,hb.frozenAt k,hr⟩
  rw [hb.cellAt k (by omega)]
  exact hv
theorem RMem.turnedP (m:RMem F w sb h s) {P:Nat->Prop} (hs:∀ k,k < w.heap.size->¬ P k->w'.heap[k]?=w.heap[k]?) (hz:w.heap.size<=w'.heap.size) (h1:¬ P sb) (h2:¬ P h.gT) (h3:∀ b,F b->¬ P b) {h':RH} {s':RS} (o:ROth w' h' s')
  (e1:rsCells h' s'=rsCells h s) (e2:s'.T=s.T) (e3:h'.gT=h.gT/\h'.cT=h.cT/\h'.tv=h.tv/\h'.mv=h.mv/\h'.sv=h.sv/\h'.qv=h.qv) (e4:s'.set=s.set):RMem F w' sb h' s':=by
 obtain ⟨a1,a2,a3,a4,a5,a6⟩:=e3
 refine ⟨?_,?_,?_,o,m.nsb,by rw [a1]; exact m.nT,fun b hb=>Nat.lt_of_lt_of_le (m.lt b hb) hz⟩
 ·have:=m.blk
  unfold Blk at this ⊢
  rw [e1,hs sb m.blk.lt h1]
  exact this
 ·rw [a1,a2,e2]
  refine ownsRow_same m.rows fun g' hg'=>?_
  cases hg'
  exact hs _ m.gT_lt h2
 ·rw [a3,a4,a5,a6,e4]
  exact m.set.same fun b hb=>hs b (m.lt b hb) (h3 b hb)
theorem RMem.setBox (m:RMem F w sb h s) (a:RApart F h) {w1:World} {g cap k:Nat} (hvB:h.vB=.slice (some ⟨g,0,none⟩) s.box.length cap) (_hk:k < s.box.length) {v v':Value} (hv:h.bs[k]?=some v) {row:Option Nat} (hrow:row=none\/row=v.ownBlock) (hg:w.grownBy w1 row)
  {l:List Int} (hr:w1.ownsRow 0 3 1 v' l.length (intCells l)) (hrk:w.ownsRow 0 3 1 v s.box[k].length (intCells s.box[k])):RMem F (w1.setCell ⟨g,k,none⟩ v') sb { h with bs:=h.bs.set k v' } { s with box:=s.box.set k l }:=by
 have hbb:h.vB.ownBlock=some g:=by rw [hvB]; rfl
 obtain ⟨_,hglt,cur,hgc⟩:=ownsRow_block m.oth.box.1 hbb
 obtain ⟨n1,n2⟩:=m.ownType hgc (by decide) (by decide)
 have hrn:∀ b,row=some b->v.ownBlock=some b:=by
  intro b hb
  rcases hrow with e | e
  ·rw [e] at hb; cases hb
  ·rw [<- e]; exact hb
 have hgr:row ≠ some g:=by
  intro e
  obtain ⟨_,_,cur',hc'⟩:=ownsRow_block hrk (hrn g e)
  rw [hgc] at hc'
  cases hc'
 have hgc1:w1.heap[g]?=some (.cells cur 25 (0,0)):=by rw [hg.block g hglt (fun e=>hgr e.symm)]; exact hgc
 have same:∀ b,b < w.heap.size->b ≠ g->row ≠ some b->(w1.setCell ⟨g,k,none⟩ v').heap[b]?=w.heap[b]?:=by
  intro b hb h1 h2
  rw [Below.heap_setCell _ _ _ _ h1,hg.block b hb (fun e=>h2 e.symm)]
 have sizeE:w.heap.size<=(w1.setCell ⟨g,k,none⟩ v').heap.size:=by
  have:=hg.size
  simp [World.setCell]
  exact this
 refine m.turnedP (P:=fun b=>b=g\/row=some b) (fun b hb hp=>same b hb (fun e=>hp (.inl e)) (fun e=>hp (.inr e))) sizeE ?_ ?_ ?_ ⟨?_,?_,?_,?_,fun j hj=>?_⟩ rfl rfl ⟨rfl,rfl,rfl,rfl,rfl,rfl⟩ rfl
 ·rintro (e | e)
  ·exact n1 e
  ·obtain ⟨_,_,cur',hc'⟩:=ownsRow_block hrk (hrn sb e)
   exact absurd (blk_type m.blk hc') (by decide)
 ·rintro (e | e)
  ·exact n2 e
  ·obtain ⟨_,_,cur',hc'⟩:=ownsRow_block hrk (hrn _ e)
   exact (m.ownType hc' (by decide) (by decide)).2 rfl
 ·rintro b hb (e | e)
  ·exact a.b g hbb (e ▸ hb)
  ·exact (a.bs k v b hv (hrn b e)).1 hb
 ·refine ownsRow_same m.oth.own fun b hb=>?_
  obtain ⟨_,hl,cur',hc'⟩:=ownsRow_block m.oth.own hb
  refine same b hl (fun e=>?_) (fun e=>(a.bs k v b hv (hrn b e)).2.1 hb)
  rw [e,hgc] at hc'
  cases hc'
 ·refine ownsRow_same m.oth.cnt fun b hb=>?_
  obtain ⟨_,hl,cur',hc'⟩:=ownsRow_block m.oth.cnt hb
  refine same b hl (fun e=>?_) (fun e=>(a.bs k v b hv (hrn b e)).2.2.1 hb)
  rw [e,hgc] at hc'
  cases hc'
 ·refine ownsRow_same m.oth.mis fun b hb=>?_
  obtain ⟨_,hl,cur',hc'⟩:=ownsRow_block m.oth.mis hb
  refine same b hl (fun e=>?_) (fun e=>?_)
  ·rw [e,hgc] at hc'
   cases hc'
  ·obtain ⟨_,_,cur2,hc2⟩:=ownsRow_block hrk (hrn b e)
   rw [hc'] at hc2
   cases hc2
 ·have h0:w1.ownsRow 0 25 1 h.vB s.box.length h.bs:=by
   refine ownsRow_same m.oth.box.1 fun b hb=>?_
   rw [hbb] at hb
   cases hb
   exact hgc1.trans hgc.symm
  rw [hvB] at h0
  have:=(h0.stored k v').1
  simpa [hvB] using this
 ·have hj':j < s.box.length:=by simpa using hj
  by_cases e:j=k
  ·subst e
   have hlen:j < h.bs.length:=by
    have:=m.oth.box.1.1
    omega
   refine ⟨v',by simp [hlen],?_⟩
   have e2:(s.box.set j l)[j]'(by simpa using hj')=l:=by simp
   simp only [e2]
   refine ownsRow_same hr fun b hb=>Below.heap_setCell _ _ _ _ (fun e=>?_)
   obtain ⟨_,_,cur',hc'⟩:=ownsRow_block hr hb
   have e':b=g:=e
   rw [e',hgc1] at hc'
   cases hc'
  ·obtain ⟨u,hu,hru⟩:=m.oth.box.2 j hj'
   have e2:(s.box.set k l)[j]'(by simpa using hj')=s.box[j]:=by rw [List.getElem_set]; simp [Ne.symm e]
   refine ⟨u,by rw [List.getElem?_set]; simp [Ne.symm e]; exact hu,?_⟩
   simp only [e2]
   refine ownsRow_same hru fun b hb=>?_
   obtain ⟨_,hl,cur',hc'⟩:=ownsRow_block hru hb
   refine same b hl (fun e3=>?_) (fun e3=>(a.bs k v b hv (hrn b e3)).2.2.2 j u e hu hb)
   rw [e3,hgc] at hc'
   cases hc'
theorem RApart.setBox (a:RApart F h) {k:Nat} {v v':Value} (hv:h.bs[k]?=some v) {N:Nat} (hF:∀ b,F b->b < N) (hO:∀ b,h.vO.ownBlock=some b->b < N) (hC:∀ b,h.vC.ownBlock=some b->b < N) (hB:∀ (j:Nat) (u:Value) (b:Nat),h.bs[j]?=some u->u.ownBlock=some b->b < N)
  (hat:∀ b,v'.ownBlock=some b->v.ownBlock=some b\/N<=b):RApart F { h with bs:=h.bs.set k v' }:=by
 have hlen:k < h.bs.length:=by
  rcases Nat.lt_or_ge k h.bs.length with h' | h'
  ·exact h'
  ·rw [List.getElem?_eq_none h'] at hv; cases hv
 have pick:∀ (j:Nat) (u:Value),(h.bs.set k v')[j]?=some u->(j=k/\u=v')\/(j ≠ k/\h.bs[j]?=some u):=by
  intro j u hu
  rw [List.getElem?_set] at hu
  by_cases e:k=j
  ·subst e
   simp [hlen] at hu
   exact .inl ⟨rfl,hu.symm⟩
  ·simp [e] at hu
   exact .inr ⟨fun e'=>e e'.symm,hu⟩
 refine ⟨a.o,a.c,a.m,a.b,fun i u b hu hb=>?_⟩
 rcases pick i u hu with ⟨rfl,rfl⟩ | ⟨hne,hu'⟩
 ·rcases hat b hb with h1 | h1
  ·obtain ⟨p1,p2,p3,p4⟩:=a.bs i v b hv h1
   refine ⟨p1,p2,p3,fun j x hj hx=>?_⟩
   rcases pick j x hx with ⟨rfl,_⟩ | ⟨_,hx'⟩
   ·exact absurd rfl hj
   ·exact p4 j x hj hx'
  ·refine ⟨fun hf=>by have:=hF b hf; omega,fun e=>by have:=hO b e; omega,fun e=>by have:=hC b e; omega,fun j x hj hx e=>?_⟩
   rcases pick j x hx with ⟨rfl,_⟩ | ⟨_,hx'⟩
   ·exact hj rfl
   ·have:=hB j x b hx' e
    omega
 ·obtain ⟨p1,p2,p3,p4⟩:=a.bs i u b hu' hb
  refine ⟨p1,p2,p3,fun j x hj hx e=>?_⟩
  rcases pick j x hx with ⟨rfl,rfl⟩ | ⟨_,hx'⟩
  ·rcases hat b e with h1 | h1
   ·exact p4 j v hj hv h1
   ·have:=hB i u b hu' hb
    omega
  ·exact p4 j x hj hx' e
end
end Go.Proofs.YtbkfildnijjioaaGreat

namespace Go.Proofs.YtbkfildnijjioaaGreat
open Go.RowKit
set_option maxHeartbeats 1000000 in
theorem copy_any (tv mv sv qv:Option Addr) (tc mc sc qc:Nat) (S:SetD) (w:World) (hS:SetIn w.heap.size w tv mv sv qv S) (hF:Fits S) (hnil:(tv=none->tc=0)/\(mv=none->mc=0)/\(sv=none->sc=0)/\(qv=none->qc=0)) :
  Calls Tryz.prog 15 #[.agg #[.int .i64 S.workers,.int .i64 S.start,.slice tv S.threads.length tc,.slice mv S.mutexes.length mc,.slice sv S.sems.length sc,.slice qv S.queues.length qc]] w fun e w' =>
   ∃ tv' mv' sv' qv' tc' mc' sc' qc',e=.returned (.agg #[.int .i64 S.workers,.int .i64 S.start,.slice tv' S.threads.length tc',.slice mv' S.mutexes.length mc',.slice sv' S.sems.length sc',.slice qv' S.queues.length qc']) /\
    SetF (fun b=>w.heap.size<=b/\b < w'.heap.size) w' tv' mv' sv' qv' S/\((tv'=none->tc'=0)/\(mv'=none->mc'=0)/\(sv'=none->sc'=0)/\(qv'=none->qc'=0))/\Below w.heap.size w w':=by
 have HS:Hid (SetIn w.heap.size w tv mv sv qv S):=hS
 obtain ⟨ht0,hm0,hs0,hq0⟩:=hnil
 have HN1:Hid (tv=none->tc=0):=ht0
 have HN2:Hid (mv=none->mc=0):=hm0
 have HN3:Hid (sv=none->sc=0):=hs0
 have HN4:Hid (qv=none->qc=0):=hq0
 have HF:Hid (Fits S):=hF
 clear hS ht0 hm0 hs0 hq0 hF
 obtain ⟨i1,hi1,hz10,hz11,hz12⟩:=info_parts Tryz.infoMutex
 obtain ⟨i2,hi2,hz20,hz21,hz22⟩:=info_parts Tryz.infoSem
 obtain ⟨i3,hi3,hz30,hz31,hz32⟩:=info_parts Tryz.infoInt
 have HI1:Hid (Tryz.prog.info? 125=some i1/\i1.zero=some (.agg #[.int .i64 0,.int .i64 0])/\i1.size=2/\i1.bytes=16):=⟨hi1,hz10,hz11,hz12⟩
 have HI2:Hid (Tryz.prog.info? 116=some i2/\i2.zero=some (.agg #[.int .i64 0,.int .i64 0])/\i2.size=2/\i2.bytes=16):=⟨hi2,hz20,hz21,hz22⟩
 have HI3:Hid (Tryz.prog.info? 3=some i3/\i3.zero=some (.int .i64 0)/\i3.size=1/\i3.bytes=8):=⟨hi3,hz30,hz31,hz32⟩
 clear hi1 hz10 hz11 hz12 hi2 hz20 hz21 hz22 hi3 hz30 hz31 hz32
 go_enter Tryz.func15,Tryz.ntmps15
 go_upto_region 2 with fail
 have hM0:=CM.start w S (.slice tv S.threads.length tc) (.slice mv S.mutexes.length mc) (.slice sv S.sems.length sc) (.slice qv S.queues.length qc)
 generalize ((w.alloc (.cells #[.int .i64 S.workers,.int .i64 S.start,.slice tv S.threads.length tc,.slice mv S.mutexes.length mc,.slice sv S.sems.length sc,.slice qv S.queues.length qc] 27)).alloc (.cells #[.int .i64 0,.int .i64 0,.slice none 0 0,.slice none 0 0,.slice none 0 0,.slice none 0 0] 27)).alloc (.cells #[.int .i64 S.workers,.int .i64 S.start,.slice none 0 0,.slice none 0 0,.slice none 0 0,.slice none 0 0] 27)=w0 at hM0 ⊢
 have M0:Hid (CM w S (.slice tv S.threads.length tc) (.slice mv S.mutexes.length mc) (.slice sv S.sems.length sc) (.slice qv S.queues.length qc) w0 (.slice none 0 0) (.slice none 0 0) (.slice none 0 0) (.slice none 0 0)):=hM0
 clear hM0
 have x3:=M0.out.x.cell 3
 have c3:=M0.out.c.cell 3
 simp at x3 c3
 go_upto_region 3 with (at_builtin; refine wpList_append_src rfl (.tmp 13) (.tmp 15) 23 rfl (w.heap.size + 3) 125 i1 (.agg #[.int .i64 0,.int .i64 0]) 2 16 Tryz.underlying23 HI1.out.1 HI1.out.2.1 HI1.out.2.2.1 HI1.out.2.2.2 rfl (by decide) (.slice none 0 0) 0 [] rfl (World.ownsRow_nil _ _ _ _) mv S.mutexes.length mc (pairCells S.mutexes) rfl (pairCells_length _) HN2.out (HS.out.stays M0.out.below).mutexes.src (pairCells_one _) (by have:=HF.out.mutexes; unfold maxLen; omega) (by have:=HF.out.mutexes; omega) M0.out.size ?_; intro v1 w1 hown1 hg1; simp only [Nat.zero_add,List.nil_append] at hown1; obtain ⟨mv',mc',rfl,hnm,hpm,ham⟩:=PairsIn.of_owns hown1; have M1:Hid (CM w S (.slice tv S.threads.length tc) (.slice mv S.mutexes.length mc) (.slice sv S.sems.length sc) (.slice qv S.queues.length qc) w1 (.slice none 0 0) (.slice none 0 0) (.slice none 0 0) (.slice none 0 0)):=M0.out.grown hg1 (by simp [Value.ownBlock]); have NM:=hid hnm; clear hnm; have z1:=M1.out.c.frozen 3; have y1:=M1.out.c.cell 3; simp at y1; have HA1:Hid (NewAt (w.heap.size + 3) w1.heap.size mv'):=ham; have HP1:Hid (PairsIn w1.heap.size w1 mv' S.mutexes):=hpm; have G1:Hid (w0.grownBy w1 none):=hg1; clear hown1 hg1 ham hpm)
 clear x3 c3 z1 y1 M0
 have hM2:=M1.out.set3 (.slice mv' S.mutexes.length mc')
 have hP:=HP1.out.keep HA1.out (setCell_same w1 ⟨w.heap.size + 1 + 1,3,none⟩ (.slice mv' S.mutexes.length mc') _ _ (by show w.heap.size + 1 + 1 < _; omega)) (Nat.le_of_eq (setCell_size _ _ _).symm)
 have hA:=HA1.out
 rw [<- setCell_size w1 ⟨w.heap.size + 1 + 1,3,none⟩ (.slice mv' S.mutexes.length mc')] at hA
 clear M1 HA1 HP1 G1
 generalize w1.setCell ⟨w.heap.size + 1 + 1,3,none⟩ (.slice mv' S.mutexes.length mc')=w2 at hM2 hP hA ⊢
 have M2:Hid (CM w S (.slice tv S.threads.length tc) (.slice mv S.mutexes.length mc) (.slice sv S.sems.length sc) (.slice qv S.queues.length qc) w2 (.slice none 0 0) (.slice mv' S.mutexes.length mc') (.slice none 0 0) (.slice none 0 0)):=hM2
 have P2mv:Hid (PairsIn w2.heap.size w2 mv' S.mutexes):=hP
 have A2mv:Hid (NewAt (w.heap.size + 3) w2.heap.size mv'):=hA
 clear hM2 hP hA
 have x4:=M2.out.x.cell 4
 have c4:=M2.out.c.cell 4
 simp at x4 c4
 go_upto_region 4 with (at_builtin; refine wpList_append_src rfl (.tmp 19) (.tmp 21) 24 rfl (w.heap.size + 3) 116 i2 (.agg #[.int .i64 0,.int .i64 0]) 2 16 Tryz.underlying24 HI2.out.1 HI2.out.2.1 HI2.out.2.2.1 HI2.out.2.2.2 rfl (by decide) (.slice none 0 0) 0 [] rfl (World.ownsRow_nil _ _ _ _) sv S.sems.length sc (pairCells S.sems) rfl (pairCells_length _) HN3.out (HS.out.stays M2.out.below).sems.src (pairCells_one _) (by have:=HF.out.sems; unfold maxLen; omega) (by have:=HF.out.sems; omega) M2.out.size ?_; intro v1 w3 hown1 hg1; simp only [Nat.zero_add,List.nil_append] at hown1; obtain ⟨sv',sc',rfl,hnm,hpm,ham⟩:=PairsIn.of_owns hown1; have M3:Hid (CM w S (.slice tv S.threads.length tc) (.slice mv S.mutexes.length mc) (.slice sv S.sems.length sc) (.slice qv S.queues.length qc) w3 (.slice none 0 0) (.slice mv' S.mutexes.length mc') (.slice none 0 0) (.slice none 0 0)):=M2.out.grown hg1 (by simp [Value.ownBlock]); have NS:=hid hnm; clear hnm; have z1:=M3.out.c.frozen 4; have y1:=M3.out.c.cell 4; simp at y1; have HA1:Hid (NewAt (w.heap.size + 3) w3.heap.size sv'):=ham; have HP1:Hid (PairsIn w3.heap.size w3 sv' S.sems):=hpm; have G3:Hid (w2.grownBy w3 none):=hg1; clear hown1 hg1 ham hpm)
 clear x4 c4 z1 y1 M2
 have hM4:=M3.out.set4 (.slice sv' S.sems.length sc')
 have hP:=HP1.out.keep HA1.out (setCell_same w3 ⟨w.heap.size + 1 + 1,4,none⟩ (.slice sv' S.sems.length sc') _ _ (by show w.heap.size + 1 + 1 < _; omega)) (Nat.le_of_eq (setCell_size _ _ _).symm)
 have hA:=HA1.out
 rw [<- setCell_size w3 ⟨w.heap.size + 1 + 1,4,none⟩ (.slice sv' S.sems.length sc')] at hA
 have hP0:=(P2mv.out.keep A2mv.out (grown_same G3.out _ _ (Nat.le_refl _) (by simp)) G3.out.size).keep (A2mv.out.mono G3.out.size) (setCell_same w3 ⟨w.heap.size + 1 + 1,4,none⟩ (.slice sv' S.sems.length sc') _ _ (by show w.heap.size + 1 + 1 < _; omega)) (Nat.le_of_eq (setCell_size _ _ _).symm)
 have hA0:=A2mv.out.mono G3.out.size
 rw [<- setCell_size w3 ⟨w.heap.size + 1 + 1,4,none⟩ (.slice sv' S.sems.length sc')] at hA0
 clear M3 HA1 HP1 G3 P2mv A2mv
 generalize w3.setCell ⟨w.heap.size + 1 + 1,4,none⟩ (.slice sv' S.sems.length sc')=w4 at hM4 hP hA hP0 hA0 ⊢
 have M4:Hid (CM w S (.slice tv S.threads.length tc) (.slice mv S.mutexes.length mc) (.slice sv S.sems.length sc) (.slice qv S.queues.length qc) w4 (.slice none 0 0) (.slice mv' S.mutexes.length mc') (.slice sv' S.sems.length sc') (.slice none 0 0)):=hM4
 have P4sv:Hid (PairsIn w4.heap.size w4 sv' S.sems):=hP
 have A4sv:Hid (NewAt (w.heap.size + 3) w4.heap.size sv'):=hA
 have P4mv:Hid (PairsIn w4.heap.size w4 mv' S.mutexes):=hP0
 have A4mv:Hid (NewAt (w.heap.size + 3) w4.heap.size mv'):=hA0
 clear hM4 hP hA hP0 hA0
 have x5:=M4.out.x.cell 5
 have c5:=M4.out.c.cell 5
 simp at x5 c5
 go_upto_region 5 with (at_builtin; refine wpList_append_src rfl (.tmp 25) (.tmp 27) 25 rfl (w.heap.size + 3) 3 i3 (.int .i64 0) 1 8 Tryz.underlying25 HI3.out.1 HI3.out.2.1 HI3.out.2.2.1 HI3.out.2.2.2 rfl (by decide) (.slice none 0 0) 0 [] rfl (World.ownsRow_nil _ _ _ _) qv S.queues.length qc (intCells S.queues) rfl (intCells_length _) HN4.out (HS.out.stays M4.out.below).queues.src (intCells_one _) (by have:=HF.out.queues; unfold maxLen; omega) (by have:=HF.out.queues; omega) M4.out.size ?_; intro v1 w5 hown1 hg1; simp only [Nat.zero_add,List.nil_append] at hown1; obtain ⟨qv',qc',rfl,hnm,hpm,ham⟩:=IntsIn.of_owns hown1; have M5:Hid (CM w S (.slice tv S.threads.length tc) (.slice mv S.mutexes.length mc) (.slice sv S.sems.length sc) (.slice qv S.queues.length qc) w5 (.slice none 0 0) (.slice mv' S.mutexes.length mc') (.slice sv' S.sems.length sc') (.slice none 0 0)):=M4.out.grown hg1 (by simp [Value.ownBlock]); have NQ:=hid hnm; clear hnm; have z1:=M5.out.c.frozen 5; have y1:=M5.out.c.cell 5; simp at y1; have HA1:Hid (NewAt (w.heap.size + 3) w5.heap.size qv'):=ham; have HP1:Hid (IntsIn w5.heap.size w5 qv' S.queues):=hpm; have G5:Hid (w4.grownBy w5 none):=hg1; clear hown1 hg1 ham hpm)
 clear x5 c5 z1 y1 M4
 have hM6:=M5.out.set5 (.slice qv' S.queues.length qc')
 have hP:=HP1.out.keep HA1.out (setCell_same w5 ⟨w.heap.size + 1 + 1,5,none⟩ (.slice qv' S.queues.length qc') _ _ (by show w.heap.size + 1 + 1 < _; omega)) (Nat.le_of_eq (setCell_size _ _ _).symm)
 have hA:=HA1.out
 rw [<- setCell_size w5 ⟨w.heap.size + 1 + 1,5,none⟩ (.slice qv' S.queues.length qc')] at hA
 have hP0:=(P4mv.out.keep A4mv.out (grown_same G5.out _ _ (Nat.le_refl _) (by simp)) G5.out.size).keep (A4mv.out.mono G5.out.size) (setCell_same w5 ⟨w.heap.size + 1 + 1,5,none⟩ (.slice qv' S.queues.length qc') _ _ (by show w.heap.size + 1 + 1 < _; omega)) (Nat.le_of_eq (setCell_size _ _ _).symm)
 have hA0:=A4mv.out.mono G5.out.size
 rw [<- setCell_size w5 ⟨w.heap.size + 1 + 1,5,none⟩ (.slice qv' S.queues.length qc')] at hA0
 have hP1:=(P4sv.out.keep A4sv.out (grown_same G5.out _ _ (Nat.le_refl _) (by simp)) G5.out.size).keep (A4sv.out.mono G5.out.size) (setCell_same w5 ⟨w.heap.size + 1 + 1,5,none⟩ (.slice qv' S.queues.length qc') _ _ (by show w.heap.size + 1 + 1 < _; omega)) (Nat.le_of_eq (setCell_size _ _ _).symm)
 have hA1:=A4sv.out.mono G5.out.size
 rw [<- setCell_size w5 ⟨w.heap.size + 1 + 1,5,none⟩ (.slice qv' S.queues.length qc')] at hA1
 clear M5 HA1 HP1 G5 P4mv A4mv P4sv A4sv
 generalize w5.setCell ⟨w.heap.size + 1 + 1,5,none⟩ (.slice qv' S.queues.length qc')=w6 at hM6 hP hA hP0 hA0 hP1 hA1 ⊢
 have M6:Hid (CM w S (.slice tv S.threads.length tc) (.slice mv S.mutexes.length mc) (.slice sv S.sems.length sc) (.slice qv S.queues.length qc) w6 (.slice none 0 0) (.slice mv' S.mutexes.length mc') (.slice sv' S.sems.length sc') (.slice qv' S.queues.length qc')):=hM6
 have P6qv:Hid (IntsIn w6.heap.size w6 qv' S.queues):=hP
 have A6qv:Hid (NewAt (w.heap.size + 3) w6.heap.size qv'):=hA
 have P6mv:Hid (PairsIn w6.heap.size w6 mv' S.mutexes):=hP0
 have A6mv:Hid (NewAt (w.heap.size + 3) w6.heap.size mv'):=hA0
 have P6sv:Hid (PairsIn w6.heap.size w6 sv' S.sems):=hP1
 have A6sv:Hid (NewAt (w.heap.size + 3) w6.heap.size sv'):=hA1
 clear hM6 hP hA hP0 hA0 hP1 hA1
 have hM6:=M6.out
 have hlow:w.heap.size + 3<=w6.heap.size:=hM6.size
 clear HN2 HN3 HN4 HI1 HI2 HI3
 obtain ⟨i4,hi4,hz40,hz41,hz42⟩:=info_parts Tryz.infoInstr
 obtain ⟨i5,hi5,hz50,hz51,hz52⟩:=info_parts Tryz.infoThread
 have HI4:Hid (Tryz.prog.info? 61=some i4/\i4.zero=some (.agg #[.int .i64 0,.int .i64 0,.int .i64 0])/\i4.size=3/\i4.bytes=24):=⟨hi4,hz40,hz41,hz42⟩
 have HI5:Hid (Tryz.prog.info? 59=some i5/\i5.zero=some (.agg #[.int .i64 0,.int .i64 0,.int .i64 0,.int .i64 0,.slice none 0 0])/\i5.size=5/\i5.bytes=56):=⟨hi5,hz50,hz51,hz52⟩
 clear hi4 hz40 hz41 hz42 hi5 hz50 hz51 hz52 hM6
 go_wp2
 go_loopw [4] (fun i wr=>∃ (k:Nat) (vt:Value) (cs:Nat->Value),k<=S.threads.length/\i=.int .i64 k/\CM w S (.slice tv S.threads.length tc) (.slice mv S.mutexes.length mc) (.slice sv S.sems.length sc) (.slice qv S.queues.length qc) wr vt (.slice mv' S.mutexes.length mc') (.slice sv' S.sems.length sc') (.slice qv' S.queues.length qc')/\But w6.heap.size (w.heap.size + 1 + 1) w6 wr/\ThRows w6.heap.size wr vt S.threads k cs) (fun i _=>S.threads.length - (intOf i).toNat)
 case atStart=>exact ⟨0,_,fun _=>.slice none 0 0,Nat.zero_le _,rfl,M6.out,But.refl _ _ _,ThRows.zero _ _ _ _⟩
 case round =>
  obtain ⟨k,vt,cs,hk,rfl,hM,hB,hR⟩:=hrel
  have M:Hid (CM w S (.slice tv S.threads.length tc) (.slice mv S.mutexes.length mc) (.slice sv S.sems.length sc) (.slice qv S.queues.length qc) wr vt (.slice mv' S.mutexes.length mc') (.slice sv' S.sems.length sc') (.slice qv' S.queues.length qc')):=hM
  have BB:Hid (But w6.heap.size (w.heap.size + 1 + 1) w6 wr):=hB
  have RR:Hid (ThRows w6.heap.size wr vt S.threads k cs):=hR
  clear hM hB hR
  have x2:=M.out.x.cell 2
  simp at x2
  have q0:w.heap.size + 3<=wr.heap.size:=M.out.size
  have q1:w.heap.size < wr.heap.size:=by omega
  have q2:w6.heap.size<=wr.heap.size:=BB.out.size
  by_cases hlt:k < S.threads.length
  ·obtain ⟨b,o,cv,cc,rfl,hbb,c0,c1,c2,c3,c4,hcode,hcn⟩:=HS.out.threads k hlt
   have c0':=(M.out.below.cell (p:=⟨b,o + k * 5,none⟩) hbb).trans c0
   have c1':=(M.out.below.cell (p:=⟨b,o + k * 5 + 1,none⟩) hbb).trans c1
   have c2':=(M.out.below.cell (p:=⟨b,o + k * 5 + 2,none⟩) hbb).trans c2
   have c3':=(M.out.below.cell (p:=⟨b,o + k * 5 + 3,none⟩) hbb).trans c3
   have c4':=(M.out.below.cell (p:=⟨b,o + k * 5 + 4,none⟩) hbb).trans c4
   have HC:Hid (InstrsIn w.heap.size w cv S.threads[k].code):=hcode
   have HCN:Hid (cv=none->cc=0):=hcn
   have hfit:=HF.out.codes k hlt
   clear c0 c1 c2 c3 c4 hcode hcn
   go_upto_region 11 with (at_builtin; refine wpList_append_src rfl (.tmp 42) (.tmp 44) 57 rfl (wr.heap.size + 1) 61 i4 (.agg #[.int .i64 0,.int .i64 0,.int .i64 0]) 3 24 Tryz.underlying57 HI4.out.1 HI4.out.2.1 HI4.out.2.2.1 HI4.out.2.2.2 rfl (by decide) (.slice none 0 0) 0 [] rfl (World.ownsRow_nil _ _ _ _) cv S.threads[k].code.length cc (instrCells S.threads[k].code) rfl (instrCells_length _) HCN.out (HC.out.stays (M.out.below.alloc (by omega) _)).src (instrCells_one _) (by unfold maxLen; omega) (by omega) (by simp) ?_; intro v4 w7 hown4 hg4; simp only [Nat.zero_add,List.nil_append] at hown4; obtain ⟨cv',cc',rfl,_,_⟩:=owns_cells hown4; have M7:=hid ((M.out.alloc _).grown hg4 (by simp [Value.ownBlock])); have T7:=hid ((Blk.new wr #[.int .i64 S.threads[k].base,.int .i64 S.threads[k].offset,.int .i64 S.threads[k].period,.int .i64 S.threads[k].deadline,.slice cv S.threads[k].code.length cc] 59).grown hg4 (by simp [Value.ownBlock])); have O7:=hid hown4; have G7:=hid hg4; have z4:=T7.out.frozen 4; have y4:=T7.out.cell 4; simp at y4; clear hown4 hg4)
   clear x2 c0' c1' c2' c3' c4'
   go_upto_region 12 with fail
   clear z4 y4
   have hM8:=M7.out.other (p:=⟨wr.heap.size,4,none⟩) (by show w.heap.size + 3<=wr.heap.size; omega) (.slice cv' S.threads[k].code.length cc')
   have hT8:Blk (w7.setCell ⟨wr.heap.size,4,none⟩ (.slice cv' S.threads[k].code.length cc')) wr.heap.size #[.int .i64 S.threads[k].base,.int .i64 S.threads[k].offset,.int .i64 S.threads[k].period,.int .i64 S.threads[k].deadline,.slice cv' S.threads[k].code.length cc'] 59:=by simpa using T7.out.set 4 (.slice cv' S.threads[k].code.length cc')
   have same8:∀ g,g < wr.heap.size->(w7.setCell ⟨wr.heap.size,4,none⟩ (.slice cv' S.threads[k].code.length cc')).heap[g]?=wr.heap[g]?:=by
    intro g hg
    rw [Below.heap_setCell _ _ _ _ (show g ≠ wr.heap.size by omega),G7.out.block g (by simp; omega) (by simp [Value.ownBlock]),Below.heap_alloc _ _ _ hg]
   have hR8:=RR.out.same (fun g _ hg=>same8 g hg)
   have hO8:(w7.setCell ⟨wr.heap.size,4,none⟩ (.slice cv' S.threads[k].code.length cc')).ownsRow w6.heap.size 61 3 (.slice cv' S.threads[k].code.length cc') S.threads[k].code.length (instrCells S.threads[k].code):=by
    refine ownsRow_mono (ownsRow_same O7.out fun g hg=>?_) (show w6.heap.size<=wr.heap.size + 1 by omega)
    have:=ownsRow_block O7.out hg
    exact Below.heap_setCell _ _ _ _ (show g ≠ wr.heap.size by omega)
   have hB8:But w6.heap.size (w.heap.size + 1 + 1) w6 (w7.setCell ⟨wr.heap.size,4,none⟩ (.slice cv' S.threads[k].code.length cc')) :=
    ((BB.out.alloc q2 _).grown G7.out (by simp; omega) (by simp [Value.ownBlock])).setCell (Or.inr (show w6.heap.size<=wr.heap.size from q2)) _
   have hs8:wr.heap.size < (w7.setCell ⟨wr.heap.size,4,none⟩ (.slice cv' S.threads[k].code.length cc')).heap.size:=hT8.lt
   clear M7 T7 O7 G7 same8
   generalize w7.setCell ⟨wr.heap.size,4,none⟩ (.slice cv' S.threads[k].code.length cc')=w8 at hM8 hT8 hR8 hO8 hB8 hs8 ⊢
   have M8:=hid hM8
   have R8:=hid hR8
   have O8:=hid hO8
   have B8:=hid hB8
   have m2:=hM8.c.cell 2
   have t0:=hT8.cell 0
   have t1:=hT8.cell 1
   have t2:=hT8.cell 2
   have t3:=hT8.cell 3
   have t4:=hT8.cell 4
   simp at m2 t0 t1 t2 t3 t4
   have q8:w6.heap.size<=w8.heap.size:=hB8.size
   have q9:w.heap.size + 1 + 1 < w8.heap.size:=by omega
   clear hM8 hT8 hR8 hO8 hB8
   have hn:=HF.out.threads
   go_wp2_with (at_builtin; refine wpList_append_src rfl (.tmp 49) (.tmp 51) 22 rfl w6.heap.size 59 i5 (.agg #[.int .i64 0,.int .i64 0,.int .i64 0,.int .i64 0,.slice none 0 0]) 5 56 Tryz.underlying22 HI5.out.1 HI5.out.2.1 HI5.out.2.2.1 HI5.out.2.2.2 rfl (by decide) vt k (thCells S.threads cs k) rfl (R8.out.1.alloc _) (some ⟨w8.heap.size,0,none⟩) 1 1 [.int .i64 S.threads[k].base,.int .i64 S.threads[k].offset,.int .i64 S.threads[k].period,.int .i64 S.threads[k].deadline,.slice cv' S.threads[k].code.length cc'] rfl rfl (fun h=>(by cases h)) (fun j u hj=>⟨_,rfl,(by rw [Addr.add_lit,Nat.zero_add,(Blk.new w8 #[.int .i64 S.threads[k].base,.int .i64 S.threads[k].offset,.int .i64 S.threads[k].period,.int .i64 S.threads[k].deadline,.slice cv' S.threads[k].code.length cc'] 59).cell]; simpa using hj)⟩) (by intro u hu; simp at hu; rcases hu with rfl | rfl | rfl | rfl | rfl <;> rfl) (by unfold maxLen; omega) (by omega) (by simp; omega) ?_; intro v5 w10 hown5 hg5; obtain ⟨tv5,tc5,rfl,_,_⟩:=owns_cells hown5; have M10:=hid ((M8.out.alloc _).grown hg5 (fun g hg=>(by have:=ownsRow_block R8.out.1 hg; omega))); have z10:=M10.out.c.frozen 2; have y10:=M10.out.c.cell 2; simp at y10; have O10:=hid hown5; have G10:=hid hg5; clear hown5 hg5)
   obtain ⟨cs',hR10⟩:=ThRows.step (ThRows.same R8.out (fun g _ hg=>Below.heap_alloc _ _ _ hg)) hlt (O8.out.alloc _) G10.out O10.out
   have hB10:But w6.heap.size (w.heap.size + 1 + 1) w6 w10:=(B8.out.alloc q8 _).grown G10.out (by simp; omega) (fun g hg=>(ownsRow_block R8.out.1 hg).1)
   go_roundw
   case rel=>exact ⟨k + 1,_,cs',by omega,by go_num,M10.out.set2 _,hB10.setCell (Or.inl rfl) _,hR10.same (setCell_same _ _ _ _ _ (by show w.heap.size + 1 + 1 < _; omega))⟩
   case measure=>simp [intOf]; omega
  ·have e:k=S.threads.length:=by omega
   subst e
   obtain ⟨tv',tc',rfl,htn,htin⟩:=ThreadsF.of_rows_later RR.out
   have NT:=hid htn
   clear htn
   have HT:=hid htin
   have m0:=M.out.c.cell 0
   have m1:=M.out.c.cell 1
   have m2:=M.out.c.cell 2
   have m3:=M.out.c.cell 3
   have m4:=M.out.c.cell 4
   have m5:=M.out.c.cell 5
   have r0:=M.out.r.cell 0
   have r1:=M.out.r.cell 1
   have r2:=M.out.r.cell 2
   have r3:=M.out.r.cell 3
   have r4:=M.out.r.cell 4
   have r5:=M.out.r.cell 5
   simp at m0 m1 m2 m3 m4 m5 r0 r1 r2 r3 r4 r5
   have f0:=M.out.r.frozen 0
   have f1:=M.out.r.frozen 1
   have f2:=M.out.r.frozen 2
   have f3:=M.out.r.frozen 3
   have f4:=M.out.r.frozen 4
   have f5:=M.out.r.frozen 5
   have q3:w.heap.size + 1 < wr.heap.size:=by omega
   clear htin
   go_wp2
   have same:∀ g,w.heap.size + 3<=g->g < w6.heap.size->wr.heap[g]?=w6.heap[g]?:=fun g h1 h2=>BB.out.block g h2 (by omega)
   have up:∀ b,w.heap.size + 3<=b/\b < w6.heap.size->w.heap.size<=b/\b < ((((((wr.setCell ⟨w.heap.size + 1,0,none⟩ (.int .i64 S.workers)).setCell ⟨w.heap.size + 1,1,none⟩ (.int .i64 S.start)).setCell ⟨w.heap.size + 1,2,none⟩ (.slice tv' S.threads.length tc')).setCell ⟨w.heap.size + 1,3,none⟩ (.slice mv' S.mutexes.length mc')).setCell ⟨w.heap.size + 1,4,none⟩ (.slice sv' S.sems.length sc')).setCell ⟨w.heap.size + 1,5,none⟩ (.slice qv' S.queues.length qc')).heap.size:=by
    intro b hb
    rw [six_size]
    omega
   refine bodyPost_ret (v:=.agg #[.int .i64 S.workers,.int .i64 S.start,.slice tv' S.threads.length tc',.slice mv' S.mutexes.length mc',.slice sv' S.sems.length sc',.slice qv' S.queues.length qc']) ?_ rfl ⟨tv',mv',sv',qv',tc',mc',sc',qc',rfl,⟨?_,?_,?_,?_⟩,⟨NT.out,NM.out,NS.out,NQ.out⟩,six_below M.out.below _ (by omega) _ _ _ _ _ _⟩
   ·simp [results,Tryz.results15,go_sem,r0,r1,r2,r3,r4,r5]
   ·exact (HT.out _ (fun g h1 h2=>six_same _ _ _ _ _ _ _ _ _ (by omega))).mono (fun b hb=>⟨by omega,hb.2⟩)
   ·exact ((P6mv.out.newF A6mv.out).same (fun b hb=>(six_same _ _ _ _ _ _ _ _ _ (by omega)).trans (same b hb.1 hb.2))).mono up
   ·exact ((P6sv.out.newF A6sv.out).same (fun b hb=>(six_same _ _ _ _ _ _ _ _ _ (by omega)).trans (same b hb.1 hb.2))).mono up
   ·exact ((P6qv.out.newF A6qv.out).same (fun b hb=>(six_same _ _ _ _ _ _ _ _ _ (by omega)).trans (same b hb.1 hb.2))).mono up
end Go.Proofs.YtbkfildnijjioaaGreat

namespace Go.Proofs.YtbkfildnijjioaaGreat
open Go.RowKit
set_option maxHeartbeats 1000000 in
theorem rRelease_any (F:Nat->Prop) (w:World) (sb:Nat) (h:RH) (s:RS) (m:RMem F w sb h s) (g:RGood s) (hnx:s.next<=4611686018427387000) :
  Calls Tryz.prog 68 #[.pointer (some ⟨sb,0,none⟩)] w fun e w'=>e=.returned (.tuple #[])/\RMem F w' sb h (R.release s)/\Only [sb,h.gT] w w':=by
 have hlen:=g.len
 have hfew:=g.few
 have G:=hid g
 have M0:=hid m
 have HL:=hid hlen
 clear g m hlen
 go_enter Tryz.func68,Tryz.ntmps68
 go_wp2
 go_loopw [2] (fun i wr=>∃ k:Nat,k<=s.T.length/\i=.int .i64 k/\RMem F wr sb h (R.releaseTo s k)/\Only [sb,h.gT] w wr) (fun i _=>s.T.length - (intOf i).toNat)
 case atStart=>exact ⟨0,Nat.zero_le _,rfl,M0.out,Only.refl _ _⟩
 case round =>
  obtain ⟨k,hk,rfl,hm,ho⟩:=hrel
  have M:=hid hm
  have O:=hid ho
  have c8:=hm.blk.cell 8
  simp [rsCells,R.releaseTo_len] at c8
  clear hm ho
  by_cases hlt:k < s.T.length
  ·have hlt2:k < s.set.threads.length:=by have:=HL.out; omega
   have hoff:=G.out.off s.set.threads[k] (List.getElem_mem hlt2)
   go_wp2_with fail
   refine (rNumber_any F wr sb h _ M.out k (by rw [R.releaseTo_set]; exact hlt2) 0 (by decide) (by decide) (by rw [R.releaseTo_set]; exact G.out.now0) (by rw [R.releaseTo_set,R.releaseTo_now]; exact G.out.now1) (by rw [R.releaseTo_now]; exact G.out.now2) (by simp only [R.releaseTo_set]; exact ⟨hoff.1,hoff.2.1,hoff.2.2.1,hoff.2.2.2.1⟩)).mono ?_
   rintro e w1 ⟨rfl,hb1⟩
   have hm1:=M.out.below hb1
   have ho1:=O.out.via hb1
   have hkl:k < (R.releaseTo s k).T.length:=by rw [R.releaseTo_len]; exact hlt
   have nb:-1<=R.numberAt (R.releaseTo s k) k 0/\R.numberAt (R.releaseTo s k) k 0<=1000000000:=by
    unfold R.numberAt
    simp only [R.releaseTo_set,R.releaseTo_now]
    have e:s.set.threads.getD k P3.none0=s.set.threads[k]:=by simp [List.getD,hlt2]
    rw [e]
    have:=G.out.now0
    have:=G.out.now1
    have:=G.out.now2
    exact R.number_bd _ _ hoff.2.2.1 (by omega)
   have estep:R.releaseTo s (k + 1)=R.releaseOne (R.releaseTo s k) k:=rfl
   have HE:=hid estep
   have hnk:=R.releaseTo_next s k
   have hn0:=G.out.nxt0
   have hlen1:=R.releaseTo_len s k
   have HLn:=hid hlen1
   clear estep hlen1 hoff M O hb1 c8
   generalize hsk:R.releaseTo s k=sk at *
   have HSK:=hid hsk
   clear hsk
   have c8:=hm1.blk.cell 8
   simp [rsCells] at c8
   have a4:=hm1.tcell hkl 4 (by decide)
   have a5:=hm1.tcell hkl 5 (by decide)
   simp [rtCells] at a4 a5
   have f4:=hm1.tfrozen (k * 13 + 4)
   have M1:=hid hm1
   have O1:=hid ho1
   clear hm1 ho1
   generalize hnum:R.numberAt sk k 0=num at *
   have HN:=hid hnum
   clear hnum
   obtain ⟨nb0,nb1⟩:=nb
   by_cases hpos:0<=num
   ·go_wp2_with fail
    go_quiet (fail)
    have hm2:=(M1.out.drewN nq).setT hkl (j:=4) (by decide) (.int .i64 (num + 1)) (fun x=>{ x with rel:=num + 1 }) rfl
    have ho2:Only [sb,h.gT] w ((w1.drewN nq).setCell ⟨h.gT,k * 13 + 4,none⟩ (.int .i64 (num + 1))):=(O1.out.drewN nq).setCell (.inl (by simp)) _
    have M2:=hid hm2
    have O2:=hid ho2
    clear hm2 ho2
    have eth:R.th sk.T k=sk.T[k]:=by simp [R.th,List.getD,hkl]
    have HT:=hid eth
    clear eth
    cases hidl:(sk.T[k].rel == sk.T[k].ended)
    ·have HI:=hid hidl
     go_wp2
     go_roundw
     case rel =>
      refine ⟨k + 1,by omega,by go_num,?_,O2.out⟩
      rw [HE.out]
      unfold R.releaseOne
      have hne:¬ sk.T[k].rel=sk.T[k].ended:=by simpa using HI.out
      rw [HN.out,if_pos hpos,HT.out,if_neg hne]
      exact M2.out
     case measure=>simp [intOf]; omega
    ·have HI:=hid hidl
     go_wp2_with fail
     refine (rWake_any F _ sb h _ M2.out k (by simpa using hkl) (by simp; rw [HLn.out]; exact hfew) (by show 0<=sk.next; omega) (by show sk.next<=_; omega)).mono ?_
     rintro e w3 ⟨rfl,hm3,ho3⟩
     have M3:=hid hm3
     have O3:=hid (O2.out.trans ho3)
     clear hm3 ho3
     go_wp2
     go_roundw
     case rel =>
      refine ⟨k + 1,by omega,by go_num,?_,O3.out⟩
      rw [HE.out]
      unfold R.releaseOne
      have he:sk.T[k].rel=sk.T[k].ended:=by simpa using HI.out
      rw [HN.out,if_pos hpos,HT.out,if_pos he]
      exact M3.out
     case measure=>simp [intOf]; omega
   ·go_wp2
    go_roundw
    case rel =>
     refine ⟨k + 1,by omega,by go_num,?_,O1.out⟩
     rw [HE.out]
     unfold R.releaseOne
     rw [HN.out,if_neg (by omega)]
     exact M1.out
    case measure=>simp [intOf]; omega
  ·go_wp2
   go_end0
   have e:k=s.T.length:=by omega
   subst e
   exact ⟨rfl,M.out,O.out⟩
end Go.Proofs.YtbkfildnijjioaaGreat

namespace Go.Proofs.YtbkfildnijjioaaGreat
open Go.RowKit
set_option maxHeartbeats 400000 in
theorem rMutexFits_any (k t:Int) (w:World) :
  Calls Tryz.prog 107 #[.agg #[.int .i64 k,.int .i64 t]] w fun e w'=>e=.returned (.bool (P3.mutexB k t))/\Below w.heap.size w w':=by
 go_enter Tryz.func107,Tryz.ntmps107
 go_wp2
 all_goals
  go_ret
  refine ⟨ret_bool ?_,(Below.refl _ _).alloc (Nat.le_refl _) _⟩
  unfold P3.mutexB
  rw [Bool.eq_iff_iff]
  simp_all
  try omega
set_option maxHeartbeats 400000 in
theorem rSizes_any (tv mv sv qv:Option Addr) (tc mc sc qc:Nat) (S:SetD) (w:World) :
  Calls Tryz.prog 64 #[.agg #[.int .i64 S.workers,.int .i64 S.start,.slice tv S.threads.length tc,.slice mv S.mutexes.length mc,.slice sv S.sems.length sc,.slice qv S.queues.length qc]] w fun e w'=>e=.returned (.bool (P3.sizesB S))/\Below w.heap.size w w':=by
 go_enter Tryz.func64,Tryz.ntmps64
 go_wp2
 all_goals
  go_ret
  refine ⟨ret_bool ?_,(Below.refl _ _).alloc (Nat.le_refl _) _⟩
  unfold P3.sizesB
  rw [Bool.eq_iff_iff]
  simp
  try omega
set_option maxHeartbeats 400000 in
theorem rThreadFits_any (b o p d:Int) (cv:Option Addr) (cn cc:Nat) (w:World) :
  Calls Tryz.prog 66 #[.agg #[.int .i64 b,.int .i64 o,.int .i64 p,.int .i64 d,.slice cv cn cc]] w fun e w'=>e=.returned (.bool (P3.threadB b o p d cn))/\Below w.heap.size w w':=by
 go_enter Tryz.func66,Tryz.ntmps66
 go_wp2
 all_goals
  go_ret
  refine ⟨ret_bool ?_,(Below.refl _ _).alloc (Nat.le_refl _) _⟩
  unfold P3.threadB P3.latest
  rw [Bool.eq_iff_iff]
  simp_all
  try omega
end Go.Proofs.YtbkfildnijjioaaGreat

namespace Go.Proofs.YtbkfildnijjioaaGreat
open Go.RowKit
set_option maxHeartbeats 400000 in
theorem rBounds_any (wk st:Int) (tv mv sv qv:Option Addr) (tn tc mn mc sn sc qn qc:Nat) (len op:Int) (w:World) (h1:(tn:Int)<=16) (h2:(mn:Int)<=8) (h3:(sn:Int)<=4) (h4:(qn:Int)<=4) :
  Calls Tryz.prog 108 #[.agg #[.int .i64 wk,.int .i64 st,.slice tv tn tc,.slice mv mn mc,.slice sv sn sc,.slice qv qn qc],.int .i64 len,.int .i64 op] w fun e w' =>
   e=.returned (.tuple #[.agg #[.int .i64 (P3.lowA op),.int .i64 (P3.highA tn mn sn qn op),.int .i64 (P3.lowB op),.int .i64 (P3.highB len op)],.bool (P3.known op)])/\Below w.heap.size w w':=by
 go_enter Tryz.func108,Tryz.ntmps108
 go_wp2
 all_goals
  refine bodyPost_ret (v:=.tuple #[.agg #[.int .i64 (P3.lowA op),.int .i64 (P3.highA tn mn sn qn op),.int .i64 (P3.lowB op),.int .i64 (P3.highB len op)],.bool (P3.known op)]) ?_ rfl ⟨rfl,((Below.refl _ _).alloc (Nat.le_refl _) _).alloc (by simp) _⟩
  first | (have e:op=0:=beq_iff_eq.1 ‹_›; subst e) | (have e:op=1:=beq_iff_eq.1 ‹_›; subst e) | (have e:op=2:=beq_iff_eq.1 ‹_›; subst e) | (have e:op=3:=beq_iff_eq.1 ‹_›; subst e) | (have e:op=4:=beq_iff_eq.1 ‹_›; subst e) | (have e:op=5:=beq_iff_eq.1 ‹_›; subst e) | (have e:op=6:=beq_iff_eq.1 ‹_›; subst e) | (have e:op=7:=beq_iff_eq.1 ‹_›; subst e) | (have e:op=8:=beq_iff_eq.1 ‹_›; subst e) | (have e:op=9:=beq_iff_eq.1 ‹_›; subst e) | (have e:op=10:=beq_iff_eq.1 ‹_›; subst e) | (have e:op=11:=beq_iff_eq.1 ‹_›; subst e) | skip
  all_goals simp_all [results,Tryz.results108,go_sem,P3.known,P3.lowA,P3.highA,P3.lowB,P3.highB]
  all_goals try omega
end Go.Proofs.YtbkfildnijjioaaGreat

namespace Go.Proofs.YtbkfildnijjioaaGreat
open Go.RowKit
set_option maxHeartbeats 400000 in
theorem rInstrFits_any (wk st:Int) (tv mv sv qv:Option Addr) (tn tc mn mc sn sc qn qc:Nat) (len op a b:Int) (w:World) (h1:(tn:Int)<=16) (h2:(mn:Int)<=8) (h3:(sn:Int)<=4) (h4:(qn:Int)<=4) :
  Calls Tryz.prog 67 #[.agg #[.int .i64 wk,.int .i64 st,.slice tv tn tc,.slice mv mn mc,.slice sv sn sc,.slice qv qn qc],.int .i64 len,.agg #[.int .i64 op,.int .i64 a,.int .i64 b]] w fun e w' =>
   e=.returned (.bool (P3.instrB tn mn sn qn len op a b))/\Below w.heap.size w w':=by
 go_enter Tryz.func67,Tryz.ntmps67
 go_wp2_with (go_at_call 108; refine (rBounds_any _ _ _ _ _ _ _ _ _ _ _ _ _ _ _ _ _ h1 h2 h3 h4).mono ?_; rintro e w1 ⟨rfl,hb1⟩; obtain ⟨hc1,hf1⟩:=bcell hb1; have hz1:w.heap.size + 1 < w1.heap.size:=(by have:=hb1.size; simp at this; omega))
 all_goals
  go_ret
  refine ⟨ret_bool ?_,(via (((Below.refl _ _).alloc (Nat.le_refl _) _).alloc (by simp) _) (by simp; omega) hb1).alloc (by omega) _⟩
  unfold P3.instrB P3.fitsB
  rw [Bool.eq_iff_iff]
  simp_all
  try omega
end Go.Proofs.YtbkfildnijjioaaGreat

namespace Go.Proofs.YtbkfildnijjioaaGreat
open Go.RowKit
namespace P3
def terr (S:SetD):Int:=if badOr mutexP S.mutexes ≠ -1 then 2 else if badOr semP S.sems ≠ -1 then 3 else if badOr queueB S.queues ≠ -1 then 4 else 0
def tplace (S:SetD):Int :=
 if badOr mutexP S.mutexes ≠ -1 then badOr mutexP S.mutexes else if badOr semP S.sems ≠ -1 then badOr semP S.sems else if badOr queueB S.queues ≠ -1 then badOr queueB S.queues else 0
def GoodTo {α:Type} (p:α->Bool) (l:List α) (k:Nat):Prop:=∀ j (_:j < k),(hl:j < l.length)->p l[j]=true
theorem GoodTo.zero {α:Type} (p:α->Bool) (l:List α):GoodTo p l 0:=fun _ h=>absurd h (Nat.not_lt_zero _)
theorem GoodTo.step {α:Type} {p:α->Bool} {l:List α} {k:Nat} (h:GoodTo p l k) (hk:k < l.length) (hp:p l[k]=true):GoodTo p l (k + 1):=by
 intro j hj hl
 rcases Nat.lt_succ_iff_lt_or_eq.1 hj with h1 | rfl
 ·exact h j h1 hl
 ·exact hp
theorem GoodTo.none {α:Type} {p:α->Bool} {l:List α} {k:Nat} (h:GoodTo p l k) (hk:¬ k < l.length):badOr p l=-1:=badOr_none p l (fun j hj=>h j (by omega) hj)
theorem GoodTo.at {α:Type} {p:α->Bool} {l:List α} {k:Nat} (h:GoodTo p l k) (hk:k < l.length) (hp:p l[k]=false):badOr p l=k:=badOr_at p l k hk hp (fun j hj=>h j hj (by omega))
theorem t_mutex {S:SetD} {k:Nat} (h:badOr mutexP S.mutexes=k):terr S=2/\tplace S=k:=by
 have e:(k:Int) ≠ -1:=by omega
 simp [terr,tplace,h,e]
theorem t_sem {S:SetD} {k:Nat} (h0:badOr mutexP S.mutexes=-1) (h:badOr semP S.sems=k):terr S=3/\tplace S=k:=by
 have e:(k:Int) ≠ -1:=by omega
 simp [terr,tplace,h0,h,e]
theorem t_queue {S:SetD} {k:Nat} (h0:badOr mutexP S.mutexes=-1) (h1:badOr semP S.sems=-1) (h:badOr queueB S.queues=k):terr S=4/\tplace S=k:=by
 have e:(k:Int) ≠ -1:=by omega
 simp [terr,tplace,h0,h1,h,e]
theorem t_ok {S:SetD} (h0:badOr mutexP S.mutexes=-1) (h1:badOr semP S.sems=-1) (h:badOr queueB S.queues=-1):terr S=0/\tplace S=0:=by
 simp [terr,tplace,h0,h1,h]
end P3
theorem ret_two {a b c d:Int} (h:a=c/\b=d):Ending.returned (.tuple #[.int .i64 c,.int .i64 d])=.returned (.tuple #[.int .i64 a,.int .i64 b]):=by rw [h.1,h.2]
set_option maxHeartbeats 1000000 in
theorem rTables_any (tv mv sv qv:Option Addr) (tc mc sc qc:Nat) (S:SetD) (w:World) (hS:SetIn w.heap.size w tv mv sv qv S)
  (n2:(S.mutexes.length:Int)<=8) (n3:(S.sems.length:Int)<=4) (n4:(S.queues.length:Int)<=4) :
  Calls Tryz.prog 65 #[.agg #[.int .i64 S.workers,.int .i64 S.start,.slice tv S.threads.length tc,.slice mv S.mutexes.length mc,.slice sv S.sems.length sc,.slice qv S.queues.length qc]] w fun e w' =>
   e=.returned (.tuple #[.int .i64 (P3.terr S),.int .i64 (P3.tplace S)])/\Below w.heap.size w w':=by
 have HS:Hid (SetIn w.heap.size w tv mv sv qv S):=hS
 clear hS
 go_enter Tryz.func65,Tryz.ntmps65
 go_wp2
 generalize hw0:w.alloc (.cells #[.int .i64 S.workers,.int .i64 S.start,.slice tv S.threads.length tc,.slice mv S.mutexes.length mc,.slice sv S.sems.length sc,.slice qv S.queues.length qc] 27)=w0
 have hs0:w.heap.size < w0.heap.size:=by rw [<- hw0]; simp
 have b3:w0.cell? ⟨w.heap.size,3,none⟩=some (.slice mv S.mutexes.length mc):=by rw [<- hw0]; simp
 have b4:w0.cell? ⟨w.heap.size,4,none⟩=some (.slice sv S.sems.length sc):=by rw [<- hw0]; simp
 have b5:w0.cell? ⟨w.heap.size,5,none⟩=some (.slice qv S.queues.length qc):=by rw [<- hw0]; simp
 have hb0:Below w.heap.size w w0:=by rw [<- hw0]; exact (Below.refl _ _).alloc (Nat.le_refl _) _
 clear hw0
 have HS0:Hid (SetIn w.heap.size w0 tv mv sv qv S):=HS.out.stays hb0
 clear HS
 go_loopw [4] (fun i wr=>∃ k:Nat,k<=S.mutexes.length/\i=.int .i64 k/\P3.GoodTo P3.mutexP S.mutexes k/\Below w0.heap.size w0 wr) (fun i _=>S.mutexes.length - (intOf i).toNat)
 case atStart=>exact ⟨0,Nat.zero_le _,rfl,P3.GoodTo.zero _ _,Below.refl _ _⟩
 case round =>
  obtain ⟨k,hk,rfl,hall,hb⟩:=hrel
  have hsz:=hb.size
  have q1:w.heap.size < wr.heap.size:=by omega
  have c3:=(hb.cell (p:=⟨w.heap.size,3,none⟩) hs0).trans b3
  by_cases hlt:k < S.mutexes.length
  ·obtain ⟨b,o,rfl,hbb,hx,hy⟩:=HS0.out.mutexes k hlt
   have hx':=(hb.cell (p:=⟨b,o + k * 2,none⟩) (by show b < _; omega)).trans hx
   have hy':=(hb.cell (p:=⟨b,o + k * 2 + 1,none⟩) (by show b < _; omega)).trans hy
   clear hx hy
   go_wp2_with (go_at_call 107; refine (rMutexFits_any _ _ _).mono ?_; rintro e w1 ⟨rfl,hb1⟩)
   ·go_ret2
    refine ⟨ret_two (P3.t_mutex (hall.at hlt ?_)),via hb0 (by omega) (via hb hsz hb1)⟩
    simpa [P3.mutexP] using ‹(!P3.mutexB _ _)=true›
   ·go_roundw
    case rel =>
     refine ⟨k + 1,by omega,by go_num,hall.step hlt ?_,via hb hsz hb1⟩
     simpa [P3.mutexP] using ‹(!P3.mutexB _ _)=false›
    case measure=>simp [intOf]; omega
  ·have HM:Hid (P3.badOr P3.mutexP S.mutexes=-1):=hall.none hlt
   clear hall
   go_wp2
   clear c3
   go_loopw [6] (fun i wr=>∃ k:Nat,k<=S.sems.length/\i=.int .i64 k/\P3.GoodTo P3.semP S.sems k/\Below w0.heap.size w0 wr) (fun i _=>S.sems.length - (intOf i).toNat)
   case atStart=>exact ⟨0,Nat.zero_le _,rfl,P3.GoodTo.zero _ _,hb⟩
   case round =>
    clear hb hsz q1 hlt hk
    obtain ⟨k,hk,rfl,hall,hb⟩:=hrel
    have hsz:=hb.size
    have q1:w.heap.size < wr.heap.size:=by omega
    have c4:=(hb.cell (p:=⟨w.heap.size,4,none⟩) hs0).trans b4
    by_cases hlt:k < S.sems.length
    ·obtain ⟨b,o,rfl,hbb,hx,hy⟩:=HS0.out.sems k hlt
     have hx':=(hb.cell (p:=⟨b,o + k * 2,none⟩) (by show b < _; omega)).trans hx
     have hy':=(hb.cell (p:=⟨b,o + k * 2 + 1,none⟩) (by show b < _; omega)).trans hy
     clear hx hy
     cases hok:P3.semB S.sems[k].x S.sems[k].y
     ·have HB:Hid (P3.semB S.sems[k].x S.sems[k].y=false):=hok
      clear hok
      have hB:=HB.out
      unfold P3.semB at hB
      rw [decide_eq_false_iff_not] at hB
      have hor:S.sems[k].y < 1\/(1<=S.sems[k].y/\100 < S.sems[k].y)\/(1<=S.sems[k].y/\S.sems[k].y<=100/\S.sems[k].x < 0)\/(1<=S.sems[k].y/\S.sems[k].y<=100/\0<=S.sems[k].x/\S.sems[k].y < S.sems[k].x):=by omega
      clear hB
      rcases hor with h1 | ⟨h1,h2⟩ | ⟨h1,h2,h3⟩ | ⟨h1,h2,h3,h4⟩
      all_goals
       go_wp2
       go_ret2
       exact ⟨ret_two (P3.t_sem HM.out (hall.at hlt HB.out)),via hb0 (by omega) (hb.alloc hsz _)⟩
     ·have HB:Hid (P3.semB S.sems[k].x S.sems[k].y=true):=hok
      clear hok
      have hB:=HB.out
      unfold P3.semB at hB
      rw [decide_eq_true_iff] at hB
      obtain ⟨h1,h2,h3,h4⟩:=hB
      go_wp2
      go_roundw
      case rel=>exact ⟨k + 1,by omega,by go_num,hall.step hlt HB.out,hb.alloc hsz _⟩
      case measure=>simp [intOf]; omega
    ·have HN:Hid (P3.badOr P3.semP S.sems=-1):=hall.none hlt
     clear hall
     go_wp2
     clear c4
     go_loopw [8] (fun i wr=>∃ k:Nat,k<=S.queues.length/\i=.int .i64 k/\P3.GoodTo P3.queueB S.queues k/\Below w0.heap.size w0 wr) (fun i _=>S.queues.length - (intOf i).toNat)
     case atStart=>exact ⟨0,Nat.zero_le _,rfl,P3.GoodTo.zero _ _,hb⟩
     case round =>
      clear hb hsz q1 hlt hk
      obtain ⟨k,hk,rfl,hall,hb⟩:=hrel
      have hsz:=hb.size
      have q1:w.heap.size < wr.heap.size:=by omega
      have c5:=(hb.cell (p:=⟨w.heap.size,5,none⟩) hs0).trans b5
      by_cases hlt:k < S.queues.length
      ·obtain ⟨b,o,rfl,hbb,hx⟩:=HS0.out.queues k hlt
       have hx':=(hb.cell (p:=⟨b,o + k,none⟩) (by show b < _; omega)).trans hx
       clear hx
       cases hok:P3.queueB S.queues[k]
       ·have HB:Hid (P3.queueB S.queues[k]=false):=hok
        clear hok
        have hB:=HB.out
        unfold P3.queueB at hB
        rw [decide_eq_false_iff_not] at hB
        have hor:S.queues[k] < 1\/(1<=S.queues[k]/\8 < S.queues[k]):=by omega
        clear hB
        rcases hor with h1 | ⟨h1,h2⟩
        all_goals
         go_wp2
         go_ret2
         exact ⟨ret_two (P3.t_queue HM.out HN.out (hall.at hlt HB.out)),via hb0 (by omega) hb⟩
       ·have HB:Hid (P3.queueB S.queues[k]=true):=hok
        clear hok
        have hB:=HB.out
        unfold P3.queueB at hB
        rw [decide_eq_true_iff] at hB
        obtain ⟨h1,h2⟩:=hB
        go_wp2
        go_roundw
        case rel=>exact ⟨k + 1,by omega,by go_num,hall.step hlt HB.out,hb⟩
        case measure=>simp [intOf]; omega
      ·have HQ:Hid (P3.badOr P3.queueB S.queues=-1):=hall.none hlt
       clear hall
       go_wp2
       go_ret2
       exact ⟨ret_two (P3.t_ok HM.out HN.out HQ.out),via hb0 (by omega) hb⟩
end Go.Proofs.YtbkfildnijjioaaGreat

namespace Go.Proofs.YtbkfildnijjioaaGreat
open Go.RowKit
set_option maxHeartbeats 400000 in
theorem rOn_any (F:Nat->Prop) (w:World) (sb:Nat) (h:RH) (s:RS) (m:RMem F w sb h s) (hfew:s.T.length<=16) (wk:Int) :
  Calls Tryz.prog 73 #[.pointer (some ⟨sb,0,none⟩),.int .i64 wk] w fun e w'=>e=.returned (.int .i64 (R.on s.T wk))/\w'=w:=by
 have c8:=m.blk.cell 8
 simp [rsCells] at c8
 have M:=hid m
 clear m
 go_enter Tryz.func73,Tryz.ntmps73
 go_wp2
 go_loop [5] (fun i=>∃ k:Nat,k<=s.T.length/\i=.int .i64 k/\P3.GoodTo (fun x:RT=>x.wkr != wk) s.T k) (fun i=>s.T.length - (intOf i).toNat)
 case atStart=>exact ⟨0,Nat.zero_le _,rfl,P3.GoodTo.zero _ _⟩
 case round =>
  obtain ⟨k,hk,rfl,hall⟩:=hrel
  have HA:=hid hall
  clear hall
  by_cases hlt:k < s.T.length
  ·have a8:=M.out.tcell hlt 8 (by decide)
   simp [rtCells] at a8
   cases hq:(s.T[k].wkr == wk)
   ·have HQ:=hid hq
    go_wp2
    go_round
    case rel=>exact ⟨k + 1,by omega,by go_num,HA.out.step hlt (by simpa using HQ.out)⟩
    case measure=>simp [intOf]; omega
   ·have HQ:=hid hq
    go_wp2
    go_ret
    exact ⟨ret_int (HA.out.at hlt (by simpa using HQ.out)).symm,rfl⟩
  ·go_wp2
   go_ret
   exact ⟨ret_int (HA.out.none hlt).symm,rfl⟩
set_option maxHeartbeats 400000 in
theorem rFree_any (F:Nat->Prop) (w:World) (sb:Nat) (h:RH) (s:RS) (m:RMem F w sb h s) (hfew:s.T.length<=16) (n:Nat) (hn:s.set.workers=n) (hn8:n<=8) :
  Calls Tryz.prog 113 #[.pointer (some ⟨sb,0,none⟩)] w fun e w'=>e=.returned (.int .i64 (R.free s.T n))/\w'=w:=by
 have c0:=m.blk.cell 0
 simp [rsCells] at c0
 rw [hn] at c0
 have M:=hid m
 clear m hn
 go_enter Tryz.func113,Tryz.ntmps113
 go_wp2
 go_loopw [3] (fun i wr=>∃ k:Nat,k<=n/\i=.int .i64 k/\(∀ j,j < k->0<=R.on s.T (j:Int))/\wr=w) (fun i _=>n - (intOf i).toNat)
 case atStart=>exact ⟨0,Nat.zero_le _,rfl,fun _ h=>absurd h (Nat.not_lt_zero _),rfl⟩
 case round =>
  obtain ⟨k,hk,rfl,hall,rfl⟩:=hrel
  have HA:=hid hall
  clear hall
  by_cases hlt:k < n
  ·go_wp2_with (go_at_call 73; refine (rOn_any F _ sb h s M.out hfew _).mono ?_; rintro e w1 ⟨rfl,rfl⟩)
   ·go_ret
    exact ⟨ret_int (by rw [R.free_at s.T n k hlt HA.out ‹_›]),rfl⟩
   ·go_roundw
    case rel =>
     refine ⟨k + 1,by omega,by go_num,?_,trivial⟩
     intro j hj
     rcases Nat.lt_succ_iff_lt_or_eq.1 hj with h1 | rfl
     ·exact HA.out j h1
     ·assumption
    case measure=>simp [intOf]; omega
  ·have e:k=n:=by omega
   subst e
   go_wp2
   go_ret
   exact ⟨ret_int (by rw [R.free_none s.T k HA.out]),rfl⟩
set_option maxHeartbeats 1000000 in
theorem rRank_any (F:Nat->Prop) (w:World) (sb:Nat) (h:RH) (s:RS) (m:RMem F w sb h s) (hfew:s.T.length<=16) (l:List Int) (lg ln lc:Nat) (hln:s.T.length=ln) (hrow:∀ i,i < s.T.length->w.cell? ⟨lg,i,none⟩=some (.int .i64 (l.getD i 0))) (t:Nat) (ht:t < s.T.length) :
  Calls Tryz.prog 112 #[.pointer (some ⟨sb,0,none⟩),.slice (some ⟨lg,0,none⟩) ln lc,.int .i64 t] w fun e w'=>e=.returned (.int .i64 (R.rank l s.T t))/\∃ n,w'=w.drewN n:=by
 subst hln
 have c8:=m.blk.cell 8
 simp [rsCells] at c8
 have M:=hid m
 have HR:=hid hrow
 have ct:=hrow t ht
 have b7:=m.tcell ht 7 (by decide)
 simp [rtCells] at b7
 have eth:R.th s.T t=s.T[t]:=by simp [R.th,List.getD,ht]
 generalize hyt:s.T[t]=y at *
 generalize hlt0:l.getD t 0=lt at *
 have EY:=hid eth
 have EL:=hid hlt0
 clear m hrow eth hyt hlt0
 go_enter Tryz.func112,Tryz.ntmps112
 go_wp2
 go_loopw [7,8] (fun c i wr=>∃ k:Nat,k<=s.T.length/\i=.int .i64 k/\c=.int .i64 (R.rankTo l s.T t k)/\∃ n,wr=w.drewN n) (fun _ i _=>s.T.length - (intOf i).toNat)
 case atStart=>exact ⟨0,Nat.zero_le _,rfl,rfl,0,rfl⟩
 case round =>
  obtain ⟨k,hk,rfl,rfl,n,rfl⟩:=hrel
  have hrl:=R.rankTo_le l s.T t k
  by_cases hlt:k < s.T.length
  ·have a6:=M.out.tcell hlt 6 (by decide)
   have a7:=M.out.tcell hlt 7 (by decide)
   simp [rtCells] at a6 a7
   have ck:=HR.out k hlt
   have eth:R.th s.T k=s.T[k]:=by simp [R.th,List.getD,hlt]
   have estep:=R.rankTo_succ l s.T t k
   generalize hxk:s.T[k]=x at *
   generalize hlk0:l.getD k 0=lk at *
   have hah:=ahead_of eth EY.out hlk0 EL.out
   rw [hah] at estep
   have ES:=hid estep
   clear eth hlk0 hxk estep hah
   generalize R.rankTo l s.T t k=rk at *
   have hkI:(k:Int) < (s.T.length:Int):=by omega
   have htI:(t:Int) < (s.T.length:Int):=by omega
   cases haw:x.awake
   ·have HW:=hid haw
    rw [haw] at a6
    go_wp2_with fail
    go_quiet (fail)
    go_wp2
    go_roundw
    case rel=>exact ⟨k + 1,by omega,by go_num,by rw [ES.out,HW.out]; simp,_,rfl⟩
    case measure=>simp [intOf]; omega
   ·have HW:=hid haw
    rw [haw] at a6
    clear haw
    rcases Int.lt_trichotomy lt lk with h1 | h1 | h1
    ·go_wp2_with fail
     go_quiet (fail)
     go_wp2
     go_roundw
     case rel=>exact ⟨k + 1,by omega,by go_num,by rw [ES.out,HW.out]; simp [h1],_,rfl⟩
     case measure=>simp [intOf]; omega
    ·subst h1
     have d1:decide (lt < lt)=false:=by simp
     have d2:(lt == lt)=true:=by simp
     by_cases h2:x.tick < y.tick
     ·go_wp2_with fail
      go_quiet (fail)
      go_wp2
      go_roundw
      case rel=>exact ⟨k + 1,by omega,by go_num,by rw [ES.out,HW.out]; simp [h2],_,rfl⟩
      case measure=>simp [intOf]; omega
     ·go_wp2_with fail
      go_quiet (fail)
      go_wp2
      go_roundw
      case rel=>exact ⟨k + 1,by omega,by go_num,by rw [ES.out,HW.out]; have n2:¬ x.tick < y.tick:=(by omega); simp [n2],_,rfl⟩
      case measure=>simp [intOf]; omega
    ·have d1:decide (lt < lk)=false:=by simp; omega
     have d2:(lk == lt)=false:=by simp; omega
     go_wp2_with fail
     go_quiet (fail)
     go_wp2
     go_roundw
     case rel=>exact ⟨k + 1,by omega,by go_num,by rw [ES.out,HW.out]; have n1:¬ lt < lk:=(by omega); have n2:¬ lk=lt:=(by omega); simp [n1,n2],_,rfl⟩
     case measure=>simp [intOf]; omega
  ·go_wp2
   go_ret
   have e:k=s.T.length:=by omega
   subst e
   exact ⟨rfl,_,rfl⟩
end Go.Proofs.YtbkfildnijjioaaGreat
