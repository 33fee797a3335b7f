import Derived.Test.YtbkfildnijjioaaGreatA20
import Derived.Test.YtbkfildnijjioaaGreatA22
import Derived.Test.YtbkfildnijjioaaGreatA04
import Derived.Test.YtbkfildnijjioaaGreatA09
import Derived.Test.YtbkfildnijjioaaGreatA10
namespace Go.Proofs.YtbkfildnijjioaaGreat
open Go.RowKit
theorem LK.frame {PK:KP} (f:KFrame PK) {B:Nat} {w w':World} {bb kb sb:Nat} {P Q:Nat->Prop} {s:RS} (l:LK PK B w bb kb sb P Q s) (hs:∀ b,(b=bb\/P b\/Q b)->w'.heap[b]?=w.heap[b]?) (hz:w.heap.size<=w'.heap.size):LK PK B w' bb kb sb P Q s:=by
 refine ⟨?_,f.frame l.pk (fun b hb=>hs b (.inr (.inl hb))) hz,l.rk.frame (fun b hb=>hs b (.inr (.inr hb))) hz,l.ap,l.np,l.nq,l.hp,l.hq,l.hb⟩
 have h1:=l.blk
 unfold Blk at h1 ⊢
 rw [hs bb (.inl rfl)]
 exact h1
theorem LK.lt {PK:KP} (f:KFrame PK) {B:Nat} {w:World} {bb kb sb:Nat} {P Q:Nat->Prop} {s:RS} (l:LK PK B w bb kb sb P Q s) {b:Nat} (hb:b=bb\/P b\/Q b):b < w.heap.size:=by
 rcases hb with rfl | hb | hb
 ·exact l.blk.lt
 ·exact f.lt l.pk b hb
 ·exact l.rk.lt b hb
structure KI where
 bb:Nat
 kb:Nat
 sb:Nat
 P:Nat->Prop
 Q:Nat->Prop
 s:RS
def KI.has (k:KI) (b:Nat):Prop:=b=k.bb\/k.P b\/k.Q b
abbrev Tag:=Nat->Nat × Nat
def reps (cs:List Value):Nat->List Value
 | 0=>[]
 | n + 1=>reps cs n ++ cs
theorem reps_length (cs:List Value) (n:Nat):(reps cs n).length=n * cs.length:=by
 induction n with
 | zero=>simp [reps]
 | succ n ih=>rw [reps,List.length_append,ih,Nat.succ_mul]
theorem reps_at (cs:List Value) (n i j:Nat) (hi:i < n) (hj:j < cs.length):(reps cs n)[i * cs.length + j]?=cs[j]?:=by
 induction n with
 | zero=>omega
 | succ n ih =>
  rw [reps]
  by_cases e:i=n
  ·subst e
   rw [List.getElem?_append_right (by rw [reps_length]; omega),reps_length]
   congr 1
   omega
  ·have hlt:i < n:=by omega
   rw [List.getElem?_append_left (by
    rw [reps_length]
    have:(i + 1) * cs.length<=n * cs.length:=Nat.mul_le_mul_right _ hlt
    rw [Nat.succ_mul] at this
    omega)]
   exact ih hlt
def markI (i:Nat):List Value:=[.int .i64 (-1000 - (i:Int))]
def markM (i:Nat):List Value:=[.int .i64 (-1000 - (i:Int)),.int .i64 0,.int .i64 0]
def markL (i:Nat):List Value:=[.int .i64 0,.int .i64 0,.int .i64 0,.int .i64 0,.int .i64 (-1000 - (i:Int)),.slice none 0 0,.slice none 0 0]
structure AM (PK:KP) (B:Nat) (ok:Nat × Nat->Prop) (w:World) (tag:Tag) (wb:Nat) (sv:Value) (ks:List KI) (ins mss lns:List Value) (vk vi vm vl:Value):Prop where
 blk:ok (1,0)->Blk w wb #[sv,vk,vi,vm,vl] 46
 tb:tag wb=(1,0)
 hb:B<=wb
 rk:ok (2,0)->w.ownsRow B 52 1 vk ks.length (ks.map fun k=>Value.pointer (some ⟨k.bb,0,none⟩))
 tk:∀ g,vk.ownBlock=some g->tag g=(2,0)
 ri:ok (3,0)->w.ownsRow B 25 1 vi ins.length ins
 ti:∀ g,vi.ownBlock=some g->tag g=(3,0)
 rm:ok (4,0)->w.ownsRow B 73 1 vm mss.length mss
 tm:∀ g,vm.ownBlock=some g->tag g=(4,0)
 rl:ok (5,0)->w.ownsRow B 33 1 vl lns.length lns
 tl:∀ g,vl.ownBlock=some g->tag g=(5,0)
 ker:∀ i (hi:i < ks.length),ok (10,i)->LK PK B w ks[i].bb ks[i].kb ks[i].sb ks[i].P ks[i].Q ks[i].s
 tker:∀ i (hi:i < ks.length) b,ks[i].has b->tag b=(10,i)
 mi:∀ i (hi:i < ins.length),ok (6,i)->∃ n,w.ownsRow B 3 1 ins[i] n (reps (markI i) n)
 tmi:∀ i (hi:i < ins.length) g,ins[i].ownBlock=some g->tag g=(6,i)
 mm:∀ i (hi:i < mss.length),ok (7,i)->∃ n,w.ownsRow B 95 3 mss[i] n (reps (markM i) n)
 tmm:∀ i (hi:i < mss.length) g,mss[i].ownBlock=some g->tag g=(7,i)
 ml:∀ i (hi:i < lns.length),ok (8,i)->∃ n,w.ownsRow B 75 7 lns[i] n (reps (markL i) n)
 tml:∀ i (hi:i < lns.length) g,lns[i].ownBlock=some g->tag g=(8,i)
section
variable {PK:KP} {B:Nat} {ok ok':Nat × Nat->Prop} {w w':World} {tag tag':Tag} {wb:Nat} {sv:Value} {ks:List KI} {ins mss lns:List Value} {vk vi vm vl:Value}
theorem AM.turn (f:KFrame PK) (h:AM PK B ok w tag wb sv ks ins mss lns vk vi vm vl) (hs:∀ b,b < w.heap.size->ok' (tag b)->w'.heap[b]?=w.heap[b]?) (hz:w.heap.size<=w'.heap.size) (hok:∀ t,ok' t->ok t):AM PK B ok' w' tag wb sv ks ins mss lns vk vi vm vl:=by
 have row:∀ {e:TypeId} {size n:Nat} {v:Value} {xs:List Value} {t:Nat × Nat},w.ownsRow B e size v n xs->(∀ g,v.ownBlock=some g->tag g=t)->ok' t->w'.ownsRow B e size v n xs:=fun hr ht ho=>ownsRow_same hr fun g hg=>hs g (ownsRow_block hr hg).2.1 (by rw [ht g hg]; exact ho)
 refine ⟨fun ho=>?_,h.tb,h.hb,fun ho=>row (h.rk (hok _ ho)) h.tk ho,h.tk,fun ho=>row (h.ri (hok _ ho)) h.ti ho,h.ti,fun ho=>row (h.rm (hok _ ho)) h.tm ho,h.tm,fun ho=>row (h.rl (hok _ ho)) h.tl ho,h.tl,fun i hi ho=>?_,h.tker,fun i hi ho=>?_,h.tmi,fun i hi ho=>?_,h.tmm,fun i hi ho=>?_,h.tml⟩
 ·have h1:=h.blk (hok _ ho)
  have h2:=h1.lt
  unfold Blk at h1 ⊢
  rw [hs wb h2 (by rw [h.tb]; exact ho)]
  exact h1
 ·have l:=h.ker i hi (hok _ ho)
  exact l.frame f (fun b hb=>hs b (l.lt f hb) (by rw [h.tker i hi b hb]; exact ho)) hz
 ·obtain ⟨n,hr⟩:=h.mi i hi (hok _ ho)
  exact ⟨n,row hr (h.tmi i hi) ho⟩
 ·obtain ⟨n,hr⟩:=h.mm i hi (hok _ ho)
  exact ⟨n,row hr (h.tmm i hi) ho⟩
 ·obtain ⟨n,hr⟩:=h.ml i hi (hok _ ho)
  exact ⟨n,row hr (h.tml i hi) ho⟩
theorem AM.retag (f:KFrame PK) (h:AM PK B (fun _=>True) w tag wb sv ks ins mss lns vk vi vm vl) (ht:∀ b,b < w.heap.size->tag b ≠ (0,0)->tag' b=tag b):AM PK B (fun _=>True) w tag' wb sv ks ins mss lns vk vi vm vl:=by
 have at_:∀ b t,b < w.heap.size->tag b=t->t ≠ (0,0)->tag' b=t:=fun b t hb h1 h2=>(ht b hb (by rw [h1]; exact h2)).trans h1
 have row:∀ {e:TypeId} {size n:Nat} {v:Value} {xs:List Value} {t:Nat × Nat},w.ownsRow B e size v n xs->(∀ g,v.ownBlock=some g->tag g=t)->t ≠ (0,0)->∀ g,v.ownBlock=some g->tag' g=t:=fun hr h1 h2 g hg=>at_ g _ (ownsRow_block hr hg).2.1 (h1 g hg) h2
 refine ⟨h.blk,at_ wb _ (h.blk trivial).lt h.tb (by decide),h.hb,h.rk,row (h.rk trivial) h.tk (by decide),h.ri,row (h.ri trivial) h.ti (by decide),h.rm,row (h.rm trivial) h.tm (by decide),h.rl,row (h.rl trivial) h.tl (by decide),h.ker,fun i hi b hb=>at_ b _ ((h.ker i hi trivial).lt f hb) (h.tker i hi b hb) (by simp),h.mi,fun i hi=>?_,h.mm,fun i hi=>?_,h.ml,fun i hi=>?_⟩
 ·obtain ⟨n,hr⟩:=h.mi i hi trivial
  exact row hr (h.tmi i hi) (by simp)
 ·obtain ⟨n,hr⟩:=h.mm i hi trivial
  exact row hr (h.tmm i hi) (by simp)
 ·obtain ⟨n,hr⟩:=h.ml i hi trivial
  exact row hr (h.tml i hi) (by simp)
def fresh (tag:Tag) (n:Nat):Tag:=fun b=>if b < n then tag b else (0,0)
theorem AM.below (f:KFrame PK) (h:AM PK B (fun _=>True) w tag wb sv ks ins mss lns vk vi vm vl) (hb:Below w.heap.size w w'):AM PK B (fun _=>True) w' (fresh tag w.heap.size) wb sv ks ins mss lns vk vi vm vl :=
 (h.retag f (tag':=fresh tag w.heap.size) (fun b hl _=>by unfold fresh; rw [if_pos hl])).turn f (fun b hl _=>hb.block b hl) hb.size (fun _ h=>h)
theorem AM.free (f:KFrame PK) (h:AM PK B (fun _=>True) w tag wb sv ks ins mss lns vk vi vm vl) (hs:∀ b,b < w.heap.size->tag b ≠ (0,0)->w'.heap[b]?=w.heap[b]?) (hz:w.heap.size<=w'.heap.size):AM PK B (fun _=>True) w' tag wb sv ks ins mss lns vk vi vm vl:=by
 have h1:AM PK B (fun t=>t ≠ (0,0)) w' tag wb sv ks ins mss lns vk vi vm vl:=h.turn f hs hz (fun _ _=>trivial)
 exact ⟨fun _=>h1.blk (by simp),h1.tb,h1.hb,fun _=>h1.rk (by simp),h1.tk,fun _=>h1.ri (by simp),h1.ti,fun _=>h1.rm (by simp),h1.tm,fun _=>h1.rl (by simp),h1.tl,fun i hi _=>h1.ker i hi (by simp),h1.tker,fun i hi _=>h1.mi i hi (by simp),h1.tmi,fun i hi _=>h1.mm i hi (by simp),h1.tmm,fun i hi _=>h1.ml i hi (by simp),h1.tml⟩
end
end Go.Proofs.YtbkfildnijjioaaGreat

namespace Go.Proofs.YtbkfildnijjioaaGreat
open Go.RowKit
theorem Tryz.infoMisses:(Tryz.prog.info? 73).map (fun i=>(i.zero,i.size,i.bytes))=some (some (.slice none 0 0),1,24):=by kernel_rfl
theorem Tryz.infoLines:(Tryz.prog.info? 33).map (fun i=>(i.zero,i.size,i.bytes))=some (some (.slice none 0 0),1,24):=by kernel_rfl
theorem own_full {w:World} {B:Nat} {e:TypeId} {size n:Nat} {v:Value} {xs:List Value} (h:w.ownsRow B e size v n xs):∃ ao cap ys,v=.slice ao n cap/\cap<=maxLen/\(ao=none->cap=0)/\(∀ a,ao=some a->∃ g,a=⟨g,0,none⟩)/\n<=cap/\w.ownsRow B e size (.slice ao cap cap) cap ys:=by
 rcases h.2 with ⟨rfl,rfl⟩ | ⟨g,cap,cur,rfl,hb,hg,h4,h5,h6,h7⟩
 ·exact ⟨none,0,[],rfl,Nat.zero_le _,fun _=>rfl,fun a ha=>(by cases ha),Nat.le_refl _,World.ownsRow_nil _ _ _ _⟩
 ·refine ⟨some ⟨g,0,none⟩,cap,cur.toList,rfl,h5,fun hh=>(by cases hh),fun a ha=>(by cases ha; exact ⟨g,rfl⟩),h4,by simpa using h6,.inr ⟨g,cap,cur,rfl,hb,hg,Nat.le_refl _,h5,h6,?_⟩⟩
  exact List.take_of_length_le (by simp [h6])
structure Took (B:Nat) (w w':World) (tag tag':Tag) (v:Value):Prop where
 free:∀ b,b < w.heap.size->v.ownBlock ≠ some b->tag b=(0,0)->tag' b=(0,0)/\w'.heap[b]?=w.heap[b]?
 b:Below B w w'
section
variable {PK:KP} {B:Nat} {w:World} {tag:Tag} {wb:Nat} {sv:Value} {ks:List KI} {ins mss lns:List Value} {vk vi vm vl:Value}
theorem AM.addI (f:KFrame PK) (h:AM PK B (fun _=>True) w tag wb sv ks ins mss lns vk vi vm vl) {w1 w2:World} (hb:Below w.heap.size w w1) (hg:w1.grownBy w2 vi.ownBlock) {v' fv:Value} {m:Nat} (hrow:w2.ownsRow B 25 1 v' (ins ++ [fv]).length (ins ++ [fv])) (hat:v'.ownBlock=vi.ownBlock\/v'.ownBlock=some w1.heap.size)
  (hf:w.ownsRow B 3 1 fv m (reps (markI ins.length) m)) (hfree:∀ g,fv.ownBlock=some g->tag g=(0,0)) :
  ∃ tag',AM PK B (fun _=>True) (w2.setCell ⟨wb,2,none⟩ v') tag' wb sv ks (ins ++ [fv]) mss lns vk v' vm vl/\(∀ b,b < w.heap.size->fv.ownBlock ≠ some b->tag b=(0,0)->tag' b=(0,0)):=by
 have hz1:=hb.size
 have hz2:=hg.size
 let tag':Tag:=fun b=>if fv.ownBlock=some b then (6,ins.length) else if v'.ownBlock=some b then (3,0) else if b < w.heap.size then tag b else (0,0)
 have hold:∀ b,b < w.heap.size->tag b ≠ (0,0)->tag' b=tag b:=fun b hl hne=>by
  show (if fv.ownBlock=some b then (6,ins.length) else if v'.ownBlock=some b then (3,0) else if b < w.heap.size then tag b else (0,0))=tag b
  rw [if_neg (fun e=>hne (hfree b e))]
  by_cases e:v'.ownBlock=some b
  ·rw [if_pos e]
   rcases hat with h1 | h1
   ·exact (h.ti b (by rw [<- h1]; exact e)).symm
   ·rw [h1] at e
    cases e
    omega
  ·rw [if_neg e,if_pos hl]
 have h1:=h.retag f (tag':=tag') hold
 have same:∀ b,b < w.heap.size->tag' b ≠ (3,0)->tag' b ≠ (1,0)->(w2.setCell ⟨wb,2,none⟩ v').heap[b]?=w.heap[b]?:=fun b hl n3 n1=>by
  have e1:b ≠ wb:=fun e=>n1 (by rw [e]; exact h1.tb)
  have e2:vi.ownBlock ≠ some b:=fun e=>n3 (h1.ti b e)
  rw [Below.heap_setCell _ _ _ _ e1,hg.block b (by omega) (fun e=>e2 e.symm),hb.block b hl]
 have h2:AM PK B (fun t=>t ≠ (3,0)/\t ≠ (1,0)) (w2.setCell ⟨wb,2,none⟩ v') tag' wb sv ks ins mss lns vk vi vm vl:=h1.turn f (fun b hl hn=>same b hl hn.1 hn.2) (by simp [World.setCell]; omega) (fun _ _=>trivial)
 have hwbl:=(h.blk trivial).lt
 have wbt:Typ w wb 46:=⟨_,h.blk trivial⟩
 have viN:vi.ownBlock ≠ some wb:=fun e=>by
  have:=own_typ (h.ri trivial) e
  exact this.ne wbt (by decide) rfl
 have blk2:Blk w2 wb #[sv,vk,vi,vm,vl] 46:=by
  have h3:=h.blk trivial
  unfold Blk at h3 ⊢
  rw [hg.block wb (by omega) (fun e=>viN e.symm),hb.block wb hwbl]
  exact h3
 have vN:v'.ownBlock ≠ some wb:=fun e=>by
  rcases hat with h3 | h3
  ·exact viN (by rw [<- h3]; exact e)
  ·rw [h3] at e
   cases e
   omega
 have fN:∀ g,fv.ownBlock=some g->g < w.heap.size/\g ≠ wb/\vi.ownBlock ≠ some g/\v'.ownBlock ≠ some g:=fun g hg'=>by
  have hl:=(ownsRow_block hf hg').2.1
  have t0:=hfree g hg'
  have e3:vi.ownBlock ≠ some g:=fun e=>by
   have:=h.ti g e
   rw [t0] at this
   cases this
  refine ⟨hl,fun e=>?_,e3,fun e=>?_⟩
  ·have:=h.tb
   rw [<- e,t0] at this
   cases this
  ·rcases hat with h3 | h3
   ·exact e3 (by rw [<- h3]; exact e)
   ·rw [h3] at e
    cases e
    omega
 have fsame:∀ g,fv.ownBlock=some g->(w2.setCell ⟨wb,2,none⟩ v').heap[g]?=w.heap[g]?:=fun g hg'=>by
  obtain ⟨hl,n1,n2,_⟩:=fN g hg'
  rw [Below.heap_setCell _ _ _ _ n1,hg.block g (by omega) (fun e=>n2 e.symm),hb.block g hl]
 refine ⟨tag',⟨fun _=>?_,h1.tb,h.hb,fun _=>h2.rk (by simp),h2.tk,fun _=>?_,fun g hg'=>?_,fun _=>h2.rm (by simp),h2.tm,fun _=>h2.rl (by simp),h2.tl,fun i hi _=>h2.ker i hi (by simp),h2.tker,fun i hi _=>?_,fun i hi g hg'=>?_,fun i hi _=>h2.mm i hi (by simp),h2.tmm,fun i hi _=>h2.ml i hi (by simp),h2.tml⟩,fun b hl hn ht=>?_⟩
 ·have:=blk2.set 2 v'
  simpa using this
 ·exact ownsRow_same hrow fun g hg'=>Below.heap_setCell _ _ _ _ (fun e=>vN (by have e':g=wb:=e; rw [<- e']; exact hg'))
 ·show (if fv.ownBlock=some g then (6,ins.length) else if v'.ownBlock=some g then (3,0) else if g < w.heap.size then tag g else (0,0))=(3,0)
  rw [if_neg (fun e=>(fN g e).2.2.2 hg'),if_pos hg']
 ·by_cases hlt:i < ins.length
  ·have:=h2.mi i hlt (by simp)
   rw [List.getElem_append_left hlt]
   exact this
  ·have e:i=ins.length:=by simp at hi; omega
   subst e
   refine ⟨m,?_⟩
   have e2:(ins ++ [fv])[ins.length]=fv:=by simp
   rw [e2]
   exact ownsRow_same hf fsame
 ·by_cases hlt:i < ins.length
  ·rw [List.getElem_append_left hlt] at hg'
   exact h2.tmi i hlt g hg'
  ·have e:i=ins.length:=by simp at hi; omega
   subst e
   have e2:(ins ++ [fv])[ins.length]=fv:=by simp
   rw [e2] at hg'
   show (if fv.ownBlock=some g then (6,ins.length) else if v'.ownBlock=some g then (3,0) else if g < w.heap.size then tag g else (0,0))=(6,ins.length)
   rw [if_pos hg']
 ·show (if fv.ownBlock=some b then (6,ins.length) else if v'.ownBlock=some b then (3,0) else if b < w.heap.size then tag b else (0,0))=(0,0)
  rw [if_neg hn]
  by_cases e:v'.ownBlock=some b
  ·rcases hat with h3 | h3
   ·have:=h.ti b (by rw [<- h3]; exact e)
    rw [ht] at this
    cases this
   ·rw [h3] at e
    cases e
    omega
  ·rw [if_neg e,if_pos hl]
   exact ht
theorem AM.addM (f:KFrame PK) (h:AM PK B (fun _=>True) w tag wb sv ks ins mss lns vk vi vm vl) {w1 w2:World} (hb:Below w.heap.size w w1) (hg:w1.grownBy w2 vm.ownBlock) {v' fv:Value} {m:Nat} (hrow:w2.ownsRow B 73 1 v' (mss ++ [fv]).length (mss ++ [fv])) (hat:v'.ownBlock=vm.ownBlock\/v'.ownBlock=some w1.heap.size)
  (hf:w.ownsRow B 95 3 fv m (reps (markM mss.length) m)) (hfree:∀ g,fv.ownBlock=some g->tag g=(0,0)) :
  ∃ tag',AM PK B (fun _=>True) (w2.setCell ⟨wb,3,none⟩ v') tag' wb sv ks ins (mss ++ [fv]) lns vk vi v' vl/\(∀ b,b < w.heap.size->fv.ownBlock ≠ some b->tag b=(0,0)->tag' b=(0,0)):=by
 have hz1:=hb.size
 have hz2:=hg.size
 let tag':Tag:=fun b=>if fv.ownBlock=some b then (7,mss.length) else if v'.ownBlock=some b then (4,0) else if b < w.heap.size then tag b else (0,0)
 have hold:∀ b,b < w.heap.size->tag b ≠ (0,0)->tag' b=tag b:=fun b hl hne=>by
  show (if fv.ownBlock=some b then (7,mss.length) else if v'.ownBlock=some b then (4,0) else if b < w.heap.size then tag b else (0,0))=tag b
  rw [if_neg (fun e=>hne (hfree b e))]
  by_cases e:v'.ownBlock=some b
  ·rw [if_pos e]
   rcases hat with h1 | h1
   ·exact (h.tm b (by rw [<- h1]; exact e)).symm
   ·rw [h1] at e
    cases e
    omega
  ·rw [if_neg e,if_pos hl]
 have h1:=h.retag f (tag':=tag') hold
 have same:∀ b,b < w.heap.size->tag' b ≠ (4,0)->tag' b ≠ (1,0)->(w2.setCell ⟨wb,3,none⟩ v').heap[b]?=w.heap[b]?:=fun b hl n3 n1=>by
  have e1:b ≠ wb:=fun e=>n1 (by rw [e]; exact h1.tb)
  have e2:vm.ownBlock ≠ some b:=fun e=>n3 (h1.tm b e)
  rw [Below.heap_setCell _ _ _ _ e1,hg.block b (by omega) (fun e=>e2 e.symm),hb.block b hl]
 have h2:AM PK B (fun t=>t ≠ (4,0)/\t ≠ (1,0)) (w2.setCell ⟨wb,3,none⟩ v') tag' wb sv ks ins mss lns vk vi vm vl:=h1.turn f (fun b hl hn=>same b hl hn.1 hn.2) (by simp [World.setCell]; omega) (fun _ _=>trivial)
 have hwbl:=(h.blk trivial).lt
 have wbt:Typ w wb 46:=⟨_,h.blk trivial⟩
 have viN:vm.ownBlock ≠ some wb:=fun e=>by
  have:=own_typ (h.rm trivial) e
  exact this.ne wbt (by decide) rfl
 have blk2:Blk w2 wb #[sv,vk,vi,vm,vl] 46:=by
  have h3:=h.blk trivial
  unfold Blk at h3 ⊢
  rw [hg.block wb (by omega) (fun e=>viN e.symm),hb.block wb hwbl]
  exact h3
 have vN:v'.ownBlock ≠ some wb:=fun e=>by
  rcases hat with h3 | h3
  ·exact viN (by rw [<- h3]; exact e)
  ·rw [h3] at e
   cases e
   omega
 have fN:∀ g,fv.ownBlock=some g->g < w.heap.size/\g ≠ wb/\vm.ownBlock ≠ some g/\v'.ownBlock ≠ some g:=fun g hg'=>by
  have hl:=(ownsRow_block hf hg').2.1
  have t0:=hfree g hg'
  have e3:vm.ownBlock ≠ some g:=fun e=>by
   have:=h.tm g e
   rw [t0] at this
   cases this
  refine ⟨hl,fun e=>?_,e3,fun e=>?_⟩
  ·have:=h.tb
   rw [<- e,t0] at this
   cases this
  ·rcases hat with h3 | h3
   ·exact e3 (by rw [<- h3]; exact e)
   ·rw [h3] at e
    cases e
    omega
 have fsame:∀ g,fv.ownBlock=some g->(w2.setCell ⟨wb,3,none⟩ v').heap[g]?=w.heap[g]?:=fun g hg'=>by
  obtain ⟨hl,n1,n2,_⟩:=fN g hg'
  rw [Below.heap_setCell _ _ _ _ n1,hg.block g (by omega) (fun e=>n2 e.symm),hb.block g hl]
 refine ⟨tag',⟨fun _=>?_,h1.tb,h.hb,fun _=>h2.rk (by simp),h2.tk,fun _=>h2.ri (by simp),h2.ti,fun _=>?_,fun g hg'=>?_,fun _=>h2.rl (by simp),h2.tl,fun i hi _=>h2.ker i hi (by simp),h2.tker,fun i hi _=>h2.mi i hi (by simp),h2.tmi,fun i hi _=>?_,fun i hi g hg'=>?_,fun i hi _=>h2.ml i hi (by simp),h2.tml⟩,fun b hl hn ht=>?_⟩
 ·have:=blk2.set 3 v'
  simpa using this
 ·exact ownsRow_same hrow fun g hg'=>Below.heap_setCell _ _ _ _ (fun e=>vN (by have e':g=wb:=e; rw [<- e']; exact hg'))
 ·show (if fv.ownBlock=some g then (7,mss.length) else if v'.ownBlock=some g then (4,0) else if g < w.heap.size then tag g else (0,0))=(4,0)
  rw [if_neg (fun e=>(fN g e).2.2.2 hg'),if_pos hg']
 ·by_cases hlt:i < mss.length
  ·have:=h2.mm i hlt (by simp)
   rw [List.getElem_append_left hlt]
   exact this
  ·have e:i=mss.length:=by simp at hi; omega
   subst e
   refine ⟨m,?_⟩
   have e2:(mss ++ [fv])[mss.length]=fv:=by simp
   rw [e2]
   exact ownsRow_same hf fsame
 ·by_cases hlt:i < mss.length
  ·rw [List.getElem_append_left hlt] at hg'
   exact h2.tmm i hlt g hg'
  ·have e:i=mss.length:=by simp at hi; omega
   subst e
   have e2:(mss ++ [fv])[mss.length]=fv:=by simp
   rw [e2] at hg'
   show (if fv.ownBlock=some g then (7,mss.length) else if v'.ownBlock=some g then (4,0) else if g < w.heap.size then tag g else (0,0))=(7,mss.length)
   rw [if_pos hg']
 ·show (if fv.ownBlock=some b then (7,mss.length) else if v'.ownBlock=some b then (4,0) else if b < w.heap.size then tag b else (0,0))=(0,0)
  rw [if_neg hn]
  by_cases e:v'.ownBlock=some b
  ·rcases hat with h3 | h3
   ·have:=h.tm b (by rw [<- h3]; exact e)
    rw [ht] at this
    cases this
   ·rw [h3] at e
    cases e
    omega
  ·rw [if_neg e,if_pos hl]
   exact ht
theorem AM.addL (f:KFrame PK) (h:AM PK B (fun _=>True) w tag wb sv ks ins mss lns vk vi vm vl) {w1 w2:World} (hb:Below w.heap.size w w1) (hg:w1.grownBy w2 vl.ownBlock) {v' fv:Value} {m:Nat} (hrow:w2.ownsRow B 33 1 v' (lns ++ [fv]).length (lns ++ [fv])) (hat:v'.ownBlock=vl.ownBlock\/v'.ownBlock=some w1.heap.size)
  (hf:w.ownsRow B 75 7 fv m (reps (markL lns.length) m)) (hfree:∀ g,fv.ownBlock=some g->tag g=(0,0)) :
  ∃ tag',AM PK B (fun _=>True) (w2.setCell ⟨wb,4,none⟩ v') tag' wb sv ks ins mss (lns ++ [fv]) vk vi vm v'/\(∀ b,b < w.heap.size->fv.ownBlock ≠ some b->tag b=(0,0)->tag' b=(0,0)):=by
 have hz1:=hb.size
 have hz2:=hg.size
 let tag':Tag:=fun b=>if fv.ownBlock=some b then (8,lns.length) else if v'.ownBlock=some b then (5,0) else if b < w.heap.size then tag b else (0,0)
 have hold:∀ b,b < w.heap.size->tag b ≠ (0,0)->tag' b=tag b:=fun b hl hne=>by
  show (if fv.ownBlock=some b then (8,lns.length) else if v'.ownBlock=some b then (5,0) else if b < w.heap.size then tag b else (0,0))=tag b
  rw [if_neg (fun e=>hne (hfree b e))]
  by_cases e:v'.ownBlock=some b
  ·rw [if_pos e]
   rcases hat with h1 | h1
   ·exact (h.tl b (by rw [<- h1]; exact e)).symm
   ·rw [h1] at e
    cases e
    omega
  ·rw [if_neg e,if_pos hl]
 have h1:=h.retag f (tag':=tag') hold
 have same:∀ b,b < w.heap.size->tag' b ≠ (5,0)->tag' b ≠ (1,0)->(w2.setCell ⟨wb,4,none⟩ v').heap[b]?=w.heap[b]?:=fun b hl n3 n1=>by
  have e1:b ≠ wb:=fun e=>n1 (by rw [e]; exact h1.tb)
  have e2:vl.ownBlock ≠ some b:=fun e=>n3 (h1.tl b e)
  rw [Below.heap_setCell _ _ _ _ e1,hg.block b (by omega) (fun e=>e2 e.symm),hb.block b hl]
 have h2:AM PK B (fun t=>t ≠ (5,0)/\t ≠ (1,0)) (w2.setCell ⟨wb,4,none⟩ v') tag' wb sv ks ins mss lns vk vi vm vl:=h1.turn f (fun b hl hn=>same b hl hn.1 hn.2) (by simp [World.setCell]; omega) (fun _ _=>trivial)
 have hwbl:=(h.blk trivial).lt
 have wbt:Typ w wb 46:=⟨_,h.blk trivial⟩
 have viN:vl.ownBlock ≠ some wb:=fun e=>by
  have:=own_typ (h.rl trivial) e
  exact this.ne wbt (by decide) rfl
 have blk2:Blk w2 wb #[sv,vk,vi,vm,vl] 46:=by
  have h3:=h.blk trivial
  unfold Blk at h3 ⊢
  rw [hg.block wb (by omega) (fun e=>viN e.symm),hb.block wb hwbl]
  exact h3
 have vN:v'.ownBlock ≠ some wb:=fun e=>by
  rcases hat with h3 | h3
  ·exact viN (by rw [<- h3]; exact e)
  ·rw [h3] at e
   cases e
   omega
 have fN:∀ g,fv.ownBlock=some g->g < w.heap.size/\g ≠ wb/\vl.ownBlock ≠ some g/\v'.ownBlock ≠ some g:=fun g hg'=>by
  have hl:=(ownsRow_block hf hg').2.1
  have t0:=hfree g hg'
  have e3:vl.ownBlock ≠ some g:=fun e=>by
   have:=h.tl g e
   rw [t0] at this
   cases this
  refine ⟨hl,fun e=>?_,e3,fun e=>?_⟩
  ·have:=h.tb
   rw [<- e,t0] at this
   cases this
  ·rcases hat with h3 | h3
   ·exact e3 (by rw [<- h3]; exact e)
   ·rw [h3] at e
    cases e
    omega
 have fsame:∀ g,fv.ownBlock=some g->(w2.setCell ⟨wb,4,none⟩ v').heap[g]?=w.heap[g]?:=fun g hg'=>by
  obtain ⟨hl,n1,n2,_⟩:=fN g hg'
  rw [Below.heap_setCell _ _ _ _ n1,hg.block g (by omega) (fun e=>n2 e.symm),hb.block g hl]
 refine ⟨tag',⟨fun _=>?_,h1.tb,h.hb,fun _=>h2.rk (by simp),h2.tk,fun _=>h2.ri (by simp),h2.ti,fun _=>h2.rm (by simp),h2.tm,fun _=>?_,fun g hg'=>?_,fun i hi _=>h2.ker i hi (by simp),h2.tker,fun i hi _=>h2.mi i hi (by simp),h2.tmi,fun i hi _=>h2.mm i hi (by simp),h2.tmm,fun i hi _=>?_,fun i hi g hg'=>?_⟩,fun b hl hn ht=>?_⟩
 ·have:=blk2.set 4 v'
  simpa using this
 ·exact ownsRow_same hrow fun g hg'=>Below.heap_setCell _ _ _ _ (fun e=>vN (by have e':g=wb:=e; rw [<- e']; exact hg'))
 ·show (if fv.ownBlock=some g then (8,lns.length) else if v'.ownBlock=some g then (5,0) else if g < w.heap.size then tag g else (0,0))=(5,0)
  rw [if_neg (fun e=>(fN g e).2.2.2 hg'),if_pos hg']
 ·by_cases hlt:i < lns.length
  ·have:=h2.ml i hlt (by simp)
   rw [List.getElem_append_left hlt]
   exact this
  ·have e:i=lns.length:=by simp at hi; omega
   subst e
   refine ⟨m,?_⟩
   have e2:(lns ++ [fv])[lns.length]=fv:=by simp
   rw [e2]
   exact ownsRow_same hf fsame
 ·by_cases hlt:i < lns.length
  ·rw [List.getElem_append_left hlt] at hg'
   exact h2.tml i hlt g hg'
  ·have e:i=lns.length:=by simp at hi; omega
   subst e
   have e2:(lns ++ [fv])[lns.length]=fv:=by simp
   rw [e2] at hg'
   show (if fv.ownBlock=some g then (8,lns.length) else if v'.ownBlock=some g then (5,0) else if g < w.heap.size then tag g else (0,0))=(8,lns.length)
   rw [if_pos hg']
 ·show (if fv.ownBlock=some b then (8,lns.length) else if v'.ownBlock=some b then (5,0) else if b < w.heap.size then tag b else (0,0))=(0,0)
  rw [if_neg hn]
  by_cases e:v'.ownBlock=some b
  ·rcases hat with h3 | h3
   ·have:=h.tl b (by rw [<- h3]; exact e)
    rw [ht] at this
    cases this
   ·rw [h3] at e
    cases e
    omega
  ·rw [if_neg e,if_pos hl]
   exact ht
end
end Go.Proofs.YtbkfildnijjioaaGreat

namespace Go.Proofs.YtbkfildnijjioaaGreat
open Go.RowKit
theorem reps_ext (cs ys:List Value) (n:Nat) (hpos:0 < cs.length) (hl:ys.length=n * cs.length) (h:∀ i,i < n->∀ j,j < cs.length->ys[i * cs.length + j]?=cs[j]?):ys=reps cs n:=by
 apply List.ext_getElem?
 intro p
 by_cases hp:p < n * cs.length
 ·have h1:p / cs.length < n:=Nat.div_lt_of_lt_mul (by rw [Nat.mul_comm]; exact hp)
  have h2:p % cs.length < cs.length:=Nat.mod_lt _ hpos
  have e:p / cs.length * cs.length + p % cs.length=p:=by rw [Nat.mul_comm]; exact Nat.div_add_mod p cs.length
  have a:=h _ h1 _ h2
  have b:=reps_at cs n _ _ h1 h2
  rw [e] at a b
  rw [a,b]
 ·rw [List.getElem?_eq_none (by omega),List.getElem?_eq_none (by rw [reps_length]; omega)]
section
variable {PK:KP} {B:Nat} {w:World} {tag:Tag} {wb:Nat} {sv:Value} {ks:List KI} {ins mss lns:List Value} {vk vi vm vl:Value}
set_option maxRecDepth 100000 in
set_option maxHeartbeats 4000000 in
theorem mine_any (f:KFrame PK) (h:AM PK B (fun _=>True) w tag wb sv ks ins mss lns vk vi vm vl) (v:Value) (n:Nat) (xs:List Value) (hr:w.ownsRow B 3 1 v n xs) (hfree:∀ g,v.ownBlock=some g->tag g=(0,0)) (hc:ins.length<=100000000) (hBw:B<=w.heap.size) :
  Calls Tryz.prog 78 #[.pointer (some ⟨wb,0,none⟩),v] w fun e w'=>e=.returned (.tuple #[])/\∃ tag' fv v',AM PK B (fun _=>True) w' tag' wb sv ks (ins ++ [fv]) mss lns vk v' vm vl/\Took B w w' tag tag' v:=by
 obtain ⟨ao,cap,ys,rfl,hcap,hnil,hao,hncap,hrow⟩:=own_full hr
 obtain ⟨iT,hiT,hzT0,hzT1,hzT2⟩:=info_parts Tryz.infoInts
 have HIT:=hid (And.intro hiT (And.intro hzT0 (And.intro hzT1 hzT2)))
 have hob:(Value.slice ao n cap).ownBlock=(Value.slice ao cap cap).ownBlock:=slice_own _ _ _ _ _
 have HFR:Hid (∀ g,(Value.slice ao cap cap).ownBlock=some g->tag g=(0,0)):=fun g hg=>hfree g (by rw [hob]; exact hg)
 have HR:=hid hrow
 have H:=hid h
 have HOB:=hid hob
 have hncI:(n:Int)<=(cap:Int):=by omega
 have hmx:cap<=9223372036854775807:=by unfold maxLen at hcap; omega
 clear hiT hzT0 hzT1 hzT2 hr hfree hrow h hob
 go_enter Tryz.func78,Tryz.ntmps78
 cases ao with
 | none =>
  obtain rfl:=hnil rfl
  obtain rfl:n=0:=by omega
  have cI:=(H.out.blk trivial).cell 2
  have zI:=(H.out.blk trivial).frozen 2
  simp at cI
  have rowI:=H.out.ri trivial
  obtain ⟨ia,ic,hvi,_,_⟩:=owns_cells rowI
  rw [hvi] at cI
  have HVI:=hid hvi
  clear rowI hvi
  go_wp2
  go_loopw [5] (fun i wr=>i=.int .i64 0/\wr=w) (fun _ _=>0)
  case atStart=>exact ⟨rfl,rfl⟩
  case round =>
   obtain ⟨rfl,hw⟩:=hrel
   have hw2:=hw.symm
   subst hw2
   clear hw
   have RI:Hid (w.ownsRow B 25 1 (.slice ia ins.length ic) ins.length ins):=by rw [<- HVI.out]; exact hid (H.out.ri trivial)
   go_wp2_with (at_builtin; refine wpList_append_src_at rfl (.tmp 29) (.tmp 31) 42 rfl B 25 iT (.slice none 0 0) 1 24 Tryz.underlying42 HIT.out.1 HIT.out.2.1 HIT.out.2.2.1 HIT.out.2.2.2 rfl (by decide) (.slice ia ins.length ic) ins.length ins rfl (RI.out.alloc _) (some ⟨w.heap.size,0,none⟩) 1 1 [.slice none 0 0] rfl rfl (fun h=>(by cases h)) (fun j u hj=>⟨_,rfl,(by rw [Addr.add_lit,Nat.zero_add,(Blk.new w #[.slice none 0 0] 25).cell]; simpa using hj)⟩) (by intro u hu; simp at hu; subst hu; rfl) (by unfold maxLen; omega) (by omega) (by simp; omega) ?_; intro v' w2 hown2 hg2 hat2; obtain ⟨tv5,tc5,rfl,_,_⟩:=owns_cells hown2; have hbA:Below w.heap.size w (w.alloc (.cells #[.slice none 0 0] 25)):=(Below.refl _ _).alloc (Nat.le_refl _) _; have hadd:=AM.addI f H.out hbA (by rw [HVI.out]; exact hg2) (fv:=.slice none 0 0) (m:=0) (by rw [List.length_append]; exact hown2) (by rw [HVI.out]; exact hat2) (World.ownsRow_nil _ _ _ _) (fun g hg=>(by cases hg)); have viN:(Value.slice ia ins.length ic).ownBlock ≠ some wb:=(fun e=>(own_typ RI.out e).ne (⟨_,H.out.blk trivial⟩:Typ w wb 46) (by decide) rfl); have b2:w2.heap[wb]?=w.heap[wb]?:=(by rw [hg2.block wb (by simp; have:=(H.out.blk trivial).lt; omega) (fun e=>viN e.symm),hbA.block wb (H.out.blk trivial).lt]); have y2:w2.cell? ⟨wb,2,none⟩=some (.slice ia ins.length ic):=(by rw [World.cell?_of_block (a:=⟨wb,2,none⟩) b2]; exact cI); have z2:w2.frozen? ⟨wb,2,none⟩=false:=(by rw [World.frozen?_of_block (a:=⟨wb,2,none⟩) b2]; exact zI); have ADD:=hid hadd; have G2:=hid hg2; have HBA:=hid hbA; clear hown2 hg2 hat2 hadd hbA b2)
   go_end0
   obtain ⟨tag',ham,hfr⟩:=ADD.out
   refine ⟨rfl,tag',_,_,ham,fun b hl hn ht=>⟨hfr b hl hn ht,?_⟩,?_⟩
   ·have n1:b ≠ wb:=fun e=>by
     have:=H.out.tb
     rw [<- e,ht] at this
     cases this
    have n2:(Value.slice ia ins.length ic).ownBlock ≠ some b:=fun e=>by
     have:=H.out.ti b (by rw [HVI.out]; exact e)
     rw [ht] at this
     cases this
    rw [Below.heap_setCell _ _ _ _ n1,G2.out.block b (by simp; omega) (fun e=>n2 e.symm),HBA.out.block b hl]
   ·refine Below.setCell ?_ H.out.hb _
    exact ((Below.refl _ _).alloc hBw _).grown G2.out (by simp; omega) (fun g hg=>(ownsRow_block RI.out hg).1)
 | some a =>
  obtain ⟨g,rfl⟩:=hao a rfl
  have tg:=HFR.out g rfl
  have hgl:g < w.heap.size:=(ownsRow_block HR.out rfl).2.1
  have hgB:B<=g:=(ownsRow_block HR.out rfl).1
  have hgw:g ≠ wb:=fun e=>by
   have:=H.out.tb
   rw [<- e,tg] at this
   cases this
  have cI:=(H.out.blk trivial).cell 2
  simp at cI
  have rowI:=H.out.ri trivial
  obtain ⟨ia,ic,hvi,_,_⟩:=owns_cells rowI
  rw [hvi] at cI
  have HVI:=hid hvi
  clear rowI hvi
  go_wp2
  go_loopw [5] (fun i wr=>∃ k:Nat,k<=cap/\i=.int .i64 k/\wr.heap.size=w.heap.size/\Below B w wr/\(∀ b,b ≠ g->wr.heap[b]?=w.heap[b]?)/\∃ ys,wr.ownsRow B 3 1 (.slice (some ⟨g,0,none⟩) cap cap) cap ys/\∀ i,i < k->∀ j,j < 1->ys[i * 1 + j]?=(markI ins.length)[j]?) (fun i _=>cap - (intOf i).toNat)
  case atStart=>exact ⟨0,Nat.zero_le _,rfl,rfl,Below.refl _ _,fun _ _=>rfl,ys,HR.out,fun i hi=>absurd hi (Nat.not_lt_zero _)⟩
  case round =>
   obtain ⟨k,hk,rfl,hsz,hbl,hoth,zs,hzr,hzc⟩:=hrel
   have cW:wr.cell? ⟨wb,2,none⟩=some (.slice ia ins.length ic):=by
    rw [World.cell?_of_block (a:=⟨wb,2,none⟩) (hoth wb (Ne.symm hgw))]
    exact cI
   have ZR:=hid hzr
   have HBL:=hid hbl
   have HOT:=hid hoth
   have HZC:=hid hzc
   have hzl:zs.length=cap * 1:=hzr.1
   clear hzr hbl hoth hzc
   by_cases hlt:k < cap
   ·have hkI:(k:Int) < (cap:Int):=by omega
    have d0:wr.cell? ⟨g,k,none⟩=some (zs[k]'(by omega)):=by rw [ZR.out.cellAt _ (by omega)]; exact List.getElem?_eq_getElem _
    have e0:=ZR.out.frozenAt (k)
    have rAll:=(ZR.out.stored (k) (.int .i64 (-1000 - (ins.length:Int)))).1
    have HB2:Hid (Below B w (wr.setCell ⟨g,k,none⟩ (.int .i64 (-1000 - (ins.length:Int))))):=(HBL.out.setCell hgB (.int .i64 (-1000 - (ins.length:Int))))
    have HO2:Hid (∀ b,b ≠ g->(wr.setCell ⟨g,k,none⟩ (.int .i64 (-1000 - (ins.length:Int)))).heap[b]?=w.heap[b]?):=fun b hb=>by
     iterate 1 rw [Below.heap_setCell _ _ _ _ hb]
     exact HOT.out b hb
    have HS2:Hid ((wr.setCell ⟨g,k,none⟩ (.int .i64 (-1000 - (ins.length:Int)))).heap.size=w.heap.size):=by
     simp only [setCell_size]
     exact hid hsz
    have HC2:Hid (∀ i,i < k + 1->∀ j,j < 1->(zs.set (k) (.int .i64 (-1000 - (ins.length:Int))))[i * 1 + j]?=(markI ins.length)[j]?):=fun i hi j hj=>by
     obtain rfl:j=0:=by omega
     rw [Nat.mul_one,Nat.add_zero,List.getElem?_set]
     by_cases e:k=i
     ·rw [if_pos e,if_pos (by omega)]
      rfl
     ·rw [if_neg e]
      have:=HZC.out i (by omega) 0 (by omega)
      rwa [Nat.mul_one,Nat.add_zero] at this
    have RA:=hid rAll
    clear rAll ZR HBL HOT HZC
    generalize zs[k]'(by omega)=o0 at *
    go_wp2
    go_roundw
    case rel=>exact ⟨k + 1,by omega,by go_num,HS2.out,HB2.out,HO2.out,_,RA.out,HC2.out⟩
    case measure=>simp [intOf]; omega
   ·have hkn:(cap:Int)<=(k:Int):=by omega
    have ek:k=cap:=by omega
    have hz:=reps_ext (markI ins.length) zs cap (by simp [markI]) (by simpa [markI] using hzl) (fun i hi j hj=>by
     have:=HZC.out i (by omega) j (by simpa [markI] using hj)
     simpa [markI] using this)
    have RR:Hid (wr.ownsRow B 3 1 (.slice (some ⟨g,0,none⟩) cap cap) cap (reps (markI ins.length) cap)):=by rw [<- hz]; exact hid ZR.out
    have amr:=H.out.free f (w':=wr) (fun b hl ht=>HOT.out b (fun e=>ht (by rw [e]; exact tg))) (by omega)
    have HA:=hid amr
    have zI:=(amr.blk trivial).frozen 2
    have RI:Hid (wr.ownsRow B 25 1 (.slice ia ins.length ic) ins.length ins):=by rw [<- HVI.out]; exact hid (amr.ri trivial)
    have hBr:B<=wr.heap.size:=by omega
    have HSZ:=hid hsz
    clear amr hz hsz
    go_wp2_with (at_builtin; refine wpList_append_src_at rfl (.tmp 29) (.tmp 31) 42 rfl B 25 iT (.slice none 0 0) 1 24 Tryz.underlying42 HIT.out.1 HIT.out.2.1 HIT.out.2.2.1 HIT.out.2.2.2 rfl (by decide) (.slice ia ins.length ic) ins.length ins rfl (RI.out.alloc _) (some ⟨wr.heap.size,0,none⟩) 1 1 [.slice (some ⟨g,0,none⟩) cap cap] rfl rfl (fun h=>(by cases h)) (fun j u hj=>⟨_,rfl,(by rw [Addr.add_lit,Nat.zero_add,(Blk.new wr #[.slice (some ⟨g,0,none⟩) cap cap] 25).cell]; simpa using hj)⟩) (by intro u hu; simp at hu; subst hu; rfl) (by unfold maxLen; omega) (by omega) (by simp; omega) ?_; intro v' w2 hown2 hg2 hat2; obtain ⟨tv5,tc5,rfl,_,_⟩:=owns_cells hown2; have hbA:Below wr.heap.size wr (wr.alloc (.cells #[.slice (some ⟨g,0,none⟩) cap cap] 25)):=(Below.refl _ _).alloc (Nat.le_refl _) _; have hadd:=AM.addI f HA.out hbA (by rw [HVI.out]; exact hg2) (fv:=.slice (some ⟨g,0,none⟩) cap cap) (m:=cap) (by rw [List.length_append]; exact hown2) (by rw [HVI.out]; exact hat2) RR.out HFR.out; have viN:(Value.slice ia ins.length ic).ownBlock ≠ some wb:=(fun e=>(own_typ RI.out e).ne (⟨_,HA.out.blk trivial⟩:Typ wr wb 46) (by decide) rfl); have b2:w2.heap[wb]?=wr.heap[wb]?:=(by rw [hg2.block wb (by simp; have:=(HA.out.blk trivial).lt; omega) (fun e=>viN e.symm),hbA.block wb (HA.out.blk trivial).lt]); have y2:w2.cell? ⟨wb,2,none⟩=some (.slice ia ins.length ic):=(by rw [World.cell?_of_block (a:=⟨wb,2,none⟩) b2]; exact cW); have z2:w2.frozen? ⟨wb,2,none⟩=false:=(by rw [World.frozen?_of_block (a:=⟨wb,2,none⟩) b2]; exact zI); have ADD:=hid hadd; have G2:=hid hg2; have HBA:=hid hbA; clear hown2 hg2 hat2 hadd hbA b2)
    go_end0
    obtain ⟨tag',ham,hfr⟩:=ADD.out
    refine ⟨rfl,tag',_,_,ham,fun b hl hn ht=>?_,?_⟩
    ·have hbg:b ≠ g:=fun e=>hn (by rw [e]; rfl)
     have n0:(Value.slice (some (⟨g,0,none⟩:Addr)) cap cap).ownBlock ≠ some b:=fun e=>hbg (by cases e; rfl)
     have hszz:=HSZ.out
     refine ⟨hfr b (by omega) n0 ht,?_⟩
     have n1:b ≠ wb:=fun e=>by
      have:=HA.out.tb
      rw [<- e,ht] at this
      cases this
     have n2:(Value.slice ia ins.length ic).ownBlock ≠ some b:=fun e=>by
      have:=HA.out.ti b (by rw [HVI.out]; exact e)
      rw [ht] at this
      cases this
     rw [Below.heap_setCell _ _ _ _ n1,G2.out.block b (by simp; omega) (fun e=>n2 e.symm),HBA.out.block b (by omega),HOT.out b hbg]
    ·refine Below.setCell ?_ HA.out.hb _
     exact (HBL.out.alloc hBr _).grown G2.out (by simp; omega) (fun g hg=>(ownsRow_block RI.out hg).1)
set_option maxRecDepth 100000 in
set_option maxHeartbeats 4000000 in
theorem told_any (f:KFrame PK) (h:AM PK B (fun _=>True) w tag wb sv ks ins mss lns vk vi vm vl) (v:Value) (n:Nat) (xs:List Value) (hr:w.ownsRow B 95 3 v n xs) (hfree:∀ g,v.ownBlock=some g->tag g=(0,0)) (hc:mss.length<=100000000) (hBw:B<=w.heap.size) :
  Calls Tryz.prog 79 #[.pointer (some ⟨wb,0,none⟩),v] w fun e w'=>e=.returned (.tuple #[])/\∃ tag' fv v',AM PK B (fun _=>True) w' tag' wb sv ks ins (mss ++ [fv]) lns vk vi v' vl/\Took B w w' tag tag' v:=by
 obtain ⟨ao,cap,ys,rfl,hcap,hnil,hao,hncap,hrow⟩:=own_full hr
 obtain ⟨iT,hiT,hzT0,hzT1,hzT2⟩:=info_parts Tryz.infoMisses
 have HIT:=hid (And.intro hiT (And.intro hzT0 (And.intro hzT1 hzT2)))
 have hob:(Value.slice ao n cap).ownBlock=(Value.slice ao cap cap).ownBlock:=slice_own _ _ _ _ _
 have HFR:Hid (∀ g,(Value.slice ao cap cap).ownBlock=some g->tag g=(0,0)):=fun g hg=>hfree g (by rw [hob]; exact hg)
 have HR:=hid hrow
 have H:=hid h
 have HOB:=hid hob
 have hncI:(n:Int)<=(cap:Int):=by omega
 have hmx:cap<=9223372036854775807:=by unfold maxLen at hcap; omega
 clear hiT hzT0 hzT1 hzT2 hr hfree hrow h hob
 go_enter Tryz.func79,Tryz.ntmps79
 cases ao with
 | none =>
  obtain rfl:=hnil rfl
  obtain rfl:n=0:=by omega
  have cI:=(H.out.blk trivial).cell 3
  have zI:=(H.out.blk trivial).frozen 3
  simp at cI
  have rowI:=H.out.rm trivial
  obtain ⟨ia,ic,hvi,_,_⟩:=owns_cells rowI
  rw [hvi] at cI
  have HVI:=hid hvi
  clear rowI hvi
  go_wp2
  go_loopw [5] (fun i wr=>i=.int .i64 0/\wr=w) (fun _ _=>0)
  case atStart=>exact ⟨rfl,rfl⟩
  case round =>
   obtain ⟨rfl,hw⟩:=hrel
   have hw2:=hw.symm
   subst hw2
   clear hw
   have RI:Hid (w.ownsRow B 73 1 (.slice ia mss.length ic) mss.length mss):=by rw [<- HVI.out]; exact hid (H.out.rm trivial)
   go_wp2_with (at_builtin; refine wpList_append_src_at rfl (.tmp 30) (.tmp 32) 43 rfl B 73 iT (.slice none 0 0) 1 24 Tryz.underlying43 HIT.out.1 HIT.out.2.1 HIT.out.2.2.1 HIT.out.2.2.2 rfl (by decide) (.slice ia mss.length ic) mss.length mss rfl (RI.out.alloc _) (some ⟨w.heap.size,0,none⟩) 1 1 [.slice none 0 0] rfl rfl (fun h=>(by cases h)) (fun j u hj=>⟨_,rfl,(by rw [Addr.add_lit,Nat.zero_add,(Blk.new w #[.slice none 0 0] 73).cell]; simpa using hj)⟩) (by intro u hu; simp at hu; subst hu; rfl) (by unfold maxLen; omega) (by omega) (by simp; omega) ?_; intro v' w2 hown2 hg2 hat2; obtain ⟨tv5,tc5,rfl,_,_⟩:=owns_cells hown2; have hbA:Below w.heap.size w (w.alloc (.cells #[.slice none 0 0] 73)):=(Below.refl _ _).alloc (Nat.le_refl _) _; have hadd:=AM.addM f H.out hbA (by rw [HVI.out]; exact hg2) (fv:=.slice none 0 0) (m:=0) (by rw [List.length_append]; exact hown2) (by rw [HVI.out]; exact hat2) (World.ownsRow_nil _ _ _ _) (fun g hg=>(by cases hg)); have viN:(Value.slice ia mss.length ic).ownBlock ≠ some wb:=(fun e=>(own_typ RI.out e).ne (⟨_,H.out.blk trivial⟩:Typ w wb 46) (by decide) rfl); have b2:w2.heap[wb]?=w.heap[wb]?:=(by rw [hg2.block wb (by simp; have:=(H.out.blk trivial).lt; omega) (fun e=>viN e.symm),hbA.block wb (H.out.blk trivial).lt]); have y2:w2.cell? ⟨wb,3,none⟩=some (.slice ia mss.length ic):=(by rw [World.cell?_of_block (a:=⟨wb,3,none⟩) b2]; exact cI); have z2:w2.frozen? ⟨wb,3,none⟩=false:=(by rw [World.frozen?_of_block (a:=⟨wb,3,none⟩) b2]; exact zI); have ADD:=hid hadd; have G2:=hid hg2; have HBA:=hid hbA; clear hown2 hg2 hat2 hadd hbA b2)
   go_end0
   obtain ⟨tag',ham,hfr⟩:=ADD.out
   refine ⟨rfl,tag',_,_,ham,fun b hl hn ht=>⟨hfr b hl hn ht,?_⟩,?_⟩
   ·have n1:b ≠ wb:=fun e=>by
     have:=H.out.tb
     rw [<- e,ht] at this
     cases this
    have n2:(Value.slice ia mss.length ic).ownBlock ≠ some b:=fun e=>by
     have:=H.out.tm b (by rw [HVI.out]; exact e)
     rw [ht] at this
     cases this
    rw [Below.heap_setCell _ _ _ _ n1,G2.out.block b (by simp; omega) (fun e=>n2 e.symm),HBA.out.block b hl]
   ·refine Below.setCell ?_ H.out.hb _
    exact ((Below.refl _ _).alloc hBw _).grown G2.out (by simp; omega) (fun g hg=>(ownsRow_block RI.out hg).1)
 | some a =>
  obtain ⟨g,rfl⟩:=hao a rfl
  have tg:=HFR.out g rfl
  have hgl:g < w.heap.size:=(ownsRow_block HR.out rfl).2.1
  have hgB:B<=g:=(ownsRow_block HR.out rfl).1
  have hgw:g ≠ wb:=fun e=>by
   have:=H.out.tb
   rw [<- e,tg] at this
   cases this
  have cI:=(H.out.blk trivial).cell 3
  simp at cI
  have rowI:=H.out.rm trivial
  obtain ⟨ia,ic,hvi,_,_⟩:=owns_cells rowI
  rw [hvi] at cI
  have HVI:=hid hvi
  clear rowI hvi
  go_wp2
  go_loopw [5] (fun i wr=>∃ k:Nat,k<=cap/\i=.int .i64 k/\wr.heap.size=w.heap.size/\Below B w wr/\(∀ b,b ≠ g->wr.heap[b]?=w.heap[b]?)/\∃ ys,wr.ownsRow B 95 3 (.slice (some ⟨g,0,none⟩) cap cap) cap ys/\∀ i,i < k->∀ j,j < 3->ys[i * 3 + j]?=(markM mss.length)[j]?) (fun i _=>cap - (intOf i).toNat)
  case atStart=>exact ⟨0,Nat.zero_le _,rfl,rfl,Below.refl _ _,fun _ _=>rfl,ys,HR.out,fun i hi=>absurd hi (Nat.not_lt_zero _)⟩
  case round =>
   obtain ⟨k,hk,rfl,hsz,hbl,hoth,zs,hzr,hzc⟩:=hrel
   have cW:wr.cell? ⟨wb,3,none⟩=some (.slice ia mss.length ic):=by
    rw [World.cell?_of_block (a:=⟨wb,3,none⟩) (hoth wb (Ne.symm hgw))]
    exact cI
   have ZR:=hid hzr
   have HBL:=hid hbl
   have HOT:=hid hoth
   have HZC:=hid hzc
   have hzl:zs.length=cap * 3:=hzr.1
   clear hzr hbl hoth hzc
   by_cases hlt:k < cap
   ·have hkI:(k:Int) < (cap:Int):=by omega
    have d0:wr.cell? ⟨g,k * 3,none⟩=some (zs[k * 3]'(by omega)):=by rw [ZR.out.cellAt _ (by omega)]; exact List.getElem?_eq_getElem _
    have e0:=ZR.out.frozenAt (k * 3)
    have d1:wr.cell? ⟨g,k * 3 + 1,none⟩=some (zs[k * 3 + 1]'(by omega)):=by rw [ZR.out.cellAt _ (by omega)]; exact List.getElem?_eq_getElem _
    have e1:=ZR.out.frozenAt (k * 3 + 1)
    have d2:wr.cell? ⟨g,k * 3 + 2,none⟩=some (zs[k * 3 + 2]'(by omega)):=by rw [ZR.out.cellAt _ (by omega)]; exact List.getElem?_eq_getElem _
    have e2:=ZR.out.frozenAt (k * 3 + 2)
    have rAll:=(((ZR.out.stored (k * 3) (.int .i64 (-1000 - (mss.length:Int)))).1.stored (k * 3 + 1) (.int .i64 0)).1.stored (k * 3 + 2) (.int .i64 0)).1
    have HB2:Hid (Below B w (((wr.setCell ⟨g,k * 3,none⟩ (.int .i64 (-1000 - (mss.length:Int)))).setCell ⟨g,k * 3 + 1,none⟩ (.int .i64 0)).setCell ⟨g,k * 3 + 2,none⟩ (.int .i64 0))):=(((HBL.out.setCell hgB (.int .i64 (-1000 - (mss.length:Int)))).setCell hgB (.int .i64 0)).setCell hgB (.int .i64 0))
    have HO2:Hid (∀ b,b ≠ g->(((wr.setCell ⟨g,k * 3,none⟩ (.int .i64 (-1000 - (mss.length:Int)))).setCell ⟨g,k * 3 + 1,none⟩ (.int .i64 0)).setCell ⟨g,k * 3 + 2,none⟩ (.int .i64 0)).heap[b]?=w.heap[b]?):=fun b hb=>by
     iterate 3 rw [Below.heap_setCell _ _ _ _ hb]
     exact HOT.out b hb
    have HS2:Hid ((((wr.setCell ⟨g,k * 3,none⟩ (.int .i64 (-1000 - (mss.length:Int)))).setCell ⟨g,k * 3 + 1,none⟩ (.int .i64 0)).setCell ⟨g,k * 3 + 2,none⟩ (.int .i64 0)).heap.size=w.heap.size):=by
     simp only [setCell_size]
     exact hid hsz
    have HC2:Hid (∀ i,i < k + 1->∀ j,j < 3->(((zs.set (k * 3) (.int .i64 (-1000 - (mss.length:Int)))).set (k * 3 + 1) (.int .i64 0)).set (k * 3 + 2) (.int .i64 0))[i * 3 + j]?=(markM mss.length)[j]?):=fun i hi j hj=>by
     by_cases e:i=k
     ·subst e
      have hcases:j=0\/j=1\/j=2:=by omega
      rcases hcases with rfl | rfl | rfl <;> simp [List.getElem?_set,markM] <;> omega
     ·have h:∀ m,m < 3->k * 3 + m ≠ i * 3 + j:=by omega
      have h0:k * 3 ≠ i * 3 + j:=h 0 (by omega)
      have:=HZC.out i (by omega) j hj
      simp [h 1,h 2,h0]
      simpa using this
    have RA:=hid rAll
    clear rAll ZR HBL HOT HZC
    generalize zs[k * 3]'(by omega)=o0 at *
    generalize zs[k * 3 + 1]'(by omega)=o1 at *
    generalize zs[k * 3 + 2]'(by omega)=o2 at *
    go_wp2
    go_roundw
    case rel=>exact ⟨k + 1,by omega,by go_num,HS2.out,HB2.out,HO2.out,_,RA.out,HC2.out⟩
    case measure=>simp [intOf]; omega
   ·have hkn:(cap:Int)<=(k:Int):=by omega
    have ek:k=cap:=by omega
    have hz:=reps_ext (markM mss.length) zs cap (by simp [markM]) (by simpa [markM] using hzl) (fun i hi j hj=>by
     have:=HZC.out i (by omega) j (by simpa [markM] using hj)
     simpa [markM] using this)
    have RR:Hid (wr.ownsRow B 95 3 (.slice (some ⟨g,0,none⟩) cap cap) cap (reps (markM mss.length) cap)):=by rw [<- hz]; exact hid ZR.out
    have amr:=H.out.free f (w':=wr) (fun b hl ht=>HOT.out b (fun e=>ht (by rw [e]; exact tg))) (by omega)
    have HA:=hid amr
    have zI:=(amr.blk trivial).frozen 3
    have RI:Hid (wr.ownsRow B 73 1 (.slice ia mss.length ic) mss.length mss):=by rw [<- HVI.out]; exact hid (amr.rm trivial)
    have hBr:B<=wr.heap.size:=by omega
    have HSZ:=hid hsz
    clear amr hz hsz
    go_wp2_with (at_builtin; refine wpList_append_src_at rfl (.tmp 30) (.tmp 32) 43 rfl B 73 iT (.slice none 0 0) 1 24 Tryz.underlying43 HIT.out.1 HIT.out.2.1 HIT.out.2.2.1 HIT.out.2.2.2 rfl (by decide) (.slice ia mss.length ic) mss.length mss rfl (RI.out.alloc _) (some ⟨wr.heap.size,0,none⟩) 1 1 [.slice (some ⟨g,0,none⟩) cap cap] rfl rfl (fun h=>(by cases h)) (fun j u hj=>⟨_,rfl,(by rw [Addr.add_lit,Nat.zero_add,(Blk.new wr #[.slice (some ⟨g,0,none⟩) cap cap] 73).cell]; simpa using hj)⟩) (by intro u hu; simp at hu; subst hu; rfl) (by unfold maxLen; omega) (by omega) (by simp; omega) ?_; intro v' w2 hown2 hg2 hat2; obtain ⟨tv5,tc5,rfl,_,_⟩:=owns_cells hown2; have hbA:Below wr.heap.size wr (wr.alloc (.cells #[.slice (some ⟨g,0,none⟩) cap cap] 73)):=(Below.refl _ _).alloc (Nat.le_refl _) _; have hadd:=AM.addM f HA.out hbA (by rw [HVI.out]; exact hg2) (fv:=.slice (some ⟨g,0,none⟩) cap cap) (m:=cap) (by rw [List.length_append]; exact hown2) (by rw [HVI.out]; exact hat2) RR.out HFR.out; have viN:(Value.slice ia mss.length ic).ownBlock ≠ some wb:=(fun e=>(own_typ RI.out e).ne (⟨_,HA.out.blk trivial⟩:Typ wr wb 46) (by decide) rfl); have b2:w2.heap[wb]?=wr.heap[wb]?:=(by rw [hg2.block wb (by simp; have:=(HA.out.blk trivial).lt; omega) (fun e=>viN e.symm),hbA.block wb (HA.out.blk trivial).lt]); have y2:w2.cell? ⟨wb,3,none⟩=some (.slice ia mss.length ic):=(by rw [World.cell?_of_block (a:=⟨wb,3,none⟩) b2]; exact cW); have z2:w2.frozen? ⟨wb,3,none⟩=false:=(by rw [World.frozen?_of_block (a:=⟨wb,3,none⟩) b2]; exact zI); have ADD:=hid hadd; have G2:=hid hg2; have HBA:=hid hbA; clear hown2 hg2 hat2 hadd hbA b2)
    go_end0
    obtain ⟨tag',ham,hfr⟩:=ADD.out
    refine ⟨rfl,tag',_,_,ham,fun b hl hn ht=>?_,?_⟩
    ·have hbg:b ≠ g:=fun e=>hn (by rw [e]; rfl)
     have n0:(Value.slice (some (⟨g,0,none⟩:Addr)) cap cap).ownBlock ≠ some b:=fun e=>hbg (by cases e; rfl)
     have hszz:=HSZ.out
     refine ⟨hfr b (by omega) n0 ht,?_⟩
     have n1:b ≠ wb:=fun e=>by
      have:=HA.out.tb
      rw [<- e,ht] at this
      cases this
     have n2:(Value.slice ia mss.length ic).ownBlock ≠ some b:=fun e=>by
      have:=HA.out.tm b (by rw [HVI.out]; exact e)
      rw [ht] at this
      cases this
     rw [Below.heap_setCell _ _ _ _ n1,G2.out.block b (by simp; omega) (fun e=>n2 e.symm),HBA.out.block b (by omega),HOT.out b hbg]
    ·refine Below.setCell ?_ HA.out.hb _
     exact (HBL.out.alloc hBr _).grown G2.out (by simp; omega) (fun g hg=>(ownsRow_block RI.out hg).1)
end
end Go.Proofs.YtbkfildnijjioaaGreat

namespace Go.Proofs.YtbkfildnijjioaaGreat
open Go.RowKit
namespace R
end R
section
variable {PK:KP} {B:Nat} {w:World} {bb kb sb:Nat} {P Q:Nat->Prop} {s:RS}
set_option maxHeartbeats 1000000 in
theorem lOwner_any (f:KFrame PK) (c:COwner PK) (l:LK PK B w bb kb sb P Q s) (m:Int) :
  Calls Tryz.prog 44 #[.pointer (some ⟨bb,0,none⟩),.int .i64 m] w fun e w'=>e=.returned (.bool true)/\Below w.heap.size w w':=by
 have c0:=l.blk.cell 0
 simp at c0
 have L:=hid l
 have C1:=hid (c P w kb s l.pk m)
 have hol:s.owner.length<=8:=by have:=l.rk.inv.good.own; have:=l.rk.inv.good.mfew; omega
 clear l
 by_cases hm:0<=m/\m < s.owner.length
 ·have e1:R.ownerV s m=s.owner.getD m.toNat 0:=by unfold R.ownerV; rw [if_pos hm]
  have e2:R.ownerE s m=0:=by unfold R.ownerE; rw [if_pos hm]
  rw [e1,e2] at C1
  obtain ⟨hm0,hm1⟩:=hm
  obtain ⟨k,rfl⟩:=Int.eq_ofNat_of_zero_le hm0
  have hk:k < s.owner.length:=by omega
  have e3:s.owner.getD (Int.toNat (k:Int)) 0=s.owner[k]:=by simp [List.getD,hk]
  rw [e3] at C1
  clear e1 e2 e3
  go_enter Tryz.func44,Tryz.ntmps44
  go_wp2_with fail
  refine C1.out.mono ?_
  rintro e w1 ⟨rfl,hb1⟩
  have L1:=hid (L.out.below f hb1)
  have c1:=L1.out.blk.cell 1
  simp at c1
  obtain ⟨F,h,m,_,_⟩:=L1.out.rk.mem
  obtain ⟨go,co,hvO,hco,_⟩:=m.ownAt (by omega)
  have c9:=m.blk.cell 9
  simp [rsCells] at c9
  rw [hvO] at c9
  have ck:=hco k hk
  have HB:=hid hb1
  clear m hvO hco hb1 c0
  generalize s.owner[k]=ok at *
  go_wp2
  go_ret
  exact ⟨by simp,HB.out⟩
 ·have e1:R.ownerV s m=0:=by unfold R.ownerV; rw [if_neg hm]
  have e2:R.ownerE s m=7:=by unfold R.ownerE; rw [if_neg hm]
  rw [e1,e2] at C1
  clear e1 e2
  go_enter Tryz.func44,Tryz.ntmps44
  go_wp2_with fail
  refine C1.out.mono ?_
  rintro e w1 ⟨rfl,hb1⟩
  have L1:=hid (L.out.below f hb1)
  have c1:=L1.out.blk.cell 1
  simp at c1
  obtain ⟨F,h,mm,_,_⟩:=L1.out.rk.mem
  obtain ⟨ao,co,hvO,_,_⟩:=owns_cells mm.oth.own
  have c9:=mm.blk.cell 9
  simp [rsCells] at c9
  rw [hvO] at c9
  have HB:=hid hb1
  clear mm hvO hb1 c0
  by_cases hneg:m < 0
  ·go_wp2
   go_ret
   exact ⟨rfl,HB.out⟩
  ·have hge:(s.owner.length:Int)<=m:=by omega
   go_wp2
   go_ret
   exact ⟨rfl,HB.out⟩
set_option maxHeartbeats 1000000 in
theorem lCount_any (f:KFrame PK) (c:CCount PK) (l:LK PK B w bb kb sb P Q s) (m:Int) :
  Calls Tryz.prog 45 #[.pointer (some ⟨bb,0,none⟩),.int .i64 m] w fun e w'=>e=.returned (.bool true)/\Below w.heap.size w w':=by
 have c0:=l.blk.cell 0
 simp at c0
 have L:=hid l
 have C1:=hid (c P w kb s l.pk m)
 have hol:s.count.length<=4:=l.rk.inv.toRMid.store.c4
 clear l
 by_cases hm:0<=m/\m < s.count.length
 ·have e1:R.countV s m=s.count.getD m.toNat 0:=by unfold R.countV; rw [if_pos hm]
  have e2:R.countE s m=0:=by unfold R.countE; rw [if_pos hm]
  rw [e1,e2] at C1
  obtain ⟨hm0,hm1⟩:=hm
  obtain ⟨k,rfl⟩:=Int.eq_ofNat_of_zero_le hm0
  have hk:k < s.count.length:=by omega
  have e3:s.count.getD (Int.toNat (k:Int)) 0=s.count[k]:=by simp [List.getD,hk]
  rw [e3] at C1
  clear e1 e2 e3
  go_enter Tryz.func45,Tryz.ntmps45
  go_wp2_with fail
  refine C1.out.mono ?_
  rintro e w1 ⟨rfl,hb1⟩
  have L1:=hid (L.out.below f hb1)
  have c1:=L1.out.blk.cell 1
  simp at c1
  obtain ⟨F,h,m,_,_⟩:=L1.out.rk.mem
  obtain ⟨go,co,hvO,hco,_⟩:=m.cntAt (by omega)
  have c9:=m.blk.cell 10
  simp [rsCells] at c9
  rw [hvO] at c9
  have ck:=hco k hk
  have HB:=hid hb1
  clear m hvO hco hb1 c0
  generalize s.count[k]=ok at *
  go_wp2
  go_ret
  exact ⟨by simp,HB.out⟩
 ·have e1:R.countV s m=0:=by unfold R.countV; rw [if_neg hm]
  have e2:R.countE s m=7:=by unfold R.countE; rw [if_neg hm]
  rw [e1,e2] at C1
  clear e1 e2
  go_enter Tryz.func45,Tryz.ntmps45
  go_wp2_with fail
  refine C1.out.mono ?_
  rintro e w1 ⟨rfl,hb1⟩
  have L1:=hid (L.out.below f hb1)
  have c1:=L1.out.blk.cell 1
  simp at c1
  obtain ⟨F,h,mm,_,_⟩:=L1.out.rk.mem
  obtain ⟨ao,co,hvO,_,_⟩:=owns_cells mm.oth.cnt
  have c9:=mm.blk.cell 10
  simp [rsCells] at c9
  rw [hvO] at c9
  have HB:=hid hb1
  clear mm hvO hb1 c0
  by_cases hneg:m < 0
  ·go_wp2
   go_ret
   exact ⟨rfl,HB.out⟩
  ·have hge:(s.count.length:Int)<=m:=by omega
   go_wp2
   go_ret
   exact ⟨rfl,HB.out⟩
end
end Go.Proofs.YtbkfildnijjioaaGreat

namespace Go.Proofs.YtbkfildnijjioaaGreat
open Go.RowKit
section
variable {PK:KP} {B:Nat} {w:World} {bb kb sb:Nat} {P Q:Nat->Prop} {s:RS}
end
end Go.Proofs.YtbkfildnijjioaaGreat

namespace Go.Proofs.YtbkfildnijjioaaGreat
open Go.RowKit
section
variable {PK:KP} {B:Nat} {w:World} {bb kb sb:Nat} {P Q:Nat->Prop} {s:RS}
end
end Go.Proofs.YtbkfildnijjioaaGreat
