import Derived.Test.YtbkfildnijjioaaGreatA08
import Derived.Test.YtbkfildnijjioaaGreatA07
import Derived.Test.YtbkfildnijjioaaGreatA02
import Derived.Deep.QuietTactic
import Derived.BigQuiet
namespace Go.Proofs.YtbkfildnijjioaaGreat
theorem R.on_spec (T:List RT) (w:Int) (h:0<=R.on T w):(R.th T (R.on T w).toNat).wkr=w:=by
 unfold R.on P3.badOr at h ⊢
 split at h
 ·rename_i hl
  rw [if_pos hl]
  have:=List.findIdx_getElem (p:=fun x:RT=>!(x.wkr != w)) (xs:=T) (w:=hl)
  have e:((P3.bad (fun x:RT=>x.wkr != w) T:Int)).toNat=P3.bad (fun x:RT=>x.wkr != w) T:=by omega
  rw [e,th_ext hl]
  have h3:(!((T[P3.bad (fun x:RT=>x.wkr != w) T]'hl).wkr != w))=true:=this
  simpa using h3
 ·omega
theorem RInv.pick {s:RS} (h:RInv s) (wk:Int) (hnx:s.next<=4611686018427386000):RInv (R.pickS s wk):=by
 unfold R.pickS
 split
 ·exact h
 split
 ·exact h
 ·rename_i hw hon
  obtain ⟨o0,o1⟩:=R.on_bd s.T wk
  have hsp:=R.on_spec s.T wk (by omega)
  have ht:(R.on s.T wk).toNat < s.T.length:=by omega
  generalize (R.on s.T wk).toNat=t at *
  rw [th_ext ht] at hsp
  have haw:s.T[t].awake=true:=h.wk t ht (by rw [hsp]; omega)
  have hx:=h.thr t ht
  have hol:s.owner.length<=8:=by have:=h.good.own; have:=h.good.mfew; omega
  have htc:t < s.set.threads.length:=by have:=h.good.len; omega
  have ecl:R.codeLen s.set t=s.set.threads[t].code.length:=by simp [R.codeLen,List.getD,htc]
  have eI:R.instrAt s t=(s.set.threads[t].code)[s.T[t].at_.toNat]?.getD ⟨0,0,0⟩:=by
   unfold R.instrAt
   rw [th_ext ht]
   simp [List.getD,htc]
  refine RMid.settle ?_
  unfold R.actS
  split
  ·exact h.toRMid.stops hnx t ht haw
  ·rename_i hop
   have hlt:s.T[t].at_.toNat < s.set.threads[t].code.length:=by
    rcases Nat.lt_or_ge s.T[t].at_.toNat s.set.threads[t].code.length with h' | h'
    ·exact h'
    ·rw [eI,List.getElem?_eq_none h'] at hop
     exact absurd rfl hop
   have eI2:R.instrAt s t=s.set.threads[t].code[s.T[t].at_.toNat]:=by rw [eI]; simp [hlt]
   have hins:=h.toRMid.ins t htc _ (List.getElem_mem hlt)
   rw [<- eI2] at hins
   have h0:=hx.at0
   have hat:∀ v:Int,0<=v->v<=R.codeLen s.set t->RMid (R.toAt s t v):=fun v a b=>h.toRMid.modify t _ (fun _ hx=>hx.at_ v a b)
   rw [th_ext ht]
   split
   ·rename_i h3
    obtain ⟨b0,b1⟩:=hins.2.1 h3
    split
    ·exact hat _ b0 (by rw [ecl]; exact b1)
    ·exact hat _ (by omega) (by rw [ecl]; omega)
   ·have hm:=hat (s.T[t].at_ + 1) (by omega) (by rw [ecl]; omega)
    have ht2:t < (R.toAt s t (s.T[t].at_ + 1)).T.length:=by simp [R.toAt]; exact ht
    have haw2:(R.toAt s t (s.T[t].at_ + 1)).T[t].awake=true:=by simp [R.toAt]; exact haw
    exact (hm.does (by show s.next<=_; omega) t ht2 haw2 _ (hins.1.like (like_toAt s t _))).modify t _ (fun _ hx=>hx.last _)
theorem R.dueTo_spec (T:List RT) (now:Int) (k:Nat) (h:0<=R.dueTo T now k):(R.th T (R.dueTo T now k).toNat).for_ ≠ 0:=by
 induction k with
 | zero=>simp [R.dueTo] at h
 | succ k ih =>
  unfold R.dueTo at h ⊢
  split at h
  ·rename_i hc
   rw [if_pos hc]
   simpa using hc.1
  ·rename_i hc
   rw [if_neg hc]
   exact ih h
theorem endsTo_all {Q:Nat->RT->Prop} {s:RS} (h:AllT Q s.T) (k:Nat) (step:∀ (u:Nat) (x:RT) (c n:Int),Q u x->x.for_ ≠ 0->Q u { x with for_:=0,of_:=0,until_:=0,last:=c,awake:=true,tick:=n }):AllT Q (R.endsTo s k).T:=by
 induction k with
 | zero=>exact h
 | succ k ih =>
  unfold R.endsTo R.endOne
  split
  ·exact ih
  ·rename_i hd
   refine endW_all ih fun ht n hx=>step _ _ _ n hx ?_
   have:=R.dueTo_spec (R.endsTo s k).T (R.endsTo s k).now (R.endsTo s k).T.length (by unfold R.due at hd; omega)
   rw [<- th_ext ht]
   exact this
theorem endsTo_rest (s:RS) (k:Nat):(R.endsTo s k).count=s.count/\(R.endsTo s k).box=s.box/\(R.endsTo s k).missed=s.missed:=by
 induction k with
 | zero=>exact ⟨rfl,rfl,rfl⟩
 | succ k ih =>
  unfold R.endsTo R.endOne
  split
  ·exact ih
  ·obtain ⟨h1,h2,h3,h4,h5,h6,h7,h8⟩:=endW_parts (R.endsTo s k) (R.due (R.endsTo s k)).toNat (if (R.th (R.endsTo s k).T (R.due (R.endsTo s k)).toNat).for_=4 then 0 else 2)
   exact ⟨h6.trans ih.1,h7.trans ih.2.1,h8.trans ih.2.2⟩
theorem releaseTo_rest (s:RS) (k:Nat):(R.releaseTo s k).count=s.count/\(R.releaseTo s k).box=s.box/\(R.releaseTo s k).missed=s.missed:=by
 induction k with
 | zero=>exact ⟨rfl,rfl,rfl⟩
 | succ k ih =>
  unfold R.releaseTo R.releaseOne R.wake
  split
  ·split
   ·exact ih
   ·exact ih
  ·exact ih
theorem releaseTo_all {s:RS} {S:SetD} {now:Int} {nO:Nat} (hS:s.set=S) (hn:s.now=now) (hoff:∀ t,0<=(S.threads.getD t P3.none0).period) (h:AllT (TOk S (now - 1) nO) s.T) (k:Nat) :
  AllT (fun t x=>if t < k then TOk S now nO t x else TOk S (now - 1) nO t x) (R.releaseTo s k).T:=by
 induction k with
 | zero=>exact h.mono (fun t x hx=>by rw [if_neg (by omega)]; exact hx)
 | succ k ih =>
  unfold R.releaseTo
  have hset:(R.releaseTo s k).set=S:=(R.releaseTo_set s k).trans hS
  have hnow:(R.releaseTo s k).now=now:=(R.releaseTo_now s k).trans hn
  have other:∀ i x,i ≠ k->(if i < k then TOk S now nO i x else TOk S (now - 1) nO i x)->(if i < k + 1 then TOk S now nO i x else TOk S (now - 1) nO i x):=by
   intro i x hi hx
   by_cases e:i < k
   ·rw [if_pos e] at hx
    rw [if_pos (by omega)]
    exact hx
   ·rw [if_neg e] at hx
    rw [if_neg (by omega)]
    exact hx
  obtain ⟨st1,st2⟩:=relBy_step S k now (hoff k)
  generalize R.releaseTo s k=sk at *
  unfold R.releaseOne R.numberAt
  rw [hset,hnow]
  split
  ·rename_i hp
   rw [if_pos hp] at st1
   have hrel:=st2 hp
   generalize R.number (S.threads.getD k P3.none0).period (now - S.start - (S.threads.getD k P3.none0).offset - 0)=num at *
   by_cases hl:k < sk.T.length
   ·rw [th_ext hl]
    split
    ·rename_i he
     have e:(R.wake { sk with T:=sk.T.modify k (fun x=>{ x with rel:=num + 1 }) } k).T=sk.T.modify k (fun x=>{ x with rel:=num + 1,awake:=true,tick:=sk.next + 1 }):=by
      simp only [R.wake,List.modify_modify_eq]
      rfl
     show AllT _ (R.wake { sk with T:=sk.T.modify k (fun x=>{ x with rel:=num + 1 }) } k).T
     rw [e]
     refine ih.modify other (fun _ hx=>?_)
     rw [if_neg (by omega)] at hx
     rw [if_pos (by omega)]
     have hr:=hx.r0
     have he1:=hx.e1
     refine ⟨hx.at0,hx.at1,hx.e0,by show sk.T[k].ended<=num + 1; omega,by show num + 1=_; omega,fun _=>(by show sk.T[k].ended < num + 1; omega),fun hf=>?_,fun hh=>(by cases hh),hx.of1,hx.fr⟩
     have:=(hx.fw hf).1
     omega
    ·rename_i hne
     refine ih.modify other (fun _ hx=>?_)
     rw [if_neg (by omega)] at hx
     rw [if_pos (by omega)]
     have hr:=hx.r0
     have he1:=hx.e1
     refine ⟨hx.at0,hx.at1,hx.e0,by show sk.T[k].ended<=num + 1; omega,by show num + 1=_; omega,fun _=>(by show sk.T[k].ended < num + 1; omega),fun hf=>⟨(by show sk.T[k].ended < num + 1; omega),(hx.fw hf).2⟩,fun ha hf=>?_,hx.of1,hx.fr⟩
     have:=hx.id ha hf
     exact absurd this.symm hne
   ·have em:∀ f:RT->RT,sk.T.modify k f=sk.T:=by
     intro f
     apply List.ext_getElem
     ·simp
     ·intro i h1 h2
      rw [List.getElem_modify,if_neg (by omega)]
    split
    ·show AllT _ ((sk.T.modify k _).modify k _)
     rw [em,em]
     intro i hi
     exact other i _ (by omega) (ih i hi)
    ·show AllT _ (sk.T.modify k _)
     rw [em]
     intro i hi
     exact other i _ (by omega) (ih i hi)
  ·rename_i hp
   rw [if_neg hp] at st1
   intro i hi
   by_cases e:i=k
   ·subst e
    have hx:TOk S (now - 1) nO i sk.T[i]:=by
     have:=ih i hi
     simp only [Nat.lt_irrefl,if_false] at this
     exact this
    rw [if_pos (by omega)]
    exact ⟨hx.at0,hx.at1,hx.e0,hx.e1,by rw [st1]; exact hx.r0,hx.aw,hx.fw,hx.id,hx.of1,hx.fr⟩
   ·exact other i _ e (ih i hi)
theorem off_all {S:SetD} (h:∀ t ∈ S.threads,0<=t.offset/\t.offset<=1000/\0<=t.period/\t.period<=1000/\0<=t.deadline/\t.deadline<=1000) (t:Nat):0<=(S.threads.getD t P3.none0).period:=by
 by_cases ht:t < S.threads.length
 ·have e:S.threads.getD t P3.none0=S.threads[t]:=by simp [List.getD,ht]
  rw [e]
  exact (h _ (List.getElem_mem ht)).2.2.1
 ·simp [List.getD,ht,P3.none0]
theorem released {s:RS} (g:RGood s) (hnx:s.next<=4611686018427387000) (b:RBounds s) (ok:P3.err s.set=0) (o:OwnOk s) (t:AllT (TOk s.set (s.now - 1) s.owner.length) s.T) (m:(s.missed.length:Int)<=16 * (s.now - s.set.start)):RInv (R.settle (R.release s)):=by
 have hs:(R.release s).set=s.set:=R.releaseTo_set _ _
 have hn:(R.release s).now=s.now:=R.releaseTo_now _ _
 have hl:(R.release s).T.length=s.T.length:=R.releaseTo_len _ _
 have ho:(R.release s).owner=s.owner:=releaseTo_owner _ _
 obtain ⟨c1,c2,c3⟩:=releaseTo_rest s s.T.length
 have c1':(R.release s).count=s.count:=c1
 have c2':(R.release s).box=s.box:=c2
 have c3':(R.release s).missed=s.missed:=c3
 have ha:=releaseTo_all (s:=s) rfl rfl (off_all g.off) t s.T.length
 refine RMid.settle ⟨good_release g hnx,⟨by rw [c1',hs]; exact b.cs,?_,by rw [c2',hs]; exact b.qs,?_⟩,by rw [hs]; exact ok,?_,?_,by rw [c3',hn,hs]; exact m⟩
 ·rw [hs]
  intro k hk
  simp only [c1'] at hk ⊢
  exact b.cb k hk
 ·rw [hs]
  intro k hk
  simp only [c2'] at hk ⊢
  exact b.qb k hk
 ·intro i hi
  rw [hl]
  simp only [ho] at hi ⊢
  exact o i hi
 ·rw [hs,hn,ho]
  intro i hi
  have:=ha i hi
  have hl':i < s.T.length:=by rw [<- hl]; exact hi
  simp only [if_pos hl'] at this
  exact this
theorem RInv.tick {s:RS} (h:RInv s) (hnow:s.now < 1000000000) (hnx:s.next<=4611686018427386000):RInv (R.tick s):=by
 have g0:=good_missing h.good hnow
 have hfew:=h.good.few
 obtain ⟨a,b,c,d,e,f⟩:=R.endsTo_set (R.missing s) (R.missing s).T.length
 obtain ⟨c1,c2,c3⟩:=endsTo_rest (R.missing s) (R.missing s).T.length
 have hnx1:(R.missing s).next=s.next:=rfl
 have hl1:(R.missing s).T.length=s.T.length:=rfl
 have ha:AllT (TOk s.set s.now s.owner.length) (R.endsTo (R.missing s) (R.missing s).T.length).T  :=endsTo_all (s:=R.missing s) (show AllT (TOk s.set s.now s.owner.length) (R.missing s).T from h.thr) _ (fun u x c n hx hf=>hx.awoken hf c n)
 have hll:=R.lateTo_len (R.ticked s) s.T.length
 unfold R.tick R.ends
 refine released (good_endsTo g0 (by omega) _ (by omega)) (by omega) ⟨by rw [c1,a]; exact h.bnd.cs,?_,by rw [c2,a]; exact h.bnd.qs,?_⟩ (by rw [a]; exact h.ok) ?_ ?_ ?_
 ·rw [a]
  intro k hk
  simp only [c1] at hk ⊢
  exact h.bnd.cb k hk
 ·rw [a]
  intro k hk
  simp only [c2] at hk ⊢
  exact h.bnd.qb k hk
 ·intro i hi
  rw [d]
  simp only [c] at hi ⊢
  exact h.own i hi
 ·rw [a,b,c]
  have e1:(R.missing s).now - 1=s.now:=by show s.now + 1 - 1=s.now; omega
  rw [e1]
  exact ha
 ·rw [c3,b,a]
  have e2:(R.missing s).missed=s.missed ++ R.lateTo (R.ticked s) s.T.length:=rfl
  have e3:(R.missing s).now=s.now + 1:=rfl
  have e4:(R.missing s).set=s.set:=rfl
  rw [e2,e3,e4,List.length_append]
  have:=h.mis
  omega
theorem inv_new {S:SetD} (h:P3.err S=0):RInv (R.new S):=by
 have g:=good_bare h
 have hx:(R.bare S).next=0:=rfl
 unfold R.new
 refine released g (by rw [hx]; decide) ⟨by simp [R.bare],fun k hk=>?_,by simp [R.bare],fun k hk=>?_⟩ h (fun i hi=>?_) ?_ ?_
 ·have hk':k < S.sems.length:=by simpa [R.bare] using hk
  have:=ok_sem (s:=R.bare S) h k hk'
  have e:(R.bare S).count[k]=(S.sems.getD k R.pair0).x:=by simp [R.bare,List.getD,hk']
  rw [e]
  exact ⟨this.2.2.1,this.2.2.2⟩
 ·have hk':k < S.queues.length:=by simpa [R.bare] using hk
  have:=ok_queue (s:=R.bare S) h k hk'
  have e:(R.bare S).box[k]=[]:=by simp [R.bare]
  rw [e]
  simp only [List.length_nil]
  have h2:=this.1
  show (0:Int)<=(R.bare S).set.queues.getD k 0
  omega
 ·have e:(R.bare S).owner[i]=-1:=by simp [R.bare]
  rw [e]
  exact ⟨Int.le_refl _,by omega⟩
 ·intro t ht
  have ht':t < S.threads.length:=by simpa [R.bare] using ht
  have ho:=g.off S.threads[t] (List.getElem_mem ht')
  have ed:S.threads.getD t P3.none0=S.threads[t]:=by simp [List.getD,ht']
  have hr:R.relBy (R.bare S).set t ((R.bare S).now - 1)=0:=by
   unfold R.relBy
   rw [if_pos]
   show S.start - 1 - S.start - (S.threads.getD t P3.none0).offset < 0
   rw [ed]
   omega
  have e:(R.bare S).T[t]={ R.rt0 with base:=S.threads[t].base,wkr:=-1 }:=by simp [R.bare]
  rw [e]
  refine ⟨Int.le_refl _,?_,Int.le_refl _,Int.le_refl _,hr.symm,fun hh=>?_,fun hh=>absurd rfl hh,fun _ _=>rfl,fun hh=>?_,by simp [R.rt0]⟩
  ·show (0:Int)<=(R.codeLen S t:Int)
   omega
  ·simp [R.rt0] at hh
  ·simp [R.rt0] at hh
 ·show ((([]:List MissD)).length:Int)<=16 * (S.start - S.start)
  simp
end Go.Proofs.YtbkfildnijjioaaGreat

namespace Go.Proofs.YtbkfildnijjioaaGreat
open Go.RowKit
def R.things (s:RS) (what:Int):Int:=if what=1 then s.owner.length else if what=2 then s.count.length else if what=3 then s.box.length else 0
def lenV:Value->Nat
 | .slice _ n _=>n
 | _=>0
theorem R.waitTo_stop (s:RS) (what of_:Int) (k:Nat) (h:R.first s what of_ (R.waitTo s what of_ k) < 0) (j:Nat):R.waitTo s what of_ (k + j)=R.waitTo s what of_ k:=by
 induction j with
 | zero=>rfl
 | succ j ih =>
  show (if R.first s what of_ (R.waitTo s what of_ (k + j)) < 0 then R.waitTo s what of_ (k + j) else R.waitTo s what of_ (k + j) ++ [R.first s what of_ (R.waitTo s what of_ (k + j))])=_
  rw [ih,if_pos h]
end Go.Proofs.YtbkfildnijjioaaGreat

namespace Go.Proofs.YtbkfildnijjioaaGreat
open Go.RowKit
def MissesIn (B:Nat) (w:World) (ao:Option Addr) (l:List MissD):Prop :=
 ∀ i (h:i < l.length),∃ b o,ao=some ⟨b,o,none⟩/\b < B/\w.cell? ⟨b,o + i * 3,none⟩=some (.int .i64 l[i].thread)/\w.cell? ⟨b,o + i * 3 + 1,none⟩=some (.int .i64 l[i].job) /\
  w.cell? ⟨b,o + i * 3 + 2,none⟩=some (.int .i64 l[i].time)
end Go.Proofs.YtbkfildnijjioaaGreat

namespace Go.Proofs.YtbkfildnijjioaaGreat
open Go.RowKit
abbrev KP:=(Nat->Prop)->World->Nat->RS->Prop
structure KFrame (PK:KP):Prop where
 lt:∀ {Q:Nat->Prop} {w:World} {kb:Nat} {s:RS},PK Q w kb s->∀ b,Q b->b < w.heap.size
 frame:∀ {Q:Nat->Prop} {w w':World} {kb:Nat} {s:RS},PK Q w kb s->(∀ b,Q b->w'.heap[b]?=w.heap[b]?)->w.heap.size<=w'.heap.size->PK Q w' kb s
theorem KFrame.below {PK:KP} (f:KFrame PK) {Q:Nat->Prop} {w w':World} {kb:Nat} {s:RS} (k:PK Q w kb s) (hb:Below w.heap.size w w'):PK Q w' kb s:=f.frame k (fun b h=>hb.block b (f.lt k b h)) hb.size
namespace R
def lookV (s:RS) (t:Int):Value:=if 0<=t/\t < s.T.length then viewV (th s.T t.toNat) (Level s t.toNat) else noView
def lookE (s:RS) (t:Int):Int:=if 0<=t/\t < s.T.length then 0 else 7
def tickS (s:RS):RS:=if s.now=1000000000 then s else tick s
def tickE (s:RS):Int:=if s.now=1000000000 then 8 else 0
def tickL (s:RS):List MissD:=if s.now=1000000000 then [] else late (ticked s)
end R
def CNow (PK:KP):Prop:=∀ Q w kb s,PK Q w kb s->Calls Tryz.prog 42 #[.pointer (some ⟨kb,0,none⟩)] w fun e w'=>e=.returned (.int .i64 s.now)/\Below w.heap.size w w'
def CRunning (PK:KP):Prop:=∀ Q w kb s,PK Q w kb s->Calls Tryz.prog 63 #[.pointer (some ⟨kb,0,none⟩)] w fun e w'=>∃ v,e=.returned v/\w'.ownsRow w.heap.size 3 1 v (R.running s).length (intCells (R.running s))/\Below w.heap.size w w'
def CMisses (PK:KP):Prop:=∀ Q w kb s,PK Q w kb s->Calls Tryz.prog 85 #[.pointer (some ⟨kb,0,none⟩)] w fun e w'=>∃ v,e=.returned v/\w'.ownsRow w.heap.size 95 3 v s.missed.length (missCells s.missed)/\Below w.heap.size w w'
def CLook (PK:KP):Prop:=∀ Q w kb s,PK Q w kb s->∀ t:Int,Calls Tryz.prog 86 #[.pointer (some ⟨kb,0,none⟩),.int .i64 t] w fun e w'=>e=.returned (.tuple #[R.lookV s t,.int .i64 (R.lookE s t)])/\Below w.heap.size w w'
def CPick (PK:KP):Prop:=∀ Q w kb s,PK Q w kb s->s.next<=4611686018427386000->∀ wk:Int,Calls Tryz.prog 93 #[.pointer (some ⟨kb,0,none⟩),.int .i64 wk] w fun e w' =>
 e=.returned (.tuple #[.agg #[.int .i64 (R.pickT s wk),.int .i64 (R.pickA s wk),.int .i64 (R.pickC s wk)],.int .i64 (R.pickE s wk)])/\∃ Q',PK Q' w' kb (R.pickS s wk)/\(∀ b,Q' b->Q b\/w.heap.size<=b)/\Turns Q w w'
def CTick (PK:KP):Prop:=∀ Q w kb s,PK Q w kb s->s.next<=4611686018427386000->Calls Tryz.prog 81 #[.pointer (some ⟨kb,0,none⟩)] w fun e w' =>
 ∃ v Q',e=.returned (.tuple #[v,.int .i64 (R.tickE s)])/\w'.ownsRow w.heap.size 95 3 v (R.tickL s).length (missCells (R.tickL s))/\PK Q' w' kb (R.tickS s)/\(∀ b,Q' b->Q b\/w.heap.size<=b)/\(∀ b,v.ownBlock=some b->¬ Q' b)/\Turns Q w w'
section
variable {PK:KP} {B:Nat} {w:World} {bb kb sb:Nat} {P Q:Nat->Prop} {s:RS}
theorem MissesIn.of_owns {w:World} {base:Nat} {v:Value} {l:List MissD} (h:w.ownsRow base 95 3 v l.length (missCells l)) :
  ∃ ao cap,v=.slice ao l.length cap/\(ao=none->cap=0)/\MissesIn w.heap.size w ao l:=by
 obtain ⟨ao,cap,rfl,hn,ha⟩:=owns_cells h
 refine ⟨ao,cap,rfl,fun hh=>(hn hh).2,fun i hi=>?_⟩
 cases ao with
 | none=>have:=(hn rfl).1; omega
 | some a =>
  obtain ⟨g,rfl,_,hlt,_,hc⟩:=ha a rfl
  have hm:∀ j,j < 3->(missCells l)[i * 3 + j]?=[Value.int .i64 l[i].thread,.int .i64 l[i].job,.int .i64 l[i].time][j]?:=by
   clear hc ha h hn
   induction l generalizing i with
   | nil=>simp at hi
   | cons x l ih =>
    intro j hj
    cases i with
    | zero =>
     simp only [missCells,List.flatMap_cons,Nat.zero_mul,Nat.zero_add,List.getElem_cons_zero]
     rw [List.getElem?_append_left (by simp; omega)]
    | succ i =>
     have:=ih i (by simpa using hi) j hj
     simp only [missCells,List.flatMap_cons,List.getElem_cons_succ] at this ⊢
     rw [List.getElem?_append_right (by simp; omega)]
     simpa [show (i + 1) * 3 + j - 3=i * 3 + j by omega] using this
  refine ⟨g,0,rfl,hlt,?_,?_,?_⟩
  ·have:=hm 0 (by omega)
   rw [Nat.zero_add,hc _ (by omega)]
   simpa using this
  ·have:=hm 1 (by omega)
   rw [Nat.zero_add,hc _ (by omega)]
   simpa using this
  ·have:=hm 2 (by omega)
   rw [Nat.zero_add,hc _ (by omega)]
   simpa using this
theorem IntsIn.on {w w':World} {ao:Option Addr} {l:List Int} (h:IntsIn w.heap.size w ao l) (hb:Below w.heap.size w w'):IntsIn w'.heap.size w' ao l:=by
 intro i hi
 obtain ⟨b,o,ha,hl,hc⟩:=h i hi
 exact ⟨b,o,ha,Nat.lt_of_lt_of_le hl hb.size,(hb.cell (p:=⟨b,o + i,none⟩) hl).trans hc⟩
theorem MissesIn.on {w w':World} {ao:Option Addr} {l:List MissD} (h:MissesIn w.heap.size w ao l) (hb:Below w.heap.size w w'):MissesIn w'.heap.size w' ao l:=by
 intro i hi
 obtain ⟨b,o,ha,hl,h0,h1,h2⟩:=h i hi
 exact ⟨b,o,ha,Nat.lt_of_lt_of_le hl hb.size,(hb.cell (p:=⟨b,o + i * 3,none⟩) hl).trans h0,(hb.cell (p:=⟨b,o + i * 3 + 1,none⟩) hl).trans h1,(hb.cell (p:=⟨b,o + i * 3 + 2,none⟩) hl).trans h2⟩
theorem running_len (s:RS):(R.running s).length=s.set.workers.toNat:=by simp [R.running]
theorem lookV_shape (s:RS) (t:Int):∃ v0 v1 v2 v3 v4 v5 v6 v7 v8 v9 v10:Int,R.lookV s t=.agg #[.int .i64 v0,.int .i64 v1,.int .i64 v2,.int .i64 v3,.int .i64 v4,.int .i64 v5,.int .i64 v6,.int .i64 v7,.int .i64 v8,.int .i64 v9,.int .i64 v10]:=by
 unfold R.lookV
 split
 ·exact ⟨_,_,_,_,_,_,_,_,_,_,_,rfl⟩
 ·exact ⟨_,_,_,_,_,_,_,_,_,_,_,rfl⟩
end
end Go.Proofs.YtbkfildnijjioaaGreat

namespace Go.Proofs.YtbkfildnijjioaaGreat
open Go.RowKit
namespace R
def ownerV (s:RS) (m:Int):Int:=if 0<=m/\m < s.owner.length then s.owner.getD m.toNat 0 else 0
def ownerE (s:RS) (m:Int):Int:=if 0<=m/\m < s.owner.length then 0 else 7
def countV (s:RS) (m:Int):Int:=if 0<=m/\m < s.count.length then s.count.getD m.toNat 0 else 0
def countE (s:RS) (m:Int):Int:=if 0<=m/\m < s.count.length then 0 else 7
def boxL (s:RS) (m:Int):List Int:=if 0<=m/\m < s.box.length then s.box.getD m.toNat [] else []
def boxE (s:RS) (m:Int):Int:=if 0<=m/\m < s.box.length then 0 else 7
def waitL (s:RS) (what i:Int):List Int:=if i < 0\/R.things s what<=i then [] else R.waiting s what i
def waitE (s:RS) (what i:Int):Int:=if i < 0\/R.things s what<=i then 7 else 0
end R
def COwner (PK:KP):Prop:=∀ Q w kb s,PK Q w kb s->∀ m:Int,Calls Tryz.prog 89 #[.pointer (some ⟨kb,0,none⟩),.int .i64 m] w fun e w'=>e=.returned (.tuple #[.int .i64 (R.ownerV s m),.int .i64 (R.ownerE s m)])/\Below w.heap.size w w'
def CCount (PK:KP):Prop:=∀ Q w kb s,PK Q w kb s->∀ m:Int,Calls Tryz.prog 90 #[.pointer (some ⟨kb,0,none⟩),.int .i64 m] w fun e w'=>e=.returned (.tuple #[.int .i64 (R.countV s m),.int .i64 (R.countE s m)])/\Below w.heap.size w w'
def CMessages (PK:KP):Prop:=∀ Q w kb s,PK Q w kb s->∀ m:Int,Calls Tryz.prog 84 #[.pointer (some ⟨kb,0,none⟩),.int .i64 m] w fun e w'=>∃ v,e=.returned (.tuple #[v,.int .i64 (R.boxE s m)])/\w'.ownsRow w.heap.size 3 1 v (R.boxL s m).length (intCells (R.boxL s m))/\Below w.heap.size w w'
def CWaiting (PK:KP):Prop:=∀ Q w kb s,PK Q w kb s->∀ what i:Int,Calls Tryz.prog 82 #[.pointer (some ⟨kb,0,none⟩),.int .i64 what,.int .i64 i] w fun e w'=>∃ v,e=.returned (.tuple #[v,.int .i64 (R.waitE s what i)])/\w'.ownsRow w.heap.size 3 1 v (R.waitL s what i).length (intCells (R.waitL s what i))/\Below w.heap.size w w'
theorem waitTo_len (s:RS) (what i:Int) (k:Nat):(R.waitTo s what i k).length<=k:=by
 induction k with
 | zero=>simp [R.waitTo]
 | succ k ih =>
  unfold R.waitTo
  split
  ·omega
  ·simp
   omega
theorem waitL_len (s:RS) (what i:Int) (h:s.T.length<=16):(R.waitL s what i).length<=17:=by
 unfold R.waitL
 split
 ·simp
 ·have:=waitTo_len s what i (s.T.length + 1)
  unfold R.waiting
  omega
section
variable {PK:KP} {B:Nat} {w:World} {bb kb sb:Nat} {P Q:Nat->Prop} {s:RS}
end
end Go.Proofs.YtbkfildnijjioaaGreat

namespace Go.Proofs.YtbkfildnijjioaaGreat
open Go.RowKit
section
variable {F:Nat->Prop} {w:World} {kb:Nat} {h:KH} {s:RS} {tk wt:List Nat} {ws:List Int}
set_option maxHeartbeats 1000000 in
theorem kOwner_any (m:KMem F w kb h s tk wt ws) (f:KFit s) (i:Int) :
  Calls Tryz.prog 89 #[.pointer (some ⟨kb,0,none⟩),.int .i64 i] w fun e w'=>e=.returned (.tuple #[.int .i64 (R.ownerV s i),.int .i64 (R.ownerE s i)])/\Below w.heap.size w w':=by
 have c2:=m.blk.cell 2
 simp [kCells] at c2
 have hm8:=f.m8
 have M:=hid m
 clear m f
 by_cases hin:0<=i/\i < s.owner.length
 ·have E1:R.ownerV s i=s.owner.getD i.toNat 0:=by unfold R.ownerV; rw [if_pos hin]
  have E2:R.ownerE s i=0:=by unfold R.ownerE; rw [if_pos hin]
  rw [E1,E2]
  clear E1 E2
  obtain ⟨h0,h1⟩:=hin
  obtain ⟨k,rfl⟩:=Int.eq_ofNat_of_zero_le h0
  have hk:k < s.owner.length:=by omega
  have ek:s.owner.getD (Int.toNat (k:Int)) 0=s.owner[k]:=by simp [List.getD,hk]
  rw [ek]
  have b2:=M.out.mcell hk 2 (by decide)
  simp [kmCells] at b2
  generalize s.owner[k]=ow at *
  go_enter Tryz.func89,Tryz.ntmps89
  go_wp2
  exact bodyPost_ret (v:=.tuple #[.int .i64 ow,.int .i64 0]) (by simp [results,Tryz.results89,go_sem]) rfl ⟨rfl,Below.refl _ _⟩
 ·have E1:R.ownerV s i=0:=by unfold R.ownerV; rw [if_neg hin]
  have E2:R.ownerE s i=7:=by unfold R.ownerE; rw [if_neg hin]
  rw [E1,E2]
  clear E1 E2
  go_enter Tryz.func89,Tryz.ntmps89
  by_cases hneg:i < 0
  ·go_wp2
   exact bodyPost_ret (v:=.tuple #[.int .i64 0,.int .i64 7]) (by simp [results,Tryz.results89,go_sem]) rfl ⟨rfl,Below.refl _ _⟩
  ·have hge:(s.owner.length:Int)<=i:=by omega
   go_wp2
   exact bodyPost_ret (v:=.tuple #[.int .i64 0,.int .i64 7]) (by simp [results,Tryz.results89,go_sem]) rfl ⟨rfl,Below.refl _ _⟩
def K.things (s:RS) (what:Int):Int:=if what=1 then (s.owner.length:Int) else if what=2 then (s.count.length:Int) else if what=3 then (s.box.length:Int) else 0
set_option maxHeartbeats 1000000 in
theorem kHowMany_any (m:KMem F w kb h s tk wt ws) (f:KFit s) (what:Int) :
  Calls Tryz.prog 123 #[.pointer (some ⟨kb,0,none⟩),.int .i64 what] w fun e w'=>e=.returned (.int .i64 (K.things s what))/\w'=w:=by
 have c2:=m.blk.cell 2
 have c3:=m.blk.cell 3
 have c4:=m.blk.cell 4
 simp [kCells] at c2 c3 c4
 have hm8:=f.m8
 have ET:Hid (K.things s what=if what=1 then (s.owner.length:Int) else if what=2 then (s.count.length:Int) else if what=3 then (s.box.length:Int) else 0):=rfl
 clear m f
 generalize K.things s what=res at *
 go_enter Tryz.func123,Tryz.ntmps123
 by_cases h1:what=1
 ·have HE:Hid (res=(s.owner.length:Int)):=by rw [ET.out,if_pos h1]; exact hid rfl
  subst h1
  clear ET
  go_wp2
  go_ret
  exact ⟨ret_int HE.out.symm,rfl⟩
 ·have h1':(what == 1)=false:=by simpa using h1
  rw [if_neg h1] at ET
  by_cases h2:what=2
  ·have HE:Hid (res=(s.count.length:Int)):=by rw [ET.out,if_pos h2]; exact hid rfl
   subst h2
   clear ET
   go_wp2
   go_ret
   exact ⟨ret_int HE.out.symm,rfl⟩
  ·have h2':(what == 2)=false:=by simpa using h2
   rw [if_neg h2] at ET
   by_cases h3:what=3
   ·have HE:Hid (res=(s.box.length:Int)):=by rw [ET.out,if_pos h3]; exact hid rfl
    subst h3
    clear ET
    go_wp2
    go_ret
    exact ⟨ret_int HE.out.symm,rfl⟩
   ·have h3':(what == 3)=false:=by simpa using h3
    rw [if_neg h3] at ET
    go_wp2
    go_ret
    exact ⟨ret_int ET.out.symm,rfl⟩
set_option maxHeartbeats 1000000 in
theorem kWaiting_any (m:KMem F w kb h s tk wt ws) (f:KFit s) (a:Ln.WtOk s wt) (what i:Int) :
  Calls Tryz.prog 82 #[.pointer (some ⟨kb,0,none⟩),.int .i64 what,.int .i64 i] w fun e w' =>
   if 0<=i/\i < K.things s what then ∃ v,e=.returned (.tuple #[v,.int .i64 0])/\w'.ownsRow w.heap.size 3 1 v (Ln.lineW s wt what i).length (intCells (Ln.ints (Ln.lineW s wt what i)))/\Below w.heap.size w w'
   else e=.returned (.tuple #[.slice none 0 0,.int .i64 7])/\Below w.heap.size w w':=by
 have HM:=hid (kHowMany_any m f what)
 have WO:=hid (kWaitersInOrder_any m f.few f.ok f.m8 a what i)
 clear m f a
 generalize K.things s what=th at *
 generalize Ln.lineW s wt what i=L at *
 by_cases hin:0<=i/\i < th
 ·simp only [if_pos hin]
  obtain ⟨h0,h1⟩:=hin
  have hn0:(decide (i < 0))=false:=by simpa using h0
  have hn1:(decide (th<=i))=false:=by simpa using h1
  go_enter Tryz.func82,Tryz.ntmps82
  go_wp2_with fail
  refine HM.out.mono ?_
  rintro e w1 ⟨rfl,hw1⟩
  have hw2:=hw1.symm
  subst hw2
  clear hw1 HM
  go_wp2_with fail
  refine WO.out.mono ?_
  rintro e w1 ⟨v,rfl,hr1,hb1⟩
  obtain ⟨tv5,tc5,rfl,_,_⟩:=owns_cells hr1
  have R1:=hid hr1
  have HB1:=hid hb1
  clear hr1 hb1 WO
  go_wp2
  exact bodyPost_ret (v:=.tuple #[.slice tv5 L.length tc5,.int .i64 0]) (by simp [results,Tryz.results82,go_sem]) rfl ⟨_,rfl,R1.out,HB1.out⟩
 ·simp only [if_neg hin]
  go_enter Tryz.func82,Tryz.ntmps82
  by_cases hneg:i < 0
  ·go_wp2
   exact bodyPost_ret (v:=.tuple #[.slice none 0 0,.int .i64 7]) (by simp [results,Tryz.results82,go_sem]) rfl ⟨rfl,Below.refl _ _⟩
  ·have hge:th<=i:=by omega
   have hn0:(decide (i < 0))=false:=by simpa using hneg
   go_wp2_with fail
   refine HM.out.mono ?_
   rintro e w1 ⟨rfl,hw1⟩
   have hw2:=hw1.symm
   subst hw2
   clear hw1 HM
   go_wp2
   exact bodyPost_ret (v:=.tuple #[.slice none 0 0,.int .i64 7]) (by simp [results,Tryz.results82,go_sem]) rfl ⟨rfl,Below.refl _ _⟩
set_option maxHeartbeats 1000000 in
theorem kCount_any (m:KMem F w kb h s tk wt ws) (_hc8:s.count.length<=8) (i:Int) :
  Calls Tryz.prog 90 #[.pointer (some ⟨kb,0,none⟩),.int .i64 i] w fun e w'=>e=.returned (.tuple #[.int .i64 (R.countV s i),.int .i64 (R.countE s i)])/\Below w.heap.size w w':=by
 have c3:=m.blk.cell 3
 simp [kCells] at c3
 have M:=hid m
 clear m
 by_cases hin:0<=i/\i < s.count.length
 ·have E1:R.countV s i=s.count.getD i.toNat 0:=by unfold R.countV; rw [if_pos hin]
  have E2:R.countE s i=0:=by unfold R.countE; rw [if_pos hin]
  rw [E1,E2]
  clear E1 E2
  obtain ⟨h0,h1⟩:=hin
  obtain ⟨k,rfl⟩:=Int.eq_ofNat_of_zero_le h0
  have hk:k < s.count.length:=by omega
  have ek:s.count.getD (Int.toNat (k:Int)) 0=s.count[k]:=by simp [List.getD,hk]
  rw [ek]
  have b2:=M.out.scell hk 0 (by decide)
  simp [ksCells] at b2
  generalize s.count[k]=ow at *
  go_enter Tryz.func90,Tryz.ntmps90
  go_wp2
  exact bodyPost_ret (v:=.tuple #[.int .i64 ow,.int .i64 0]) (by simp [results,Tryz.results90,go_sem]) rfl ⟨rfl,Below.refl _ _⟩
 ·have E1:R.countV s i=0:=by unfold R.countV; rw [if_neg hin]
  have E2:R.countE s i=7:=by unfold R.countE; rw [if_neg hin]
  rw [E1,E2]
  clear E1 E2
  go_enter Tryz.func90,Tryz.ntmps90
  by_cases hneg:i < 0
  ·go_wp2
   exact bodyPost_ret (v:=.tuple #[.int .i64 0,.int .i64 7]) (by simp [results,Tryz.results90,go_sem]) rfl ⟨rfl,Below.refl _ _⟩
  ·have hge:(s.count.length:Int)<=i:=by omega
   go_wp2
   exact bodyPost_ret (v:=.tuple #[.int .i64 0,.int .i64 7]) (by simp [results,Tryz.results90,go_sem]) rfl ⟨rfl,Below.refl _ _⟩
set_option maxHeartbeats 1000000 in
theorem kMessages_any (m:KMem F w kb h s tk wt ws) (_hq8:s.box.length<=8) (hbf:∀ i (hi:i < s.box.length),s.box[i].length<=1000) (i:Int) :
  Calls Tryz.prog 84 #[.pointer (some ⟨kb,0,none⟩),.int .i64 i] w fun e w'=>∃ v,e=.returned (.tuple #[v,.int .i64 (R.boxE s i)])/\w'.ownsRow w.heap.size 3 1 v (R.boxL s i).length (intCells (R.boxL s i))/\Below w.heap.size w w':=by
 have c3:=m.blk.cell 4
 simp [kCells] at c3
 have M:=hid m
 clear m
 by_cases hin:0<=i/\i < s.box.length
 ·have E1:R.boxL s i=s.box.getD i.toNat []:=by unfold R.boxL; rw [if_pos hin]
  have E2:R.boxE s i=0:=by unfold R.boxE; rw [if_pos hin]
  rw [E1,E2]
  clear E1 E2
  obtain ⟨h0,h1⟩:=hin
  obtain ⟨k,rfl⟩:=Int.eq_ofNat_of_zero_le h0
  have hk:k < s.box.length:=by omega
  have ek:s.box.getD (Int.toNat (k:Int)) []=s.box[k]:=by simp [List.getD,hk]
  rw [ek]
  have b2:=M.out.qcell hk 1 (by decide)
  simp [kqCells] at b2
  obtain ⟨ao,ca,hv,hla,hna⟩:=ListAt.of_row (M.out.st.boxes k hk)
  rw [hv] at b2
  have CO:=hid (kCopyOf_any w ao ca s.box[k] hla hna (hbf k hk))
  clear hla hna hv hbf
  generalize s.box[k]=bx at *
  go_enter Tryz.func84,Tryz.ntmps84
  go_wp2_with fail
  refine CO.out.mono ?_
  rintro e w1 ⟨v,rfl,hr1,hb1⟩
  obtain ⟨tv5,tc5,rfl,_,_⟩:=owns_cells hr1
  have R1:=hid hr1
  have HB1:=hid hb1
  clear hr1 hb1 CO
  go_wp2
  exact bodyPost_ret (v:=.tuple #[.slice tv5 bx.length tc5,.int .i64 0]) (by simp [results,Tryz.results84,go_sem]) rfl ⟨_,rfl,R1.out,HB1.out⟩
 ·have E1:R.boxL s i=[]:=by unfold R.boxL; rw [if_neg hin]
  have E2:R.boxE s i=7:=by unfold R.boxE; rw [if_neg hin]
  rw [E1,E2]
  clear E1 E2
  go_enter Tryz.func84,Tryz.ntmps84
  by_cases hneg:i < 0
  ·go_wp2
   exact bodyPost_ret (v:=.tuple #[.slice none 0 0,.int .i64 7]) (by simp [results,Tryz.results84,go_sem]) rfl ⟨_,rfl,World.ownsRow_nil _ _ _ _,Below.refl _ _⟩
  ·have hge:(s.box.length:Int)<=i:=by omega
   go_wp2
   exact bodyPost_ret (v:=.tuple #[.slice none 0 0,.int .i64 7]) (by simp [results,Tryz.results84,go_sem]) rfl ⟨_,rfl,World.ownsRow_nil _ _ _ _,Below.refl _ _⟩
end
end Go.Proofs.YtbkfildnijjioaaGreat

namespace Go.Proofs.YtbkfildnijjioaaGreat
open Go.RowKit
theorem Tryz.infoPT:(Tryz.prog.info? 147).map (fun i=>(i.zero,i.size,i.bytes))=some (some (.agg #[.slice none 0 0,.int .i64 0,.int .i64 0,.int .i64 0,.int .i64 0,.int .i64 0,.int .i64 0,.int .i64 0,.int .i64 0,.int .i64 0,.int .i64 0,.int .i64 0,.int .i64 0]),13,120):=by kernel_rfl
theorem Tryz.infoPM:(Tryz.prog.info? 149).map (fun i=>(i.zero,i.size,i.bytes))=some (some (.agg #[.int .i64 0,.int .i64 0,.int .i64 0]),3,24):=by kernel_rfl
def bareCells (start:Int) (cv:Value) (x:ThreadD):List Value:=[cv,.int .i64 x.base,.int .i64 (start + x.offset),.int .i64 x.period,.int .i64 x.deadline,.int .i64 0,.int .i64 0,.int .i64 0,.int .i64 0,.int .i64 0,.int .i64 0,.int .i64 0,.int .i64 0]
theorem setAll (L:List Value) (k:Nat) (v0 v1 v2 v3 v4 v5 v6 v7 v8 v9 v10 v11 v12:Value) (hk:k * 13 + 12 < L.length) (i j:Nat) (hj:j < 13) :
  ((((((((((((((L.set (k * 13) v0).set (k * 13 + 1) v1).set (k * 13 + 2) v2).set (k * 13 + 3) v3).set (k * 13 + 4) v4).set (k * 13 + 5) v5).set (k * 13 + 6) v6).set (k * 13 + 7) v7).set (k * 13 + 8) v8).set (k * 13 + 9) v9).set (k * 13 + 10) v10).set (k * 13 + 11) v11).set (k * 13 + 12) v12)[i * 13 + j]?) =
   if i=k then [v0,v1,v2,v3,v4,v5,v6,v7,v8,v9,v10,v11,v12][j]? else L[i * 13 + j]?:=by
 by_cases e:i=k
 ·subst e
  rw [if_pos rfl]
  have hcases:j=0\/j=1\/j=2\/j=3\/j=4\/j=5\/j=6\/j=7\/j=8\/j=9\/j=10\/j=11\/j=12:=by omega
  rcases hcases with rfl | rfl | rfl | rfl | rfl | rfl | rfl | rfl | rfl | rfl | rfl | rfl | rfl <;> simp [List.getElem?_set] <;> omega
 ·rw [if_neg e]
  have h:∀ m,m < 13->k * 13 + m ≠ i * 13 + j:=by omega
  have h0:k * 13 ≠ i * 13 + j:=h 0 (by omega)
  simp [h 1,h 2,h 3,h 4,h 5,h 6,h 7,h 8,h 9,h 10,h 11,h 12,h0]
structure NT (B g:Nat) (start:Int) (l:List ThreadD) (wr:World) (k:Nat) (cs:Nat->Value) (L:List Value):Prop where
 row:wr.ownsRow B 147 13 (.slice (some ⟨g,0,none⟩) l.length l.length) l.length L
 cells:∀ i (hi:i < l.length),i < k->∀ j,j < 13->L[i * 13 + j]?=(bareCells start (cs i) l[i])[j]?
 codes:∀ i (hi:i < l.length),i < k->wr.ownsRow B 61 3 (cs i) l[i].code.length (instrCells l[i].code)
section
variable {B g:Nat} {start:Int} {l:List ThreadD} {wr wr':World} {k:Nat} {cs:Nat->Value} {L:List Value}
theorem NT.same (n:NT B g start l wr k cs L) (hs:∀ (b:Nat) (cur:Array Value) (e:TypeId),wr.heap[b]?=some (Obj.cells cur e (0,0))->(e=147\/e=61)->wr'.heap[b]?=wr.heap[b]?):NT B g start l wr' k cs L:=by
 refine ⟨ownsRow_same n.row fun b hb=>?_,n.cells,fun i hi hk=>ownsRow_same (n.codes i hi hk) fun b hb=>?_⟩
 ·obtain ⟨_,_,cur,hc⟩:=ownsRow_block n.row hb
  exact hs b cur _ hc (.inl rfl)
 ·obtain ⟨_,_,cur,hc⟩:=ownsRow_block (n.codes i hi hk) hb
  exact hs b cur _ hc (.inr rfl)
theorem NT.below (n:NT B g start l wr k cs L) (hb:Below wr.heap.size wr wr'):NT B g start l wr' k cs L:=by
 refine n.same fun b cur e hg _=>hb.block b ?_
 rcases Nat.lt_or_ge b wr.heap.size with h' | h'
 ·exact h'
 ·rw [Array.getElem?_eq_none h'] at hg; cases hg
end
set_option maxRecDepth 100000 in
set_option maxHeartbeats 4000000 in
theorem kNewThreads_any (tv:Option Addr) (tc:Nat) (l:List ThreadD) (start:Int) (w:World) (hin:ThreadsIn w.heap.size w tv l) (h1:1<=l.length) (h16:l.length<=16) (hc:∀ x ∈ l,x.code.length<=32) (hs:0<=start/\start<=1000000000) (ho:∀ x ∈ l,0<=x.offset/\x.offset<=1000) :
  Calls Tryz.prog 54 #[.slice tv l.length tc,.int .i64 start] w fun e w'=>∃ g cs L,e=.returned (.slice (some ⟨g,0,none⟩) l.length l.length)/\w.heap.size<=g/\NT w.heap.size g start l w' l.length cs L/\Below w.heap.size w w':=by
 have HIN:=hid hin
 have HC:=hid hc
 have HO:=hid ho
 obtain ⟨hs0,hs1⟩:=hs
 clear hin hc ho
 obtain ⟨iT,hiT,hzT0,hzT1,hzT2⟩:=info_parts Tryz.infoPT
 have HIT:=hid (And.intro hiT (And.intro hzT0 (And.intro hzT1 hzT2)))
 obtain ⟨i4,hi4,hz40,hz41,hz42⟩:=info_parts Tryz.infoInstr
 have HI4:=hid (And.intro hi4 (And.intro hz40 (And.intro hz41 hz42)))
 clear hiT hzT0 hzT1 hzT2 hi4 hz40 hz41 hz42
 go_enter Tryz.func54,Tryz.ntmps54
 go_wp2_with (at_make; refine wpList_make_full _ rfl _ _ 99 rfl w.heap.size 147 iT (.agg #[.slice none 0 0,.int .i64 0,.int .i64 0,.int .i64 0,.int .i64 0,.int .i64 0,.int .i64 0,.int .i64 0,.int .i64 0,.int .i64 0,.int .i64 0,.int .i64 0,.int .i64 0]) 13 Tryz.underlying99 HIT.out.1 HIT.out.2.1 HIT.out.2.2.1 .i64 .i64 _ _ l.length rfl rfl rfl rfl (by rw [HIT.out.2.2.2]; omega) (by unfold maxLen; omega) (Nat.le_refl _) ?_; intro w2 hown2 hg2; have O2:=hid hown2; have G2:=hid hg2; clear hown2 hg2)
 have hb2:Below w.heap.size w w2:=(Below.refl _ _).grown G2.out (Nat.le_refl _) (by simp)
 have HB2:=hid hb2
 clear hb2 G2
 go_loopw [14] (fun i wr=>∃ (k:Nat) (cs:Nat->Value) (L:List Value),k<=l.length/\i=.int .i64 k/\NT w.heap.size w.heap.size start l wr k cs L/\Below w.heap.size w wr) (fun i _=>l.length - (intOf i).toNat)
 case atStart=>exact ⟨0,fun _=>.slice none 0 0,_,Nat.zero_le _,rfl,⟨O2.out,fun _ _ h=>absurd h (Nat.not_lt_zero _),fun _ _ h=>absurd h (Nat.not_lt_zero _)⟩,HB2.out⟩
 case round =>
  obtain ⟨k,cs,L,hk,rfl,hnt,hb⟩:=hrel
  have NTH:=hid hnt
  have HB:=hid hb
  have hszr:=hb.size
  clear hnt hb
  by_cases hkl:k < l.length
  ·obtain ⟨b,o,cv,cc,hta,hbb,y0,y1,y2,y3,y4,hcode,hcn⟩:=HIN.out k hkl
   subst hta
   have bl:=(HB.out.cell (p:=⟨b,o + k * 5,none⟩) hbb).trans y0
   have bl1:=(HB.out.cell (p:=⟨b,o + k * 5 + 1,none⟩) hbb).trans y1
   have bl2:=(HB.out.cell (p:=⟨b,o + k * 5 + 2,none⟩) hbb).trans y2
   have bl3:=(HB.out.cell (p:=⟨b,o + k * 5 + 3,none⟩) hbb).trans y3
   have bl4:=(HB.out.cell (p:=⟨b,o + k * 5 + 4,none⟩) hbb).trans y4
   have hcl:=HC.out l[k] (List.getElem_mem hkl)
   have hof:=HO.out l[k] (List.getElem_mem hkl)
   have HCODE:=hid hcode
   have HCN:=hid hcn
   have hkI:(k:Int) < (l.length:Int):=by omega
   clear y0 y1 y2 y3 y4 hcode hcn
   generalize hx:l[k]=x at *
   have HX:=hid hx
   clear hx
   go_upto_region 5 with fail
   have hbA:Below wr.heap.size wr (wr.alloc (.cells #[.int .i64 x.base,.int .i64 x.offset,.int .i64 x.period,.int .i64 x.deadline,.slice cv x.code.length cc] 59)):=(Below.refl _ _).alloc (Nat.le_refl _) _
   have bA:=Blk.new wr #[.int .i64 x.base,.int .i64 x.offset,.int .i64 x.period,.int .i64 x.deadline,.slice cv x.code.length cc] 59
   generalize wr.alloc (.cells #[.int .i64 x.base,.int .i64 x.offset,.int .i64 x.period,.int .i64 x.deadline,.slice cv x.code.length cc] 59)=wA at hbA bA ⊢
   have NTA:=hid (NTH.out.below hbA)
   have HBA:=hid (via HB.out HB.out.size hbA)
   have BA:=hid bA
   have hszA:=hbA.size
   have q4:=bA.cell 4
   simp at q4
   clear hbA bA bl bl1 bl2 bl3 bl4 NTH
   go_upto_region 6 with (at_make; refine wpList_make_full _ rfl _ _ 57 rfl w.heap.size 61 i4 (.agg #[.int .i64 0,.int .i64 0,.int .i64 0]) 3 Tryz.underlying57 HI4.out.1 HI4.out.2.1 HI4.out.2.2.1 .i64 .i64 _ _ x.code.length rfl rfl rfl rfl (by rw [HI4.out.2.2.2]; omega) (by unfold maxLen; omega) (by omega) ?_; intro w2 hown2 hg2; have O3:=hid hown2; have G3:=hid hg2; clear hown2 hg2)
   have hbB:Below wA.heap.size wA w2:=(Below.refl _ _).grown G3.out (Nat.le_refl _) (by simp)
   have NTB:=hid (NTA.out.below hbB)
   have HBB:=hid (via HBA.out HBA.out.size hbB)
   have BB:=hid (show Blk w2 wr.heap.size #[.int .i64 x.base,.int .i64 x.offset,.int .i64 x.period,.int .i64 x.deadline,.slice cv x.code.length cc] 59 from by
    have h1:=BA.out
    have hl:=BA.out.lt
    unfold Blk at h1 ⊢
    rw [hbB.block _ hl]
    exact h1)
   have HSRC:=hid ((HCODE.out.stays HBB.out).src)
   have q4:=BB.out.cell 4
   simp at q4
   have hszB:=hbB.size
   have HBW:=hid hbB
   clear hbB HBA
   go_upto_region 7 with (refine wpList_copy_full rfl (.tmp 23) (.tmp 25) 57 rfl w.heap.size 61 i4 3 Tryz.underlying57 HI4.out.1 HI4.out.2.2.1 (by decide) wA.heap.size x.code.length x.code.length _ rfl O3.out cv cc (instrCells x.code) rfl (instrCells_length _) HCN.out HSRC.out (instrCells_one _) ?_; intro w3 hown3 hg3; have O4:=hid hown3; have G4:=hid hg3; clear hown3 hg3)
   have hnt3:NT w.heap.size w.heap.size start l w3 k cs L:=by
    refine NTA.out.same fun b cur e hg _=>?_
    have hbl:b < wA.heap.size:=by
     rcases Nat.lt_or_ge b wA.heap.size with h' | h'
     ·exact h'
     ·rw [Array.getElem?_eq_none h'] at hg; cases hg
    rw [G4.out.block b (by omega) (fun e=>by cases e; omega),HBW.out.block b hbl]
   have R3:=hid hnt3
   have hLl:L.length=l.length * 13:=hnt3.row.1
   have hlt:wr.heap.size < wA.heap.size:=BA.out.lt
   have B3:=hid (show Blk w3 wr.heap.size #[.int .i64 x.base,.int .i64 x.offset,.int .i64 x.period,.int .i64 x.deadline,.slice cv x.code.length cc] 59 from by
    have h1:=BB.out
    have hl:=BB.out.lt
    unfold Blk at h1 ⊢
    rw [G4.out.block _ hl (fun e=>by have:=Option.some.inj e; omega)]
    exact h1)
   have HB3:Hid (Below w.heap.size w w3):=HBB.out.grown G4.out HBB.out.size (fun b hb=>by cases hb; omega)
   have q0:=B3.out.cell 0
   have q1:=B3.out.cell 1
   have q2:=B3.out.cell 2
   have q3:=B3.out.cell 3
   simp at q0 q1 q2 q3
   have d0:w3.cell? ⟨w.heap.size,k * 13,none⟩=some (L[k * 13]'(by omega)):=by rw [R3.out.row.cellAt _ (by omega)]; exact List.getElem?_eq_getElem _
   have e0:=R3.out.row.frozenAt (k * 13)
   have d1:w3.cell? ⟨w.heap.size,k * 13 + 1,none⟩=some (L[k * 13 + 1]'(by omega)):=by rw [R3.out.row.cellAt _ (by omega)]; exact List.getElem?_eq_getElem _
   have e1:=R3.out.row.frozenAt (k * 13 + 1)
   have d2:w3.cell? ⟨w.heap.size,k * 13 + 2,none⟩=some (L[k * 13 + 2]'(by omega)):=by rw [R3.out.row.cellAt _ (by omega)]; exact List.getElem?_eq_getElem _
   have e2:=R3.out.row.frozenAt (k * 13 + 2)
   have d3:w3.cell? ⟨w.heap.size,k * 13 + 3,none⟩=some (L[k * 13 + 3]'(by omega)):=by rw [R3.out.row.cellAt _ (by omega)]; exact List.getElem?_eq_getElem _
   have e3:=R3.out.row.frozenAt (k * 13 + 3)
   have d4:w3.cell? ⟨w.heap.size,k * 13 + 4,none⟩=some (L[k * 13 + 4]'(by omega)):=by rw [R3.out.row.cellAt _ (by omega)]; exact List.getElem?_eq_getElem _
   have e4:=R3.out.row.frozenAt (k * 13 + 4)
   have d5:w3.cell? ⟨w.heap.size,k * 13 + 5,none⟩=some (L[k * 13 + 5]'(by omega)):=by rw [R3.out.row.cellAt _ (by omega)]; exact List.getElem?_eq_getElem _
   have e5:=R3.out.row.frozenAt (k * 13 + 5)
   have d6:w3.cell? ⟨w.heap.size,k * 13 + 6,none⟩=some (L[k * 13 + 6]'(by omega)):=by rw [R3.out.row.cellAt _ (by omega)]; exact List.getElem?_eq_getElem _
   have e6:=R3.out.row.frozenAt (k * 13 + 6)
   have d7:w3.cell? ⟨w.heap.size,k * 13 + 7,none⟩=some (L[k * 13 + 7]'(by omega)):=by rw [R3.out.row.cellAt _ (by omega)]; exact List.getElem?_eq_getElem _
   have e7:=R3.out.row.frozenAt (k * 13 + 7)
   have d8:w3.cell? ⟨w.heap.size,k * 13 + 8,none⟩=some (L[k * 13 + 8]'(by omega)):=by rw [R3.out.row.cellAt _ (by omega)]; exact List.getElem?_eq_getElem _
   have e8:=R3.out.row.frozenAt (k * 13 + 8)
   have d9:w3.cell? ⟨w.heap.size,k * 13 + 9,none⟩=some (L[k * 13 + 9]'(by omega)):=by rw [R3.out.row.cellAt _ (by omega)]; exact List.getElem?_eq_getElem _
   have e9:=R3.out.row.frozenAt (k * 13 + 9)
   have d10:w3.cell? ⟨w.heap.size,k * 13 + 10,none⟩=some (L[k * 13 + 10]'(by omega)):=by rw [R3.out.row.cellAt _ (by omega)]; exact List.getElem?_eq_getElem _
   have e10:=R3.out.row.frozenAt (k * 13 + 10)
   have d11:w3.cell? ⟨w.heap.size,k * 13 + 11,none⟩=some (L[k * 13 + 11]'(by omega)):=by rw [R3.out.row.cellAt _ (by omega)]; exact List.getElem?_eq_getElem _
   have e11:=R3.out.row.frozenAt (k * 13 + 11)
   have d12:w3.cell? ⟨w.heap.size,k * 13 + 12,none⟩=some (L[k * 13 + 12]'(by omega)):=by rw [R3.out.row.cellAt _ (by omega)]; exact List.getElem?_eq_getElem _
   have e12:=R3.out.row.frozenAt (k * 13 + 12)
   have rAll:=(((((((((((((R3.out.row.stored (k * 13) (.slice (some ⟨wA.heap.size,0,none⟩) x.code.length x.code.length)).1.stored (k * 13 + 1) (.int .i64 x.base)).1.stored (k * 13 + 2) (.int .i64 (start + x.offset))).1.stored (k * 13 + 3) (.int .i64 x.period)).1.stored (k * 13 + 4) (.int .i64 x.deadline)).1.stored (k * 13 + 5) (.int .i64 0)).1.stored (k * 13 + 6) (.int .i64 0)).1.stored (k * 13 + 7) (.int .i64 0)).1.stored (k * 13 + 8) (.int .i64 0)).1.stored (k * 13 + 9) (.int .i64 0)).1.stored (k * 13 + 10) (.int .i64 0)).1.stored (k * 13 + 11) (.int .i64 0)).1.stored (k * 13 + 12) (.int .i64 0)).1
   have HBS:Hid (Below w.heap.size w (((((((((((((w3.setCell ⟨w.heap.size,k * 13,none⟩ (.slice (some ⟨wA.heap.size,0,none⟩) x.code.length x.code.length)).setCell ⟨w.heap.size,k * 13 + 1,none⟩ (.int .i64 x.base)).setCell ⟨w.heap.size,k * 13 + 2,none⟩ (.int .i64 (start + x.offset))).setCell ⟨w.heap.size,k * 13 + 3,none⟩ (.int .i64 x.period)).setCell ⟨w.heap.size,k * 13 + 4,none⟩ (.int .i64 x.deadline)).setCell ⟨w.heap.size,k * 13 + 5,none⟩ (.int .i64 0)).setCell ⟨w.heap.size,k * 13 + 6,none⟩ (.int .i64 0)).setCell ⟨w.heap.size,k * 13 + 7,none⟩ (.int .i64 0)).setCell ⟨w.heap.size,k * 13 + 8,none⟩ (.int .i64 0)).setCell ⟨w.heap.size,k * 13 + 9,none⟩ (.int .i64 0)).setCell ⟨w.heap.size,k * 13 + 10,none⟩ (.int .i64 0)).setCell ⟨w.heap.size,k * 13 + 11,none⟩ (.int .i64 0)).setCell ⟨w.heap.size,k * 13 + 12,none⟩ (.int .i64 0))):=(((((((((((((HB3.out.setCell (Nat.le_refl _) (.slice (some ⟨wA.heap.size,0,none⟩) x.code.length x.code.length)).setCell (Nat.le_refl _) (.int .i64 x.base)).setCell (Nat.le_refl _) (.int .i64 (start + x.offset))).setCell (Nat.le_refl _) (.int .i64 x.period)).setCell (Nat.le_refl _) (.int .i64 x.deadline)).setCell (Nat.le_refl _) (.int .i64 0)).setCell (Nat.le_refl _) (.int .i64 0)).setCell (Nat.le_refl _) (.int .i64 0)).setCell (Nat.le_refl _) (.int .i64 0)).setCell (Nat.le_refl _) (.int .i64 0)).setCell (Nat.le_refl _) (.int .i64 0)).setCell (Nat.le_refl _) (.int .i64 0)).setCell (Nat.le_refl _) (.int .i64 0))
   have hsame:∀ b,b ≠ w.heap.size->(((((((((((((w3.setCell ⟨w.heap.size,k * 13,none⟩ (.slice (some ⟨wA.heap.size,0,none⟩) x.code.length x.code.length)).setCell ⟨w.heap.size,k * 13 + 1,none⟩ (.int .i64 x.base)).setCell ⟨w.heap.size,k * 13 + 2,none⟩ (.int .i64 (start + x.offset))).setCell ⟨w.heap.size,k * 13 + 3,none⟩ (.int .i64 x.period)).setCell ⟨w.heap.size,k * 13 + 4,none⟩ (.int .i64 x.deadline)).setCell ⟨w.heap.size,k * 13 + 5,none⟩ (.int .i64 0)).setCell ⟨w.heap.size,k * 13 + 6,none⟩ (.int .i64 0)).setCell ⟨w.heap.size,k * 13 + 7,none⟩ (.int .i64 0)).setCell ⟨w.heap.size,k * 13 + 8,none⟩ (.int .i64 0)).setCell ⟨w.heap.size,k * 13 + 9,none⟩ (.int .i64 0)).setCell ⟨w.heap.size,k * 13 + 10,none⟩ (.int .i64 0)).setCell ⟨w.heap.size,k * 13 + 11,none⟩ (.int .i64 0)).setCell ⟨w.heap.size,k * 13 + 12,none⟩ (.int .i64 0)).heap[b]?=w3.heap[b]?:=by
    intro b hb
    iterate 13 rw [Below.heap_setCell _ _ _ _ hb]
   have hnt4:NT w.heap.size w.heap.size start l (((((((((((((w3.setCell ⟨w.heap.size,k * 13,none⟩ (.slice (some ⟨wA.heap.size,0,none⟩) x.code.length x.code.length)).setCell ⟨w.heap.size,k * 13 + 1,none⟩ (.int .i64 x.base)).setCell ⟨w.heap.size,k * 13 + 2,none⟩ (.int .i64 (start + x.offset))).setCell ⟨w.heap.size,k * 13 + 3,none⟩ (.int .i64 x.period)).setCell ⟨w.heap.size,k * 13 + 4,none⟩ (.int .i64 x.deadline)).setCell ⟨w.heap.size,k * 13 + 5,none⟩ (.int .i64 0)).setCell ⟨w.heap.size,k * 13 + 6,none⟩ (.int .i64 0)).setCell ⟨w.heap.size,k * 13 + 7,none⟩ (.int .i64 0)).setCell ⟨w.heap.size,k * 13 + 8,none⟩ (.int .i64 0)).setCell ⟨w.heap.size,k * 13 + 9,none⟩ (.int .i64 0)).setCell ⟨w.heap.size,k * 13 + 10,none⟩ (.int .i64 0)).setCell ⟨w.heap.size,k * 13 + 11,none⟩ (.int .i64 0)).setCell ⟨w.heap.size,k * 13 + 12,none⟩ (.int .i64 0)) (k + 1) (fun i=>if i=k then .slice (some ⟨wA.heap.size,0,none⟩) x.code.length x.code.length else cs i) (((((((((((((L.set (k * 13) (.slice (some ⟨wA.heap.size,0,none⟩) x.code.length x.code.length)).set (k * 13 + 1) (.int .i64 x.base)).set (k * 13 + 2) (.int .i64 (start + x.offset))).set (k * 13 + 3) (.int .i64 x.period)).set (k * 13 + 4) (.int .i64 x.deadline)).set (k * 13 + 5) (.int .i64 0)).set (k * 13 + 6) (.int .i64 0)).set (k * 13 + 7) (.int .i64 0)).set (k * 13 + 8) (.int .i64 0)).set (k * 13 + 9) (.int .i64 0)).set (k * 13 + 10) (.int .i64 0)).set (k * 13 + 11) (.int .i64 0)).set (k * 13 + 12) (.int .i64 0)):=by
    refine ⟨rAll,fun i hi hik j hj=>?_,fun i hi hik=>?_⟩
    ·rw [setAll L k _ _ _ _ _ _ _ _ _ _ _ _ _ (by omega) i j hj]
     by_cases e:i=k
     ·subst e
      rw [if_pos rfl,HX.out]
      simp only [if_pos]
      rfl
     ·rw [if_neg e]
      simp only [if_neg e]
      exact R3.out.cells i hi (by omega) j hj
    ·by_cases e:i=k
     ·subst e
      simp only [if_pos]
      rw [HX.out]
      refine ownsRow_same O4.out fun b hb=>hsame b (fun e=>?_)
      cases hb
      have:wA.heap.size=w.heap.size:=e
      omega
     ·simp only [if_neg e]
      refine ownsRow_same (R3.out.codes i hi (by omega)) fun b hb=>hsame b (fun e=>?_)
      obtain ⟨_,_,cur,hc⟩:=ownsRow_block (R3.out.codes i hi (by omega)) hb
      obtain ⟨_,_,cur',hc'⟩:=ownsRow_block R3.out.row rfl
      rw [e,hc'] at hc
      cases hc
   have NT4:=hid hnt4
   clear hnt4 rAll hsame hnt3
   go_wp2
   go_roundw
   case rel=>exact ⟨k + 1,_,_,by omega,by go_num,NT4.out,HBS.out⟩
   case measure=>simp [intOf]; omega
  ·have e:k=l.length:=by omega
   subst e
   go_wp2
   go_ret
   exact ⟨_,cs,L,rfl,Nat.le_refl _,NTH.out,HB.out⟩
set_option maxRecDepth 100000 in
set_option maxHeartbeats 1000000 in
theorem kFirstTickets_any (w:World) (n:Nat) (hn:n<=16) :
  Calls Tryz.prog 59 #[.int .i64 n] w fun e w'=>∃ g,e=.returned (.slice (some ⟨g,0,none⟩) n n)/\w'.ownsRow w.heap.size 3 1 (.slice (some ⟨g,0,none⟩) n n) n (intCells (Ln.ints (List.range n)))/\Below w.heap.size w w':=by
 obtain ⟨i3,hi3,hz30,hz31,hz32⟩:=info_parts Tryz.infoInt
 have HI3:=hid (And.intro hi3 (And.intro hz30 (And.intro hz31 hz32)))
 clear hi3 hz30 hz31 hz32
 go_enter Tryz.func59,Tryz.ntmps59
 go_wp2_with (at_make; refine wpList_make_full _ rfl _ _ 25 rfl w.heap.size 3 i3 (.int .i64 0) 1 Tryz.underlying25 HI3.out.1 HI3.out.2.1 HI3.out.2.2.1 .i64 .i64 _ _ n rfl rfl rfl rfl (by rw [HI3.out.2.2.2]; omega) (by unfold maxLen; omega) (Nat.le_refl _) ?_; intro w2 hown2 hg2; have O2:=hid hown2; have G2:=hid hg2; clear hown2 hg2)
 have hr2:w2.ownsRow w.heap.size 3 1 (.slice (some ⟨w.heap.size,0,none⟩) n n) n (intCells (R.atTo (fun i=>(i:Int)) n 0)):=by
  have:=O2.out
  have e:(madeCells (Value.int IntKind.i64 0).cells (n * 1)).toList=intCells (R.atTo (fun i=>(i:Int)) n 0):=by
   rw [R.atTo_zero,Nat.mul_one]
   show (madeCells #[Value.int IntKind.i64 0] n).toList=_
   rw [toList_madeCells_one]
   simp [intCells]
  rwa [e] at this
 have R2:=hid hr2
 have hb2:Below w.heap.size w w2:=(Below.refl _ _).grown G2.out (Nat.le_refl _) (by simp)
 have HB2:=hid hb2
 clear hr2 O2 G2 hb2
 go_loopw [9] (fun i wr=>∃ k:Nat,k<=n/\i=.int .i64 k/\wr.ownsRow w.heap.size 3 1 (.slice (some ⟨w.heap.size,0,none⟩) n n) n (intCells (R.atTo (fun i=>(i:Int)) n k))/\Below w.heap.size w wr) (fun i _=>n - (intOf i).toNat)
 case atStart=>exact ⟨0,Nat.zero_le _,rfl,R2.out,HB2.out⟩
 case round =>
  obtain ⟨k,hk,rfl,hrow,hb⟩:=hrel
  have ROW:=hid hrow
  have HB:=hid hb
  clear hrow hb
  by_cases hkl:k < n
  ·have x0:=row_get ROW.out (R.atTo_length _ _ _) hkl
   have f0:=ROW.out.frozenAt k
   have r1:=row_set ROW.out k (k:Int)
   rw [R.atTo_set1 (fun i=>(i:Int)) n k hkl] at r1
   have R1:=hid r1
   have HB1:Hid (Below w.heap.size w (wr.setCell ⟨w.heap.size,k,none⟩ (.int .i64 (k:Int)))):=HB.out.setCell (Nat.le_refl _) _
   have hkI:(k:Int) < (n:Int):=by omega
   clear r1
   generalize (R.atTo (fun i=>(i:Int)) n k).getD k 0=old at *
   go_wp2
   go_roundw
   case rel=>exact ⟨k + 1,by omega,by go_num,R1.out,HB1.out⟩
   case measure=>simp [intOf]; omega
  ·have e:k=n:=by omega
   subst e
   have EE:Hid (R.atTo (fun i=>(i:Int)) k k=Ln.ints (List.range k)):=by
    refine hid (List.ext_getElem (by simp [R.atTo,Ln.ints]) fun i h1 h2=>?_)
    have hi:i < k:=by simpa [R.atTo] using h1
    simp [R.atTo,Ln.ints,hi]
   rw [EE.out] at ROW
   go_wp2
   go_ret
   exact ⟨w.heap.size,rfl,ROW.out,HB.out⟩
structure NMu (B g:Nat) (l:List PairD) (wr:World) (k:Nat) (L:List Value):Prop where
 row:wr.ownsRow B 149 3 (.slice (some ⟨g,0,none⟩) l.length l.length) l.length L
 cells:∀ i (hi:i < l.length),i < k->∀ j,j < 3->L[i * 3 + j]?=[Value.int .i64 l[i].x,.int .i64 l[i].y,.int .i64 (-1)][j]?
set_option maxRecDepth 100000 in
set_option maxHeartbeats 2000000 in
theorem kNewMutexes_any (tv:Option Addr) (tc:Nat) (l:List PairD) (w:World) (hin:PairsIn w.heap.size w tv l) (h8:l.length<=8) :
  Calls Tryz.prog 55 #[.slice tv l.length tc] w fun e w'=>∃ g L,e=.returned (.slice (some ⟨g,0,none⟩) l.length l.length)/\w.heap.size<=g/\NMu w.heap.size g l w' l.length L/\Below w.heap.size w w':=by
 have HIN:=hid hin
 clear hin
 obtain ⟨iT,hiT,hzT0,hzT1,hzT2⟩:=info_parts Tryz.infoPM
 have HIT:=hid (And.intro hiT (And.intro hzT0 (And.intro hzT1 hzT2)))
 clear hiT hzT0 hzT1 hzT2
 go_enter Tryz.func55,Tryz.ntmps55
 go_wp2_with (at_make; refine wpList_make_full _ rfl _ _ 101 rfl w.heap.size 149 iT (.agg #[.int .i64 0,.int .i64 0,.int .i64 0]) 3 Tryz.underlying101 HIT.out.1 HIT.out.2.1 HIT.out.2.2.1 .i64 .i64 _ _ l.length rfl rfl rfl rfl (by rw [HIT.out.2.2.2]; omega) (by unfold maxLen; omega) (Nat.le_refl _) ?_; intro w2 hown2 hg2; have O2:=hid hown2; have G2:=hid hg2; clear hown2 hg2)
 have hb2:Below w.heap.size w w2:=(Below.refl _ _).grown G2.out (Nat.le_refl _) (by simp)
 have HB2:=hid hb2
 clear hb2 G2
 go_loopw [11] (fun i wr=>∃ (k:Nat) (L:List Value),k<=l.length/\i=.int .i64 k/\NMu w.heap.size w.heap.size l wr k L/\Below w.heap.size w wr) (fun i _=>l.length - (intOf i).toNat)
 case atStart=>exact ⟨0,_,Nat.zero_le _,rfl,⟨O2.out,fun _ _ h=>absurd h (Nat.not_lt_zero _)⟩,HB2.out⟩
 case round =>
  obtain ⟨k,L,hk,rfl,hnt,hb⟩:=hrel
  have NTH:=hid hnt
  have HB:=hid hb
  have hszr:=hb.size
  have hLl:L.length=l.length * 3:=hnt.row.1
  clear hnt hb
  by_cases hkl:k < l.length
  ·obtain ⟨b,o,hta,hbb,y0,y1⟩:=HIN.out k hkl
   subst hta
   have bl:=(HB.out.cell (p:=⟨b,o + k * 2,none⟩) hbb).trans y0
   have bl1:=(HB.out.cell (p:=⟨b,o + k * 2 + 1,none⟩) hbb).trans y1
   have hkI:(k:Int) < (l.length:Int):=by omega
   clear y0 y1
   generalize hx:l[k]=x at *
   have HX:=hid hx
   clear hx
   go_upto_region 5 with fail
   have hbA:Below wr.heap.size wr (wr.alloc (.cells #[.int .i64 x.x,.int .i64 x.y] 125)):=(Below.refl _ _).alloc (Nat.le_refl _) _
   have bA:=Blk.new wr #[.int .i64 x.x,.int .i64 x.y] 125
   generalize wr.alloc (.cells #[.int .i64 x.x,.int .i64 x.y] 125)=wA at hbA bA ⊢
   have rA:=ownsRow_same NTH.out.row fun g hg=>hbA.block g (ownsRow_block NTH.out.row hg).2.1
   have HBA:=hid (via HB.out HB.out.size hbA)
   have q0:=bA.cell 0
   have q1:=bA.cell 1
   simp at q0 q1
   have d0:wA.cell? ⟨w.heap.size,k * 3,none⟩=some (L[k * 3]'(by omega)):=by rw [rA.cellAt _ (by omega)]; exact List.getElem?_eq_getElem _
   have e0:=rA.frozenAt (k * 3)
   have d1:wA.cell? ⟨w.heap.size,k * 3 + 1,none⟩=some (L[k * 3 + 1]'(by omega)):=by rw [rA.cellAt _ (by omega)]; exact List.getElem?_eq_getElem _
   have e1:=rA.frozenAt (k * 3 + 1)
   have d2:wA.cell? ⟨w.heap.size,k * 3 + 2,none⟩=some (L[k * 3 + 2]'(by omega)):=by rw [rA.cellAt _ (by omega)]; exact List.getElem?_eq_getElem _
   have e2:=rA.frozenAt (k * 3 + 2)
   have rAll:=(((rA.stored (k * 3) (.int .i64 x.x)).1.stored (k * 3 + 1) (.int .i64 x.y)).1.stored (k * 3 + 2) (.int .i64 (-1))).1
   have HBS:Hid (Below w.heap.size w (((wA.setCell ⟨w.heap.size,k * 3,none⟩ (.int .i64 x.x)).setCell ⟨w.heap.size,k * 3 + 1,none⟩ (.int .i64 x.y)).setCell ⟨w.heap.size,k * 3 + 2,none⟩ (.int .i64 (-1)))):=((HBA.out.setCell (Nat.le_refl _) (.int .i64 x.x)).setCell (Nat.le_refl _) (.int .i64 x.y)).setCell (Nat.le_refl _) (.int .i64 (-1))
   have hnt4:NMu w.heap.size w.heap.size l (((wA.setCell ⟨w.heap.size,k * 3,none⟩ (.int .i64 x.x)).setCell ⟨w.heap.size,k * 3 + 1,none⟩ (.int .i64 x.y)).setCell ⟨w.heap.size,k * 3 + 2,none⟩ (.int .i64 (-1))) (k + 1) (((L.set (k * 3) (.int .i64 x.x)).set (k * 3 + 1) (.int .i64 x.y)).set (k * 3 + 2) (.int .i64 (-1))):=by
    refine ⟨rAll,fun i hi hik j hj=>?_⟩
    by_cases e:i=k
    ·subst e
     rw [HX.out]
     have hcases:j=0\/j=1\/j=2:=by omega
     rcases hcases with rfl | rfl | rfl <;> simp [List.getElem?_set] <;> omega
    ·have h:∀ m,m < 3->k * 3 + m ≠ i * 3 + j:=by omega
     have h0:k * 3 ≠ i * 3 + j:=h 0 (by omega)
     have:=NTH.out.cells i hi (by omega) j hj
     simp [h 1,h 2,h0]
     simpa using this
   have NT4:=hid hnt4
   clear hnt4 rAll rA bl bl1 NTH hbA bA
   generalize L[k * 3]'(by omega)=o0 at *
   generalize L[k * 3 + 1]'(by omega)=o1 at *
   generalize L[k * 3 + 2]'(by omega)=o2 at *
   go_wp2
   go_roundw
   case rel=>exact ⟨k + 1,_,by omega,by go_num,NT4.out,HBS.out⟩
   case measure=>simp [intOf]; omega
  ·have e:k=l.length:=by omega
   subst e
   go_wp2
   go_ret
   exact ⟨_,L,rfl,Nat.le_refl _,NTH.out,HB.out⟩
end Go.Proofs.YtbkfildnijjioaaGreat
