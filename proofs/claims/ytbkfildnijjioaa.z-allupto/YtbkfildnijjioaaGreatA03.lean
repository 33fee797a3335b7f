import Derived.Test.YtbkfildnijjioaaGreatA02
namespace Go.Proofs.YtbkfildnijjioaaGreat
namespace R
theorem getD_set_ne (l:List Int) (i t:Nat) (v:Int) (h:i ≠ t):(l.set i v).getD t 0=l.getD t 0:=by
 simp [List.getD,h]
theorem le_maxI (v a b:Int):v<=maxI a b ↔ v<=a\/v<=b:=by
 unfold maxI
 split <;> omega
theorem le_innerTo (T:List RT) (f:Nat->Int) (m:Nat) (x v:Int) (k:Nat):v<=innerTo T f m x k ↔ v<=x\/∃ u,u < k/\(th T u).for_=1/\(th T u).of_=(m:Int)/\v<=f u:=by
 induction k with
 | zero=>simp [innerTo]
 | succ k ih =>
  unfold innerTo
  split
  ·rename_i h
   rw [le_maxI,ih]
   constructor
   ·rintro ((h1 | ⟨u,h1,h2,h3,h4⟩) | h1)
    ·exact .inl h1
    ·exact .inr ⟨u,by omega,h2,h3,h4⟩
    ·exact .inr ⟨k,by omega,h.1,h.2,h1⟩
   ·rintro (h1 | ⟨u,h1,h2,h3,h4⟩)
    ·exact .inl (.inl h1)
    ·rcases Nat.lt_or_ge u k with h5 | h5
     ·exact .inl (.inr ⟨u,h5,h2,h3,h4⟩)
     ·have:u=k:=by omega
      subst this
      exact .inr h4
  ·rename_i h
   rw [ih]
   constructor
   ·rintro (h1 | ⟨u,h1,h2,h3,h4⟩)
    ·exact .inl h1
    ·exact .inr ⟨u,by omega,h2,h3,h4⟩
   ·rintro (h1 | ⟨u,h1,h2,h3,h4⟩)
    ·exact .inl h1
    ·rcases Nat.lt_or_ge u k with h5 | h5
     ·exact .inr ⟨u,h5,h2,h3,h4⟩
     ·have:u=k:=by omega
      subst this
      exact absurd ⟨h2,h3⟩ h
def Lends (s:RS) (u t:Nat):Prop:=u < s.T.length/\(th s.T u).for_=1/\∃ m,m < s.owner.length/\(th s.T u).of_=(m:Int)/\s.owner.getD m 0=(t:Int)/\(s.set.mutexes.getD m pair0).x ≠ 1
theorem le_outerTo (s:RS) (f g:Nat->Int) (t:Nat) (v:Int) (k:Nat):v<=outerTo s f true t k ↔ v<=outerTo s g false t k\/∃ m,m < k/\s.owner.getD m 0=(t:Int)/\(s.set.mutexes.getD m pair0).x ≠ 1/\∃ u,u < s.T.length/\(th s.T u).for_=1/\(th s.T u).of_=(m:Int)/\v<=f u:=by
 induction k with
 | zero=>simp [outerTo]
 | succ k ih =>
  have up:∀ P:Nat->Prop,(∃ m,m < k + 1/\P m) ↔ (∃ m,m < k/\P m)\/P k:=by
   intro P
   constructor
   ·rintro ⟨m,h1,h2⟩
    rcases Nat.lt_or_ge m k with h3 | h3
    ·exact .inl ⟨m,h3,h2⟩
    ·have:m=k:=by omega
     subst this
     exact .inr h2
   ·rintro (⟨m,h1,h2⟩ | h2)
    ·exact ⟨m,by omega,h2⟩
    ·exact ⟨k,by omega,h2⟩
  rw [up]
  unfold outerTo
  by_cases ho:s.owner.getD k 0=(t:Int)
  ·have hno:¬ (s.owner.getD k 0 ≠ (t:Int)):=fun h=>h ho
   rw [if_neg hno,if_neg hno]
   by_cases hx:(s.set.mutexes.getD k pair0).x=1
   ·rw [if_pos hx,if_pos hx,le_maxI,le_maxI,ih]
    constructor
    ·rintro ((h1 | h1) | h1)
     ·exact .inl (.inl h1)
     ·exact .inr (.inl h1)
     ·exact .inl (.inr h1)
    ·rintro ((h1 | h1) | (h1 | h1))
     ·exact .inl (.inl h1)
     ·exact .inr h1
     ·exact .inl (.inr h1)
     ·exact absurd hx h1.2.1
   ·rw [if_neg hx,if_neg hx,if_pos rfl,if_neg (by decide),le_innerTo,ih]
    constructor
    ·rintro ((h1 | h1) | h1)
     ·exact .inl h1
     ·exact .inr (.inl h1)
     ·exact .inr (.inr ⟨ho,hx,h1⟩)
    ·rintro (h1 | (h1 | h1))
     ·exact .inl (.inl h1)
     ·exact .inl (.inr h1)
     ·exact .inr h1.2.2
  ·rw [if_pos ho,if_pos ho,ih]
   constructor
   ·rintro (h1 | h1)
    ·exact .inl h1
    ·exact .inr (.inl h1)
   ·rintro (h1 | (h1 | h1))
    ·exact .inl h1
    ·exact .inr h1
    ·exact absurd h1.1 ho
def own (s:RS) (t:Nat):Int:=level s 0 t
theorem le_level (s:RS) (d t:Nat) (v:Int):v<=level s (d + 1) t ↔ v<=own s t\/∃ u,Lends s u t/\v<=level s d u:=by
 show v<=outerTo s (level s d) true t s.owner.length ↔ v<=outerTo s (fun _=>0) false t s.owner.length\/_
 rw [le_outerTo s (level s d) (fun _=>0)]
 constructor
 ·rintro (h | ⟨m,h1,h2,h3,u,h4,h5,h6,h7⟩)
  ·exact .inl h
  ·exact .inr ⟨u,⟨h4,h5,m,h1,h6,h2,h3⟩,h7⟩
 ·rintro (h | ⟨u,⟨h4,h5,m,h1,h6,h2,h3⟩,h7⟩)
  ·exact .inl h
  ·exact .inr ⟨m,h1,h2,h3,u,h4,h5,h6,h7⟩
theorem level_mono (s:RS) (d:Nat):∀ t,level s d t<=level s (d + 1) t:=by
 induction d with
 | zero=>intro t; exact (le_level s 0 t _).2 (.inl (Int.le_refl _))
 | succ d ih =>
  intro t
  rw [le_level]
  rcases (le_level s d t (level s (d + 1) t)).1 (Int.le_refl _) with h | ⟨u,h1,h2⟩
  ·exact .inl h
  ·exact .inr ⟨u,h1,Int.le_trans h2 (ih u)⟩
theorem own_le_level (s:RS) (d t:Nat):own s t<=level s d t:=by
 induction d with
 | zero=>exact Int.le_refl _
 | succ d ih=>exact Int.le_trans ih (level_mono s d t)
theorem level_stable (s:RS) (t:Nat) (htl:t < s.T.length):level s (s.T.length + 1) t=level s s.T.length t:=by
 have key:∀ (v:Int) (t:Nat),t < s.T.length->v<=level s (s.T.length + 1) t->v<=level s s.T.length t:=by
  intro v
  let C:Nat->Nat:=fun d=>(List.range s.T.length).countP (fun t=>decide (v<=level s d t))
  let St:Nat->Prop:=fun d=>∀ t,t < s.T.length->v<=level s (d + 1) t->v<=level s d t
  have keep:∀ d,St d->St (d + 1):=by
   intro d hd t htl ht
   rw [le_level] at ht ⊢
   rcases ht with h | ⟨u,h1,h2⟩
   ·exact .inl h
   ·exact .inr ⟨u,h1,hd u h1.1 h2⟩
  have grow:∀ d,St d\/C d + 1<=C (d + 1):=by
   intro d
   by_cases h:St d
   ·exact .inl h
   ·right
    have ⟨u,hu⟩:=Classical.not_forall.1 h
    have ⟨hul,hu⟩:=Classical.not_imp.1 hu
    have ⟨hu1,hu2⟩:=Classical.not_imp.1 hu
    clear h hu
    have le:∀ l:List Nat,l.countP (fun t=>decide (v<=level s d t))<=l.countP (fun t=>decide (v<=level s (d + 1) t)):=by
     intro l
     refine List.countP_mono_left fun x _ hx=>?_
     have h1:v<=level s d x:=by simpa using hx
     have:=level_mono s d x
     simp
     omega
    have gen:∀ l:List Nat,u ∈ l->l.countP (fun t=>decide (v<=level s d t)) + 1<=l.countP (fun t=>decide (v<=level s (d + 1) t)):=by
     intro l
     induction l with
     | nil=>intro h; cases h
     | cons x l ih =>
      intro h
      rw [List.countP_cons,List.countP_cons]
      rcases List.mem_cons.1 h with rfl | h
      ·have:=le l
       rw [if_neg (by simpa using hu2),if_pos (by simpa using hu1)]
       omega
      ·have:=ih h
       have hm:=level_mono s d x
       by_cases h1:v<=level s d x
       ·have h2:v<=level s (d + 1) x:=by omega
        rw [if_pos (by simpa using h1),if_pos (by simpa using h2)]
        omega
       ·rw [if_neg (by simpa using h1)]
        omega
    exact gen _ (by simpa using hul)
  have all:∀ d,(∃ e,e < d/\St e)\/d<=C d:=by
   intro d
   induction d with
   | zero=>exact .inr (Nat.zero_le _)
   | succ d ih =>
    rcases ih with ⟨e,h1,h2⟩ | h
    ·exact .inl ⟨e,by omega,h2⟩
    ·rcases grow d with h1 | h1
     ·exact .inl ⟨d,by omega,h1⟩
     ·exact .inr (by omega)
  have up:∀ e j,St e->St (e + j):=by
   intro e j h
   induction j with
   | zero=>exact h
   | succ j ih=>exact keep _ ih
  rcases all (s.T.length + 1) with ⟨e,h1,h2⟩ | h
  ·have:=up e (s.T.length - e) h2
   rw [show e + (s.T.length - e)=s.T.length by omega] at this
   exact this
  ·have h1:C (s.T.length + 1)<=s.T.length:=by
    have:=List.countP_le_length (p:=fun t=>decide (v<=level s (s.T.length + 1) t)) (l:=List.range s.T.length)
    simpa using this
   omega
 have h1:=key _ t htl (Int.le_refl (level s (s.T.length + 1) t))
 have h2:=level_mono s s.T.length t
 omega
theorem le_Level (s:RS) (t:Nat) (ht:t < s.T.length) (v:Int):v<=Level s t ↔ v<=own s t\/∃ u,Lends s u t/\v<=Level s u:=by
 show v<=level s s.T.length t ↔ _
 rw [<- level_stable s t ht]
 exact le_level s s.T.length t v
theorem lends_le (s:RS) (u t:Nat) (ht:t < s.T.length) (h:Lends s u t):Level s u<=Level s t:=(le_Level s t ht _).2 (.inr ⟨u,h,Int.le_refl _⟩)
def ownTo (s:RS):Nat->List Int
 | 0=>s.T.map (fun x=>x.base)
 | k + 1=>if 0<=s.owner.getD k 0/\(s.set.mutexes.getD k pair0).x=1/\(ownTo s k).getD (s.owner.getD k 0).toNat 0 < (s.set.mutexes.getD k pair0).y then (ownTo s k).set (s.owner.getD k 0).toNat (s.set.mutexes.getD k pair0).y else ownTo s k
theorem ownTo_length (s:RS) (k:Nat):(ownTo s k).length=s.T.length:=by
 induction k with
 | zero=>simp [ownTo]
 | succ k ih=>unfold ownTo; split <;> simp [ih]
theorem ownTo_get (s:RS) (k t:Nat) (ht:t < s.T.length) (g:Nat->Int):(ownTo s k).getD t 0=outerTo s g false t k:=by
 induction k with
 | zero=>simp [ownTo,outerTo,th,List.getD,ht]
 | succ k ih =>
  unfold ownTo outerTo
  by_cases ho:s.owner.getD k 0=(t:Int)
  ·have hno:¬ (s.owner.getD k 0 ≠ (t:Int)):=fun h=>h ho
   rw [if_neg hno]
   have e:(s.owner.getD k 0).toNat=t:=by omega
   rw [e]
   by_cases hx:(s.set.mutexes.getD k pair0).x=1
   ·rw [if_pos hx]
    unfold maxI
    by_cases hl:(ownTo s k).getD t 0 < (s.set.mutexes.getD k pair0).y
    ·rw [if_pos ⟨by omega,hx,hl⟩,if_pos (by rw [<- ih]; exact hl)]
     have:=ownTo_length s k
     simp [List.getD,this,ht]
    ·rw [if_neg (fun h=>hl h.2.2),if_neg (by rw [<- ih]; exact hl),ih]
   ·rw [if_neg hx,if_neg (fun h=>hx h.2.1),if_neg (by decide),ih]
  ·rw [if_pos ho]
   split
   ·rename_i h
    rw [<- ih]
    have hne:(s.owner.getD k 0).toNat ≠ t:=by omega
    exact getD_set_ne _ _ _ _ hne
   ·exact ih
theorem ownTo_own (s:RS) (t:Nat) (ht:t < s.T.length):(ownTo s s.owner.length).getD t 0=own s t:=ownTo_get s _ t ht _
def ahd (s:RS) (u:Nat):Int:=if (th s.T u).for_=1 then s.owner.getD (th s.T u).of_.toNat 0 else -1
def lendee (s:RS) (u:Nat):Int:=if ahd s u < 0\/(s.set.mutexes.getD (th s.T u).of_.toNat pair0).x ≠ 0 then -1 else ahd s u
def lend (s:RS) (l:List Int) (u:Nat):List Int:=if 0<=lendee s u/\l.getD (lendee s u).toNat 0 < l.getD u 0 then l.set (lendee s u).toNat (l.getD u 0) else l
def lendAll (s:RS) (wt:List Nat) (l:List Int):List Int:=wt.foldl (lend s) l
def lendTo (s:RS) (wt:List Nat):Nat->List Int
 | 0=>ownTo s s.owner.length
 | k + 1=>lendAll s wt (lendTo s wt k)
theorem lend_length (s:RS) (l:List Int) (u:Nat):(lend s l u).length=l.length:=by unfold lend; split <;> simp
theorem lendAll_length (s:RS) (wt:List Nat) (l:List Int):(lendAll s wt l).length=l.length:=by
 induction wt generalizing l with
 | nil=>rfl
 | cons x wt ih=>show (lendAll s wt (lend s l x)).length=_; rw [ih,lend_length]
theorem lendTo_length (s:RS) (wt:List Nat) (k:Nat):(lendTo s wt k).length=s.T.length:=by
 induction k with
 | zero=>exact ownTo_length s _
 | succ k ih=>unfold lendTo; rw [lendAll_length,ih]
structure LinksOk (s:RS):Prop where
 len:s.owner.length=s.set.mutexes.length
 own:∀ i,i < s.owner.length->-1<=s.owner.getD i 0/\s.owner.getD i 0 < s.T.length
 of1:∀ t,t < s.T.length->(th s.T t).for_=1->0<=(th s.T t).of_/\(th s.T t).of_ < s.owner.length
 kind:∀ i,i < s.owner.length->(s.set.mutexes.getD i pair0).x=0\/(s.set.mutexes.getD i pair0).x=1
section
variable {s:RS}
theorem lendee_bd (ok:LinksOk s) (u:Nat) (hu:u < s.T.length):-1<=lendee s u/\lendee s u < s.T.length:=by
 unfold lendee ahd
 by_cases h:(th s.T u).for_=1
 ·have h1:=ok.of1 u hu h
  have h2:=ok.own (th s.T u).of_.toNat (by omega)
  rw [if_pos h]
  split <;> omega
 ·rw [if_neg h]
  simp
  omega
theorem lends_lendee (ok:LinksOk s) (u t:Nat) (hu:u < s.T.length):Lends s u t ↔ lendee s u=(t:Int):=by
 unfold Lends lendee ahd
 constructor
 ·rintro ⟨_,h1,m,h2,h3,h4,h5⟩
  have e:(th s.T u).of_.toNat=m:=by omega
  have hk:=ok.kind m h2
  rw [if_pos h1,e,h4,if_neg (by omega)]
 ·intro h
  by_cases h1:(th s.T u).for_=1
  ·rw [if_pos h1] at h
   have h2:=ok.of1 u hu h1
   split at h
   ·omega
   ·refine ⟨hu,h1,(th s.T u).of_.toNat,by omega,by omega,h,?_⟩
    omega
  ·rw [if_neg h1] at h
   simp at h
theorem lend_get (_ok:LinksOk s) (l:List Int) (hl:l.length=s.T.length) (u t:Nat):(lend s l u).getD t 0=if lendee s u=(t:Int)/\t < s.T.length/\l.getD t 0 < l.getD u 0 then l.getD u 0 else l.getD t 0:=by
 unfold lend
 by_cases h:0<=lendee s u/\l.getD (lendee s u).toNat 0 < l.getD u 0
 ·rw [if_pos h]
  by_cases e:lendee s u=(t:Int)
  ·have e2:(lendee s u).toNat=t:=by omega
   rw [e2] at h ⊢
   by_cases ht:t < s.T.length
   ·rw [if_pos ⟨e,ht,h.2⟩]
    simp [List.getD,hl,ht]
   ·rw [if_neg (fun h=>ht h.2.1)]
    simp [List.getD,hl,ht]
  ·rw [if_neg (fun h=>e h.1)]
   have hne:(lendee s u).toNat ≠ t:=by omega
   exact getD_set_ne _ _ _ _ hne
 ·rw [if_neg h,if_neg]
  rintro ⟨e,_,h2⟩
  have e2:(lendee s u).toNat=t:=by omega
  exact h ⟨by omega,by rw [e2]; exact h2⟩
theorem lend_le (ok:LinksOk s) (l:List Int) (hl:l.length=s.T.length) (u t:Nat):l.getD t 0<=(lend s l u).getD t 0:=by
 rw [lend_get ok l hl]
 split <;> omega
theorem lendAll_le (ok:LinksOk s) (wt:List Nat) (l:List Int) (hl:l.length=s.T.length) (t:Nat):l.getD t 0<=(lendAll s wt l).getD t 0:=by
 induction wt generalizing l with
 | nil=>exact Int.le_refl _
 | cons x wt ih=>exact Int.le_trans (lend_le ok l hl x t) (ih (lend s l x) (by rw [lend_length,hl]))
theorem lendAll_lent (ok:LinksOk s) (wt:List Nat) (l:List Int) (hl:l.length=s.T.length) (u t:Nat) (hu:u ∈ wt) (ht:t < s.T.length) (h:lendee s u=(t:Int)):l.getD u 0<=(lendAll s wt l).getD t 0:=by
 induction wt generalizing l with
 | nil=>cases hu
 | cons x wt ih =>
  have hl':(lend s l x).length=s.T.length:=by rw [lend_length,hl]
  show _<=(lendAll s wt (lend s l x)).getD t 0
  rcases List.mem_cons.1 hu with rfl | hu
  ·refine Int.le_trans ?_ (lendAll_le ok wt _ hl' t)
   rw [lend_get ok l hl]
   split
   ·omega
   ·rename_i hn
    have:¬ l.getD t 0 < l.getD u 0:=fun h'=>hn ⟨h,ht,h'⟩
    omega
  ·exact Int.le_trans (lend_le ok l hl x u) (ih _ hl' hu)
theorem lendAll_top (ok:LinksOk s) (wt:List Nat) (hw:∀ u ∈ wt,u < s.T.length) (l:List Int) (hl:l.length=s.T.length) (h:∀ t,t < s.T.length->l.getD t 0<=Level s t):∀ t,t < s.T.length->(lendAll s wt l).getD t 0<=Level s t:=by
 induction wt generalizing l with
 | nil=>exact h
 | cons x wt ih =>
  refine ih (fun u hu=>hw u (List.mem_cons_of_mem _ hu)) (lend s l x) (by rw [lend_length,hl]) fun t ht=>?_
  have hx:=hw x (by simp)
  rw [lend_get ok l hl]
  split
  ·rename_i h1
   exact Int.le_trans (h x hx) (lends_le s x t ht ((lends_lendee ok x t hx).2 h1.1))
  ·exact h t ht
theorem lendTo_low (ok:LinksOk s) (wt:List Nat) (hw:∀ u,u < s.T.length->(th s.T u).for_=1->u ∈ wt) (k:Nat):∀ t,t < s.T.length->level s k t<=(lendTo s wt k).getD t 0:=by
 induction k with
 | zero=>intro t ht; unfold lendTo; rw [ownTo_own s t ht]; exact Int.le_refl _
 | succ k ih =>
  intro t ht
  have hl:=lendTo_length s wt k
  unfold lendTo
  rcases (le_level s k t _).1 (Int.le_refl (level s (k + 1) t)) with h | ⟨u,h1,h2⟩
  ·exact Int.le_trans (Int.le_trans h (own_le_level s k t)) (Int.le_trans (ih t ht) (lendAll_le ok wt _ hl t))
  ·exact Int.le_trans (Int.le_trans h2 (ih u h1.1)) (lendAll_lent ok wt _ hl u t (hw u h1.1 h1.2.1) ht ((lends_lendee ok u t h1.1).1 h1))
theorem lendTo_levels (ok:LinksOk s) (wt:List Nat) (hw:∀ u ∈ wt,u < s.T.length) (hw1:∀ u,u < s.T.length->(th s.T u).for_=1->u ∈ wt):lendTo s wt s.T.length=levels s:=by
 have hl:=lendTo_length s wt s.T.length
 have top:∀ k,∀ t,t < s.T.length->(lendTo s wt k).getD t 0<=Level s t:=by
  intro k
  induction k with
  | zero=>intro t ht; unfold lendTo; rw [ownTo_own s t ht]; exact own_le_level s _ t
  | succ k ih=>exact lendAll_top ok wt hw _ (lendTo_length s wt k) ih
 apply List.ext_getElem
 ·rw [hl]
  simp [levels]
 ·intro t h1 h2
  rw [hl] at h1
  have a:=top s.T.length t h1
  have b:=lendTo_low ok wt hw1 s.T.length t h1
  have e:(lendTo s wt s.T.length).getD t 0=(lendTo s wt s.T.length)[t]:=by simp [List.getD,hl,h1]
  rw [e] at a b
  have c:(levels s)[t]=Level s t:=by simp [levels]
  have d:Level s t=level s s.T.length t:=rfl
  omega
end
end R
end Go.Proofs.YtbkfildnijjioaaGreat

namespace Go.Proofs.YtbkfildnijjioaaGreat
namespace Ln
def above (lv:Nat->Int) (a b:Nat):Bool:=decide (lv b < lv a)
def byBack (lv:Nat->Int) (l:List Nat):List Nat:=l.foldl (fun acc t=>ins (above lv) t acc) []
def byLv (lv:Nat->Int) (l:List Nat):List Nat:=(byBack lv l).reverse
def fine (lv:Nat->Int) (r:Nat->Int) (a b:Nat):Bool:=decide (lv b < lv a) || (decide (lv a=lv b) && decide (r a < r b))
theorem fine_irr (lv r:Nat->Int) (a:Nat):fine lv r a a=false:=by simp [fine]
theorem fine_asym (lv r:Nat->Int) (a b:Nat) (h:fine lv r a b=true):fine lv r b a=false:=by
 simp [fine] at h ⊢
 omega
theorem fine_trans (lv r:Nat->Int) (a b c:Nat) (h1:fine lv r a b=true) (h2:fine lv r b c=true):fine lv r a c=true:=by
 simp [fine] at h1 h2 ⊢
 omega
theorem fine_total (lv r:Nat->Int) (a b:Nat) (h:r a ≠ r b):fine lv r a b=true\/fine lv r b a=true:=by
 simp [fine]
 omega
theorem ins_same (lv r:Nat->Int) (t:Nat) (l:List Nat) (h:∀ x ∈ l,r x < r t):ins (above lv) t l=ins (fine lv r) t l:=by
 induction l with
 | nil=>rfl
 | cons x l ih =>
  have hx:=h x (by simp)
  have e:above lv t x=fine lv r t x:=by
   unfold above fine
   have:¬ r t < r x:=by omega
   simp [this]
  unfold ins
  rw [e,ih (fun y hy=>h y (by simp [hy]))]
theorem byBack_snoc (lv:Nat->Int) (l:List Nat) (t:Nat):byBack lv (l ++ [t])=ins (above lv) t (byBack lv l):=by simp [byBack]
theorem byBack_perm (lv:Nat->Int) (l:List Nat):(byBack lv l).Perm l:=by
 suffices h:∀ l acc:List Nat,(l.foldl (fun acc t=>ins (above lv) t acc) acc).Perm (acc ++ l) by
  have:=h l []
  simpa [byBack] using this
 intro l
 induction l with
 | nil=>intro acc; simp
 | cons x l ih =>
  intro acc
  refine (ih _).trans ?_
  exact ((ins_perm (above lv) x acc).append_right l).trans List.perm_middle.symm
theorem byLv_perm (lv:Nat->Int) (l:List Nat):(byLv lv l).Perm l:=(List.reverse_perm _).trans (byBack_perm lv l)
theorem byLv_mem (lv:Nat->Int) (l:List Nat) (t:Nat):t ∈ byLv lv l ↔ t ∈ l:=(byLv_perm lv l).mem_iff
theorem byLv_length (lv:Nat->Int) (l:List Nat):(byLv lv l).length=l.length:=(byLv_perm lv l).length_eq
theorem ins_sorted' (lv r:Nat->Int) (t:Nat) (l:List Nat) (h:∀ x ∈ l,r x < r t) (hs:l.Pairwise (fun a b=>fine lv r b a=true)):(ins (above lv) t l).Pairwise (fun a b=>fine lv r b a=true):=by
 rw [ins_same lv r t l h]
 induction l with
 | nil=>simp [ins]
 | cons x l ih =>
  have hx:=h x (by simp)
  obtain ⟨h1,h2⟩:=List.pairwise_cons.1 hs
  unfold ins
  split
  ·rename_i hh
   refine List.pairwise_cons.2 ⟨fun b hb=>?_,ih (fun y hy=>h y (by simp [hy])) h2⟩
   rcases List.mem_cons.1 ((ins_perm (fine lv r) t l).mem_iff.1 hb) with rfl | hb
   ·exact hh
   ·exact h1 b hb
  ·rename_i hh
   have h':fine lv r x t=true:=by
    rcases fine_total lv r x t (by omega) with h3 | h3
    ·exact h3
    ·exact absurd h3 hh
   refine List.pairwise_cons.2 ⟨fun b hb=>?_,hs⟩
   rcases List.mem_cons.1 hb with rfl | hb
   ·exact h'
   ·exact fine_trans lv r b x t (h1 b hb) h'
theorem byBack_sorted (lv r:Nat->Int) (l:List Nat) (h:l.Pairwise (fun a b=>r a < r b)):(byBack lv l).Pairwise (fun a b=>fine lv r b a=true):=by
 suffices hh:∀ l acc:List Nat,l.Pairwise (fun a b=>r a < r b)->(∀ x ∈ acc,∀ y ∈ l,r x < r y)->acc.Pairwise (fun a b=>fine lv r b a=true)->(l.foldl (fun acc t=>ins (above lv) t acc) acc).Pairwise (fun a b=>fine lv r b a=true) by
  exact hh l [] h (by simp) List.Pairwise.nil
 intro l
 induction l with
 | nil=>intro acc _ _ h; exact h
 | cons x l ih =>
  intro acc hl ha hs
  obtain ⟨h1,h2⟩:=List.pairwise_cons.1 hl
  refine ih (ins (above lv) x acc) h2 (fun y hy z hz=>?_) (ins_sorted' lv r x acc (fun y hy=>ha y hy x (by simp)) hs)
  rcases List.mem_cons.1 ((ins_perm (above lv) x acc).mem_iff.1 hy) with rfl | hy
  ·exact h1 z hz
  ·exact ha y hy z (by simp [hz])
theorem byLv_sorted (lv r:Nat->Int) (l:List Nat) (h:l.Pairwise (fun a b=>r a < r b)):(byLv lv l).Pairwise (fun a b=>fine lv r a b=true):=by
 unfold byLv
 rw [List.pairwise_reverse]
 exact byBack_sorted lv r l h
theorem sorted_eq (lv r:Nat->Int) {l l':List Nat} (h:l.Pairwise (fun a b=>fine lv r a b=true)) (h':l'.Pairwise (fun a b=>fine lv r a b=true)) (hp:l.Perm l'):l=l':=by
 refine List.Perm.eq_of_pairwise (le:=fun a b=>fine lv r a b=true) (fun a b _ _ h1 h2=>?_) h h' hp
 rw [fine_asym lv r a b h1] at h2
 cases h2
end Ln
end Go.Proofs.YtbkfildnijjioaaGreat

namespace Go.Proofs.YtbkfildnijjioaaGreat
namespace Ln
theorem nodup_le':∀ (l l':List Nat),l.Nodup->(∀ x ∈ l,x ∈ l')->l.length<=l'.length:=by
 intro l
 induction l with
 | nil=>intro l' _ _; simp
 | cons x r ih =>
  intro l' hn hs
  obtain ⟨h1,h2⟩:=List.nodup_cons.1 hn
  have hx:=hs x (by simp)
  have:=ih (l'.erase x) h2 (fun y hy=>by
   have hne:y ≠ x:=fun e=>h1 (e ▸ hy)
   exact (List.mem_erase_of_ne hne).2 (hs y (by simp [hy])))
  rw [List.length_erase_of_mem hx] at this
  have:0 < l'.length:=List.length_pos_of_mem hx
  simp
  omega
def sinceOf (s:RS) (t:Nat):Int:=(R.th s.T t).since
structure WtOk (s:RS) (wt:List Nat):Prop where
 mem:∀ u,u ∈ wt ↔ u < s.T.length/\(R.th s.T u).for_ ≠ 0
 ord:wt.Pairwise (fun a b=>sinceOf s a < sinceOf s b)
 top:∀ u ∈ wt,sinceOf s u<=s.next
def waitsFor (s:RS) (what of_:Int) (u:Nat):Bool:=decide ((R.th s.T u).for_=what) && decide ((R.th s.T u).of_=of_)
def lineW (s:RS) (wt:List Nat) (what of_:Int):List Nat:=byLv (R.Level s) (wt.filter (waitsFor s what of_))
section
variable {s:RS} {wt:List Nat}
theorem WtOk.since_ne (h:WtOk s wt) {a b:Nat} (ha:a ∈ wt) (hb:b ∈ wt) (hab:a ≠ b):sinceOf s a ≠ sinceOf s b:=by
 obtain ⟨i,hi,rfl⟩:=List.mem_iff_getElem.1 ha
 obtain ⟨j,hj,rfl⟩:=List.mem_iff_getElem.1 hb
 rcases Nat.lt_trichotomy i j with h1 | h1 | h1
 ·have:=List.pairwise_iff_getElem.1 h.ord i j hi hj h1
  omega
 ·subst h1
  exact absurd rfl hab
 ·have:=List.pairwise_iff_getElem.1 h.ord j i hj hi h1
  omega
theorem WtOk.nodup (h:WtOk s wt):wt.Nodup:=by
 rw [List.nodup_iff_pairwise_ne]
 exact h.ord.imp (fun hab e=>by subst e; omega)
theorem lineW_sorted (h:WtOk s wt) (what of_:Int):(lineW s wt what of_).Pairwise (fun a b=>fine (R.Level s) (sinceOf s) a b=true) :=
 byLv_sorted _ _ _ (h.ord.sublist List.filter_sublist)
theorem lineW_mem (h:WtOk s wt) (what of_:Int) (hw:what ≠ 0) (u:Nat):u ∈ lineW s wt what of_ ↔ u < s.T.length/\(R.th s.T u).for_=what/\(R.th s.T u).of_=of_:=by
 unfold lineW
 rw [byLv_mem,List.mem_filter,h.mem]
 unfold waitsFor
 rw [Bool.and_eq_true,decide_eq_true_eq,decide_eq_true_eq]
 constructor
 ·rintro ⟨⟨a,_⟩,b,c⟩
  exact ⟨a,b,c⟩
 ·rintro ⟨a,b,c⟩
  exact ⟨⟨a,by omega⟩,b,c⟩
theorem lineW_nodup (h:WtOk s wt) (what of_:Int):(lineW s wt what of_).Nodup:=(byLv_perm _ _).nodup_iff.2 (h.nodup.sublist List.filter_sublist)
theorem lineW_bd (h:WtOk s wt) (what of_:Int):∀ u ∈ lineW s wt what of_,u < s.T.length:=by
 intro u hu
 unfold lineW at hu
 rw [byLv_mem] at hu
 exact ((h.mem u).1 (List.mem_filter.1 hu).1).1
theorem namedTo_iff (l:List Int) (t:Int) (k:Nat) (hk:k<=l.length):R.namedTo l t k=true ↔ t ∈ l.take k:=by
 induction k with
 | zero=>simp [R.namedTo]
 | succ k ih =>
  unfold R.namedTo
  rw [List.take_succ_eq_append_getElem (by omega),List.mem_append,Bool.or_eq_true,ih (by omega)]
  have:l.getD k 0=l[k]:=by simp [List.getD,show k < l.length by omega]
  rw [this]
  simp
  constructor
  ·rintro (h | h)
   ·exact .inl h
   ·exact .inr h.symm
  ·rintro (h | h)
   ·exact .inl h
   ·exact .inr h.symm
def Cand (s:RS) (what of_:Int) (l:List Int) (u:Nat):Prop:=(R.th s.T u).for_=what/\(R.th s.T u).of_=of_/\(u:Int) ∉ l
theorem firstTo_min (h:WtOk s wt) (what of_:Int) (hw:what ≠ 0) (l:List Int) (k:Nat) (hk:k<=s.T.length) :
  (R.firstTo s what of_ l k=-1/\∀ u,u < k->¬ Cand s what of_ l u)\/∃ b:Nat,R.firstTo s what of_ l k=(b:Int)/\b < k/\Cand s what of_ l b/\∀ u,u < k->Cand s what of_ l u->u ≠ b->fine (R.Level s) (sinceOf s) b u=true:=by
 induction k with
 | zero=>exact .inl ⟨rfl,fun u hu=>by omega⟩
 | succ k ih =>
  have hnm:=namedTo_iff l (k:Int) l.length (Nat.le_refl _)
  rw [List.take_length] at hnm
  have split_lt:∀ u,u < k + 1->u < k\/u=k:=fun u hu=>by omega
  unfold R.firstTo
  by_cases hc:Cand s what of_ l k
  ·have e1:¬ ((R.th s.T k).for_ ≠ what\/(R.th s.T k).of_ ≠ of_):=by rintro (h1 | h1); exact h1 hc.1; exact h1 hc.2.1
   have e2:¬ (R.namedTo l (k:Int) l.length=true):=fun hh=>hc.2.2 (hnm.1 hh)
   rw [if_neg e1,if_neg e2]
   have hkw:k ∈ wt:=(h.mem k).2 ⟨by omega,by rw [hc.1]; exact hw⟩
   rcases ih (by omega) with ⟨e,hn⟩ | ⟨b,e,hb,hcb,hmin⟩
   ·rw [e,if_pos (by omega)]
    refine .inr ⟨k,rfl,by omega,hc,fun u hu hcu hne=>?_⟩
    rcases split_lt u hu with h1 | h1
    ·exact absurd hcu (hn u h1)
    ·exact absurd h1 hne
   ·rw [e,if_neg (by omega)]
    have hbw:b ∈ wt:=(h.mem b).2 ⟨by omega,by rw [hcb.1]; exact hw⟩
    have eg:R.goesFirst s k (Int.toNat (b:Int))=fine (R.Level s) (sinceOf s) k b:=by
     unfold R.goesFirst fine sinceOf
     simp
    rw [eg]
    by_cases hf:fine (R.Level s) (sinceOf s) k b=true
    ·rw [if_pos hf]
     refine .inr ⟨k,rfl,by omega,hc,fun u hu hcu hne=>?_⟩
     rcases split_lt u hu with h1 | h1
     ·by_cases e3:u=b
      ·subst e3; exact hf
      ·exact fine_trans _ _ k b u hf (hmin u h1 hcu e3)
     ·exact absurd h1 hne
    ·rw [if_neg hf]
     refine .inr ⟨b,rfl,by omega,hcb,fun u hu hcu hne=>?_⟩
     rcases split_lt u hu with h1 | h1
     ·exact hmin u h1 hcu hne
     ·subst h1
      rcases fine_total (R.Level s) (sinceOf s) b u (h.since_ne hbw hkw (Ne.symm hne)) with h2 | h2
      ·exact h2
      ·exact absurd h2 hf
  ·have e3:(if (R.th s.T k).for_ ≠ what\/(R.th s.T k).of_ ≠ of_ then R.firstTo s what of_ l k else if R.namedTo l (k:Int) l.length=true then R.firstTo s what of_ l k else if R.firstTo s what of_ l k < 0 then (k:Int) else if R.goesFirst s k (R.firstTo s what of_ l k).toNat=true then (k:Int) else R.firstTo s what of_ l k)=R.firstTo s what of_ l k:=by
    by_cases e1:(R.th s.T k).for_ ≠ what\/(R.th s.T k).of_ ≠ of_
    ·rw [if_pos e1]
    ·rw [if_neg e1]
     by_cases e2:R.namedTo l (k:Int) l.length=true
     ·rw [if_pos e2]
     ·exfalso
      refine hc ⟨?_,?_,fun hh=>e2 (hnm.2 hh)⟩
      ·exact Classical.not_not.1 fun hh=>e1 (.inl hh)
      ·exact Classical.not_not.1 fun hh=>e1 (.inr hh)
   rw [e3]
   rcases ih (by omega) with ⟨e,hn⟩ | ⟨b,e,hb,hcb,hmin⟩
   ·refine .inl ⟨e,fun u hu hcu=>?_⟩
    rcases split_lt u hu with h1 | h1
    ·exact hn u h1 hcu
    ·subst h1; exact hc hcu
   ·refine .inr ⟨b,e,by omega,hcb,fun u hu hcu hne=>?_⟩
    rcases split_lt u hu with h1 | h1
    ·exact hmin u h1 hcu hne
    ·subst h1; exact absurd hcu hc
def ints (l:List Nat):List Int:=l.map (fun u:Nat=>(u:Int))
theorem mem_ints (l:List Nat) (u:Nat):(u:Int) ∈ ints l ↔ u ∈ l:=by
 unfold ints
 rw [List.mem_map]
 constructor
 ·rintro ⟨a,h,e⟩
  have:a=u:=by omega
  exact this ▸ h
 ·exact fun h=>⟨u,h,rfl⟩
theorem ints_length (l:List Nat):(ints l).length=l.length:=by simp [ints]
theorem first_line (h:WtOk s wt) (what of_:Int) (hw:what ≠ 0) (k:Nat):R.first s what of_ (ints ((lineW s wt what of_).take k))=if hk:k < (lineW s wt what of_).length then ((lineW s wt what of_)[k]:Int) else -1:=by
 have hcand:∀ u,u < s.T.length->(Cand s what of_ (ints ((lineW s wt what of_).take k)) u ↔ u ∈ (lineW s wt what of_).drop k):=by
  intro u hu
  unfold Cand
  rw [mem_ints]
  have hm:=lineW_mem h what of_ hw u
  have hn:=lineW_nodup h what of_
  generalize lineW s wt what of_=L at *
  constructor
  ·rintro ⟨h1,h2,h3⟩
   have hmem:u ∈ L:=hm.2 ⟨hu,h1,h2⟩
   rw [<- List.take_append_drop k L] at hmem
   rcases List.mem_append.1 hmem with h4 | h4
   ·exact absurd h4 h3
   ·exact h4
  ·intro hd
   obtain ⟨_,h1,h2⟩:=hm.1 (List.mem_of_mem_drop hd)
   refine ⟨h1,h2,fun ht=>?_⟩
   rw [<- List.take_append_drop k L] at hn
   exact (List.nodup_append.1 hn).2.2 u ht u hd rfl
 have hs:=lineW_sorted h what of_
 have hbd:=lineW_bd h what of_
 rcases firstTo_min h what of_ hw (ints ((lineW s wt what of_).take k)) s.T.length (Nat.le_refl _) with ⟨e,hn⟩ | ⟨b,e,hb,hcb,hmin⟩
 ·unfold R.first
  rw [e,dif_neg]
  intro hk
  have hd:(lineW s wt what of_)[k] ∈ (lineW s wt what of_).drop k:=List.mem_drop_iff_getElem.2 ⟨0,by omega,by simp⟩
  have hlt:=hbd _ (List.getElem_mem hk)
  exact hn _ hlt ((hcand _ hlt).2 hd)
 ·unfold R.first
  rw [e]
  have hbd':=(hcand b hb).1 hcb
  generalize lineW s wt what of_=L at *
  have hk:k < L.length:=by
   rcases Nat.lt_or_ge k L.length with h1 | h1
   ·exact h1
   ·rw [List.drop_eq_nil_of_le h1] at hbd'
    cases hbd'
  rw [dif_pos hk]
  have hd:L[k] ∈ L.drop k:=List.mem_drop_iff_getElem.2 ⟨0,by omega,by simp⟩
  have hlt:=hbd _ (List.getElem_mem hk)
  by_cases hne:L[k]=b
  ·rw [hne]
  ·exfalso
   have h1:=hmin L[k] hlt ((hcand _ hlt).2 hd) hne
   obtain ⟨j,hj,ej⟩:=List.mem_drop_iff_getElem.1 hbd'
   have hj0:j ≠ 0:=by
    rintro rfl
    exact hne (by simpa using ej)
   have h2:=List.pairwise_iff_getElem.1 hs k (k + j) hk (by omega) (by omega)
   rw [ej] at h2
   rw [fine_asym _ _ _ _ h1] at h2
   cases h2
theorem waitTo_line (h:WtOk s wt) (what of_:Int) (hw:what ≠ 0) (k:Nat):R.waitTo s what of_ k=ints ((lineW s wt what of_).take k):=by
 induction k with
 | zero=>rfl
 | succ k ih =>
  unfold R.waitTo
  rw [ih,first_line h what of_ hw k]
  by_cases hk:k < (lineW s wt what of_).length
  ·rw [dif_pos hk,if_neg (by omega),List.take_succ_eq_append_getElem hk]
   unfold ints
   rw [List.map_append]
   rfl
  ·rw [dif_neg hk,if_pos (by omega),List.take_of_length_le (by omega),List.take_of_length_le (by omega)]
theorem waiting_line (h:WtOk s wt) (what of_:Int) (hw:what ≠ 0):R.waiting s what of_=ints (lineW s wt what of_):=by
 unfold R.waiting
 rw [waitTo_line h what of_ hw,List.take_of_length_le]
 have hn:=lineW_nodup h what of_
 have hb:=lineW_bd h what of_
 have:=nodup_le' _ (List.range s.T.length) hn (fun x hx=>by simpa using hb x hx)
 simp at this
 omega
theorem giveT_line (h:WtOk s wt) (what of_:Int) (hw:what ≠ 0):R.giveT s what of_=if hk:0 < (lineW s wt what of_).length then ((lineW s wt what of_)[0]:Int) else -1:=by
 have:=first_line h what of_ hw 0
 simpa [R.giveT,ints] using this
end
end Ln
end Go.Proofs.YtbkfildnijjioaaGreat

namespace Go.Proofs.YtbkfildnijjioaaGreat
namespace Ln
inductive EndsIn (s:RS):Nat->Int->Prop
 | stop (o:Int) (h:o < 0):EndsIn s 0 o
 | step (k:Nat) (o:Int) (h:0<=o) (r:EndsIn s k (R.ahd s o.toNat)):EndsIn s (k + 1) o
def Chained (s:RS):Prop:=∀ u:Nat,u < s.T.length->∃ k,EndsIn s k (u:Int)
theorem EndsIn.one {s:RS} {k k':Nat} {o:Int} (h:EndsIn s k o) (h':EndsIn s k' o):k=k':=by
 induction h generalizing k' with
 | stop o h =>
  cases h' with
  | stop=>rfl
  | step k o h0 r=>omega
 | step k o h0 r ih =>
  cases h' with
  | stop _ h=>omega
  | step k' _ _ r'=>rw [ih r']
section
variable {s:RS}
theorem ahd_bd (ok:R.LinksOk s) (u:Nat) (hu:u < s.T.length):-1<=R.ahd s u/\R.ahd s u < s.T.length:=by
 unfold R.ahd
 split
 ·rename_i h
  have h1:=ok.of1 u hu h
  exact ok.own _ (by omega)
 ·omega
theorem EndsIn.nodes (ok:R.LinksOk s) {k:Nat} {o:Int} (h:EndsIn s k o) (hb:o < s.T.length):∃ L:List Nat,L.length=k/\L.Nodup/\(∀ u ∈ L,u < s.T.length)/\∀ u ∈ L,∃ j,j<=k/\EndsIn s j (u:Int):=by
 induction h with
 | stop o h=>exact ⟨[],rfl,List.nodup_nil,by simp,by simp⟩
 | step k o h0 r ih =>
  have hu:o.toNat < s.T.length:=by omega
  obtain ⟨L,h1,h2,h3,h4⟩:=ih (ahd_bd ok _ hu).2
  refine ⟨o.toNat :: L,by simp [h1],List.nodup_cons.2 ⟨fun hm=>?_,h2⟩,fun u hu'=>?_,fun u hu'=>?_⟩
  ·obtain ⟨j,hj,hj'⟩:=h4 _ hm
   have e:((o.toNat:Nat):Int)=o:=by omega
   rw [e] at hj'
   have:=EndsIn.one hj' (.step k o h0 r)
   omega
  ·rcases List.mem_cons.1 hu' with rfl | hu'
   ·exact hu
   ·exact h3 u hu'
  ·rcases List.mem_cons.1 hu' with rfl | hu'
   ·have e:((o.toNat:Nat):Int)=o:=by omega
    exact ⟨k + 1,Nat.le_refl _,by rw [e]; exact .step k o h0 r⟩
   ·obtain ⟨j,hj,hj'⟩:=h4 u hu'
    exact ⟨j,by omega,hj'⟩
theorem EndsIn.le (ok:R.LinksOk s) {k:Nat} {o:Int} (h:EndsIn s k o) (hb:o < s.T.length):k<=s.T.length:=by
 obtain ⟨L,h1,h2,h3,_⟩:=h.nodes ok hb
 have:=nodup_le' L (List.range s.T.length) h2 (fun x hx=>by simpa using h3 x hx)
 simp at this
 omega
theorem roundTo_stop (s:RS) (t f:Nat) (o:Int) (h:o < 0\/o=(t:Int)):R.roundTo s t (f + 1) o=decide (o=(t:Int)):=by
 unfold R.roundTo
 rw [if_pos h]
theorem roundTo_step (s:RS) (t f:Nat) (o:Int) (h:0<=o) (hn:o ≠ (t:Int)):R.roundTo s t (f + 2) o=R.roundTo s t (f + 1) (R.ahd s o.toNat):=by
 rw [R.roundTo,if_neg (by omega)]
 unfold R.ahd
 by_cases h1:(R.th s.T o.toNat).for_=1
 ·rw [if_neg (fun h=>h h1),if_pos h1]
 ·rw [if_pos h1,if_neg h1,roundTo_stop s t f (-1) (.inl (by decide))]
  simp
theorem roundTo_enough (s:RS) (t:Nat) {k:Nat} {o:Int} (h:EndsIn s k o) (f:Nat):R.roundTo s t (k + 1 + f) o=R.roundTo s t (k + 1) o:=by
 induction h with
 | stop o h =>
  rw [show 0 + 1 + f=f + 1 by omega,roundTo_stop s t f o (.inl h),roundTo_stop s t 0 o (.inl h)]
 | step k o h0 r ih =>
  by_cases hn:o=(t:Int)
  ·rw [show k + 1 + 1 + f=(k + 1 + f) + 1 by omega,roundTo_stop s t _ o (.inr hn),roundTo_stop s t _ o (.inr hn)]
  ·rw [show k + 1 + 1 + f=(k + f) + 2 by omega,roundTo_step s t _ o h0 hn,roundTo_step s t k o h0 hn,show k + f + 1=k + 1 + f by omega,ih]
theorem round_eq (ok:R.LinksOk s) (ch:Chained s) (t m:Nat) (hm:m < s.owner.length):∃ k,EndsIn s k (s.owner.getD m 0)/\R.round s t m=R.roundTo s t (k + 1) (s.owner.getD m 0):=by
 have hb:=ok.own m hm
 have hex:∃ k,EndsIn s k (s.owner.getD m 0):=by
  by_cases h:s.owner.getD m 0 < 0
  ·exact ⟨0,.stop _ h⟩
  ·have:=ch (s.owner.getD m 0).toNat (by omega)
   rwa [show (((s.owner.getD m 0).toNat:Nat):Int)=s.owner.getD m 0 by omega] at this
 obtain ⟨k,hk⟩:=hex
 refine ⟨k,hk,?_⟩
 have hle:=hk.le ok hb.2
 unfold R.round
 have:=roundTo_enough s t hk (s.T.length - k)
 rwa [show k + 1 + (s.T.length - k)=s.T.length + 1 by omega] at this
end
theorem Chained.turn {s s':RS} (ch:Chained s) (hl:s'.T.length=s.T.length) (h:∀ u,u < s.T.length->-1<=R.ahd s u/\R.ahd s u < s.T.length) (ht:∀ u,u < s.T.length->R.ahd s' u=R.ahd s u\/∃ k,EndsIn s' k (R.ahd s' u)):Chained s':=by
 have key:∀ k o,EndsIn s k o->o < s.T.length->∃ k',EndsIn s' k' o:=by
  intro k o he
  induction he with
  | stop o h0=>intro _; exact ⟨0,.stop o h0⟩
  | step k o h0 r ih =>
   intro hb
   have hu:o.toNat < s.T.length:=by omega
   rcases ht o.toNat hu with e | ⟨k',hk'⟩
   ·obtain ⟨k',hk'⟩:=ih (h _ hu).2
    exact ⟨k' + 1,.step k' o h0 (by rw [e]; exact hk')⟩
   ·exact ⟨k' + 1,.step k' o h0 hk'⟩
 intro u hu
 rw [hl] at hu
 obtain ⟨k,hk⟩:=ch u hu
 exact key k _ hk (by omega)
theorem EndsIn.past {s s':RS} {t:Nat} (he:∀ u,u ≠ t->R.ahd s' u=R.ahd s u) {k:Nat} {o:Int} (h:EndsIn s k o) (hr:R.roundTo s t (k + 1) o=false):EndsIn s' k o:=by
 induction h with
 | stop o h=>exact .stop o h
 | step k o h0 r ih =>
  by_cases hn:o=(t:Int)
  ·rw [roundTo_stop s t _ o (.inr hn)] at hr
   simp [hn] at hr
  ·rw [roundTo_step s t k o h0 hn] at hr
   refine .step k o h0 ?_
   rw [he o.toNat (by omega)]
   exact ih hr
end Ln
end Go.Proofs.YtbkfildnijjioaaGreat

namespace Go.Proofs.YtbkfildnijjioaaGreat
namespace Ln
def less (l:List Nat) (t:Nat):List Nat:=l.filter (fun u=>decide (u ≠ t))
theorem mem_less {l:List Nat} {t u:Nat}:u ∈ less l t ↔ u ∈ l/\u ≠ t:=by simp [less]
theorem less_sub (l:List Nat) (t:Nat):(less l t).Sublist l:=List.filter_sublist
theorem less_perm {l:List Nat} {t:Nat} (hn:l.Nodup) (ht:t ∈ l):(less l t ++ [t]).Perm l:=by
 refine (List.perm_append_singleton t _).trans ?_
 induction l with
 | nil=>cases ht
 | cons x l ih =>
  obtain ⟨h1,h2⟩:=List.nodup_cons.1 hn
  unfold less
  by_cases e:x=t
  ·subst e
   rw [List.filter_cons_of_neg (by simp)]
   have:l.filter (fun u=>decide (u ≠ x))=l:=List.filter_eq_self.2 fun a ha=>by
    simp
    exact fun e=>h1 (e ▸ ha)
   rw [this]
  ·rw [List.filter_cons_of_pos (by simpa using e)]
   have hm:t ∈ l:=by
    rcases List.mem_cons.1 ht with h | h
    ·exact absurd h.symm e
    ·exact h
   exact (List.Perm.swap x t _).trans ((ih h2 hm).cons x)
theorem th_modify (T:List RT) (t u:Nat) (f:RT->RT):R.th (T.modify t f) u=if u=t/\t < T.length then f (R.th T u) else R.th T u:=by
 unfold R.th
 by_cases h:u < T.length
 ·simp only [List.getD_eq_getElem?_getD,List.getElem?_modify]
  by_cases e:t=u
  ·subst e; simp [h]
  ·have e':¬ u=t:=fun x=>e x.symm
   simp [e,e',h]
 ·have h2:¬ (u=t/\t < T.length):=by omega
  simp [List.getD_eq_getElem?_getD,h,h2]
structure TkOk (s:RS) (tk:List Nat):Prop where
 perm:tk.Perm (List.range s.T.length)
 ord:tk.Pairwise (fun a b=>(R.th s.T a).tick < (R.th s.T b).tick\/((R.th s.T a).tick=0/\(R.th s.T b).tick=0))
 bd:∀ u,u < s.T.length->0<=(R.th s.T u).tick/\(R.th s.T u).tick<=s.next
 aw:∀ u,u < s.T.length->(R.th s.T u).awake=true->0 < (R.th s.T u).tick
section
variable {s s':RS} {tk wt:List Nat}
theorem TkOk.mem (h:TkOk s tk) (u:Nat):u ∈ tk ↔ u < s.T.length:=by rw [h.perm.mem_iff]; simp
theorem TkOk.nodup (h:TkOk s tk):tk.Nodup:=h.perm.nodup_iff.2 List.nodup_range
theorem pairwise_mem {α:Type} {R S:α->α->Prop} {l:List α} (h:l.Pairwise R) (f:∀ a b,a ∈ l->b ∈ l->R a b->S a b):l.Pairwise S:=by
 induction l with
 | nil=>exact List.Pairwise.nil
 | cons x l ih =>
  obtain ⟨h1,h2⟩:=List.pairwise_cons.1 h
  exact List.pairwise_cons.2 ⟨fun b hb=>f x b (by simp) (by simp [hb]) (h1 b hb),ih h2 fun a b ha hb=>f a b (by simp [ha]) (by simp [hb])⟩
theorem TkOk.same (h:TkOk s tk) (hl:s'.T.length=s.T.length) (hn:s.next<=s'.next) (ht:∀ u,u < s.T.length->(R.th s'.T u).tick=(R.th s.T u).tick) (ha:∀ u,u < s.T.length->(R.th s'.T u).awake=true->(R.th s.T u).awake=true):TkOk s' tk:=by
 refine ⟨by rw [hl]; exact h.perm,?_,fun u hu=>?_,fun u hu hw=>?_⟩
 ·refine pairwise_mem h.ord fun a b ha hb hab=>?_
  rw [ht a ((h.mem a).1 ha),ht b ((h.mem b).1 hb)]
  exact hab
 ·rw [hl] at hu
  have:=h.bd u hu
  rw [ht u hu]
  omega
 ·rw [hl] at hu
  rw [ht u hu]
  exact h.aw u hu (ha u hu hw)
theorem TkOk.draw (h:TkOk s tk) (t:Nat) (htl:t < s.T.length) (h0:0<=s.next) (hl:s'.T.length=s.T.length) (hn:s'.next=s.next + 1) (ht:∀ u,u < s.T.length->(R.th s'.T u).tick=if u=t then s.next + 1 else (R.th s.T u).tick) (ha:∀ u,u < s.T.length->u ≠ t->(R.th s'.T u).awake=true->(R.th s.T u).awake=true):TkOk s' (less tk t ++ [t]):=by
 have hnd:=h.nodup
 refine ⟨?_,?_,fun u hu=>?_,fun u hu hw=>?_⟩
 ·rw [hl]
  exact (less_perm hnd ((h.mem t).2 htl)).trans h.perm
 ·rw [List.pairwise_append]
  refine ⟨?_,List.pairwise_singleton _ _,fun a ha b hb=>?_⟩
  ·refine pairwise_mem (h.ord.sublist (less_sub tk t)) fun a b ha hb hab=>?_
   obtain ⟨ha1,ha2⟩:=mem_less.1 ha
   obtain ⟨hb1,hb2⟩:=mem_less.1 hb
   rw [ht a ((h.mem a).1 ha1),ht b ((h.mem b).1 hb1),if_neg ha2,if_neg hb2]
   exact hab
  ·obtain ⟨ha1,ha2⟩:=mem_less.1 ha
   have e:b=t:=by simpa using hb
   subst e
   have:=h.bd a ((h.mem a).1 ha1)
   rw [ht a ((h.mem a).1 ha1),ht b htl,if_neg ha2,if_pos rfl]
   left
   omega
 ·rw [hl] at hu
  have:=h.bd u hu
  rw [ht u hu]
  split <;> omega
 ·rw [hl] at hu
  rw [ht u hu]
  split
  ·omega
  ·rename_i e
   exact h.aw u hu (ha u hu e hw)
theorem WtOk.same (h:WtOk s wt) (hl:s'.T.length=s.T.length) (hn:s.next<=s'.next) (hf:∀ u,u < s.T.length->(R.th s'.T u).for_=(R.th s.T u).for_) (hs:∀ u,u < s.T.length->(R.th s'.T u).since=(R.th s.T u).since):WtOk s' wt:=by
 refine ⟨fun u=>?_,?_,fun u hu=>?_⟩
 ·rw [h.mem u,hl]
  constructor
  ·rintro ⟨a,b⟩
   exact ⟨a,by rw [hf u a]; exact b⟩
  ·rintro ⟨a,b⟩
   exact ⟨a,by rw [hf u a] at b; exact b⟩
 ·refine pairwise_mem h.ord fun a b ha hb hab=>?_
  unfold sinceOf at hab ⊢
  rw [hs a ((h.mem a).1 ha).1,hs b ((h.mem b).1 hb).1]
  exact hab
 ·have:=h.top u hu
  unfold sinceOf at this ⊢
  rw [hs u ((h.mem u).1 hu).1]
  omega
theorem WtOk.add (h:WtOk s wt) (t:Nat) (htl:t < s.T.length) (h0:(R.th s.T t).for_=0) (hl:s'.T.length=s.T.length) (hn:s'.next=s.next + 1) (hf:∀ u,u < s.T.length->u ≠ t->(R.th s'.T u).for_=(R.th s.T u).for_) (hft:(R.th s'.T t).for_ ≠ 0) (hs:∀ u,u < s.T.length->(R.th s'.T u).since=if u=t then s.next + 1 else (R.th s.T u).since):WtOk s' (wt ++ [t]):=by
 have hnt:t ∉ wt:=fun hm=>((h.mem t).1 hm).2 h0
 have hne:∀ a,a ∈ wt->a ≠ t:=fun a ha e=>hnt (e ▸ ha)
 refine ⟨fun u=>?_,?_,fun u hu=>?_⟩
 ·rw [List.mem_append,h.mem u,hl]
  constructor
  ·rintro (⟨a,b⟩ | a)
   ·by_cases e:u=t
    ·subst e; exact absurd h0 b
    ·exact ⟨a,by rw [hf u a e]; exact b⟩
   ·have e:u=t:=by simpa using a
    subst e
    exact ⟨htl,hft⟩
  ·rintro ⟨a,b⟩
   by_cases e:u=t
   ·exact .inr (by simp [e])
   ·exact .inl ⟨a,by rw [hf u a e] at b; exact b⟩
 ·rw [List.pairwise_append]
  refine ⟨?_,List.pairwise_singleton _ _,fun a ha b hb=>?_⟩
  ·refine pairwise_mem h.ord fun a b ha hb hab=>?_
   unfold sinceOf at hab ⊢
   rw [hs a ((h.mem a).1 ha).1,hs b ((h.mem b).1 hb).1,if_neg (hne a ha),if_neg (hne b hb)]
   exact hab
  ·have e:b=t:=by simpa using hb
   subst e
   have:=h.top a ha
   unfold sinceOf at this ⊢
   rw [hs a ((h.mem a).1 ha).1,hs b htl,if_neg (hne a ha),if_pos rfl]
   omega
 ·unfold sinceOf
  rcases List.mem_append.1 hu with hu | hu
  ·have:=h.top u hu
   unfold sinceOf at this
   rw [hs u ((h.mem u).1 hu).1,if_neg (hne u hu)]
   omega
  ·have e:u=t:=by simpa using hu
   subst e
   rw [hs u htl,if_pos rfl]
   omega
theorem WtOk.del (h:WtOk s wt) (t:Nat) (hl:s'.T.length=s.T.length) (hn:s.next<=s'.next) (hf:∀ u,u < s.T.length->u ≠ t->(R.th s'.T u).for_=(R.th s.T u).for_) (hft:(R.th s'.T t).for_=0) (hs:∀ u,u < s.T.length->u ≠ t->(R.th s'.T u).since=(R.th s.T u).since):WtOk s' (less wt t):=by
 refine ⟨fun u=>?_,?_,fun u hu=>?_⟩
 ·rw [mem_less,h.mem u,hl]
  constructor
  ·rintro ⟨⟨a,b⟩,c⟩
   exact ⟨a,by rw [hf u a c]; exact b⟩
  ·rintro ⟨a,b⟩
   have c:u ≠ t:=fun e=>b (e ▸ hft)
   exact ⟨⟨a,by rw [hf u a c] at b; exact b⟩,c⟩
 ·refine pairwise_mem (h.ord.sublist (less_sub wt t)) fun a b ha hb hab=>?_
  obtain ⟨ha1,ha2⟩:=mem_less.1 ha
  obtain ⟨hb1,hb2⟩:=mem_less.1 hb
  unfold sinceOf at hab ⊢
  rw [hs a ((h.mem a).1 ha1).1 ha2,hs b ((h.mem b).1 hb1).1 hb2]
  exact hab
 ·obtain ⟨hu1,hu2⟩:=mem_less.1 hu
  have:=h.top u hu1
  unfold sinceOf at this ⊢
  rw [hs u ((h.mem u).1 hu1).1 hu2]
  omega
end
structure Aux (s:RS) (tk wt:List Nat):Prop where
 tk:TkOk s tk
 wt:WtOk s wt
 ch:Chained s
 n0:0<=s.next
section
variable {s s':RS} {tk wt:List Nat}
theorem ahd_same (ho:s'.owner=s.owner) (u:Nat) (hf:(R.th s'.T u).for_=(R.th s.T u).for_) (hof:(R.th s'.T u).of_=(R.th s.T u).of_):R.ahd s' u=R.ahd s u:=by
 unfold R.ahd
 rw [ho,hf,hof]
theorem Aux.same (h:Aux s tk wt) (ok:R.LinksOk s) (hl:s'.T.length=s.T.length) (ho:s'.owner=s.owner) (hn:s.next<=s'.next) (ht:∀ u,u < s.T.length->(R.th s'.T u).tick=(R.th s.T u).tick/\(R.th s'.T u).for_=(R.th s.T u).for_/\(R.th s'.T u).of_=(R.th s.T u).of_/\(R.th s'.T u).since=(R.th s.T u).since/\((R.th s'.T u).awake=true->(R.th s.T u).awake=true)):Aux s' tk wt :=
 ⟨h.tk.same hl hn (fun u hu=>(ht u hu).1) (fun u hu=>(ht u hu).2.2.2.2),h.wt.same hl hn (fun u hu=>(ht u hu).2.1) (fun u hu=>(ht u hu).2.2.2.1),
  h.ch.turn hl (ahd_bd ok) (fun u hu=>.inl (ahd_same ho u (ht u hu).2.1 (ht u hu).2.2.1)),Int.le_trans h.n0 hn⟩
theorem Aux.modify (h:Aux s tk wt) (ok:R.LinksOk s) (t:Nat) (f:RT->RT) (hf:∀ x,(f x).tick=x.tick/\(f x).for_=x.for_/\(f x).of_=x.of_/\(f x).since=x.since/\((f x).awake=true->x.awake=true)):Aux { s with T:=s.T.modify t f } tk wt:=by
 refine h.same ok (by simp) rfl (Int.le_refl _) fun u hu=>?_
 show (R.th (s.T.modify t f) u).tick=_/\(R.th (s.T.modify t f) u).for_=_/\(R.th (s.T.modify t f) u).of_=_/\(R.th (s.T.modify t f) u).since=_/\((R.th (s.T.modify t f) u).awake=true->_)
 rw [th_modify]
 split
 ·exact hf _
 ·exact ⟨rfl,rfl,rfl,rfl,id⟩
theorem Aux.draws (h:Aux s tk wt) (ok:R.LinksOk s) (t:Nat) (htl:t < s.T.length) (f:RT->RT) (hf:∀ x,(f x).tick=s.next + 1/\(f x).for_=x.for_/\(f x).of_=x.of_/\(f x).since=x.since):Aux { s with next:=s.next + 1,T:=s.T.modify t f } (less tk t ++ [t]) wt:=by
 have hth:∀ u,R.th (s.T.modify t f) u=if u=t then f (R.th s.T u) else R.th s.T u:=by
  intro u
  rw [th_modify]
  simp [htl]
 refine ⟨h.tk.draw t htl h.n0 (by simp) rfl (fun u hu=>?_) (fun u hu hne=>?_),h.wt.same (by simp) (by simp; omega) (fun u hu=>?_) (fun u hu=>?_),h.ch.turn (by simp) (ahd_bd ok) (fun u hu=>.inl (ahd_same (by rfl) u ?_ ?_)),by have:=h.n0; simp; omega⟩
 all_goals (show _; dsimp only; rw [hth u])
 ·split
  ·exact (hf _).1
  ·rfl
 ·rw [if_neg hne]; exact id
 all_goals split
 all_goals first | rfl | exact (hf _).2.1 | exact (hf _).2.2.1 | exact (hf _).2.2.2
theorem Aux.wake (h:Aux s tk wt) (ok:R.LinksOk s) (t:Nat) (htl:t < s.T.length):Aux (R.wake s t) (less tk t ++ [t]) wt :=
 h.draws ok t htl _ fun _=>⟨rfl,rfl,rfl,rfl⟩
theorem Aux.endW (h:Aux s tk wt) (ok:R.LinksOk s) (t:Nat) (htl:t < s.T.length) (c:Int):Aux (R.endW s t c) (less tk t ++ [t]) (less wt t):=by
 have e:R.endW s t c={ s with next:=s.next + 1,T:=s.T.modify t (fun x=>{ x with for_:=0,of_:=0,until_:=0,last:=c,awake:=true,tick:=s.next + 1 }) }:=by
  unfold R.endW R.wake
  simp only [List.modify_modify_eq]
  rfl
 rw [e]
 have hth:∀ u,R.th (s.T.modify t (fun x=>{ x with for_:=0,of_:=0,until_:=0,last:=c,awake:=true,tick:=s.next + 1 })) u=if u=t then { R.th s.T u with for_:=0,of_:=0,until_:=0,last:=c,awake:=true,tick:=s.next + 1 } else R.th s.T u:=by
  intro u
  rw [th_modify]
  simp [htl]
 refine ⟨h.tk.draw t htl h.n0 (by simp) rfl (fun u hu=>?_) (fun u hu hne=>?_),h.wt.del t (by simp) (by simp; omega) (fun u hu hne=>?_) ?_ (fun u hu hne=>?_),h.ch.turn (by simp) (ahd_bd ok) (fun u hu=>?_),by have:=h.n0; simp; omega⟩
 ·dsimp only
  rw [hth u]
  split <;> rfl
 ·dsimp only
  rw [hth u,if_neg hne]; exact id
 ·dsimp only
  rw [hth u,if_neg hne]
 ·dsimp only
  rw [hth t,if_pos rfl]
 ·dsimp only
  rw [hth u,if_neg hne]
 ·by_cases e2:u=t
  ·right
   refine ⟨0,.stop _ ?_⟩
   unfold R.ahd
   dsimp only
   rw [hth u,if_pos e2,if_neg (show ¬ (0:Int)=1 by decide)]
   decide
  ·left
   refine ahd_same (by rfl) u ?_ ?_ <;> dsimp only <;> rw [hth u,if_neg e2]
theorem Aux.beginW (h:Aux s tk wt) (ok:R.LinksOk s) (t:Nat) (htl:t < s.T.length) (h0:(R.th s.T t).for_=0) (what of_ n:Int) (hw:what ≠ 0) (hm:what=1->∃ m:Nat,of_=(m:Int)/\m < s.owner.length/\R.round s t m=false):Aux (R.beginW s t what of_ n) tk (wt ++ [t]):=by
 have hth:∀ u,R.th (R.beginW s t what of_ n).T u=if u=t then { R.th s.T u with awake:=false,wkr:=-1,for_:=what,of_:=of_,until_:=if 0<=n then s.now + n else -1,since:=s.next + 1 } else R.th s.T u:=by
  intro u
  unfold R.beginW
  dsimp only
  rw [th_modify]
  simp [htl]
 have hl:(R.beginW s t what of_ n).T.length=s.T.length:=by simp [R.beginW]
 have hn:(R.beginW s t what of_ n).next=s.next + 1:=rfl
 have ho:(R.beginW s t what of_ n).owner=s.owner:=rfl
 have hoth:∀ u,u ≠ t->R.ahd (R.beginW s t what of_ n) u=R.ahd s u:=fun u hu=>by
  refine ahd_same ho u ?_ ?_ <;> rw [hth u,if_neg hu]
 refine ⟨h.tk.same hl (by omega) (fun u hu=>?_) (fun u hu=>?_),h.wt.add t htl h0 hl hn (fun u hu hne=>?_) ?_ (fun u hu=>?_),h.ch.turn hl (ahd_bd ok) (fun u hu=>?_),by have:=h.n0; omega⟩
 ·rw [hth u]; split <;> rfl
 ·rw [hth u]; split
  ·intro e; cases e
  ·exact id
 ·rw [hth u,if_neg hne]
 ·rw [hth t,if_pos rfl]; exact hw
 ·rw [hth u]; split <;> rfl
 ·by_cases e:u=t
  ·right
   subst e
   have ea:R.ahd (R.beginW s u what of_ n) u=if what=1 then s.owner.getD of_.toNat 0 else -1:=by
    unfold R.ahd
    rw [hth u,if_pos rfl,ho]
   rw [ea]
   by_cases h1:what=1
   ·rw [if_pos h1]
    obtain ⟨m,rfl,hml,hr⟩:=hm h1
    obtain ⟨k,hk,he⟩:=round_eq ok h.ch u m hml
    rw [he] at hr
    exact ⟨k,hk.past hoth hr⟩
   ·rw [if_neg h1]
    exact ⟨0,.stop _ (by decide)⟩
  ·exact .inl (hoth u e)
end
end Ln
end Go.Proofs.YtbkfildnijjioaaGreat

namespace Go.Proofs.YtbkfildnijjioaaGreat
namespace Ln
section
variable {s s':RS} {tk wt:List Nat}
theorem Aux.setOwner (h:Aux s tk wt) (ok:R.LinksOk s) (m:Nat) (v:Int) (hv:v < 0\/∃ x:Nat,v=(x:Int)/\(R.th s.T x).for_ ≠ 1):Aux { s with owner:=s.owner.set m v } tk wt:=by
 refine ⟨h.tk.same rfl (Int.le_refl _) (fun _ _=>rfl) (fun _ _=>id),h.wt.same rfl (Int.le_refl _) (fun _ _=>rfl) (fun _ _=>rfl),h.ch.turn rfl (ahd_bd ok) (fun u hu=>?_),h.n0⟩
 have hend:∃ k,EndsIn { s with owner:=s.owner.set m v } k v:=by
  rcases hv with hv | ⟨x,rfl,hx⟩
  ·exact ⟨0,.stop _ hv⟩
  ·refine ⟨1,.step 0 _ (by omega) (.stop _ ?_)⟩
   unfold R.ahd
   rw [if_neg (by simpa using hx)]
   decide
 unfold R.ahd
 by_cases h1:(R.th s.T u).for_=1
 ·have h2:=ok.of1 u hu h1
  by_cases e:(R.th s.T u).of_.toNat=m
  ·right
   rw [if_pos (by exact h1)]
   have:(s.owner.set m v).getD (R.th s.T u).of_.toNat 0=v:=by
    rw [e]
    have:m < s.owner.length:=by omega
    simp [List.getD,this]
   show ∃ k,EndsIn _ k ((s.owner.set m v).getD (R.th s.T u).of_.toNat 0)
   rw [this]
   exact hend
  ·left
   rw [if_pos (by exact h1),if_pos h1]
   exact R.getD_set_ne _ _ _ _ (fun e'=>e e'.symm)
 ·left
  rw [if_neg (by exact h1),if_neg h1]
def dueB (s:RS) (u:Nat):Bool:=decide ((R.th s.T u).until_=s.now)
def dues (s:RS) (wt:List Nat):List Nat:=wt.filter (dueB s)
def codeOf (s:RS) (u:Nat):Int:=if (R.th s.T u).for_=4 then 0 else 2
def endAll (l:List Nat) (s:RS):RS:=l.foldl (fun s t=>R.endW s t (codeOf s t)) s
theorem dueTo_min (h:WtOk s wt) (k:Nat) (hk:k<=s.T.length) :
  (R.dueTo s.T s.now k=-1/\∀ u,u < k->u ∉ dues s wt)\/∃ b:Nat,R.dueTo s.T s.now k=(b:Int)/\b < k/\b ∈ dues s wt/\∀ u,u < k->u ∈ dues s wt->u ≠ b->sinceOf s b < sinceOf s u:=by
 have hmem:∀ u,u < s.T.length->(u ∈ dues s wt ↔ (R.th s.T u).for_ ≠ 0/\(R.th s.T u).until_=s.now):=by
  intro u hu
  unfold dues dueB
  rw [List.mem_filter,h.mem,decide_eq_true_eq]
  constructor
  ·rintro ⟨⟨_,a⟩,b⟩; exact ⟨a,b⟩
  ·rintro ⟨a,b⟩; exact ⟨⟨hu,a⟩,b⟩
 induction k with
 | zero=>exact .inl ⟨rfl,fun u hu=>by omega⟩
 | succ k ih =>
  have split_lt:∀ u,u < k + 1->u < k\/u=k:=fun u hu=>by omega
  unfold R.dueTo
  by_cases hc:k ∈ dues s wt
  ·obtain ⟨c1,c2⟩:=(hmem k (by omega)).1 hc
   have hkw:k ∈ wt:=(List.mem_filter.1 hc).1
   rcases ih (by omega) with ⟨e,hn⟩ | ⟨b,e,hb,hcb,hmin⟩
   ·rw [if_pos ⟨c1,c2,.inl (by omega)⟩]
    refine .inr ⟨k,rfl,by omega,hc,fun u hu hcu hne=>?_⟩
    rcases split_lt u hu with h1 | h1
    ·exact absurd hcu (hn u h1)
    ·exact absurd h1 hne
   ·have hbw:b ∈ wt:=(List.mem_filter.1 hcb).1
    have hbn:(Int.toNat (b:Int))=b:=by omega
    rw [e,hbn]
    by_cases hf:(R.th s.T k).since < (R.th s.T b).since
    ·rw [if_pos ⟨c1,c2,.inr hf⟩]
     refine .inr ⟨k,rfl,by omega,hc,fun u hu hcu hne=>?_⟩
     rcases split_lt u hu with h1 | h1
     ·by_cases e3:u=b
      ·subst e3; exact hf
      ·exact Int.lt_trans hf (hmin u h1 hcu e3)
     ·exact absurd h1 hne
    ·rw [if_neg (by rintro ⟨_,_,h1 | h1⟩; omega; exact hf h1)]
     refine .inr ⟨b,rfl,by omega,hcb,fun u hu hcu hne=>?_⟩
     rcases split_lt u hu with h1 | h1
     ·exact hmin u h1 hcu hne
     ·subst h1
      have:=h.since_ne hbw hkw (Ne.symm hne)
      unfold sinceOf at this ⊢
      omega
  ·have hc':¬ ((R.th s.T k).for_ ≠ 0/\(R.th s.T k).until_=s.now/\(R.dueTo s.T s.now k < 0\/(R.th s.T k).since < (R.th s.T (R.dueTo s.T s.now k).toNat).since)):=fun hh=>hc ((hmem k (by omega)).2 ⟨hh.1,hh.2.1⟩)
   rw [if_neg hc']
   rcases ih (by omega) with ⟨e,hn⟩ | ⟨b,e,hb,hcb,hmin⟩
   ·refine .inl ⟨e,fun u hu hcu=>?_⟩
    rcases split_lt u hu with h1 | h1
    ·exact hn u h1 hcu
    ·subst h1; exact hc hcu
   ·refine .inr ⟨b,e,by omega,hcb,fun u hu hcu hne=>?_⟩
    rcases split_lt u hu with h1 | h1
    ·exact hmin u h1 hcu hne
    ·subst h1; exact absurd hcu hc
theorem due_head (h:WtOk s wt):R.due s=match dues s wt with | []=>-1 | b :: _=>(b:Int):=by
 have hs:(dues s wt).Pairwise (fun a b=>sinceOf s a < sinceOf s b):=h.ord.sublist List.filter_sublist
 have hbd:∀ u ∈ dues s wt,u < s.T.length:=fun u hu=>((h.mem u).1 (List.mem_filter.1 hu).1).1
 unfold R.due
 rcases dueTo_min h s.T.length (Nat.le_refl _) with ⟨e,hn⟩ | ⟨b,e,hb,hcb,hmin⟩
 ·rw [e]
  generalize dues s wt=L at *
  cases L with
  | nil=>rfl
  | cons x L=>exact absurd (List.mem_cons_self) (hn x (hbd x (by simp)))
 ·rw [e]
  generalize dues s wt=L at *
  cases L with
  | nil=>cases hcb
  | cons x L =>
   by_cases hx:x=b
   ·rw [hx]
   ·exfalso
    have h1:=hmin x (hbd x (by simp)) (by simp) hx
    rcases List.mem_cons.1 hcb with h2 | h2
    ·exact hx h2.symm
    ·have:=(List.pairwise_cons.1 hs).1 b h2
     omega
theorem endW_length (t:Nat) (c:Int):(R.endW s t c).T.length=s.T.length:=by simp [R.endW,R.wake]
theorem endW_th (t:Nat) (htl:t < s.T.length) (c:Int) (u:Nat):R.th (R.endW s t c).T u=if u=t then { R.th s.T u with for_:=0,of_:=0,until_:=0,last:=c,awake:=true,tick:=s.next + 1 } else R.th s.T u:=by
 unfold R.endW R.wake
 simp only [List.modify_modify_eq]
 rw [th_modify]
 simp only [htl,and_true]
 split <;> rfl
theorem LinksOk.endW (ok:R.LinksOk s) (t:Nat) (htl:t < s.T.length) (c:Int):R.LinksOk (R.endW s t c):=by
 refine ⟨ok.len,fun i hi=>?_,fun u hu hf=>?_,ok.kind⟩
 ·rw [endW_length]
  exact ok.own i hi
 ·rw [endW_length] at hu
  rw [endW_th t htl c u] at hf ⊢
  by_cases e:u=t
  ·rw [if_pos e] at hf
   cases hf
  ·rw [if_neg e] at hf ⊢
   exact ok.of1 u hu hf
theorem ends_all (h:Aux s tk wt) (ok:R.LinksOk s):R.ends s=endAll (dues s wt) s:=by
 have key:∀ (n:Nat) (s:RS) (tk wt:List Nat),Aux s tk wt->R.LinksOk s->(dues s wt).length<=n->R.endsTo s n=endAll (dues s wt) s:=by
  intro n
  induction n with
  | zero =>
   intro s tk wt _ _ hn
   have:dues s wt=[]:=List.length_eq_zero_iff.1 (by omega)
   rw [this]
   rfl
  | succ n ih =>
   intro s tk wt h ok hn
   have hsw:∀ n s,R.endsTo s (n + 1)=R.endsTo (R.endOne s) n:=by
    intro n
    induction n with
    | zero=>intro s; rfl
    | succ n ih=>intro s; show R.endOne (R.endsTo s (n + 1))=R.endOne (R.endsTo (R.endOne s) n); rw [ih]
   rw [hsw]
   have hd:=due_head h.wt
   cases hD:dues s wt with
   | nil =>
    rw [hD] at hd
    have e:R.endOne s=s:=by unfold R.endOne; rw [if_pos (by rw [hd]; decide)]
    rw [e]
    have:=ih s tk wt h ok (by rw [hD]; simp)
    rw [this,hD]
   | cons b L =>
    rw [hD] at hd
    have hd':R.due s=(b:Int):=hd
    have hmem:b ∈ dues s wt:=by rw [hD]; simp
    have hbl:b < s.T.length:=((h.wt.mem b).1 (List.mem_filter.1 hmem).1).1
    have e:R.endOne s=R.endW s b (codeOf s b):=by
     unfold R.endOne
     rw [if_neg (by rw [hd']; omega),hd']
     rfl
    rw [e]
    have hnd:(dues s wt).Nodup:=h.wt.nodup.sublist List.filter_sublist
    rw [hD] at hnd
    have hD':dues (R.endW s b (codeOf s b)) (less wt b)=L:=by
     have:dues (R.endW s b (codeOf s b)) (less wt b)=less (dues s wt) b:=by
      unfold dues less
      rw [List.filter_filter,List.filter_filter]
      refine List.filter_congr fun u hu=>?_
      unfold dueB
      rw [endW_th b hbl]
      by_cases e:u=b
      ·simp [e]
      ·rw [if_neg e]
       simp [e]
       rfl
     rw [this,hD]
     unfold less
     rw [List.filter_cons_of_neg (by simp)]
     exact List.filter_eq_self.2 fun a ha=>by
      simp
      exact fun e=>(List.nodup_cons.1 hnd).1 (e ▸ ha)
    have:=ih (R.endW s b (codeOf s b)) _ (less wt b) (h.endW ok b hbl _) (LinksOk.endW ok b hbl _) (by rw [hD']; rw [hD] at hn; simp at hn; omega)
    rw [this,hD']
    rfl
 have hle:(dues s wt).length<=s.T.length:=by
  have:=nodup_le' (dues s wt) (List.range s.T.length) (h.wt.nodup.sublist List.filter_sublist) (fun x hx=>by simpa using ((h.wt.mem x).1 (List.mem_filter.1 hx).1).1)
  simpa using this
 exact key s.T.length s tk wt h ok hle
end
end Ln
end Go.Proofs.YtbkfildnijjioaaGreat
