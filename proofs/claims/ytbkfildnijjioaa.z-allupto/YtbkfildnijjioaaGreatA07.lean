import Derived.Test.YtbkfildnijjioaaGreatA06
import Derived.Test.YtbkfildnijjioaaGreatA02
import Derived.Laws.CopyRow
import Derived.Deep.QuietTactic
import Derived.BigQuiet
import Derived.Deep.DeepCutAuto
import Derived.Test.YtbkfildnijjioaaGreatA01
import Derived.Deep.RegionLaw
namespace Go.Proofs.YtbkfildnijjioaaGreat
open Go.RowKit
def K.release (s:RS) (t:Nat):RS :=
 if (R.th s.T t).ended < (R.th s.T t).rel then { s with T:=s.T.modify t (fun x=>{ x with rel:=(R.th s.T t).rel + 1 }) }
 else R.wake { s with T:=s.T.modify t (fun x=>{ x with rel:=(R.th s.T t).rel + 1 }) } t
section
variable {F:Nat->Prop} {w w':World} {kb:Nat} {h:KH} {s:RS} {tk wt:List Nat} {ws:List Int}
theorem KFit.modify (f:KFit s) (t:Nat) (g:RT->RT) (hg:∀ x,(g x).for_=x.for_/\(g x).of_=x.of_):KFit { s with T:=s.T.modify t g }:=by
 refine ⟨by simpa using f.few,f.m8,f.ok.len,fun i hi=>by simpa using f.ok.own i hi,fun u hu hf=>?_,f.ok.kind⟩
 have hu':u < s.T.length:=by simpa using hu
 have e:(R.th (s.T.modify t g) u).for_=(R.th s.T u).for_/\(R.th (s.T.modify t g) u).of_=(R.th s.T u).of_:=by
  rw [Ln.th_modify]
  split
  ·exact hg _
  ·exact ⟨rfl,rfl⟩
 have hf':(R.th (s.T.modify t g) u).for_=1:=hf
 show 0<=(R.th (s.T.modify t g) u).of_/\(R.th (s.T.modify t g) u).of_ < s.owner.length
 rw [e.2]
 exact f.ok.of1 u hu' (by rw [<- e.1]; exact hf')
theorem KFit.next (f:KFit s) (n:Int):KFit { s with next:=n }:=⟨f.few,f.m8,f.ok.len,f.ok.own,f.ok.of1,f.ok.kind⟩
theorem KFit.wake (f:KFit s) (t:Nat):KFit (R.wake s t):=(f.next (s.next + 1)).modify t _ (fun _=>⟨rfl,rfl⟩)
theorem KMem.wake (m:KMem F w kb h s tk wt ws) (t:Nat):KMem F w kb h (R.wake s t) tk wt ws:=by
 refine m.cong rfl rfl (by simp [R.wake]) rfl rfl rfl rfl (fun i hi=>?_)
 simp only [R.wake,List.getElem_modify]
 by_cases e:t=i
 ·simp only [if_pos e]
  rfl
 ·simp only [if_neg e]
theorem KFit.release (f:KFit s) (t:Nat):KFit (K.release s t):=by
 unfold K.release
 split
 ·exact f.modify t _ (fun _=>⟨rfl,rfl⟩)
 ·exact (f.modify t (fun x=>{ x with rel:=(R.th s.T t).rel + 1 }) (fun _=>⟨rfl,rfl⟩)).wake t
set_option maxHeartbeats 1000000 in
theorem kRelease_any (m:KMem F w kb h s tk wt ws) (f:KFit s) (a:Ln.Aux s tk wt) (t:Nat) (ht:t < s.T.length) (hr:0<=s.T[t].rel/\s.T[t].rel<=2000000000) :
  Calls Tryz.prog 101 #[.pointer (some ⟨kb,0,none⟩),.int .i64 t] w fun e w'=>e=.returned (.tuple #[])/\∃ h' tk',KMem F w' kb h' (K.release s t) tk' wt ws/\Ln.Aux (K.release s t) tk' wt/\Only [kb,h.gT] w w'/\KUp w h h':=by
 have HJ:=hid (kHasJob_any m t ht f.few)
 have ER:Hid (K.release s t=if s.T[t].ended < s.T[t].rel then { s with T:=s.T.modify t (fun x=>{ x with rel:=s.T[t].rel + 1 }) } else R.wake { s with T:=s.T.modify t (fun x=>{ x with rel:=s.T[t].rel + 1 }) } t):=by
  unfold K.release
  rw [th_ext ht]
  exact hid rfl
 have f1:=f.modify t (fun x=>{ x with rel:=s.T[t].rel + 1 }) (fun _=>⟨rfl,rfl⟩)
 have a1:=a.modify f.ok t (fun x=>{ x with rel:=s.T[t].rel + 1 }) (fun _=>⟨rfl,rfl,rfl,rfl,id⟩)
 have ht1:t < (s.T.modify t (fun x=>{ x with rel:=s.T[t].rel + 1 })).length:=by simpa using ht
 have AW:=hid (a1.wake f1.ok t ht1)
 have A1:=hid a1
 have htk:=(a.few f.few).1
 have M:=hid m
 have htI:(t:Int) < (s.T.length:Int):=by omega
 have hfew:=f.few
 clear m f a f1 a1
 generalize K.release s t=res at *
 go_enter Tryz.func101,Tryz.ntmps101
 go_wp2_with fail
 refine HJ.out.mono ?_
 rintro e w1 ⟨rfl,n,rfl⟩
 have M1:=hid (M.out.drewN n)
 have O1:Hid (Only [kb,h.gT] w (w.drewN n)):=(Only.refl _ _).drewN n
 have hsz1:w.heap.size<=(w.drewN n).heap.size:=Nat.le_refl _
 clear HJ M
 generalize w.drewN n=w1 at *
 have c1:=M1.out.blk.cell 1
 simp [kCells] at c1
 have a7:=M1.out.tcell ht 8 (by decide)
 simp [ktCells] at a7
 have f7:=M1.out.tfrozen (t * 13 + 8)
 obtain ⟨hr0,hr1⟩:=hr
 obtain ⟨h2,m2,u2⟩:=M1.out.setT' ht (j:=8) (by decide) (.int .i64 (s.T[t].rel + 1)) (fun x=>{ x with rel:=s.T[t].rel + 1 }) (ktCells_rel _ _ _ _ _)
 have M2:=hid m2
 have U2:=hid ((KUp.refl w h).trans u2 hsz1)
 have O2:=hid (O1.out.setCell (p:=⟨h.gT,t * 13 + 8,none⟩) (.inl (by simp)) (.int .i64 (s.T[t].rel + 1)))
 clear m2 u2
 cases hj:decide (s.T[t].ended < s.T[t].rel)
 ·have hn:¬ s.T[t].ended < s.T[t].rel:=by simpa using hj
  have HN:=hid hn
  clear hn
  go_upto_region 3 with fail
  clear c1 a7 f7 M1 O1
  generalize w1.setCell ⟨h.gT,t * 13 + 8,none⟩ (.int .i64 (s.T[t].rel + 1))=w2 at *
  go_wp2_with fail
  refine (kDraw_any M2.out t htk).mono ?_
  rintro e w3 ⟨rfl,h3,m3,o3,u3⟩
  have M3:=hid m3
  have U3:=hid (U2.out.trans u3 O2.out.size)
  have O3:=hid (O2.out.trans (o3.mono (fun b hb=>by simp at hb; simp [hb])))
  clear m3 o3 u3
  go_wp2
  go_end0
  refine ⟨rfl,h3,Ln.less tk t ++ [t],?_,?_,O3.out,U3.out⟩
  ·rw [ER.out,if_neg (by have:=HN.out; omega)]
   exact M3.out.wake t
  ·rw [ER.out,if_neg (by have:=HN.out; omega)]
   exact AW.out
 ·have hn:s.T[t].ended < s.T[t].rel:=by simpa using hj
  have HN:=hid hn
  clear hn
  go_wp2
  go_end0
  refine ⟨rfl,h2,tk,?_,?_,O2.out,U2.out⟩
  ·rw [ER.out,if_pos HN.out]
   exact M2.out
  ·rw [ER.out,if_pos HN.out]
   exact A1.out
structure RelOk (s:RS) (t:Nat) (x:RT):Prop where
 r0:x.rel=R.relBy s.set t (s.now - 1)
 e0:0<=x.ended
 e1:x.ended<=x.rel
 r1:0<=x.rel/\x.rel<=2000000000
theorem releaseOne_other (s:RS) (t u:Nat) (h:u ≠ t):R.th (R.releaseOne s t).T u=R.th s.T u:=by
 have hm:∀ (T:List RT) (f:RT->RT),R.th (T.modify t f) u=R.th T u:=fun T f=>by rw [Ln.th_modify,if_neg (fun hh=>h hh.1)]
 unfold R.releaseOne R.wake
 split
 ·split
  ·simp only [hm]
  ·simp only [hm]
 ·rfl
theorem releaseTo_other (s:RS) (k u:Nat) (h:k<=u):R.th (R.releaseTo s k).T u=R.th s.T u:=by
 induction k with
 | zero=>rfl
 | succ k ih =>
  unfold R.releaseTo
  rw [releaseOne_other _ _ _ (by omega),ih (by omega)]
theorem release_is {s:RS} {t:Nat} (ht:t < s.T.length) (rk:RelOk s t s.T[t]) (ks:KSet s t):R.releaseOne s t=if kDue s t s.T[t].rel=true then K.release s t else s:=by
 have hd:=Ln.due_iff s.set t s.now s.T[t].rel ks.pe.1 rk.r0 rk.r1.1
 unfold R.releaseOne R.numberAt
 have e:kDue s t s.T[t].rel=true ↔ 0<=R.number (s.set.threads.getD t P3.none0).period (s.now - s.set.start - (s.set.threads.getD t P3.none0).offset - 0):=by
  rw [<- hd.1]
  unfold kDue
  by_cases hp:(s.set.threads.getD t P3.none0).period=0/\0 < s.T[t].rel
  ·rw [if_pos hp]
   constructor
   ·intro hh; cases hh
   ·intro hh; exact absurd hp hh.1
  ·rw [if_neg hp]
   constructor
   ·intro hh; exact ⟨hp,by simpa using hh⟩
   ·intro hh; simpa using hh.2
 by_cases h0:0<=R.number (s.set.threads.getD t P3.none0).period (s.now - s.set.start - (s.set.threads.getD t P3.none0).offset - 0)
 ·rw [if_pos h0,if_pos (e.2 h0),hd.2 h0]
  unfold K.release
  rw [th_ext ht]
  have:=rk.e1
  by_cases h1:s.T[t].rel=s.T[t].ended
  ·rw [if_pos h1,if_neg (by omega)]
  ·rw [if_neg h1,if_pos (by omega)]
 ·rw [if_neg h0,if_neg (fun hh=>h0 (e.1 hh))]
set_option maxHeartbeats 1000000 in
theorem kReleaseJobs_any (m:KMem F w kb h s tk wt ws) (f:KFit s) (a:Ln.Aux s tk wt) (hrk:∀ t (ht:t < s.T.length),RelOk s t s.T[t]) (hks:∀ t,t < s.T.length->KSet s t) :
  Calls Tryz.prog 60 #[.pointer (some ⟨kb,0,none⟩)] w fun e w'=>e=.returned (.tuple #[])/\∃ h' tk',KMem F w' kb h' (R.release s) tk' wt ws/\Ln.Aux (R.release s) tk' wt/\KFit (R.release s)/\Only [kb,h.gT] w w'/\KUp w h h':=by
 have c1:=m.blk.cell 1
 simp [kCells] at c1
 have hfew:=f.few
 have M:=hid m
 have FT:=hid f
 have AX:=hid a
 have HRK:=hid hrk
 have HKS:=hid hks
 have ER:Hid (R.release s=R.releaseTo s s.T.length):=rfl
 clear m f a hrk hks
 generalize R.release s=res at *
 go_enter Tryz.func60,Tryz.ntmps60
 go_wp2
 go_loopw [8] (fun i wr=>∃ k:Nat,k<=s.T.length/\i=.int .i64 k/\(∃ h' tk',KMem F wr kb h' (R.releaseTo s k) tk' wt ws/\Ln.Aux (R.releaseTo s k) tk' wt/\KFit (R.releaseTo s k)/\KUp w h h')/\Only [kb,h.gT] w wr) (fun i _=>s.T.length - (intOf i).toNat)
 case atStart=>exact ⟨0,Nat.zero_le _,rfl,⟨h,tk,M.out,AX.out,FT.out,KUp.refl _ _⟩,Only.refl _ _⟩
 case round =>
  obtain ⟨k,hk,rfl,⟨h2,tk2,m2,a2,f2,u2⟩,o2⟩:=hrel
  have M2:=hid m2
  have A2:=hid a2
  have F2:=hid f2
  have U2:=hid u2
  have O2:=hid o2
  clear m2 a2 u2 o2 f2
  by_cases hkl:k < s.T.length
  ·have hl2:(R.releaseTo s k).T.length=s.T.length:=R.releaseTo_len s k
   have hset:(R.releaseTo s k).set=s.set:=R.releaseTo_set s k
   have hnow:(R.releaseTo s k).now=s.now:=R.releaseTo_now s k
   have hk2:k < (R.releaseTo s k).T.length:=by rw [hl2]; exact hkl
   have heq:(R.releaseTo s k).T[k]=s.T[k]:=by
    have:=releaseTo_other s k k (Nat.le_refl _)
    rwa [th_ext hk2,th_ext hkl] at this
   have rk:RelOk (R.releaseTo s k) k (R.releaseTo s k).T[k]:=by
    have:=HRK.out k hkl
    refine ⟨?_,?_,?_,?_⟩
    ·rw [heq,hset,hnow]; exact this.r0
    ·rw [heq]; exact this.e0
    ·rw [heq]; exact this.e1
    ·rw [heq]; exact this.r1
   have ks:KSet (R.releaseTo s k) k:=by
    have:=HKS.out k hkl
    refine ⟨?_,?_,?_,?_⟩ <;> rw [hset]
    ·exact this.st
    ·exact this.of
    ·exact this.pe
    ·exact this.dl
   have ES:Hid (R.releaseTo s (k + 1)=if kDue (R.releaseTo s k) k (R.releaseTo s k).T[k].rel=true then K.release (R.releaseTo s k) k else R.releaseTo s k):=release_is hk2 rk ks
   have JD:=hid (kJobIsDue_any M2.out k hk2 F2.out.few rk.r1 ks)
   have RL:=hid (fun n=>kRelease_any (M2.out.drewN n) F2.out A2.out k hk2 rk.r1)
   have FR:=hid (F2.out.release k)
   have hkI:(k:Int) < (s.T.length:Int):=by omega
   clear rk ks heq hset hnow
   generalize kDue (R.releaseTo s k) k (R.releaseTo s k).T[k].rel=dd at *
   generalize K.release (R.releaseTo s k) k=sr at *
   go_wp2_with fail
   refine JD.out.mono ?_
   rintro e w3 ⟨rfl,n,rfl⟩
   cases dd with
   | false =>
    have HE:Hid (R.releaseTo s (k + 1)=R.releaseTo s k):=by rw [ES.out,if_neg (by decide)]; exact hid rfl
    go_wp2
    go_roundw
    case rel=>exact ⟨k + 1,by omega,by go_num,⟨h2,tk2,by rw [HE.out]; exact M2.out.drewN n,by rw [HE.out]; exact A2.out,by rw [HE.out]; exact F2.out,U2.out⟩,O2.out.drewN n⟩
    case measure=>simp [intOf]; omega
   | true =>
    have HE:Hid (R.releaseTo s (k + 1)=sr):=by rw [ES.out,if_pos rfl]; exact hid rfl
    have RLN:=hid (RL.out n)
    go_wp2_with fail
    refine RLN.out.mono ?_
    rintro e w4 ⟨rfl,h4,tk4,m4,a4,o4,u4⟩
    have M4:=hid m4
    have A4:=hid a4
    have U4:=hid (U2.out.trans u4 (show w.heap.size<=(wr.drewN n).heap.size from O2.out.size))
    have O4:=hid ((O2.out.drewN n).trans (o4.mono (fun b hb=>by rw [U2.out.gT] at hb; exact hb)))
    clear m4 a4 o4 u4 RLN RL
    go_wp2
    go_roundw
    case rel=>exact ⟨k + 1,by omega,by go_num,⟨h4,tk4,by rw [HE.out]; exact M4.out,by rw [HE.out]; exact A4.out,by rw [HE.out]; exact FR.out,U4.out⟩,O4.out⟩
    case measure=>simp [intOf]; omega
  ·have e:k=s.T.length:=by omega
   subst e
   go_wp2
   go_end0
   exact ⟨rfl,h2,tk2,by rw [ER.out]; exact M2.out,by rw [ER.out]; exact A2.out,by rw [ER.out]; exact F2.out,O2.out,U2.out⟩
end
end Go.Proofs.YtbkfildnijjioaaGreat

namespace Go.Proofs.YtbkfildnijjioaaGreat
open Go.RowKit
namespace K
def freeTo (ch:List Nat) (ws:List Int):Nat->List Int
 | 0=>ws
 | k + 1=>if Ln.placeIn (Ln.ints ch) (ws.getD k 0) < 0 then (freeTo ch ws k).set k (-1) else freeTo ch ws k
theorem freeTo_length (ch:List Nat) (ws:List Int) (k:Nat):(freeTo ch ws k).length=ws.length:=by
 induction k with
 | zero=>rfl
 | succ k ih=>unfold freeTo; split <;> simp [ih]
theorem freeTo_get (ch:List Nat) (ws:List Int) (k i:Nat) (hi:i < ws.length):(freeTo ch ws k)[i]'(by rw [freeTo_length]; exact hi)=if i < k/\Ln.placeIn (Ln.ints ch) ws[i] < 0 then -1 else ws[i]:=by
 induction k with
 | zero=>simp [freeTo]
 | succ k ih =>
  have eg:i=k->ws.getD k 0=ws[i]:=fun e=>by subst e; simp [List.getD,hi]
  simp only [freeTo]
  by_cases h:Ln.placeIn (Ln.ints ch) (ws.getD k 0) < 0
  ·simp only [if_pos h,List.getElem_set]
   by_cases e:k=i
   ·subst e
    rw [eg rfl] at h
    simp [h]
   ·rw [if_neg e,ih]
    have e2:(i < k + 1/\Ln.placeIn (Ln.ints ch) ws[i] < 0) ↔ (i < k/\Ln.placeIn (Ln.ints ch) ws[i] < 0):=by omega
    simp [e2]
  ·simp only [if_neg h]
   rw [ih]
   by_cases e:k=i
   ·subst e
    rw [eg rfl] at h
    have h1:¬ (k < k/\Ln.placeIn (Ln.ints ch) ws[k] < 0):=fun hh=>h hh.2
    have h2:¬ (k < k + 1/\Ln.placeIn (Ln.ints ch) ws[k] < 0):=fun hh=>h hh.2
    rw [if_neg h1,if_neg h2]
   ·have e2:(i < k + 1/\Ln.placeIn (Ln.ints ch) ws[i] < 0) ↔ (i < k/\Ln.placeIn (Ln.ints ch) ws[i] < 0):=by omega
    simp [e2]
theorem placeIn_li (ch:List Nat) (x:Int):Ln.placeIn (Ln.ints ch) x < 0 ↔ ¬ ∃ t ∈ ch,(t:Int)=x:=by
 rcases Ln.placeIn_cases (Ln.ints ch) x with ⟨h1,h2⟩ | ⟨i,hi,h1,h2,_⟩
 ·rw [h1]
  refine ⟨fun _=>?_,fun _=>by omega⟩
  rintro ⟨t,ht,e⟩
  obtain ⟨j,hj,rfl⟩:=List.mem_iff_getElem.1 ht
  refine h2 j (by simpa [Ln.ints] using hj) ?_
  simpa [Ln.ints] using e
 ·rw [h1]
  refine ⟨fun hh=>by omega,fun hh=>absurd ⟨ch[i]'(by simpa [Ln.ints] using hi),List.getElem_mem _,by simpa [Ln.ints] using h2⟩ hh⟩
theorem freeTo_freed (ch:List Nat) (ws:List Int):freeTo ch ws ws.length=Ln.freed ch ws:=by
 apply List.ext_getElem
 ·rw [freeTo_length]; simp [Ln.freed]
 ·intro i h1 h2
  have hi:i < ws.length:=by rw [freeTo_length] at h1; exact h1
  rw [freeTo_get ch ws ws.length i hi]
  simp only [Ln.freed,List.getElem_map]
  have:=placeIn_li ch ws[i]
  by_cases h:∃ t ∈ ch,(t:Int)=ws[i]
  ·rw [if_pos h,if_neg (fun hh=>(this.1 hh.2) h)]
  ·rw [if_neg h,if_pos ⟨hi,this.2 h⟩]
end K
theorem seat_length (ws:List Int) (t:Nat):(Ln.seat ws t).length=ws.length:=by
 unfold Ln.seat
 split
 ·split <;> simp
 ·rfl
theorem seats_length (ch:List Nat) (ws:List Int):(ch.foldl Ln.seat ws).length=ws.length:=by
 induction ch generalizing ws with
 | nil=>rfl
 | cons t r ih=>rw [List.foldl_cons,ih,seat_length]
theorem freed_length (ch:List Nat) (ws:List Int):(Ln.freed ch ws).length=ws.length:=by simp [Ln.freed]
section
variable {F:Nat->Prop} {w:World} {kb:Nat} {h:KH} {s:RS} {tk wt:List Nat} {ws:List Int}
set_option maxHeartbeats 1000000 in
theorem kTakeWorker_any (m:KMem F w kb h s tk wt ws) (t:Nat) (hw8:ws.length<=8) :
  Calls Tryz.prog 105 #[.pointer (some ⟨kb,0,none⟩),.int .i64 t] w fun e w'=>e=.returned (.tuple #[])/\KMem F w' kb h s tk wt (if Ln.placeIn ws (-1) < 0 then ws else ws.set (Ln.placeIn ws (-1)).toNat (t:Int))/\Only [h.gW] w w':=by
 have c2:=m.blk.cell 5
 simp [kCells] at c2
 have HI:Hid (IntsIn w.heap.size w (some ⟨h.gW,0,none⟩) ws):=fun i hi=>⟨h.gW,0,rfl,m.wT.lt,by rw [Nat.zero_add]; exact m.wcell hi⟩
 have M:=hid m
 have PO:=hid (kPlaceOf_any w (some ⟨h.gW,0,none⟩) h.cW ws (-1) HI.out (by omega))
 have PC:=Ln.placeIn_cases ws (-1)
 clear m HI
 rcases PC with ⟨h1,_⟩ | ⟨i,hi,h1,_,_⟩
 ·have HE:Hid ((if Ln.placeIn ws (-1) < 0 then ws else ws.set (Ln.placeIn ws (-1)).toNat (t:Int))=ws):=by rw [h1]; exact hid rfl
  generalize (if Ln.placeIn ws (-1) < 0 then ws else ws.set (Ln.placeIn ws (-1)).toNat (t:Int))=res at *
  rw [h1] at PO
  clear h1
  go_enter Tryz.func105,Tryz.ntmps105
  go_wp2_with fail
  refine PO.out.mono ?_
  rintro e w1 ⟨rfl,hw1⟩
  have hw2:=hw1.symm
  subst hw2
  clear hw1
  go_wp2
  go_end0
  refine ⟨rfl,?_,Only.refl _ _⟩
  rw [HE.out]
  exact M.out
 ·have HE:Hid ((if Ln.placeIn ws (-1) < 0 then ws else ws.set (Ln.placeIn ws (-1)).toNat (t:Int))=ws.set i (t:Int)):=by
   rw [h1,if_neg (by omega)]
   exact hid (by simp)
  generalize (if Ln.placeIn ws (-1) < 0 then ws else ws.set (Ln.placeIn ws (-1)).toNat (t:Int))=res at *
  rw [h1] at PO
  clear h1
  have x0:=M.out.wcell hi
  have f0:=M.out.wfrozen i
  have hiI:(i:Int) < (ws.length:Int):=by omega
  have hine:((i:Int) != -1)=true:=by simp
  go_enter Tryz.func105,Tryz.ntmps105
  go_wp2_with fail
  refine PO.out.mono ?_
  rintro e w1 ⟨rfl,hw1⟩
  have hw2:=hw1.symm
  subst hw2
  clear hw1
  go_wp2
  go_end0
  refine ⟨rfl,?_,(Only.refl _ _).setCell (.inl (by simp)) _⟩
  rw [HE.out]
  exact M.out.setW i (t:Int)
set_option maxHeartbeats 1000000 in
theorem kFreeAllBut_any (m:KMem F w kb h s tk wt ws) (hw8:ws.length<=8) (ao:Option Addr) (ca:Nat) (ch:List Nat) (hch:IntsIn w.heap.size w ao (Ln.ints ch)) (hcl:ch.length<=16) (hne:∀ a,ao=some a->a.block ≠ h.gW) :
  Calls Tryz.prog 103 #[.pointer (some ⟨kb,0,none⟩),.slice ao ch.length ca] w fun e w'=>e=.returned (.tuple #[])/\KMem F w' kb h s tk wt (Ln.freed ch ws)/\Only [h.gW] w w':=by
 rw [<- K.freeTo_freed]
 have c2:=m.blk.cell 5
 simp [kCells] at c2
 have M0:=hid m
 have HCH:=hid hch
 have HNE:=hid hne
 clear m hch hne
 go_enter Tryz.func103,Tryz.ntmps103
 go_wp2
 go_loopw [11] (fun i wr=>∃ k:Nat,k<=ws.length/\i=.int .i64 k/\KMem F wr kb h s tk wt (K.freeTo ch ws k)/\Only [h.gW] w wr) (fun i _=>ws.length - (intOf i).toNat)
 case atStart=>exact ⟨0,Nat.zero_le _,rfl,M0.out,Only.refl _ _⟩
 case round =>
  obtain ⟨k,hk,rfl,hm,ho⟩:=hrel
  have MK:=hid hm
  have OK:=hid ho
  have hlk:=K.freeTo_length ch ws k
  have c2:=hm.blk.cell 5
  simp [kCells] at c2
  rw [hlk] at c2
  clear hm ho
  by_cases hkl:k < ws.length
  ·have hk2:k < (K.freeTo ch ws k).length:=by rw [hlk]; exact hkl
   have x0:=MK.out.wcell (i:=k) hk2
   have eg:(K.freeTo ch ws k)[k]=ws[k]:=by rw [K.freeTo_get ch ws k k hkl,if_neg (by omega)]
   simp only [eg] at x0
   have f0:=MK.out.wfrozen k
   have ES:Hid (K.freeTo ch ws (k + 1)=if Ln.placeIn (Ln.ints ch) ws[k] < 0 then (K.freeTo ch ws k).set k (-1) else K.freeTo ch ws k):=by
    have e0:ws.getD k 0=ws[k]:=by simp [List.getD,hkl]
    have:K.freeTo ch ws (k + 1)=if Ln.placeIn (Ln.ints ch) (ws.getD k 0) < 0 then (K.freeTo ch ws k).set k (-1) else K.freeTo ch ws k:=rfl
    rw [this,e0]
    exact hid rfl
   have hchk:IntsIn wr.heap.size wr ao (Ln.ints ch):=by
    intro i hi
    obtain ⟨b,o,ha,hl,hc⟩:=HCH.out i hi
    refine ⟨b,o,ha,Nat.lt_of_lt_of_le hl OK.out.size,?_⟩
    have:wr.heap[b]?=w.heap[b]?:=OK.out.block b hl (by simp; exact HNE.out _ ha)
    rw [World.cell?_of_block (w:=w) this]
    exact hc
   have PO:=hid (kPlaceOf_any wr ao ca (Ln.ints ch) ws[k] hchk (by rw [Ln.ints_length]; omega))
   rw [Ln.ints_length] at PO
   have PC:=Ln.placeIn_cases (Ln.ints ch) ws[k]
   have hkI:(k:Int) < (ws.length:Int):=by omega
   clear hchk eg
   generalize ws[k]=y at *
   rcases PC with ⟨h1,_⟩ | ⟨i,hi,h1,_,_⟩
   ·rw [h1] at PO ES
    rw [if_pos (by decide)] at ES
    have hm2:=MK.out.setW k (-1)
    have M2:=hid hm2
    have O2:Hid (Only [h.gW] w (wr.setCell ⟨h.gW,k,none⟩ (.int .i64 (-1)))):=OK.out.setCell (.inl (by simp)) _
    clear hm2 h1
    go_wp2_with fail
    refine PO.out.mono ?_
    rintro e w1 ⟨rfl,hw1⟩
    have hw2:=hw1.symm
    subst hw2
    clear hw1
    go_wp2
    go_roundw
    case rel=>exact ⟨k + 1,by omega,by go_num,by rw [ES.out]; exact M2.out,O2.out⟩
    case measure=>simp [intOf]; omega
   ·rw [h1] at PO ES
    rw [if_neg (by omega)] at ES
    have hine:((i:Int) == -1)=false:=by simp
    clear h1
    go_wp2_with fail
    refine PO.out.mono ?_
    rintro e w1 ⟨rfl,hw1⟩
    have hw2:=hw1.symm
    subst hw2
    clear hw1
    go_wp2
    go_roundw
    case rel=>exact ⟨k + 1,by omega,by go_num,by rw [ES.out]; exact MK.out,OK.out⟩
    case measure=>simp [intOf]; omega
  ·have e:k=ws.length:=by omega
   subst e
   go_wp2
   go_end0
   exact ⟨rfl,MK.out,OK.out⟩
set_option maxRecDepth 100000 in
set_option maxHeartbeats 2000000 in
theorem kGiveOut_any (m:KMem F w kb h s tk wt ws) (f:KFit s) (a:Ln.Aux s tk wt) (aw:AwOk s) (hw8:ws.length<=8) :
  Calls Tryz.prog 61 #[.pointer (some ⟨kb,0,none⟩)] w fun e w'=>e=.returned (.tuple #[])/\KMem F w' kb h s tk wt (Ln.seatAll s tk ws)/\Only [h.gW] w w':=by
 have AO:=hid (kAwakeInOrder_any m f.few f.ok f.m8 a aw)
 have hll:(Ln.awakeLine s tk).length<=16:=by
  have h1:=Ln.byLv_length (R.Level s) (tk.filter (Ln.awakes s.T))
  have h2:=List.length_filter_le (Ln.awakes s.T) tk
  have:=(a.few f.few).1
  unfold Ln.awakeLine
  omega
 have EG:Hid (Ln.seatAll s tk ws=((Ln.awakeLine s tk).take ws.length).foldl Ln.seat (Ln.freed ((Ln.awakeLine s tk).take ws.length) ws)):=rfl
 have M:=hid m
 have hgw:=m.wT.lt
 clear m f a aw
 generalize Ln.seatAll s tk ws=res at *
 generalize Ln.awakeLine s tk=L at *
 go_enter Tryz.func61,Tryz.ntmps61
 go_wp2_with fail
 refine AO.out.mono ?_
 rintro e w1 ⟨v,rfl,hrow,hb1⟩
 have hrow':w1.ownsRow w.heap.size 3 1 v (Ln.ints L).length (intCells (Ln.ints L)):=by rw [Ln.ints_length]; exact hrow
 obtain ⟨ao,ca,rfl,hnil,hin,hna⟩:=IntsIn.of_owns hrow'
 rw [Ln.ints_length] at *
 have hcap:L.length<=ca:=by
  rcases hrow.2 with ⟨e,h0⟩ | ⟨g,cap,cur,e,_,_,h4,_⟩
  ·omega
  ·simp at e
   omega
 have M1:=hid (M.out.below hb1)
 have O1:Hid (Only [h.gW] w w1):=Only.of_below hb1
 have HIN:=hid hin
 have HNA:=hid hna
 have hsz1:=hb1.size
 have c2:=M1.out.blk.cell 5
 simp [kCells] at c2
 clear AO hrow hrow' hin hna hb1 M
 have hgo:∀ (ch:List Nat),ch=L.take ws.length->(ch.length<=8/\IntsIn w1.heap.size w1 ao (Ln.ints ch)):=by
  intro ch hc
  have hl:ch.length<=ws.length:=by rw [hc]; simp; omega
  refine ⟨by omega,fun i hi=>?_⟩
  have hi1:i < ch.length:=by rw [Ln.ints_length] at hi; exact hi
  have hi2:i < L.length:=by rw [hc] at hi1; simp at hi1; omega
  obtain ⟨b,o,ha,hb,hcell⟩:=HIN.out i (by rw [Ln.ints_length]; exact hi2)
  refine ⟨b,o,ha,hb,?_⟩
  have e:(Ln.ints ch)[i]=(Ln.ints L)[i]'(by rw [Ln.ints_length]; exact hi2):=by subst hc; simp [Ln.ints]
  rw [e]
  exact hcell
 have HGO:=hid hgo
 clear hgo
 by_cases hlong:ws.length < L.length
 ·have hlI:(ws.length:Int) < (L.length:Int):=by omega
  cases ao with
  | none=>have:=hnil rfl; omega
  | some ad =>
   obtain ⟨hch8,hchin⟩:=HGO.out _ rfl
   have FB:=hid (kFreeAllBut_any M1.out hw8 (some ad) ca (L.take ws.length) hchin (by omega) (fun a ha=>by obtain ⟨g,e,h1,_⟩:=HNA.out a ha; rw [e]; show g ≠ h.gW; omega))
   have HCI:=hid hchin
   have hcl:(L.take ws.length).length=ws.length:=by simp; omega
   rw [hcl] at FB
   have HCL:=hid hcl
   clear hchin hcl HGO
   generalize L.take ws.length=ch at *
   go_wp2_with fail
   refine FB.out.mono ?_
   rintro e w2 ⟨rfl,hm2,ho2⟩
   have M2:=hid hm2
   have O2:=hid (O1.out.trans ho2)
   have O12:=hid ho2
   clear hm2 ho2 FB c2
   go_wp2
   go_loopw [27] (fun i wr=>∃ k:Nat,k<=ch.length/\i=.int .i64 k/\KMem F wr kb h s tk wt ((ch.take k).foldl Ln.seat (Ln.freed ch ws))/\Only [h.gW] w1 wr) (fun i _=>ch.length - (intOf i).toNat)
   case atStart=>exact ⟨0,Nat.zero_le _,rfl,M2.out,O12.out⟩
   case round =>
    obtain ⟨k,hk,rfl,hm,ho⟩:=hrel
    have MK:=hid hm
    have OK:=hid ho
    have hlk:((ch.take k).foldl Ln.seat (Ln.freed ch ws)).length=ws.length:=by rw [seats_length,freed_length]
    have c2:=hm.blk.cell 5
    simp [kCells] at c2
    rw [hlk] at c2
    have hcl2:=HCL.out
    clear hm ho
    by_cases hkl:k < ch.length
    ·obtain ⟨b,o,ha,hb,hcell⟩:=HCI.out k (by rw [Ln.ints_length]; exact hkl)
     have e0:(Ln.ints ch)[k]'(by rw [Ln.ints_length]; exact hkl)=(ch[k]:Int):=by simp [Ln.ints]
     rw [e0] at hcell
     cases ha
     have hbne:b ≠ h.gW:=by
      obtain ⟨g,e,h1,_⟩:=HNA.out _ rfl
      cases e
      omega
     have hcell':wr.cell? ⟨b,o + k,none⟩=some (.int .i64 (ch[k]:Int)):=by
      rw [World.cell?_of_block (w:=w1) (OK.out.block b hb (by simp; exact hbne))]
      exact hcell
     have ES:Hid ((ch.take (k + 1)).foldl Ln.seat (Ln.freed ch ws)=Ln.seat ((ch.take k).foldl Ln.seat (Ln.freed ch ws)) ch[k]):=by
      rw [List.take_succ_eq_append_getElem hkl,List.foldl_append]
      exact hid rfl
     clear hcell e0
     generalize (ch.take k).foldl Ln.seat (Ln.freed ch ws)=wsk at *
     generalize ch[k]=t at *
     have HIW:Hid (IntsIn wr.heap.size wr (some ⟨h.gW,0,none⟩) wsk):=fun i hi=>⟨h.gW,0,rfl,MK.out.wT.lt,by rw [Nat.zero_add]; exact MK.out.wcell (i:=i) hi⟩
     have PO:=hid (kPlaceOf_any wr (some ⟨h.gW,0,none⟩) h.cW wsk (t:Int) HIW.out (by omega))
     rw [hlk] at PO
     have TW:=hid (kTakeWorker_any MK.out t (by show wsk.length<=8; omega))
     have PC:=Ln.placeIn_cases wsk (t:Int)
     have ESE:Hid (Ln.seat wsk t=if Ln.placeIn wsk (t:Int) < 0 then (if Ln.placeIn wsk (-1) < 0 then wsk else wsk.set (Ln.placeIn wsk (-1)).toNat (t:Int)) else wsk):=rfl
     have hkI:(k:Int) < (ws.length:Int):=by omega
     clear HIW
     rcases PC with ⟨h1,_⟩ | ⟨i,hi,h1,_,_⟩
     ·rw [h1] at PO ESE
      rw [if_pos (by decide)] at ESE
      clear h1
      go_wp2_with fail
      refine PO.out.mono ?_
      rintro e w3 ⟨rfl,hw3⟩
      have hw4:=hw3.symm
      subst hw4
      clear hw3
      go_wp2_with fail
      refine TW.out.mono ?_
      rintro e w4 ⟨rfl,hm4,ho4⟩
      have M4:=hid hm4
      have O4:=hid (OK.out.trans ho4)
      clear hm4 ho4
      go_wp2
      go_roundw
      case rel=>exact ⟨k + 1,by omega,by go_num,by rw [ES.out,ESE.out]; exact M4.out,O4.out⟩
      case measure=>simp [intOf]; omega
     ·rw [h1] at PO ESE
      rw [if_neg (by omega)] at ESE
      have hine:((i:Int) == -1)=false:=by simp
      clear h1
      go_wp2_with fail
      refine PO.out.mono ?_
      rintro e w3 ⟨rfl,hw3⟩
      have hw4:=hw3.symm
      subst hw4
      clear hw3
      go_wp2
      go_roundw
      case rel=>exact ⟨k + 1,by omega,by go_num,by rw [ES.out,ESE.out]; exact MK.out,OK.out⟩
      case measure=>simp [intOf]; omega
    ·have e:k=ch.length:=by omega
     subst e
     have hge:(ws.length:Int)<=(ch.length:Int):=by omega
     go_wp2
     go_end0
     refine ⟨rfl,?_,O1.out.trans OK.out⟩
     rw [EG.out]
     have:=MK.out
     rw [List.take_length] at this
     exact this
 ·have hlI:(L.length:Int)<=(ws.length:Int):=by omega
  obtain ⟨hch8,hchin⟩:=HGO.out _ rfl
  have FB:=hid (kFreeAllBut_any M1.out hw8 ao ca (L.take ws.length) hchin (by omega) (fun a ha=>by obtain ⟨g,e,h1,_⟩:=HNA.out a ha; rw [e]; show g ≠ h.gW; omega))
  have HCI:=hid hchin
  have hcl:(L.take ws.length).length=L.length:=by simp; omega
  rw [hcl] at FB
  have HCL:=hid hcl
  clear hchin hcl HGO
  generalize L.take ws.length=ch at *
  go_wp2_with fail
  refine FB.out.mono ?_
  rintro e w2 ⟨rfl,hm2,ho2⟩
  have M2:=hid hm2
  have O2:=hid (O1.out.trans ho2)
  have O12:=hid ho2
  clear hm2 ho2 FB c2
  go_wp2
  go_loopw [27] (fun i wr=>∃ k:Nat,k<=ch.length/\i=.int .i64 k/\KMem F wr kb h s tk wt ((ch.take k).foldl Ln.seat (Ln.freed ch ws))/\Only [h.gW] w1 wr) (fun i _=>ch.length - (intOf i).toNat)
  case atStart=>exact ⟨0,Nat.zero_le _,rfl,M2.out,O12.out⟩
  case round =>
   obtain ⟨k,hk,rfl,hm,ho⟩:=hrel
   have MK:=hid hm
   have OK:=hid ho
   have hlk:((ch.take k).foldl Ln.seat (Ln.freed ch ws)).length=ws.length:=by rw [seats_length,freed_length]
   have c2:=hm.blk.cell 5
   simp [kCells] at c2
   rw [hlk] at c2
   have hcl2:=HCL.out
   clear hm ho
   by_cases hkl:k < ch.length
   ·obtain ⟨b,o,ha,hb,hcell⟩:=HCI.out k (by rw [Ln.ints_length]; exact hkl)
    have e0:(Ln.ints ch)[k]'(by rw [Ln.ints_length]; exact hkl)=(ch[k]:Int):=by simp [Ln.ints]
    rw [e0] at hcell
    cases ha
    have hbne:b ≠ h.gW:=by
     obtain ⟨g,e,h1,_⟩:=HNA.out _ rfl
     cases e
     omega
    have hcell':wr.cell? ⟨b,o + k,none⟩=some (.int .i64 (ch[k]:Int)):=by
     rw [World.cell?_of_block (w:=w1) (OK.out.block b hb (by simp; exact hbne))]
     exact hcell
    have ES:Hid ((ch.take (k + 1)).foldl Ln.seat (Ln.freed ch ws)=Ln.seat ((ch.take k).foldl Ln.seat (Ln.freed ch ws)) ch[k]):=by
     rw [List.take_succ_eq_append_getElem hkl,List.foldl_append]
     exact hid rfl
    clear hcell e0
    generalize (ch.take k).foldl Ln.seat (Ln.freed ch ws)=wsk at *
    generalize ch[k]=t at *
    have HIW:Hid (IntsIn wr.heap.size wr (some ⟨h.gW,0,none⟩) wsk):=fun i hi=>⟨h.gW,0,rfl,MK.out.wT.lt,by rw [Nat.zero_add]; exact MK.out.wcell (i:=i) hi⟩
    have PO:=hid (kPlaceOf_any wr (some ⟨h.gW,0,none⟩) h.cW wsk (t:Int) HIW.out (by omega))
    rw [hlk] at PO
    have TW:=hid (kTakeWorker_any MK.out t (by show wsk.length<=8; omega))
    have PC:=Ln.placeIn_cases wsk (t:Int)
    have ESE:Hid (Ln.seat wsk t=if Ln.placeIn wsk (t:Int) < 0 then (if Ln.placeIn wsk (-1) < 0 then wsk else wsk.set (Ln.placeIn wsk (-1)).toNat (t:Int)) else wsk):=rfl
    have hkI:(k:Int) < (L.length:Int):=by omega
    clear HIW
    rcases PC with ⟨h1,_⟩ | ⟨i,hi,h1,_,_⟩
    ·rw [h1] at PO ESE
     rw [if_pos (by decide)] at ESE
     clear h1
     go_wp2_with fail
     refine PO.out.mono ?_
     rintro e w3 ⟨rfl,hw3⟩
     have hw4:=hw3.symm
     subst hw4
     clear hw3
     go_wp2_with fail
     refine TW.out.mono ?_
     rintro e w4 ⟨rfl,hm4,ho4⟩
     have M4:=hid hm4
     have O4:=hid (OK.out.trans ho4)
     clear hm4 ho4
     go_wp2
     go_roundw
     case rel=>exact ⟨k + 1,by omega,by go_num,by rw [ES.out,ESE.out]; exact M4.out,O4.out⟩
     case measure=>simp [intOf]; omega
    ·rw [h1] at PO ESE
     rw [if_neg (by omega)] at ESE
     have hine:((i:Int) == -1)=false:=by simp
     clear h1
     go_wp2_with fail
     refine PO.out.mono ?_
     rintro e w3 ⟨rfl,hw3⟩
     have hw4:=hw3.symm
     subst hw4
     clear hw3
     go_wp2
     go_roundw
     case rel=>exact ⟨k + 1,by omega,by go_num,by rw [ES.out,ESE.out]; exact MK.out,OK.out⟩
     case measure=>simp [intOf]; omega
   ·have e:k=ch.length:=by omega
    subst e
    have hge:(L.length:Int)<=(ch.length:Int):=by omega
    go_wp2
    go_end0
    refine ⟨rfl,?_,O1.out.trans OK.out⟩
    rw [EG.out]
    have:=MK.out
    rw [List.take_length] at this
    exact this
end
end Go.Proofs.YtbkfildnijjioaaGreat

namespace Go.Proofs.YtbkfildnijjioaaGreat
open Go.RowKit
theorem run_copy_full {P:Program} (w:World) (t ty e:TypeId) (i:TypeInfo) (size:Nat) (ht:P.underlying t=some (.slice e)) (hi:P.info? e=some i) (hsize:i.size=size)
  (g n cap:Nat) (cur:Array Value) (hg:w.heap[g]?=some (.cells cur e (0,0))) (ad:Addr) (c:Nat) (news:List Value) (hl:news.length=n * size) (hnews:∀ j u,news[j]?=some u->w.cell? (ad.add j)=some u)
  (hfit:news.length<=cur.size) (h1:∀ u ∈ news,u.oneCell'=true) :
  (Builtin.copy_ #[t,t] ty #[.slice (some ⟨g,0,none⟩) n cap,.slice (some ad) n c]).run P w=.ok (goInt n) (w.setRow g (news ++ cur.toList.drop news.length).toArray):=by
 have hld:=run_loadCells_list (P:=P) w ad news hnews
 have hst:=run_storeCells_at P g 0 e news 0 cur w hg (by simpa using hfit) h1
 simp only [Nat.zero_add,List.take_zero,List.nil_append] at hst
 subst hsize
 rw [hl] at hld hst
 rw [hl]
 simp [Builtin.copy_,run_underlying ht,Builtin.lenOf,Builtin.firstCells,sizeOf,typeInfo,hi,hld,hst]
theorem wpList_copy_full {P:Program} {w:World} {ops:Array Oper} {rest:List Oper} {o:Oper} {a:Act} {Q:Exit->Act->World->Prop} (hgd:o.guard=none) (d s:Operand) (t:TypeId)
  (ho:o.op=.call { callee:=.builtin .copy,args:=#[d,s],argTypes:=#[t,t] })
  (base:Nat) (e:TypeId) (i:TypeInfo) (size:Nat) (ht:P.underlying t=some (.slice e)) (hi:P.info? e=some i) (hsize:i.size=size) (hsz:0 < size)
  (g n cap:Nat) (xs:List Value) (hd:a.eval d=.slice (some ⟨g,0,none⟩) n cap) (hown:w.ownsRow base e size (.slice (some ⟨g,0,none⟩) n cap) n xs)
  (ao:Option Addr) (c:Nat) (news:List Value) (hs:a.eval s=.slice ao n c) (hl:news.length=n * size) (hnil:ao=none->c=0)
  (hnews:∀ j u,news[j]?=some u->∃ ad,ao=some ad/\w.cell? (ad.add j)=some u) (h1:∀ u ∈ news,u.oneCell'=true)
  (h:∀ w',w'.ownsRow base e size (.slice (some ⟨g,0,none⟩) n cap) n news->w.grownBy w' (some g)->wpList P ops Q rest (a.put o.dst (goInt n)) w'):wpList P ops Q (o :: rest) a w:=by
 rcases hown.2 with ⟨he,_⟩ | ⟨g',cap',cur,he,hbg,hg,hnc,hcm,hcs,htake⟩
 ·cases he
 ·simp only [Value.slice.injEq,Option.some.injEq,Addr.mk.injEq,and_true,true_and] at he
  obtain ⟨rfl,rfl⟩:=he
  refine wpList_plain hgd fun K hK=>?_
  cases ao with
  | none =>
   have hn0:n=0:=by
    rcases Nat.eq_zero_or_pos n with h0 | h0
    ·exact h0
    ·have hpos:0 < news.length:=by rw [hl]; exact Nat.mul_pos h0 hsz
     obtain ⟨ad,hh,_⟩:=hnews 0 news[0] (List.getElem?_eq_getElem hpos)
     cases hh
   subst hn0
   have hc:=hnil rfl
   subst hc
   have hrun:=run_copy_nil (P:=P) w t t o.type e ⟨g,0,none⟩ 0 cap ht (by rw [hi]; rfl)
   have hn:news=[]:=List.eq_nil_of_length_eq_zero (by rw [hl,Nat.zero_mul])
   have hx:xs=[]:=List.eq_nil_of_length_eq_zero (by rw [hown.1,Nat.zero_mul])
   unfold Oper.wp execOp
   simp only [ho,resolve,invoke,builtin,Sem.run_bind,Sem.run_pure,Result.andThen_ok,List.map_toArray,List.map_cons,List.map_nil,hs,hd,hrun]
   refine hK _ _ (h w ?_ ⟨rfl,rfl,rfl,Nat.le_refl _,fun _ _ _=>rfl⟩)
   rw [hn,<- hx]
   exact hown
  | some ad =>
   have hfit:news.length<=cur.size:=by rw [hl,hcs]; exact Nat.mul_le_mul_right _ hnc
   have hrun:=run_copy_full (P:=P) w t o.type e i size ht hi hsize g n cap cur hg ad c news hl (fun j u hj=>by obtain ⟨ad',hh,hcell⟩:=hnews j u hj; cases hh; exact hcell) hfit h1
   unfold Oper.wp execOp
   simp only [ho,resolve,invoke,builtin,Sem.run_bind,Sem.run_pure,Result.andThen_ok,List.map_toArray,List.map_cons,List.map_nil,hs,hd,hrun]
   refine hK _ _ (h _ ⟨hl,.inr ⟨g,cap,_,rfl,hbg,setRow_heap w g cur _ e _ hg,hnc,hcm,?_,?_⟩⟩ ⟨rfl,rfl,rfl,by simp,fun k _ hk=>setRow_other w g k _ (fun e=>hk (by simp [e]))⟩)
   ·simp only [List.size_toArray,List.length_append,List.length_drop,Array.length_toList]
    omega
   ·rw [<- hl]
    exact List.take_left
end Go.Proofs.YtbkfildnijjioaaGreat

namespace Go.Proofs.YtbkfildnijjioaaGreat
open Go.RowKit
theorem ahead_of {l:List Int} {T:List RT} {t k:Nat} {x y:RT} {lk lt:Int} (hx:R.th T k=x) (hy:R.th T t=y) (hk:l.getD k 0=lk) (hl:l.getD t 0=lt) :
  R.ahead l T t k=(x.awake && (decide (lt < lk) || (decide (lk=lt) && decide (x.tick < y.tick)))):=by
 unfold R.ahead
 rw [hx,hy,hk,hl]
end Go.Proofs.YtbkfildnijjioaaGreat

namespace Go.Proofs.YtbkfildnijjioaaGreat
open Go.RowKit
theorem intCells_append (l:List Int) (z:Int):intCells (l ++ [z])=intCells l ++ [.int .i64 z]:=by simp [intCells]
theorem levels_succ (s:RS) (k:Nat):(List.range (k + 1)).map (R.Level s)=(List.range k).map (R.Level s) ++ [R.Level s k]:=by simp [List.range_succ]
end Go.Proofs.YtbkfildnijjioaaGreat

namespace Go.Proofs.YtbkfildnijjioaaGreat
open Go.RowKit
namespace R
def stateOf (x:RT):Int:=if x.for_ ≠ 0 then 3 else if 0<=x.wkr then 2 else if x.awake=true then 1 else 0
end R
def viewV (x:RT) (lv:Int):Value :=
 .agg #[.int .i64 (R.stateOf x),.int .i64 x.base,.int .i64 lv,.int .i64 x.at_,.int .i64 x.last,.int .i64 x.got,.int .i64 x.rel,.int .i64 x.ended,.int .i64 x.for_,.int .i64 x.of_,.int .i64 x.until_]
def noView:Value:=.agg #[.int .i64 0,.int .i64 0,.int .i64 0,.int .i64 0,.int .i64 0,.int .i64 0,.int .i64 0,.int .i64 0,.int .i64 0,.int .i64 0,.int .i64 0]
theorem running_succ (T:List RT) (k:Nat):(List.range (k + 1)).map (fun (x:Nat)=>R.on T (x:Int))=(List.range k).map (fun (x:Nat)=>R.on T (x:Int)) ++ [R.on T (k:Int)]:=by simp [List.range_succ]
end Go.Proofs.YtbkfildnijjioaaGreat

namespace Go.Proofs.YtbkfildnijjioaaGreat
open Go.RowKit
structure Fits (S:SetD):Prop where
 threads:S.threads.length * 56<=140737488351232
 mutexes:S.mutexes.length * 16<=140737488351232
 sems:S.sems.length * 16<=140737488351232
 queues:S.queues.length * 8<=140737488351232
 codes:∀ j (h:j < S.threads.length),S.threads[j].code.length * 24<=140737488351232
end Go.Proofs.YtbkfildnijjioaaGreat

namespace Go.Proofs.YtbkfildnijjioaaGreat
open Go.RowKit
theorem intCells_get (l:List Int) (i:Nat) (h:i < l.length):(intCells l)[i]?=some (.int .i64 (l.getD i 0)):=by simp [intCells,List.getD,List.getElem?_eq_getElem h]
section
variable {F:Nat->Prop} {w wr:World} {sb:Nat} {s:RS} {lg ag:Nat} {al:List Int} {T:List RT}
end
end Go.Proofs.YtbkfildnijjioaaGreat

namespace Go.Proofs.YtbkfildnijjioaaGreat
open Go.RowKit
theorem step_append_own {P:Program} {ops:Array Oper} {o:Oper} {a:Act} {w:World} {K:Act->World->Prop} {Q:Exit->Act->World->Prop} {E:Prop}
  (hg:o.guard=none) (s x:Operand) (t:TypeId) (hop:o.op=Op.call { callee:=Callee.builtin Builtin.append,args:=#[s,x],argTypes:=#[t,t] })
  (base:Nat) (e:TypeId) (i:TypeInfo) (z:Value) (size bytes:Nat) (ht:P.underlying t=some (.slice e)) (hi:P.info? e=some i) (hz:i.zero=some z)
  (hsize:i.size=size) (hby:i.bytes=bytes) (hzs:z.cells.size=size) (hsz:0 < size)
  (v:Value) (n:Nat) (xs:List Value) (hs:a.eval s=v) (hown:w.ownsRow base e size v n xs)
  (ad:Addr) (m c:Nat) (news:List Value) (hx:a.eval x=.slice (some ad) m c) (hl:news.length=m * size) (hnews:∀ j u,news[j]?=some u->w.cell? (ad.add j)=some u) (h1:∀ u ∈ news,u.oneCell'=true)
  (h63:n + m<=maxLen) (hbytes:(n + m) * bytes<=140737488355328) (hbase:base<=w.heap.size)
  (hK:∀ v' w',w'.ownsRow base e size v' (n + m) (xs ++ news)->w.grownBy w' v.ownBlock->K (a.put o.dst v') w') :
  if Region.wanted o (yielded ops a.tmps)=true then Oper.wp P o a w K Q else E:=by
 have hw:Region.wanted o (yielded ops a.tmps)=true:=by simp [Region.wanted,hg]
 rw [if_pos hw]
 exact wp_append_own w s x t hop base e i z size bytes ht hi hz hsize hby hzs hsz v n xs hs hown ad m c news hx hl hnews h1 h63 hbytes hbase (fun v' w' h2 h3 _=>hK v' w' h2 h3)
theorem Tryz.infoInts:(Tryz.prog.info? 25).map (fun i=>(i.zero,i.size,i.bytes))=some (some (.slice none 0 0),1,24):=by kernel_rfl
def nsCells (S:SetD) (a b c d:Value) (vT vO vC vB:Value):Array Value :=
 #[.int .i64 S.workers,.int .i64 S.start,a,b,c,d,.int .i64 S.start,.int .i64 0,vT,vO,vC,vB,.slice none 0 0]
section
variable {N sb:Nat} {S:SetD} {x:Array Value} {a b c d:Value} {wL wr w':World} {vT vO vC vB:Value}
end
theorem rtCells_one (x:RT):∀ u ∈ rtCells x,u.oneCell'=true:=by
 intro u hu
 simp [rtCells] at hu
 rcases hu with rfl | rfl | rfl | rfl | rfl | rfl | rfl | rfl | rfl | rfl | rfl | rfl | rfl <;> rfl
def bareT (t:ThreadD):RT:={ R.rt0 with base:=t.base,wkr:=-1 }
theorem bare_T (S:SetD):(R.bare S).T=S.threads.map bareT:=rfl
theorem rtAll_append (a b:List RT):rtAll (a ++ b)=rtAll a ++ rtAll b:=by simp [rtAll]
theorem take_map_succ {α β:Type} (f:α->β) (l:List α) (k:Nat) (h:k < l.length):(l.map f).take (k + 1)=(l.map f).take k ++ [f l[k]]:=by
 rw [List.take_succ_eq_append_getElem (by simpa using h)]
 simp
theorem ok_parts {S:SetD} (h:P3.err S=0):P3.sizesB S=true/\P3.badOr P3.mutexP S.mutexes=-1/\P3.badOr P3.semP S.sems=-1/\P3.badOr P3.queueB S.queues=-1/\P3.badOr P3.threadP S.threads=-1/\P3.badCode S=-1:=by
 unfold P3.err at h
 cases hz:P3.sizesB S <;> simp_all
 by_cases a:P3.badOr P3.mutexP S.mutexes=-1 <;> by_cases b:P3.badOr P3.semP S.sems=-1 <;> by_cases c:P3.badOr P3.queueB S.queues=-1 <;> by_cases d:P3.badOr P3.threadP S.threads=-1 <;> by_cases e:P3.badCode S=-1 <;> simp_all
theorem badOr_good {α:Type} {p:α->Bool} {l:List α} (h:P3.badOr p l=-1):∀ x ∈ l,p x=true:=by
 intro x hx
 obtain ⟨j,hj,rfl⟩:=List.mem_iff_getElem.1 hx
 unfold P3.badOr at h
 split at h
 ·omega
 ·rename_i hn
  have hle:=P3.bad_le p l
  have:=List.not_of_lt_findIdx (p:=fun x=>!p x) (xs:=l) (i:=j) (show j < P3.bad p l by omega)
  simpa using this
theorem good_bare {S:SetD} (h:P3.err S=0):RGood (R.bare S):=by
 obtain ⟨hz,_,_,_,ht,_⟩:=ok_parts h
 unfold P3.sizesB at hz
 rw [decide_eq_true_iff] at hz
 refine ⟨by simp [R.bare],by simp [R.bare]; omega,by simp [R.bare]; omega,hz.1,hz.2.1,by simp [R.bare],by show S.mutexes.length<=8; omega,hz.2.2.1,Int.le_refl _,hz.2.2.2.1,Int.le_refl _,by show (0:Int)<=_; decide,fun t hm=>?_⟩
 have:=badOr_good ht t hm
 unfold P3.threadP P3.threadB P3.latest at this
 rw [decide_eq_true_iff] at this
 split at this <;> omega
theorem releaseTo_owner (s:RS) (k:Nat):(R.releaseTo s k).owner=s.owner:=by
 induction k with
 | zero=>rfl
 | succ k ih =>
  unfold R.releaseTo R.releaseOne R.wake
  split
  ·split <;> exact ih
  ·exact ih
theorem good_release {s:RS} (g:RGood s) (h:s.next<=4611686018427387000):RGood (R.release s):=by
 have hl:=R.releaseTo_len s s.T.length
 have hs:=R.releaseTo_set s s.T.length
 have hn:=R.releaseTo_now s s.T.length
 have hx:=R.releaseTo_next s s.T.length
 have ho:=releaseTo_owner s s.T.length
 have h0:=g.few
 have h1:=g.nxt0
 unfold R.release
 exact ⟨by rw [hl,hs]; exact g.len,by rw [hl]; exact g.pos,by rw [hl]; exact g.few,by rw [hs]; exact g.wk0,by rw [hs]; exact g.wk1,by rw [ho,hs]; exact g.own,by rw [hs]; exact g.mfew,by rw [hs]; exact g.now0,by rw [hs,hn]; exact g.now1,
  by rw [hn]; exact g.now2,by omega,by omega,by rw [hs]; exact g.off⟩
end Go.Proofs.YtbkfildnijjioaaGreat

namespace Go.Proofs.YtbkfildnijjioaaGreat
open Go.RowKit
theorem Tryz.infoMiss:(Tryz.prog.info? 95).map (fun i=>(i.zero,i.size,i.bytes))=some (some (.agg #[.int .i64 0,.int .i64 0,.int .i64 0]),3,24):=by kernel_rfl
theorem missCells_append (l:List MissD) (m:MissD):missCells (l ++ [m])=missCells l ++ [.int .i64 m.thread,.int .i64 m.job,.int .i64 m.time]:=by simp [missCells]
end Go.Proofs.YtbkfildnijjioaaGreat

namespace Go.Proofs.YtbkfildnijjioaaGreat
open Go.RowKit
theorem good_missing {s:RS} (g:RGood s) (h:s.now < 1000000000):RGood (R.missing s) :=
 ⟨g.len,g.pos,g.few,g.wk0,g.wk1,g.own,g.mfew,g.now0,by show s.set.start<=s.now + 1; have:=g.now1; omega,by show s.now + 1<=_; omega,g.nxt0,g.nxt1,g.off⟩
theorem good_ticked {s:RS} (g:RGood s) (h:s.now < 1000000000):RGood (R.ticked s) :=
 ⟨g.len,g.pos,g.few,g.wk0,g.wk1,g.own,g.mfew,g.now0,by show s.set.start<=s.now + 1; have:=g.now1; omega,by show s.now + 1<=_; omega,g.nxt0,g.nxt1,g.off⟩
theorem good_endsTo {s:RS} (g:RGood s) (h:s.next<=4611686018427387000) (k:Nat) (hk:k<=16):RGood (R.endsTo s k):=by
 obtain ⟨a,b,c,d,e,f⟩:=R.endsTo_set s k
 have:=g.nxt0
 exact ⟨by rw [a,d]; exact g.len,by rw [d]; exact g.pos,by rw [d]; exact g.few,by rw [a]; exact g.wk0,by rw [a]; exact g.wk1,by rw [a,c]; exact g.own,by rw [a]; exact g.mfew,by rw [a]; exact g.now0,by rw [a,b]; exact g.now1,by rw [b]; exact g.now2,by omega,by omega,by rw [a]; exact g.off⟩
theorem missCells_length (l:List MissD):(missCells l).length=l.length * 3:=by
 induction l with
 | nil=>rfl
 | cons x l ih=>simp only [missCells,List.flatMap_cons,List.length_append,List.length_cons] at ih ⊢; rw [ih]; simp; omega
theorem missCells_two (l m:List MissD):missCells (l ++ m)=missCells l ++ missCells m:=by simp [missCells]
theorem missCells_one (l:List MissD):∀ u ∈ missCells l,u.oneCell'=true:=by
 intro u hu
 simp only [missCells,List.mem_flatMap] at hu
 obtain ⟨x,_,hx⟩:=hu
 simp at hx
 rcases hx with rfl | rfl | rfl <;> rfl
end Go.Proofs.YtbkfildnijjioaaGreat
