import Derived.Test.YtbkfildnijjioaaGreatA09
import Derived.Test.YtbkfildnijjioaaGreatA01
import Derived.Deep.QuietTactic
import Derived.BigQuiet
import Derived.Deep.RegionHeld3
namespace Go.Proofs.YtbkfildnijjioaaGreat
open Go.RowKit
theorem Tryz.infoPS:(Tryz.prog.info? 151).map (fun i=>(i.zero,i.size,i.bytes))=some (some (.agg #[.int .i64 0,.int .i64 0]),2,16):=by kernel_rfl
theorem Tryz.infoPQ:(Tryz.prog.info? 153).map (fun i=>(i.zero,i.size,i.bytes))=some (some (.agg #[.int .i64 0,.slice none 0 0]),2,32):=by kernel_rfl
structure NSe (B g:Nat) (l:List PairD) (wr:World) (k:Nat) (L:List Value):Prop where
 row:wr.ownsRow B 151 2 (.slice (some ⟨g,0,none⟩) l.length l.length) l.length L
 cells:∀ i (hi:i < l.length),i < k->∀ j,j < 2->L[i * 2 + j]?=[Value.int .i64 l[i].x,.int .i64 l[i].y][j]?
set_option maxRecDepth 100000 in
set_option maxHeartbeats 2000000 in
theorem kNewSems_any (tv:Option Addr) (tc:Nat) (l:List PairD) (w:World) (hin:PairsIn w.heap.size w tv l) (h8:l.length<=8) :
  Calls Tryz.prog 56 #[.slice tv l.length tc] w fun e w'=>∃ g L,e=.returned (.slice (some ⟨g,0,none⟩) l.length l.length)/\w.heap.size<=g/\NSe w.heap.size g l w' l.length L/\Below w.heap.size w w':=by
 have HIN:=hid hin
 clear hin
 obtain ⟨iT,hiT,hzT0,hzT1,hzT2⟩:=info_parts Tryz.infoPS
 have HIT:=hid (And.intro hiT (And.intro hzT0 (And.intro hzT1 hzT2)))
 clear hiT hzT0 hzT1 hzT2
 go_enter Tryz.func56,Tryz.ntmps56
 go_wp2_with (at_make; refine wpList_make_full _ rfl _ _ 103 rfl w.heap.size 151 iT (.agg #[.int .i64 0,.int .i64 0]) 2 Tryz.underlying103 HIT.out.1 HIT.out.2.1 HIT.out.2.2.1 .i64 .i64 _ _ l.length rfl rfl rfl rfl (by rw [HIT.out.2.2.2]; omega) (by unfold maxLen; omega) (Nat.le_refl _) ?_; intro w2 hown2 hg2; have O2:=hid hown2; have G2:=hid hg2; clear hown2 hg2)
 have hb2:Below w.heap.size w w2:=(Below.refl _ _).grown G2.out (Nat.le_refl _) (by simp)
 have HB2:=hid hb2
 clear hb2 G2
 go_loopw [11] (fun i wr=>∃ (k:Nat) (L:List Value),k<=l.length/\i=.int .i64 k/\NSe w.heap.size w.heap.size l wr k L/\Below w.heap.size w wr) (fun i _=>l.length - (intOf i).toNat)
 case atStart=>exact ⟨0,_,Nat.zero_le _,rfl,⟨O2.out,fun _ _ h=>absurd h (Nat.not_lt_zero _)⟩,HB2.out⟩
 case round =>
  obtain ⟨k,L,hk,rfl,hnt,hb⟩:=hrel
  have NTH:=hid hnt
  have HB:=hid hb
  have hszr:=hb.size
  have hLl:L.length=l.length * 2:=hnt.row.1
  clear hnt hb
  by_cases hkl:k < l.length
  ·obtain ⟨b,o,hta,hbb,y0,y1⟩:=HIN.out k hkl
   subst hta
   have bl:=(HB.out.cell (p:=⟨b,o + k * 2,none⟩) hbb).trans y0
   have bl1:=(HB.out.cell (p:=⟨b,o + k * 2 + 1,none⟩) hbb).trans y1
   have hkI:(k:Int) < (l.length:Int):=by omega
   clear y0 y1
   generalize hx:l[k]=x at *
   have HX:=hid hx
   clear hx
   go_upto_region 5 with fail
   have hbA:Below wr.heap.size wr (wr.alloc (.cells #[.int .i64 x.x,.int .i64 x.y] 116)):=(Below.refl _ _).alloc (Nat.le_refl _) _
   have bA:=Blk.new wr #[.int .i64 x.x,.int .i64 x.y] 116
   generalize wr.alloc (.cells #[.int .i64 x.x,.int .i64 x.y] 116)=wA at hbA bA ⊢
   have rA:=ownsRow_same NTH.out.row fun g hg=>hbA.block g (ownsRow_block NTH.out.row hg).2.1
   have HBA:=hid (via HB.out HB.out.size hbA)
   have q0:=bA.cell 0
   have q1:=bA.cell 1
   simp at q0 q1
   have d0:wA.cell? ⟨w.heap.size,k * 2,none⟩=some (L[k * 2]'(by omega)):=by rw [rA.cellAt _ (by omega)]; exact List.getElem?_eq_getElem _
   have e0:=rA.frozenAt (k * 2)
   have d1:wA.cell? ⟨w.heap.size,k * 2 + 1,none⟩=some (L[k * 2 + 1]'(by omega)):=by rw [rA.cellAt _ (by omega)]; exact List.getElem?_eq_getElem _
   have e1:=rA.frozenAt (k * 2 + 1)
   have rAll:=((rA.stored (k * 2) (.int .i64 x.x)).1.stored (k * 2 + 1) (.int .i64 x.y)).1
   have HBS:Hid (Below w.heap.size w ((wA.setCell ⟨w.heap.size,k * 2,none⟩ (.int .i64 x.x)).setCell ⟨w.heap.size,k * 2 + 1,none⟩ (.int .i64 x.y))):=(HBA.out.setCell (Nat.le_refl _) (.int .i64 x.x)).setCell (Nat.le_refl _) (.int .i64 x.y)
   have hnt4:NSe w.heap.size w.heap.size l ((wA.setCell ⟨w.heap.size,k * 2,none⟩ (.int .i64 x.x)).setCell ⟨w.heap.size,k * 2 + 1,none⟩ (.int .i64 x.y)) (k + 1) ((L.set (k * 2) (.int .i64 x.x)).set (k * 2 + 1) (.int .i64 x.y)):=by
    refine ⟨rAll,fun i hi hik j hj=>?_⟩
    by_cases e:i=k
    ·subst e
     rw [HX.out]
     have hcases:j=0\/j=1:=by omega
     rcases hcases with rfl | rfl <;> simp [List.getElem?_set] <;> omega
    ·have h:∀ m,m < 2->k * 2 + m ≠ i * 2 + j:=by omega
     have h0:k * 2 ≠ i * 2 + j:=h 0 (by omega)
     have:=NTH.out.cells i hi (by omega) j hj
     simp [h 1,h0]
     simpa using this
   have NT4:=hid hnt4
   clear hnt4 rAll rA bl bl1 NTH hbA bA
   generalize L[k * 2]'(by omega)=o0 at *
   generalize L[k * 2 + 1]'(by omega)=o1 at *
   go_wp2
   go_roundw
   case rel=>exact ⟨k + 1,_,by omega,by go_num,NT4.out,HBS.out⟩
   case measure=>simp [intOf]; omega
  ·have e:k=l.length:=by omega
   subst e
   go_wp2
   go_ret
   exact ⟨_,L,rfl,Nat.le_refl _,NTH.out,HB.out⟩
structure NQu (B g:Nat) (l:List Int) (wr:World) (k:Nat) (L:List Value):Prop where
 row:wr.ownsRow B 153 2 (.slice (some ⟨g,0,none⟩) l.length l.length) l.length L
 cells:∀ i (hi:i < l.length),∀ j,j < 2->L[i * 2 + j]?=[Value.int .i64 (if i < k then l[i] else 0),.slice none 0 0][j]?
theorem made_pair (a b:Value) (n i:Nat) (hi:i < n) (j:Nat) (hj:j < 2):(madeCells #[a,b] (n * 2)).toList[i * 2 + j]?=[a,b][j]?:=by
 unfold madeCells
 have hlt:i * 2 + j < n * 2:=by omega
 rw [Array.toList_map,List.getElem?_map,Array.toList_range,List.getElem?_range hlt]
 have hcases:j=0\/j=1:=by omega
 rcases hcases with rfl | rfl
 ·have:(i * 2 + 0) % 2=0:=by omega
  simp
 ·have:(i * 2 + 1) % 2=1:=by omega
  simp [this]
set_option maxRecDepth 100000 in
set_option maxHeartbeats 2000000 in
theorem kNewQueues_any (tv:Option Addr) (tc:Nat) (l:List Int) (w:World) (hin:IntsIn w.heap.size w tv l) (h8:l.length<=8) :
  Calls Tryz.prog 57 #[.slice tv l.length tc] w fun e w'=>∃ g L,e=.returned (.slice (some ⟨g,0,none⟩) l.length l.length)/\w.heap.size<=g/\NQu w.heap.size g l w' l.length L/\Below w.heap.size w w':=by
 have HIN:=hid hin
 clear hin
 obtain ⟨iT,hiT,hzT0,hzT1,hzT2⟩:=info_parts Tryz.infoPQ
 have HIT:=hid (And.intro hiT (And.intro hzT0 (And.intro hzT1 hzT2)))
 clear hiT hzT0 hzT1 hzT2
 go_enter Tryz.func57,Tryz.ntmps57
 go_wp2_with (at_make; refine wpList_make_full _ rfl _ _ 105 rfl w.heap.size 153 iT (.agg #[.int .i64 0,.slice none 0 0]) 2 Tryz.underlying105 HIT.out.1 HIT.out.2.1 HIT.out.2.2.1 .i64 .i64 _ _ l.length rfl rfl rfl rfl (by rw [HIT.out.2.2.2]; omega) (by unfold maxLen; omega) (Nat.le_refl _) ?_; intro w2 hown2 hg2; have O2:=hid hown2; have G2:=hid hg2; clear hown2 hg2)
 have hb2:Below w.heap.size w w2:=(Below.refl _ _).grown G2.out (Nat.le_refl _) (by simp)
 have HB2:=hid hb2
 have NQ0:Hid (NQu w.heap.size w.heap.size l w2 0 (madeCells (Value.agg #[.int .i64 0,.slice none 0 0]).cells (l.length * 2)).toList):=⟨O2.out,fun i hi j hj=>made_pair _ _ l.length i hi j hj⟩
 clear hb2 G2 O2
 go_loopw [11] (fun i wr=>∃ (k:Nat) (L:List Value),k<=l.length/\i=.int .i64 k/\NQu w.heap.size w.heap.size l wr k L/\Below w.heap.size w wr) (fun i _=>l.length - (intOf i).toNat)
 case atStart=>exact ⟨0,_,Nat.zero_le _,rfl,NQ0.out,HB2.out⟩
 case round =>
  obtain ⟨k,L,hk,rfl,hnt,hb⟩:=hrel
  have NTH:=hid hnt
  have HB:=hid hb
  have hszr:=hb.size
  have hLl:L.length=l.length * 2:=hnt.row.1
  clear hnt hb
  by_cases hkl:k < l.length
  ·obtain ⟨b,o,hta,hbb,y0⟩:=HIN.out k hkl
   subst hta
   have bl:=(HB.out.cell (p:=⟨b,o + k,none⟩) hbb).trans y0
   have hkI:(k:Int) < (l.length:Int):=by omega
   clear y0
   generalize hx:l[k]=x at *
   have HX:=hid hx
   clear hx
   have rA:=NTH.out.row
   have d0:wr.cell? ⟨w.heap.size,k * 2,none⟩=some (L[k * 2]'(by omega)):=by rw [rA.cellAt _ (by omega)]; exact List.getElem?_eq_getElem _
   have e0:=rA.frozenAt (k * 2)
   have rAll:=(rA.stored (k * 2) (.int .i64 x)).1
   have HBS:Hid (Below w.heap.size w (wr.setCell ⟨w.heap.size,k * 2,none⟩ (.int .i64 x))):=HB.out.setCell (Nat.le_refl _) (.int .i64 x)
   have hnt4:NQu w.heap.size w.heap.size l (wr.setCell ⟨w.heap.size,k * 2,none⟩ (.int .i64 x)) (k + 1) (L.set (k * 2) (.int .i64 x)):=by
    refine ⟨rAll,fun i hi j hj=>?_⟩
    have old:=NTH.out.cells i hi j hj
    rw [List.getElem?_set]
    by_cases e:k * 2=i * 2 + j
    ·have e1:i=k:=by omega
     have e2:j=0:=by omega
     subst e1
     subst e2
     rw [if_pos e,if_pos (by omega),if_pos (by omega),HX.out]
     rfl
    ·rw [if_neg e,old]
     have hcases:j=0\/j=1:=by omega
     rcases hcases with rfl | rfl
     ·have hne:i ≠ k:=by omega
      by_cases h1:i < k
      ·rw [if_pos h1,if_pos (by omega)]
      ·rw [if_neg h1,if_neg (by omega)]
     ·rfl
   have NT4:=hid hnt4
   clear hnt4 rAll rA NTH
   generalize L[k * 2]'(by omega)=o0 at *
   go_wp2
   go_roundw
   case rel=>exact ⟨k + 1,_,by omega,by go_num,NT4.out,HBS.out⟩
   case measure=>simp [intOf]; omega
  ·have e:k=l.length:=by omega
   subst e
   go_wp2
   go_ret
   exact ⟨_,L,rfl,Nat.le_refl _,NTH.out,HB.out⟩
end Go.Proofs.YtbkfildnijjioaaGreat

namespace Go.Proofs.YtbkfildnijjioaaGreat
open Go.RowKit
section
variable {PK:KP} {B:Nat} {w:World} {bb kb sb:Nat} {P Q:Nat->Prop} {s:RS}
def R.entry (s:RS) (n:Int):RS:=if n=-1 then R.tickS s else R.pickS s n
end
end Go.Proofs.YtbkfildnijjioaaGreat

namespace Go.Proofs.YtbkfildnijjioaaGreat
open Go.RowKit
set_option maxHeartbeats 400000 in
theorem firstBadMutex_any (ao:Option Addr) (cap:Nat) (l:List PairD) (w:World) (hl:PairsIn w.heap.size w ao l) (hn:(l.length:Int)<=8) :
  Calls Tryz.prog 95 #[.slice ao l.length cap] w fun e w'=>e=.returned (.int .i64 (P3.badOr P3.mutexP l))/\Below w.heap.size w w':=by
 go_enter Tryz.func95,Tryz.ntmps95
 go_wp2
 go_loopw [7] (fun i wr=>∃ k:Nat,k<=l.length/\i=.int .i64 k/\(∀ j (h:j < k),(hl:j < l.length)->P3.mutexP l[j]=true)/\Below w.heap.size w wr) (fun i _=>l.length - (intOf i).toNat)
 case atStart=>exact ⟨0,Nat.zero_le _,rfl,fun j h=>absurd h (Nat.not_lt_zero _),Below.refl _ _⟩
 case round =>
  obtain ⟨k,hk,rfl,hall,hb⟩:=hrel
  by_cases hlt:k < l.length
  ·obtain ⟨b,o,rfl,hbb,hx,hy⟩:=hl k hlt
   have H1:Hid (∀ j (h:j < k),(hl:j < l.length)->P3.mutexP l[j]=true):=hall
   have HL:Hid (PairsIn w.heap.size w (some ⟨b,o,none⟩) l):=hl
   have hx':=(hb.cell (p:=⟨b,o + k * 2,none⟩) hbb).trans hx
   have hy':=(hb.cell (p:=⟨b,o + k * 2 + 1,none⟩) hbb).trans hy
   have hsz:=hb.size
   clear hall hl hx hy
   go_wp2_with (go_at_call 129; refine (mutexFits_any _ _ _).mono ?_; rintro e w1 ⟨rfl,hb1⟩)
   ·go_ret
    refine ⟨ret_int (P3.badOr_at P3.mutexP l k hlt ?_ (fun j h=>H1.out j h (by omega))).symm,via (hb.alloc hb.size _) (by simp; omega) hb1⟩
    simpa [P3.mutexP] using ‹(!P3.mutexB l[k].x l[k].y)=true›
   ·go_roundw
    case rel =>
     refine ⟨k + 1,by omega,by go_num,?_,via (hb.alloc hb.size _) (by simp; omega) hb1⟩
     intro j h h'
     rcases Nat.lt_succ_iff_lt_or_eq.1 h with h1 | rfl
     ·exact H1.out j h1 h'
     ·simpa [P3.mutexP] using ‹(!P3.mutexB l[j].x l[j].y)=false›
    case measure=>simp [intOf]; omega
  ·have H1:Hid (∀ j (h:j < k),(hl:j < l.length)->P3.mutexP l[j]=true):=hall
   have HL:Hid (PairsIn w.heap.size w ao l):=hl
   clear hall hl
   go_wp2
   go_ret
   exact ⟨ret_int (P3.badOr_none P3.mutexP l (fun j h=>H1.out j (by omega) h)).symm,hb⟩
set_option maxHeartbeats 400000 in
theorem firstBadSem_any (ao:Option Addr) (cap:Nat) (l:List PairD) (w:World) (hl:PairsIn w.heap.size w ao l) (hn:(l.length:Int)<=4) :
  Calls Tryz.prog 96 #[.slice ao l.length cap] w fun e w'=>e=.returned (.int .i64 (P3.badOr P3.semP l))/\Below w.heap.size w w':=by
 go_enter Tryz.func96,Tryz.ntmps96
 go_wp2
 go_loopw [7] (fun i wr=>∃ k:Nat,k<=l.length/\i=.int .i64 k/\(∀ j (h:j < k),(hl:j < l.length)->P3.semP l[j]=true)/\Below w.heap.size w wr) (fun i _=>l.length - (intOf i).toNat)
 case atStart=>exact ⟨0,Nat.zero_le _,rfl,fun j h=>absurd h (Nat.not_lt_zero _),Below.refl _ _⟩
 case round =>
  obtain ⟨k,hk,rfl,hall,hb⟩:=hrel
  have H1:Hid (∀ j (h:j < k),(hl:j < l.length)->P3.semP l[j]=true):=hall
  clear hall
  by_cases hlt:k < l.length
  ·obtain ⟨b,o,rfl,hbb,hx,hy⟩:=hl k hlt
   have hx':=(hb.cell (p:=⟨b,o + k * 2,none⟩) hbb).trans hx
   have hy':=(hb.cell (p:=⟨b,o + k * 2 + 1,none⟩) hbb).trans hy
   have hsz:=hb.size
   clear hl hx hy
   cases hok:P3.semB l[k].x l[k].y
   ·have HB:Hid (P3.semB l[k].x l[k].y=false):=hok
    clear hok
    have hB:=HB.out
    unfold P3.semB at hB
    rw [decide_eq_false_iff_not] at hB
    have hor:l[k].y < 1\/(1<=l[k].y/\100 < l[k].y)\/(1<=l[k].y/\l[k].y<=100/\l[k].x < 0)\/(1<=l[k].y/\l[k].y<=100/\0<=l[k].x/\l[k].y < l[k].x):=by omega
    clear hB
    rcases hor with h1 | ⟨h1,h2⟩ | ⟨h1,h2,h3⟩ | ⟨h1,h2,h3,h4⟩
    all_goals
     go_wp2
     go_ret
     exact ⟨ret_int (P3.badOr_at P3.semP l k hlt HB.out (fun j h=>H1.out j h (by omega))).symm,hb.alloc hb.size _⟩
   ·have HB:Hid (P3.semB l[k].x l[k].y=true):=hok
    clear hok
    have hB:=HB.out
    unfold P3.semB at hB
    rw [decide_eq_true_iff] at hB
    obtain ⟨h1,h2,h3,h4⟩:=hB
    go_wp2
    go_roundw
    case rel =>
     refine ⟨k + 1,by omega,by go_num,?_,hb.alloc hb.size _⟩
     intro j h h'
     rcases Nat.lt_succ_iff_lt_or_eq.1 h with h1 | rfl
     ·exact H1.out j h1 h'
     ·exact HB.out
    case measure=>simp [intOf]; omega
  ·clear hl
   go_wp2
   go_ret
   exact ⟨ret_int (P3.badOr_none P3.semP l (fun j h=>H1.out j (by omega) h)).symm,hb⟩
set_option maxHeartbeats 400000 in
theorem firstBadQueue_any (ao:Option Addr) (cap:Nat) (l:List Int) (w:World) (hl:IntsIn w.heap.size w ao l) (hn:(l.length:Int)<=4) :
  Calls Tryz.prog 97 #[.slice ao l.length cap] w fun e w'=>e=.returned (.int .i64 (P3.badOr P3.queueB l))/\Below w.heap.size w w':=by
 go_enter Tryz.func97,Tryz.ntmps97
 go_wp2
 go_loopw [7] (fun i wr=>∃ k:Nat,k<=l.length/\i=.int .i64 k/\(∀ j (h:j < k),(hl:j < l.length)->P3.queueB l[j]=true)/\Below w.heap.size w wr) (fun i _=>l.length - (intOf i).toNat)
 case atStart=>exact ⟨0,Nat.zero_le _,rfl,fun j h=>absurd h (Nat.not_lt_zero _),Below.refl _ _⟩
 case round =>
  obtain ⟨k,hk,rfl,hall,hb⟩:=hrel
  have H1:Hid (∀ j (h:j < k),(hl:j < l.length)->P3.queueB l[j]=true):=hall
  clear hall
  by_cases hlt:k < l.length
  ·obtain ⟨b,o,rfl,hbb,hx⟩:=hl k hlt
   have hx':=(hb.cell (p:=⟨b,o + k,none⟩) hbb).trans hx
   have hsz:=hb.size
   clear hl hx
   cases hok:P3.queueB l[k]
   ·have HB:Hid (P3.queueB l[k]=false):=hok
    clear hok
    have hB:=HB.out
    unfold P3.queueB at hB
    rw [decide_eq_false_iff_not] at hB
    have hor:l[k] < 1\/(1<=l[k]/\8 < l[k]):=by omega
    clear hB
    rcases hor with h1 | ⟨h1,h2⟩
    all_goals
     go_wp2
     go_ret
     exact ⟨ret_int (P3.badOr_at P3.queueB l k hlt HB.out (fun j h=>H1.out j h (by omega))).symm,hb⟩
   ·have HB:Hid (P3.queueB l[k]=true):=hok
    clear hok
    have hB:=HB.out
    unfold P3.queueB at hB
    rw [decide_eq_true_iff] at hB
    obtain ⟨h1,h2⟩:=hB
    go_wp2
    go_roundw
    case rel =>
     refine ⟨k + 1,by omega,by go_num,?_,hb⟩
     intro j h h'
     rcases Nat.lt_succ_iff_lt_or_eq.1 h with h1 | rfl
     ·exact H1.out j h1 h'
     ·exact HB.out
    case measure=>simp [intOf]; omega
  ·clear hl
   go_wp2
   go_ret
   exact ⟨ret_int (P3.badOr_none P3.queueB l (fun j h=>H1.out j (by omega) h)).symm,hb⟩
set_option maxHeartbeats 400000 in
theorem firstBadThread_any (ao:Option Addr) (cap:Nat) (l:List ThreadD) (w:World) (hl:ThreadsIn w.heap.size w ao l) (hn:(l.length:Int)<=16) :
  Calls Tryz.prog 98 #[.slice ao l.length cap] w fun e w'=>e=.returned (.int .i64 (P3.badOr P3.threadP l))/\Below w.heap.size w w':=by
 go_enter Tryz.func98,Tryz.ntmps98
 go_wp2
 go_loopw [7] (fun i wr=>∃ k:Nat,k<=l.length/\i=.int .i64 k/\(∀ j (h:j < k),(hl:j < l.length)->P3.threadP l[j]=true)/\Below w.heap.size w wr) (fun i _=>l.length - (intOf i).toNat)
 case atStart=>exact ⟨0,Nat.zero_le _,rfl,fun j h=>absurd h (Nat.not_lt_zero _),Below.refl _ _⟩
 case round =>
  obtain ⟨k,hk,rfl,hall,hb⟩:=hrel
  have H1:Hid (∀ j (h:j < k),(hl:j < l.length)->P3.threadP l[j]=true):=hall
  clear hall
  by_cases hlt:k < l.length
  ·obtain ⟨b,o,cv,cc,rfl,hbb,c0,c1,c2,c3,c4,_⟩:=hl k hlt
   have c0':=(hb.cell (p:=⟨b,o + k * 5,none⟩) hbb).trans c0
   have c1':=(hb.cell (p:=⟨b,o + k * 5 + 1,none⟩) hbb).trans c1
   have c2':=(hb.cell (p:=⟨b,o + k * 5 + 2,none⟩) hbb).trans c2
   have c3':=(hb.cell (p:=⟨b,o + k * 5 + 3,none⟩) hbb).trans c3
   have c4':=(hb.cell (p:=⟨b,o + k * 5 + 4,none⟩) hbb).trans c4
   have hsz:=hb.size
   clear hl c0 c1 c2 c3 c4
   go_wp2_with (go_at_call 130; refine (threadFits_any _ _ _ _ _ _ _ _).mono ?_; rintro e w1 ⟨rfl,hb1⟩)
   ·go_ret
    refine ⟨ret_int (P3.badOr_at P3.threadP l k hlt ?_ (fun j h=>H1.out j h (by omega))).symm,via (hb.alloc hb.size _) (by simp; omega) hb1⟩
    simpa [P3.threadP] using ‹(!P3.threadB _ _ _ _ _)=true›
   ·go_roundw
    case rel =>
     refine ⟨k + 1,by omega,by go_num,?_,via (hb.alloc hb.size _) (by simp; omega) hb1⟩
     intro j h h'
     rcases Nat.lt_succ_iff_lt_or_eq.1 h with h1 | rfl
     ·exact H1.out j h1 h'
     ·simpa [P3.threadP] using ‹(!P3.threadB _ _ _ _ _)=false›
    case measure=>simp [intOf]; omega
  ·clear hl
   go_wp2
   go_ret
   exact ⟨ret_int (P3.badOr_none P3.threadP l (fun j h=>H1.out j (by omega) h)).symm,hb⟩
end Go.Proofs.YtbkfildnijjioaaGreat

namespace Go.Proofs.YtbkfildnijjioaaGreat
open Go.RowKit
def CodesTo (S:SetD) (t:Nat):Prop:=∀ j (_:j < t),(hl:j < S.threads.length)->P3.codeP S S.threads[j]=true
def CodeTo (S:SetD) (c:List InstrD) (i:Nat):Prop:=∀ j (_:j < i),(hl:j < c.length)->P3.instrP S c.length c[j]=true
theorem CodesTo.step {S:SetD} {t:Nat} (h:CodesTo S t) (ht:t < S.threads.length) (hc:CodeTo S S.threads[t].code S.threads[t].code.length):CodesTo S (t + 1):=by
 intro j hj hl
 rcases Nat.lt_succ_iff_lt_or_eq.1 hj with h1 | rfl
 ·exact h j h1 hl
 ·unfold P3.codeP
  rw [decide_eq_true_iff]
  exact P3.bad_all _ _ (fun i hi=>hc i hi hi)
theorem badCode_none {S:SetD} (h:CodesTo S S.threads.length):P3.badCode S=-1:=by
 unfold P3.badCode
 rw [P3.bad_all (P3.codeP S) S.threads (fun j hj=>h j hj hj),if_neg (by omega)]
theorem badCode_at {S:SetD} {t i:Nat} (h:CodesTo S t) (ht:t < S.threads.length) (hc:CodeTo S S.threads[t].code i) (hi:i < S.threads[t].code.length)
  (hb:P3.instrP S S.threads[t].code.length S.threads[t].code[i]=false):P3.badCode S=100 * (t:Int) + i:=by
 have e1:P3.bad (P3.instrP S S.threads[t].code.length) S.threads[t].code=i:=P3.bad_eq _ _ i hi hb (fun j hj=>hc j hj (by omega))
 have e2:P3.bad (P3.codeP S) S.threads=t:=by
  refine P3.bad_eq _ _ t ht ?_ (fun j hj=>h j hj (by omega))
  unfold P3.codeP
  rw [decide_eq_false_iff_not,e1]
  omega
 unfold P3.badCode
 have e3:S.threads.getD t P3.none0=S.threads[t]:=by simp [List.getD,ht]
 rw [e2,if_pos ht,e3,e1]
set_option maxHeartbeats 1000000 in
theorem firstBadInstr_any (tv mv sv qv:Option Addr) (tc mc sc qc:Nat) (S:SetD) (w:World) (hl:ThreadsIn w.heap.size w tv S.threads)
  (h1:(S.threads.length:Int)<=16) (h2:(S.mutexes.length:Int)<=8) (h3:(S.sems.length:Int)<=4) (h4:(S.queues.length:Int)<=4) (h5:∀ j (h:j < S.threads.length),(S.threads[j].code.length:Int)<=32) :
  Calls Tryz.prog 99 #[.agg #[.int .i64 S.workers,.int .i64 S.start,.slice tv S.threads.length tc,.slice mv S.mutexes.length mc,.slice sv S.sems.length sc,.slice qv S.queues.length qc]] w fun e w' =>
   e=.returned (.int .i64 (P3.badCode S))/\Below w.heap.size w w':=by
 have H5:Hid (∀ j (h:j < S.threads.length),(S.threads[j].code.length:Int)<=32):=h5
 have HL:Hid (ThreadsIn w.heap.size w tv S.threads):=hl
 clear h5 hl
 go_enter Tryz.func99,Tryz.ntmps99
 go_wp2
 generalize hw0:w.alloc (.cells #[.int .i64 S.workers,.int .i64 S.start,.slice tv S.threads.length tc,.slice mv S.mutexes.length mc,.slice sv S.sems.length sc,.slice qv S.queues.length qc] 27)=w0
 have hs0:w.heap.size < w0.heap.size:=by rw [<- hw0]; simp
 have b0:w0.cell? ⟨w.heap.size,0,none⟩=some (.int .i64 S.workers):=by rw [<- hw0]; simp
 have b1:w0.cell? ⟨w.heap.size,1,none⟩=some (.int .i64 S.start):=by rw [<- hw0]; simp
 have b2:w0.cell? ⟨w.heap.size,2,none⟩=some (.slice tv S.threads.length tc):=by rw [<- hw0]; simp
 have b3:w0.cell? ⟨w.heap.size,3,none⟩=some (.slice mv S.mutexes.length mc):=by rw [<- hw0]; simp
 have b4:w0.cell? ⟨w.heap.size,4,none⟩=some (.slice sv S.sems.length sc):=by rw [<- hw0]; simp
 have b5:w0.cell? ⟨w.heap.size,5,none⟩=some (.slice qv S.queues.length qc):=by rw [<- hw0]; simp
 have hl0:ThreadsIn w.heap.size w0 tv S.threads:=HL.out.stays (by rw [<- hw0]; exact (Below.refl _ _).alloc (Nat.le_refl _) _)
 have hb0:Below w.heap.size w w0:=by rw [<- hw0]; exact (Below.refl _ _).alloc (Nat.le_refl _) _
 clear hw0 HL
 have HL:Hid (ThreadsIn w.heap.size w0 tv S.threads):=hl0
 clear hl0
 go_loopw [11] (fun i wr=>∃ k:Nat,k<=S.threads.length/\i=.int .i64 k/\CodesTo S k/\Below w0.heap.size w0 wr) (fun i _=>S.threads.length - (intOf i).toNat)
 case atStart=>exact ⟨0,Nat.zero_le _,rfl,fun j h=>absurd h (Nat.not_lt_zero _),Below.refl _ _⟩
 case round =>
  obtain ⟨k,hk,rfl,hall,hb⟩:=hrel
  by_cases hlt:k < S.threads.length
  ·obtain ⟨b,o,cv,cc,rfl,hbb,c0,c1,c2,c3,c4,hcode,_⟩:=HL.out k hlt
   have c0':=(hb.cell (p:=⟨b,o + k * 5,none⟩) (Nat.lt_trans hbb hs0)).trans c0
   have c1':=(hb.cell (p:=⟨b,o + k * 5 + 1,none⟩) (Nat.lt_trans hbb hs0)).trans c1
   have c2':=(hb.cell (p:=⟨b,o + k * 5 + 2,none⟩) (Nat.lt_trans hbb hs0)).trans c2
   have c3':=(hb.cell (p:=⟨b,o + k * 5 + 3,none⟩) (Nat.lt_trans hbb hs0)).trans c3
   have c4':=(hb.cell (p:=⟨b,o + k * 5 + 4,none⟩) (Nat.lt_trans hbb hs0)).trans c4
   have hlen:=H5.out k hlt
   have hsz:=hb.size
   clear c0 c1 c2 c3 c4
   have HC:Hid (InstrsIn w.heap.size w0 cv S.threads[k].code):=hcode
   clear hcode
   go_wp2
   generalize hw1:wr.alloc (.cells #[.int .i64 S.threads[k].base,.int .i64 S.threads[k].offset,.int .i64 S.threads[k].period,.int .i64 S.threads[k].deadline,.slice cv S.threads[k].code.length cc] 59)=w1
   have hs1:wr.heap.size < w1.heap.size:=by rw [<- hw1]; simp
   have d4:w1.cell? ⟨wr.heap.size,4,none⟩=some (.slice cv S.threads[k].code.length cc):=by rw [<- hw1]; simp
   have hb1:Below w0.heap.size w0 w1:=by rw [<- hw1]; exact hb.alloc hb.size _
   have e0:=(hb1.cell (p:=⟨w.heap.size,0,none⟩) hs0).trans b0
   have e1:=(hb1.cell (p:=⟨w.heap.size,1,none⟩) hs0).trans b1
   have e2:=(hb1.cell (p:=⟨w.heap.size,2,none⟩) hs0).trans b2
   have e3:=(hb1.cell (p:=⟨w.heap.size,3,none⟩) hs0).trans b3
   have e4:=(hb1.cell (p:=⟨w.heap.size,4,none⟩) hs0).trans b4
   have e5:=(hb1.cell (p:=⟨w.heap.size,5,none⟩) hs0).trans b5
   clear c0' c1' c2' c3' c4' hw1
   generalize wr.heap.size=g at *
   go_loopw [19] (fun i wx=>∃ m:Nat,m<=S.threads[k].code.length/\i=.int .i64 m/\CodeTo S S.threads[k].code m/\Below w1.heap.size w1 wx) (fun i _=>S.threads[k].code.length - (intOf i).toNat)
   case atStart=>exact ⟨0,Nat.zero_le _,rfl,fun j h=>absurd h (Nat.not_lt_zero _),Below.refl _ _⟩
   case round =>
    obtain ⟨m,hm,rfl,hall2,hb2⟩:=hrel
    have HA:Hid (CodeTo S S.threads[k].code m):=hall2
    have HB:Hid (CodesTo S k):=hall
    clear hall2 hall
    by_cases hlt2:m < S.threads[k].code.length
    ·obtain ⟨b',o',rfl,hbb',x0,x1,x2⟩:=HC.out m hlt2
     have y0:=(hb2.cell (p:=⟨b',o' + m * 3,none⟩) (by show b' < _; omega)).trans ((hb1.cell (p:=⟨b',o' + m * 3,none⟩) (by show b' < _; omega)).trans x0)
     have y1:=(hb2.cell (p:=⟨b',o' + m * 3 + 1,none⟩) (by show b' < _; omega)).trans ((hb1.cell (p:=⟨b',o' + m * 3 + 1,none⟩) (by show b' < _; omega)).trans x1)
     have y2:=(hb2.cell (p:=⟨b',o' + m * 3 + 2,none⟩) (by show b' < _; omega)).trans ((hb1.cell (p:=⟨b',o' + m * 3 + 2,none⟩) (by show b' < _; omega)).trans x2)
     have f0:=(hb2.cell (p:=⟨w.heap.size,0,none⟩) (by show w.heap.size < _; omega)).trans e0
     have f1:=(hb2.cell (p:=⟨w.heap.size,1,none⟩) (by show w.heap.size < _; omega)).trans e1
     have f2:=(hb2.cell (p:=⟨w.heap.size,2,none⟩) (by show w.heap.size < _; omega)).trans e2
     have f3:=(hb2.cell (p:=⟨w.heap.size,3,none⟩) (by show w.heap.size < _; omega)).trans e3
     have f4:=(hb2.cell (p:=⟨w.heap.size,4,none⟩) (by show w.heap.size < _; omega)).trans e4
     have f5:=(hb2.cell (p:=⟨w.heap.size,5,none⟩) (by show w.heap.size < _; omega)).trans e5
     have g4:=(hb2.cell (p:=⟨g,4,none⟩) (by show g < _; omega)).trans d4
     have hsz2:=hb2.size
     clear x0 x1 x2 e0 e1 e2 e3 e4 e5 d4 b0 b1 b2 b3 b4 b5
     have q1:w.heap.size < wr.heap.size:=by omega
     have q2:g < wr.heap.size:=by omega
     go_wp2_with (first
      | (go_at_call 131; refine (boundsOf_any _ _ _ _ _ _ _ _ _ _ _ _ _ _ _ _ _ h1 h2 h3 h4).mono ?_; rintro e w3 ⟨rfl,hb3⟩; obtain ⟨hc3,hf3⟩:=bcell hb3; have hz3:wr.heap.size < w3.heap.size:=(by have:=hb3.size; simp at this; omega))
      | (go_at_call 132; refine (instrFits_any _ _ _ _ _ _ _ _ _).mono ?_; rintro e w4 ⟨rfl,hb4⟩))
     ·go_ret
      refine ⟨ret_int (badCode_at HB.out hlt HA.out hlt2 ?_).symm,via hb0 (Nat.le_of_lt hs0) (via hb1 (by omega) (via (via (hb2.alloc hb2.size _) (by simp; omega) hb3 |>.alloc (by omega) _) (by simp; omega) hb4))⟩
      simpa [P3.instrP,P3.instrB] using ‹(!P3.fitsB _ _ _ _ _ _ _)=true›
     ·go_roundw
      case rel =>
       refine ⟨m + 1,by omega,by go_num,?_,via (via (hb2.alloc hb2.size _) (by simp; omega) hb3 |>.alloc (by omega) _) (by simp; omega) hb4⟩
       intro j h h'
       rcases Nat.lt_succ_iff_lt_or_eq.1 h with h1 | rfl
       ·exact HA.out j h1 h'
       ·simpa [P3.instrP,P3.instrB] using ‹(!P3.fitsB _ _ _ _ _ _ _)=false›
      case measure=>simp [intOf]; omega
    ·have hmm:m=S.threads[k].code.length:=by omega
     have HA':Hid (CodeTo S S.threads[k].code S.threads[k].code.length):=hmm ▸ HA.out
     have hsz2:=hb2.size
     clear hmm
     go_wp2
     go_roundw
     case rel=>exact ⟨k + 1,by omega,by go_num,HB.out.step hlt HA'.out,via hb1 (by omega) hb2⟩
     case measure=>simp [intOf]; omega
  ·go_wp2
   go_ret
   have e:k=S.threads.length:=by omega
   subst e
   exact ⟨ret_int (badCode_none hall).symm,via hb0 hb0.size hb⟩
end Go.Proofs.YtbkfildnijjioaaGreat

namespace Go.Proofs.YtbkfildnijjioaaGreat
open Go.RowKit
theorem bdrew {B:Nat} {a w:World} (h:Below B a w) (n:Nat):Below B a (w.drewN n):=⟨h.os,h.tape,h.output,h.size,h.block⟩
set_option maxHeartbeats 1000000 in
theorem checkSet_any (tv mv sv qv:Option Addr) (tc mc sc qc:Nat) (S:SetD) (w:World) (hS:SetIn w.heap.size w tv mv sv qv S) :
  Calls Tryz.prog 53 #[.agg #[.int .i64 S.workers,.int .i64 S.start,.slice tv S.threads.length tc,.slice mv S.mutexes.length mc,.slice sv S.sems.length sc,.slice qv S.queues.length qc]] w fun e w' =>
   e=.returned (.agg #[.int .i64 (P3.err S),.int .i64 (P3.place S)])/\Below w.heap.size w w':=by
 have HS:Hid (SetIn w.heap.size w tv mv sv qv S):=hS
 clear hS
 go_enter Tryz.func53,Tryz.ntmps53
 go_wp2_with fail
 generalize hw0:(w.alloc (.cells #[.int .i64 S.workers,.int .i64 S.start,.slice tv S.threads.length tc,.slice mv S.mutexes.length mc,.slice sv S.sems.length sc,.slice qv S.queues.length qc] 27)).alloc (.cells #[.int .i64 0,.int .i64 0] 97)=w0
 have hs0:w0.heap.size=w.heap.size + 2:=by rw [<- hw0]; simp
 have b0:w0.cell? ⟨w.heap.size,0,none⟩=some (.int .i64 S.workers):=by rw [<- hw0]; simp
 have b1:w0.cell? ⟨w.heap.size,1,none⟩=some (.int .i64 S.start):=by rw [<- hw0]; simp
 have b2:w0.cell? ⟨w.heap.size,2,none⟩=some (.slice tv S.threads.length tc):=by rw [<- hw0]; simp
 have b3:w0.cell? ⟨w.heap.size,3,none⟩=some (.slice mv S.mutexes.length mc):=by rw [<- hw0]; simp
 have b4:w0.cell? ⟨w.heap.size,4,none⟩=some (.slice sv S.sems.length sc):=by rw [<- hw0]; simp
 have b5:w0.cell? ⟨w.heap.size,5,none⟩=some (.slice qv S.queues.length qc):=by rw [<- hw0]; simp
 have r0:w0.cell? ⟨w.heap.size + 1,0,none⟩=some (.int .i64 0):=by rw [<- hw0]; simp
 have r1:w0.cell? ⟨w.heap.size + 1,1,none⟩=some (.int .i64 0):=by rw [<- hw0]; simp
 have z0:w0.frozen? ⟨w.heap.size + 1,0,none⟩=false:=by rw [<- hw0]; simp
 have z1:w0.frozen? ⟨w.heap.size + 1,1,none⟩=false:=by rw [<- hw0]; simp
 have hb0:Below w.heap.size w w0:=by rw [<- hw0]; exact ((Below.refl _ _).alloc (Nat.le_refl _) _).alloc (by simp) _
 clear hw0
 have hs1:w.heap.size < w0.heap.size:=by omega
 have hs2:w.heap.size + 1 < w0.heap.size:=by omega
 clear hs0
 refine (sizesFit_any _ _ _ _ _ _ _ _ S _).mono ?_
 rintro e w1 ⟨rfl,hb1⟩
 obtain ⟨hc1,hf1⟩:=bcell hb1
 cases hz:P3.sizesB S
 ·go_wp2_with fail
  refine bodyPost_ret (v:=.agg #[.int .i64 (P3.err S),.int .i64 (P3.place S)]) ?_ rfl ⟨rfl,?_⟩
  ·simp [results,Tryz.results53,go_sem,hc1,r0,r1,hs2,P3.err,P3.place,hz]
  ·exact ((via hb0 (Nat.le_of_lt hs1) hb1).setCell (by simp) _).setCell (by simp) _
 ·obtain ⟨n1,n2,n3,n4⟩:=sizes_of hz
  have g1:=via hb0 (Nat.le_of_lt hs1) hb1
  have k1:=hb1.size
  go_wp2_with fail
  refine (firstBadMutex_any _ _ S.mutexes _ (HS.out.later g1).mutexes n2).mono ?_
  rintro e w2 ⟨rfl,hb2⟩
  have hB2:=via hb1 k1 hb2
  have g2:=via hb0 (Nat.le_of_lt hs1) hB2
  have k2:=hB2.size
  clear hc1 hf1
  obtain ⟨hc2,hf2⟩:=bcell hB2
  cases h1:(P3.badOr P3.mutexP S.mutexes != -1)
  ·go_wp2_with fail
   refine (firstBadSem_any _ _ S.sems _ (HS.out.later g2).sems n3).mono ?_
   rintro e w3 ⟨rfl,hb3⟩
   have hB3:=via hB2 k2 hb3
   have g3:=via hb0 (Nat.le_of_lt hs1) hB3
   have k3:=hB3.size
   clear hc2 hf2
   obtain ⟨hc3,hf3⟩:=bcell hB3
   cases h2:(P3.badOr P3.semP S.sems != -1)
   ·go_wp2_with fail
    refine (firstBadQueue_any _ _ S.queues _ (HS.out.later g3).queues n4).mono ?_
    rintro e w4 ⟨rfl,hb4⟩
    have hB4:=via hB3 k3 hb4
    have g4:=via hb0 (Nat.le_of_lt hs1) hB4
    have k4:=hB4.size
    clear hc3 hf3
    obtain ⟨hc4,hf4⟩:=bcell hB4
    cases h3:(P3.badOr P3.queueB S.queues != -1)
    ·go_wp2_with fail
     refine (firstBadThread_any _ _ S.threads _ (HS.out.later g4).threads n1).mono ?_
     rintro e w5 ⟨rfl,hb5⟩
     have hB5:=via hB4 k4 hb5
     have g5:=via hb0 (Nat.le_of_lt hs1) hB5
     have k5:=hB5.size
     clear hc4 hf4
     obtain ⟨hc5,hf5⟩:=bcell hB5
     cases h4:(P3.badOr P3.threadP S.threads != -1)
     ·go_wp2_with fail
      refine (firstBadInstr_any _ _ _ _ _ _ _ _ S _ (HS.out.later g5).threads n1 n2 n3 n4 (codes_of (by simpa using h4))).mono ?_
      rintro e w6 ⟨rfl,hb6⟩
      have hB6:=via hB5 k5 hb6
      have g6:=via hb0 (Nat.le_of_lt hs1) hB6
      have k6:=hB6.size
      clear hc5 hf5
      obtain ⟨hc6,hf6⟩:=bcell hB6
      cases h5:(P3.badCode S != -1)
      ·go_wp2_with fail
       refine bodyPost_ret (v:=.agg #[.int .i64 (P3.err S),.int .i64 (P3.place S)]) ?_ rfl ⟨rfl,?_⟩
       ·rw [bne_eq_false_iff_eq] at h1; rw [bne_eq_false_iff_eq] at h2; rw [bne_eq_false_iff_eq] at h3; rw [bne_eq_false_iff_eq] at h4; rw [bne_eq_false_iff_eq] at h5
        simp [results,Tryz.results53,go_sem,hc6,r0,r1,hs2,P3.err,P3.place,hz,h1,h2,h3,h4,h5]
       ·exact (g6.setCell (by simp) _).setCell (by simp) _
      ·go_wp2_with fail
       refine bodyPost_ret (v:=.agg #[.int .i64 (P3.err S),.int .i64 (P3.place S)]) ?_ rfl ⟨rfl,?_⟩
       ·rw [bne_eq_false_iff_eq] at h1; rw [bne_eq_false_iff_eq] at h2; rw [bne_eq_false_iff_eq] at h3; rw [bne_eq_false_iff_eq] at h4; rw [bne_iff_ne] at h5
        simp [results,Tryz.results53,go_sem,hc6,r0,r1,hs2,P3.err,P3.place,hz,h1,h2,h3,h4,h5]
       ·exact (g6.setCell (by simp) _).setCell (by simp) _
     ·go_wp2_with fail
      refine bodyPost_ret (v:=.agg #[.int .i64 (P3.err S),.int .i64 (P3.place S)]) ?_ rfl ⟨rfl,?_⟩
      ·rw [bne_eq_false_iff_eq] at h1; rw [bne_eq_false_iff_eq] at h2; rw [bne_eq_false_iff_eq] at h3; rw [bne_iff_ne] at h4
       simp [results,Tryz.results53,go_sem,hc5,r0,r1,hs2,P3.err,P3.place,hz,h1,h2,h3,h4]
      ·exact (g5.setCell (by simp) _).setCell (by simp) _
    ·go_wp2_with fail
     refine bodyPost_ret (v:=.agg #[.int .i64 (P3.err S),.int .i64 (P3.place S)]) ?_ rfl ⟨rfl,?_⟩
     ·rw [bne_eq_false_iff_eq] at h1; rw [bne_eq_false_iff_eq] at h2; rw [bne_iff_ne] at h3
      simp [results,Tryz.results53,go_sem,hc4,r0,r1,hs2,P3.err,P3.place,hz,h1,h2,h3]
     ·exact (g4.setCell (by simp) _).setCell (by simp) _
   ·go_wp2_with fail
    refine bodyPost_ret (v:=.agg #[.int .i64 (P3.err S),.int .i64 (P3.place S)]) ?_ rfl ⟨rfl,?_⟩
    ·rw [bne_eq_false_iff_eq] at h1; rw [bne_iff_ne] at h2
     simp [results,Tryz.results53,go_sem,hc3,r0,r1,hs2,P3.err,P3.place,hz,h1,h2]
    ·exact (g3.setCell (by simp) _).setCell (by simp) _
  ·go_wp2_with fail
   refine bodyPost_ret (v:=.agg #[.int .i64 (P3.err S),.int .i64 (P3.place S)]) ?_ rfl ⟨rfl,?_⟩
   ·rw [bne_iff_ne] at h1
    simp [results,Tryz.results53,go_sem,hc2,r0,r1,hs2,P3.err,P3.place,hz,h1]
   ·exact (g2.setCell (by simp) _).setCell (by simp) _
end Go.Proofs.YtbkfildnijjioaaGreat

namespace Go.Proofs.YtbkfildnijjioaaGreat
open Go.RowKit
def CNew (PK:KP) (ok:SetD->Prop):Prop:=∀ (tv mv sv qv:Option Addr) (tc mc sc qc:Nat) (S:SetD) (w:World),SetIn w.heap.size w tv mv sv qv S->Fits S->((tv=none->tc=0)/\(mv=none->mc=0)/\(sv=none->sc=0)/\(qv=none->qc=0))->ok S ->
 Calls Tryz.prog 25 #[.agg #[.int .i64 S.workers,.int .i64 S.start,.slice tv S.threads.length tc,.slice mv S.mutexes.length mc,.slice sv S.sems.length sc,.slice qv S.queues.length qc]] w fun e w' =>
  Below w.heap.size w w'/\((P3.err S ≠ 0/\e=.returned (.tuple #[.pointer none,.int .i64 (P3.err S)])) \/
   (P3.err S=0/\∃ kb P,e=.returned (.tuple #[.pointer (some ⟨kb,0,none⟩),.int .i64 0])/\PK P w' kb (R.new S)/\∀ b,P b->w.heap.size<=b))
section
variable {PK:KP} {ok:SetD->Prop}
theorem entry_next (s:RS) (n:Int) (hi:RInv s):(R.entry s n).next<=s.next + 33:=by
 have hfew:=hi.good.few
 unfold R.entry
 split
 ·unfold R.tickS
  split
  ·omega
  ·have h1:=(R.endsTo_set (R.missing s) (R.missing s).T.length)
   have h2:=R.releaseTo_next (R.ends (R.missing s)) (R.ends (R.missing s)).T.length
   have e1:(R.tick s).next=(R.releaseTo (R.ends (R.missing s)) (R.ends (R.missing s)).T.length).next:=rfl
   have e2:(R.missing s).next=s.next:=rfl
   have e3:(R.missing s).T.length=s.T.length:=rfl
   have e4:(R.ends (R.missing s)).T.length=s.T.length:=h1.2.2.2.1.trans e3
   have e5:R.ends (R.missing s)=R.endsTo (R.missing s) (R.missing s).T.length:=rfl
   rw [e1]
   rw [<- e5] at h1
   have h3:=h1.2.2.2.2.2
   rw [e2] at h3
   omega
 ·unfold R.pickS
  split
  ·omega
  split
  ·omega
  ·have hol:s.owner.length<=8:=by have:=hi.good.own; have:=hi.good.mfew; omega
   have:=(like_actS s (R.on s.T n).toNat hol).nx1
   have e:(R.settle (R.actS s (R.on s.T n).toNat)).next=(R.actS s (R.on s.T n).toNat).next:=rfl
   rw [e]
   omega
theorem new_next (S:SetD) (h:S.threads.length<=16):(R.new S).next<=16:=by
 have h2:=R.releaseTo_next (R.bare S) (R.bare S).T.length
 have e1:(R.new S).next=(R.releaseTo (R.bare S) (R.bare S).T.length).next:=rfl
 have e2:(R.bare S).next=0:=rfl
 have e3:(R.bare S).T.length=S.threads.length:=by simp [R.bare]
 rw [e1]
 omega
end
end Go.Proofs.YtbkfildnijjioaaGreat

namespace Go.Proofs.YtbkfildnijjioaaGreat
open Go.RowKit
section
variable {F:Nat->Prop} {w w':World} {kb:Nat} {h:KH} {s:RS} {tk wt:List Nat} {ws:List Int}
theorem settle_get {s:RS} {t:Nat} (ht:t < s.T.length):∃ w,(R.settle s).T[t]'(by show t < (R.settleT _ _ _).length; rw [R.settleT_length]; exact ht)={ s.T[t] with wkr:=w }:=by
 obtain ⟨w,hw,_⟩:=settle_th (R.levels s) s.T s.set.workers.toNat t ht
 have hl:t < (R.settle s).T.length:=by show t < (R.settleT _ _ _).length; rw [R.settleT_length]; exact ht
 refine ⟨w,?_⟩
 have e1:R.th (R.settle s).T t=(R.settle s).T[t]:=th_ext hl
 rw [<- e1,<- th_ext ht]
 exact hw
theorem settle_len (s:RS):(R.settle s).T.length=s.T.length:=R.settleT_length _ _ _
theorem settle_thr {s:RS} {t:Nat} (ht:t < s.T.length):∃ w,R.th (R.settle s).T t={ R.th s.T t with wkr:=w }:=by
 obtain ⟨w,hw,_⟩:=settle_th (R.levels s) s.T s.set.workers.toNat t ht
 exact ⟨w,hw⟩
theorem KMem.settle (m:KMem F w kb h s tk wt ws):KMem F w kb h (R.settle s) tk wt ws:=by
 refine m.cong rfl rfl (settle_len s) rfl rfl rfl rfl (fun i hi=>?_)
 obtain ⟨x,hx⟩:=settle_get hi
 rw [hx]
 rfl
theorem Ln.Aux.settle (a:Ln.Aux s tk wt) (f:KFit s):Ln.Aux (R.settle s) tk wt:=by
 refine a.same f.ok (settle_len s) rfl (Int.le_refl _) fun u hu=>?_
 obtain ⟨x,hx⟩:=settle_thr hu
 rw [hx]
 exact ⟨rfl,rfl,rfl,rfl,id⟩
theorem ok_mutex {S:SetD} (h:P3.err S=0) (k:Nat) (hk:k < S.mutexes.length):(S.mutexes.getD k R.pair0).x=0\/(S.mutexes.getD k R.pair0).x=1:=by
 have:=badOr_good (ok_parts h).2.1 S.mutexes[k] (List.getElem_mem hk)
 have e:S.mutexes.getD k R.pair0=S.mutexes[k]:=by simp [List.getD,hk]
 rw [e]
 unfold P3.mutexP P3.mutexB at this
 rw [decide_eq_true_iff] at this
 omega
theorem RMid.fit (h:RMid s):KFit s:=by
 refine ⟨h.good.few,by rw [h.good.own]; exact h.good.mfew,h.good.own,fun i hi=>?_,fun t ht hf=>?_,fun i hi=>ok_mutex h.ok i (by rw [<- h.good.own]; exact hi)⟩
 ·have e:s.owner.getD i 0=s.owner[i]:=by simp [List.getD,hi]
  rw [e]
  exact h.own i hi
 ·rw [th_ext ht] at hf ⊢
  exact (h.thr t ht).of1 hf
theorem TOk.aw' {S:SetD} {now:Int} {nO t:Nat} {x:RT} (h:TOk S now nO t x):kAw x=x.awake:=by
 unfold kAw
 cases ha:x.awake with
 | true =>
  have h1:=h.aw ha
  have h2:x.for_=0:=Classical.byContradiction fun hc=>by
   have:=(h.fw hc).2
   rw [ha] at this
   cases this
  simp [h1,h2]
 | false =>
  by_cases hf:x.for_=0
  ·have:=h.id ha hf
   simp [this]
  ·simp [hf]
theorem RMid.awOk (h:RMid s):AwOk s:=fun t ht=>(h.thr t ht).aw'
theorem RMid.kset (h:RMid s) (t:Nat) (ht:t < s.T.length):KSet s t:=by
 have ht':t < s.set.threads.length:=by have:=h.good.len; omega
 have ho:=h.good.off s.set.threads[t] (List.getElem_mem ht')
 have e:s.set.threads.getD t P3.none0=s.set.threads[t]:=by simp [List.getD,ht']
 have:=h.good.now0
 have:=h.good.now1
 have:=h.good.now2
 refine ⟨⟨by omega,by omega⟩,?_,?_,?_⟩ <;> rw [e] <;> omega
end
structure KPK (Q:Nat->Prop) (w:World) (kb:Nat) (s:RS):Prop where
 ks:∃ ws,KS Q w kb s ws/\Ln.Wk s.set.workers.toNat ws s.T
 inv:RInv s
theorem kframe:KFrame KPK:=by
 refine ⟨fun k b hb=>?_,fun k hs hz=>?_⟩
 ·obtain ⟨ws,ks,_⟩:=k.ks
  exact ks.lt b hb
 ·obtain ⟨ws,ks,wk⟩:=k.ks
  exact ⟨⟨ws,ks.frame hs hz,wk⟩,k.inv⟩
theorem KPK.open {Q:Nat->Prop} {w:World} {kb:Nat} {s:RS} (k:KPK Q w kb s):∃ F h tk wt ws,KMem F w kb h s tk wt ws/\Ln.Aux s tk wt/\(∀ b,KB F kb h b->Q b)/\Ln.Wk s.set.workers.toNat ws s.T/\KFit s/\ws.length<=8:=by
 obtain ⟨ws,ks,wk⟩:=k.ks
 obtain ⟨F,h,tk,wt,m,a,hq⟩:=ks.mem
 refine ⟨F,h,tk,wt,ws,m,a,hq,wk,k.inv.toRMid.fit,?_⟩
 rw [wk.len]
 have:=k.inv.good.wk1
 have:=k.inv.good.wk0
 omega
theorem cNow:CNow KPK:=fun Q w kb s k=>by
 obtain ⟨F,h,tk,wt,ws,m,_⟩:=k.open
 exact kNow_any m
theorem wk_running {s:RS} {ws:List Int} (wk:Ln.Wk s.set.workers.toNat ws s.T):R.running s=ws:=by
 apply List.ext_getElem
 ·rw [wk.len]; simp [R.running]
 ·intro i h1 h2
  have:=wk.on i h2
  simp only [R.running,List.getElem_map,List.getElem_range]
  exact this
theorem cRunning:CRunning KPK:=fun Q w kb s k=>by
 obtain ⟨F,h,tk,wt,ws,m,a,hq,wk,f,h8⟩:=k.open
 rw [wk_running wk]
 exact kRunning_any m h8
theorem cMisses:CMisses KPK:=fun Q w kb s k=>by
 obtain ⟨F,h,tk,wt,ws,m,a,hq,wk,f,h8⟩:=k.open
 refine kMisses_any m ?_
 have:=k.inv.mis
 have:=k.inv.good.now0
 have:=k.inv.good.now1
 have:=k.inv.good.now2
 omega
theorem cOwner:COwner KPK:=fun Q w kb s k i=>by
 obtain ⟨F,h,tk,wt,ws,m,a,hq,wk,f,h8⟩:=k.open
 exact kOwner_any m f i
theorem state_is {s:RS} {ws:List Int} (inv:RInv s) (wk:Ln.Wk s.set.workers.toNat ws s.T) {t:Nat} (ht:t < s.T.length) (lv:Int):K.viewV s.T[t] (K.state s.T[t] ws t) lv=viewV s.T[t] lv:=by
 have tok:=inv.thr t ht
 have wa:=inv.wk t ht
 have hs:=wk.seated t ht
 have hp:=Ln.placeIn_cases ws (t:Int)
 have hst:K.state s.T[t] ws t=R.stateOf s.T[t]:=by
  unfold K.state R.stateOf
  have he:=tok.e1
  cases ha:s.T[t].awake with
  | true =>
   have h1:=tok.aw ha
   have h2:s.T[t].for_=0:=Classical.byContradiction fun hc=>by
    have:=(tok.fw hc).2
    rw [ha] at this
    cases this
   have n1:¬ s.T[t].rel<=s.T[t].ended:=by omega
   have n2:¬ s.T[t].for_ ≠ 0:=fun hh=>hh h2
   rw [if_neg n1,if_neg n2,if_neg n2]
   rcases hp with ⟨h3,_⟩ | ⟨i,hi,h3,_⟩
   ·have n3:¬ 0<=s.T[t].wkr:=by omega
    rw [if_pos h3,if_neg n3,if_pos rfl]
   ·have n3:¬ Ln.placeIn ws (t:Int)=-1:=by omega
    have n4:0<=s.T[t].wkr:=by omega
    rw [if_neg n3,if_pos n4]
  | false =>
   by_cases hf:s.T[t].for_=0
   ·have h1:=tok.id ha hf
    have n1:s.T[t].rel<=s.T[t].ended:=by omega
    have n2:¬ s.T[t].for_ ≠ 0:=fun hh=>hh hf
    have n3:¬ 0<=s.T[t].wkr:=fun hh=>by
     have:=wa hh
     rw [ha] at this
     cases this
    rw [if_pos n1,if_neg n2,if_neg n3,if_neg (by decide)]
   ·have h1:=(tok.fw hf).1
    have n1:¬ s.T[t].rel<=s.T[t].ended:=by omega
    rw [if_neg n1,if_pos hf,if_pos hf]
 unfold K.viewV viewV
 rw [hst]
theorem cLook:CLook KPK:=fun Q w kb s k t=>by
 obtain ⟨F,h,tk,wt,ws,m,a,hq,wk,f,h8⟩:=k.open
 have c:=kLook_any m f a.wt t h8
 have e1:K.lookV s ws t=R.lookV s t:=by
  unfold K.lookV R.lookV
  by_cases hin:0<=t/\t < s.T.length
  ·rw [if_pos hin,if_pos hin]
   have ht:t.toNat < s.T.length:=by omega
   rw [th_ext ht]
   exact state_is k.inv wk ht _
  ·rw [if_neg hin,if_neg hin]
 have e2:K.lookE s t=R.lookE s t:=rfl
 rw [e1,e2] at c
 exact c
theorem cWaiting:CWaiting KPK:=fun Q w kb s k what i=>by
 obtain ⟨F,h,tk,wt,ws,m,a,hq,wk,f,h8⟩:=k.open
 have c:=kWaiting_any m f a.wt what i
 have et:K.things s what=R.things s what:=by
  rfl
 rw [et] at c
 refine c.mono ?_
 intro e w' hh
 by_cases hin:0<=i/\i < R.things s what
 ·rw [if_pos hin] at hh
  obtain ⟨v,rfl,hr,hb⟩:=hh
  have hw:what ≠ 0:=fun e=>by
   subst e
   have:R.things s 0=0:=rfl
   omega
  have el:=Ln.waiting_line a.wt what i hw
  have hno:¬ (i < 0\/R.things s what<=i):=by omega
  have e1:R.waitE s what i=0:=by unfold R.waitE; rw [if_neg hno]
  have e2:R.waitL s what i=Ln.ints (Ln.lineW s wt what i):=by unfold R.waitL; rw [if_neg hno,el]
  refine ⟨v,by rw [e1],?_,hb⟩
  rw [e2,Ln.ints_length]
  exact hr
 ·rw [if_neg hin] at hh
  obtain ⟨rfl,hb⟩:=hh
  have hyes:i < 0\/R.things s what<=i:=by omega
  have e1:R.waitE s what i=7:=by unfold R.waitE; rw [if_pos hyes]
  have e2:R.waitL s what i=[]:=by unfold R.waitL; rw [if_pos hyes]
  refine ⟨_,by rw [e1],?_,hb⟩
  rw [e2]
  exact World.ownsRow_nil _ _ _ _
theorem box_few {s:RS} (inv:RInv s) (i:Nat) (hi:i < s.box.length):s.box[i].length<=1000:=by
 have h1:=inv.bnd.qb i hi
 have h2:=ok_queue inv.ok i (by rw [<- inv.bnd.qs]; exact hi)
 omega
theorem cCount:CCount KPK:=fun Q w kb s k i=>by
 obtain ⟨F,h,tk,wt,ws,m,a,hq,wk,f,h8⟩:=k.open
 refine kCount_any m ?_ i
 rw [k.inv.bnd.cs]
 have:=(ok_sizes k.inv.ok).1
 omega
theorem cMessages:CMessages KPK:=fun Q w kb s k i=>by
 obtain ⟨F,h,tk,wt,ws,m,a,hq,wk,f,h8⟩:=k.open
 refine kMessages_any m ?_ (box_few k.inv) i
 rw [k.inv.bnd.qs]
 have:=(ok_sizes k.inv.ok).2
 omega
end Go.Proofs.YtbkfildnijjioaaGreat
