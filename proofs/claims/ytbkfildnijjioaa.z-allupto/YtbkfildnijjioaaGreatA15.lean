import Derived.Test.YtbkfildnijjioaaGreatA14
import Derived.Test.YtbkfildnijjioaaGreatA07
import Derived.Test.YtbkfildnijjioaaGreatA02
import Derived.Maps.AppendAt
import Derived.Test.YtbkfildnijjioaaGreatA08
namespace Go.Proofs.YtbkfildnijjioaaGreat
open Go.RowKit
def LevelAt (w:World) (sb:Nat) (s:RS) (d:Int) (f:Nat->Int):Prop :=
 ∀ t,t < s.T.length->Calls Tryz.prog 147 #[.pointer (some ⟨sb,0,none⟩),.int .i64 t,.int .i64 d] w fun e w'=>e=.returned (.int .i64 (f t))/\w'=w
theorem RMem.owner {F:Nat->Prop} {w:World} {sb:Nat} {h:RH} {s:RS} (m:RMem F w sb h s) :
  ∃ ao cap,h.vO=.slice ao s.owner.length cap/\∀ i,i < s.owner.length->∃ g,ao=some ⟨g,0,none⟩/\w.cell? ⟨g,i,none⟩=some (.int .i64 (s.owner.getD i 0)):=by
 obtain ⟨ao,cap,he,hn,ha⟩:=owns_cells m.oth.own
 refine ⟨ao,cap,he,fun i hi=>?_⟩
 cases ao with
 | none=>have:=(hn rfl).1; omega
 | some a =>
  obtain ⟨g,rfl,_,_,_,hc⟩:=ha a rfl
  exact ⟨g,rfl,by rw [hc i (by omega)]; simp [intCells,List.getD,List.getElem?_eq_getElem hi]⟩
set_option maxRecDepth 100000 in
set_option maxHeartbeats 2000000 in
theorem rLevel_step (F:Nat->Prop) (w:World) (sb:Nat) (h:RH) (s:RS) (m:RMem F w sb h s) (g:RGood s) (d:Int) (pos:Bool) (f:Nat->Int) (hd:pos=decide (0 < d)) (hd0:0<=d) (hd1:d<=16)
  (ih:pos=true->LevelAt w sb s (d - 1) f) (t:Nat) (ht:t < s.T.length) :
  Calls Tryz.prog 147 #[.pointer (some ⟨sb,0,none⟩),.int .i64 t,.int .i64 d] w fun e w'=>e=.returned (.int .i64 (R.outerTo s f pos t s.owner.length))/\w'=w:=by
 have c3:=m.blk.cell 3
 have c8:=m.blk.cell 8
 have c9:=m.blk.cell 9
 simp [rsCells] at c3 c8 c9
 have a0:=m.tcell ht 0 (by decide)
 simp [rtCells] at a0
 obtain ⟨ao,oc,hvo,hown⟩:=m.owner
 rw [hvo] at c9
 have hfew:=g.few
 have hol:s.owner.length<=8:=by have:=g.own; have:=g.mfew; omega
 have hml:=hid g.own
 have M:=hid m
 have HO:=hid hown
 have IH:=hid ih
 have HD:=hid hd
 have ebase:R.outerTo s f pos t 0=s.T[t].base:=by simp [R.outerTo,R.th,List.getD,ht]
 have EB:=hid ebase
 clear m g hown ih hd hvo ebase
 go_enter Tryz.func147,Tryz.ntmps147
 go_wp2
 go_loopw [7,8] (fun v i wr=>∃ k:Nat,k<=s.owner.length/\i=.int .i64 k/\v=.int .i64 (R.outerTo s f pos t k)/\wr=w) (fun _ i _=>s.owner.length - (intOf i).toNat)
 case atStart=>exact ⟨0,Nat.zero_le _,rfl,by rw [EB.out],rfl⟩
 case round =>
  obtain ⟨k,hk,rfl,rfl,rfl⟩:=hrel
  by_cases hlt:k < s.owner.length
  ·obtain ⟨og,rfl,ok⟩:=HO.out k hlt
   have hmk:k < s.set.mutexes.length:=by have:=hml.out; omega
   obtain ⟨b,o,ha,_,x0,x1⟩:=M.out.set.mutexes k hmk
   rw [ha] at c3
   clear ha
   have em:s.set.mutexes.getD k R.pair0=s.set.mutexes[k]:=by simp [List.getD,hmk]
   have estep:R.outerTo s f pos t (k + 1)=if s.owner.getD k 0 ≠ (t:Int) then R.outerTo s f pos t k
     else if s.set.mutexes[k].x=1 then R.maxI (R.outerTo s f pos t k) s.set.mutexes[k].y
     else if pos=true then R.innerTo s.T f k (R.outerTo s f pos t k) s.T.length else R.outerTo s f pos t k:=by
    rw [<- em]; rfl
   have ES:=hid estep
   clear em estep
   generalize s.owner.getD k 0=ok0 at *
   generalize s.set.mutexes[k]=mk at *
   generalize R.outerTo s f pos t k=v at *
   cases hq:(ok0 != (t:Int))
   ·have HQ:=hid hq
    cases hkind:(mk.x == 1)
    ·have HK:=hid hkind
     by_cases hp:pos=true
     rotate_left
     ·have HP:=hid hp
      have hd2:d<=0:=by
       have h1:=HD.out
       have h2:¬ decide (0 < d)=true:=by rw [<- h1]; exact hp
       simpa using h2
      have fin:v=R.outerTo s f pos t (k + 1):=by
       have e1:¬ ok0 ≠ (t:Int):=by simpa using HQ.out
       have e2:¬ mk.x=1:=by simpa using HK.out
       rw [ES.out,if_neg e1,if_neg e2,if_neg HP.out]
      have FIN:=hid fin
      clear fin hp
      go_wp2
      go_loopw [7,9] (fun v' i wx=>v'=.int .i64 v/\i=.int .i64 0/\wx=wr) (fun _ _ _=>0)
      case atStart=>exact ⟨rfl,rfl,rfl⟩
      case round =>
       obtain ⟨rfl,rfl,rfl⟩:=hrel
       go_wp2
       go_roundw
       case rel=>exact ⟨k + 1,by omega,by go_num,by rw [<- FIN.out],(by first | rfl | trivial)⟩
       case measure=>simp [intOf]; omega
     ·have HP:=hid hp
      have hd2:0 < d:=by
       have h1:=HD.out
       rw [hp] at h1
       simpa using h1.symm
      have fin:R.innerTo s.T f k v s.T.length=R.outerTo s f pos t (k + 1):=by
       have e1:¬ ok0 ≠ (t:Int):=by simpa using HQ.out
       have e2:¬ mk.x=1:=by simpa using HK.out
       rw [ES.out,if_neg e1,if_neg e2,if_pos HP.out]
      have FIN:=hid fin
      have IH2:=hid (IH.out hp)
      clear fin hp
      go_wp2
      go_loopw [7,9] (fun v' i wx=>∃ u:Nat,u<=s.T.length/\i=.int .i64 u/\v'=.int .i64 (R.innerTo s.T f k v u)/\wx=wr) (fun _ i _=>s.T.length - (intOf i).toNat)
      case atStart=>exact ⟨0,Nat.zero_le _,rfl,rfl,rfl⟩
      case round =>
       obtain ⟨u,hu,rfl,rfl,rfl⟩:=hrel
       by_cases hul:u < s.T.length
       ·have a9:=M.out.tcell hul 9 (by decide)
        have a10:=M.out.tcell hul 10 (by decide)
        simp [rtCells] at a9 a10
        have estep:R.innerTo s.T f k v (u + 1)=if s.T[u].for_=1/\s.T[u].of_=(k:Int) then R.maxI (R.innerTo s.T f k v u) (f u) else R.innerTo s.T f k v u:=by
         have:R.th s.T u=s.T[u]:=by simp [R.th,List.getD,hul]
         rw [<- this]; rfl
        have EI:=hid estep
        clear estep
        generalize s.T[u].for_=fu at *
        generalize s.T[u].of_=ou at *
        generalize R.innerTo s.T f k v u=vu at *
        by_cases hw:fu=1/\ou=(k:Int)
        ·have HW:=hid hw
         obtain ⟨h1,h2⟩:=hw
         have h1':(fu == 1)=true:=by simp [h1]
         have h2':(ou == (k:Int))=true:=by simp [h2]
         clear h1 h2
         go_wp2_with fail
         refine (IH2.out u hul).mono ?_
         rintro e w1 ⟨rfl,rfl⟩
         generalize f u=fuu at *
         by_cases hgt:vu < fuu
         ·go_wp2
          go_roundw
          case rel=>exact ⟨u + 1,by omega,by go_num,by rw [EI.out,if_pos HW.out]; simp [R.maxI,hgt],(by first | rfl | trivial)⟩
          case measure=>simp [intOf]; omega
         ·go_wp2
          go_roundw
          case rel=>exact ⟨u + 1,by omega,by go_num,by rw [EI.out,if_pos HW.out]; have e3:¬ vu < fuu:=(by omega); simp [R.maxI,e3],(by first | rfl | trivial)⟩
          case measure=>simp [intOf]; omega
        ·have HW:=hid hw
         by_cases h1:fu=1
         ·have h1':(fu == 1)=true:=by simp [h1]
          have h2':(ou == (k:Int))=false:=by simp; exact fun e=>hw ⟨h1,e⟩
          clear hw h1
          go_wp2
          go_roundw
          case rel=>exact ⟨u + 1,by omega,by go_num,by rw [EI.out,if_neg HW.out],(by first | rfl | trivial)⟩
          case measure=>simp [intOf]; omega
         ·have h1':(fu == 1)=false:=by simp [h1]
          clear hw h1
          go_wp2
          go_roundw
          case rel=>exact ⟨u + 1,by omega,by go_num,by rw [EI.out,if_neg HW.out],(by first | rfl | trivial)⟩
          case measure=>simp [intOf]; omega
       ·go_wp2
        go_roundw
        case rel =>
         have e:u=s.T.length:=by omega
         subst e
         exact ⟨k + 1,by omega,by go_num,by rw [<- FIN.out],(by first | rfl | trivial)⟩
        case measure=>simp [intOf]; omega
    ·have HK:=hid hkind
     by_cases hgt:v < mk.y
     ·go_wp2
      go_roundw
      case rel =>
       refine ⟨k + 1,by omega,by go_num,?_,(by first | rfl | trivial)⟩
       have e1:¬ ok0 ≠ (t:Int):=by simpa using HQ.out
       have e2:mk.x=1:=by simpa using HK.out
       rw [ES.out,if_neg e1,if_pos e2]
       simp [R.maxI,hgt]
      case measure=>simp [intOf]; omega
     ·go_wp2
      go_roundw
      case rel =>
       refine ⟨k + 1,by omega,by go_num,?_,(by first | rfl | trivial)⟩
       have e1:¬ ok0 ≠ (t:Int):=by simpa using HQ.out
       have e2:mk.x=1:=by simpa using HK.out
       have e3:¬ v < mk.y:=by omega
       rw [ES.out,if_neg e1,if_pos e2]
       simp [R.maxI,e3]
      case measure=>simp [intOf]; omega
   ·have HQ:=hid hq
    go_wp2
    go_roundw
    case rel =>
     refine ⟨k + 1,by omega,by go_num,?_,(by first | rfl | trivial)⟩
     rw [ES.out,if_pos (by simpa using HQ.out)]
    case measure=>simp [intOf]; omega
  ·go_wp2
   go_ret
   have e:k=s.owner.length:=by omega
   subst e
   exact ⟨rfl,rfl⟩
end Go.Proofs.YtbkfildnijjioaaGreat

namespace Go.Proofs.YtbkfildnijjioaaGreat
open Go.RowKit
theorem rLevel_any (F:Nat->Prop) (w:World) (sb:Nat) (h:RH) (s:RS) (m:RMem F w sb h s) (g:RGood s):∀ d:Nat,d<=16->LevelAt w sb s (d:Int) (R.level s d):=by
 intro d
 induction d with
 | zero =>
  intro _ t ht
  exact rLevel_step F w sb h s m g 0 false (fun _=>0) (by decide) (by decide) (by decide) (fun hh=>absurd hh (by decide)) t ht
 | succ d ih =>
  intro hd t ht
  have e:(((d + 1:Nat):Int) - 1)=(d:Int):=by omega
  exact rLevel_step F w sb h s m g ((d + 1:Nat):Int) true (R.level s d) (by simp) (by omega) (by omega) (fun _=>by rw [e]; exact ih (by omega)) t ht
set_option maxHeartbeats 400000 in
theorem rLevelOf_any (F:Nat->Prop) (w:World) (sb:Nat) (h:RH) (s:RS) (m:RMem F w sb h s) (g:RGood s) (t:Nat) (ht:t < s.T.length) :
  Calls Tryz.prog 127 #[.pointer (some ⟨sb,0,none⟩),.int .i64 t] w fun e w'=>e=.returned (.int .i64 (R.Level s t))/\w'=w:=by
 have c8:=m.blk.cell 8
 simp [rsCells] at c8
 have hfew:=g.few
 have L:=hid (rLevel_any F w sb h s m g s.T.length hfew)
 clear m g
 go_enter Tryz.func127,Tryz.ntmps127
 go_wp2_with fail
 refine (L.out t ht).mono ?_
 rintro e w1 ⟨rfl,rfl⟩
 go_wp2
 go_ret
 exact ⟨rfl,rfl⟩
set_option maxHeartbeats 400000 in
theorem rLevels_any (F:Nat->Prop) (w:World) (sb:Nat) (h:RH) (s:RS) (m:RMem F w sb h s) (g:RGood s) :
  Calls Tryz.prog 111 #[.pointer (some ⟨sb,0,none⟩)] w fun e w'=>∃ v,e=.returned v/\w'.ownsRow w.heap.size 3 1 v s.T.length (intCells (R.levels s))/\Below w.heap.size w w':=by
 have hfew:=g.few
 have M:=hid m
 have G:=hid g
 clear m g
 obtain ⟨i3,hi3,hz30,hz31,hz32⟩:=info_parts Tryz.infoInt
 have HI3:Hid (Tryz.prog.info? 3=some i3/\i3.zero=some (.int .i64 0)/\i3.size=1/\i3.bytes=8):=⟨hi3,hz30,hz31,hz32⟩
 clear hi3 hz30 hz31 hz32
 go_enter Tryz.func111,Tryz.ntmps111
 go_wp2
 go_loopw [3,4] (fun v i wr=>∃ k:Nat,k<=s.T.length/\i=.int .i64 k/\wr.ownsRow w.heap.size 3 1 v k (intCells ((List.range k).map (R.Level s)))/\Below w.heap.size w wr) (fun _ i _=>s.T.length - (intOf i).toNat)
 case atStart=>exact ⟨0,Nat.zero_le _,rfl,World.ownsRow_nil _ _ _ _,Below.refl _ _⟩
 case round =>
  obtain ⟨k,hk,rfl,hown,hb⟩:=hrel
  have hm:=M.out.below hb
  have Mk:=hid hm
  have c8:=hm.blk.cell 8
  simp [rsCells] at c8
  have OW:=hid hown
  have hsz:=hb.size
  clear hm hown
  by_cases hlt:k < s.T.length
  ·go_wp2_with (first
    | (go_at_call 127; refine (rLevelOf_any F _ sb h s Mk.out G.out k hlt).mono ?_; rintro e w1 ⟨rfl,hw1⟩; have hw2:=hw1.symm; subst hw2; clear hw1)
    | (at_builtin; refine wpList_append_src rfl (.tmp 18) (.tmp 20) 25 rfl w.heap.size 3 i3 (.int .i64 0) 1 8 Tryz.underlying25 HI3.out.1 HI3.out.2.1 HI3.out.2.2.1 HI3.out.2.2.2 rfl (by decide) u3 k (intCells ((List.range k).map (R.Level s))) rfl (OW.out.alloc _) (some ⟨wr.heap.size,0,none⟩) 1 1 [.int .i64 (R.Level s k)] rfl rfl (fun h=>(by cases h)) (fun j u hj=>⟨_,rfl,(by rw [Addr.add_lit,Nat.zero_add,(Blk.new wr #[.int .i64 (R.Level s k)] 3).cell]; simpa using hj)⟩) (by intro u hu; simp at hu; subst hu; rfl) (by unfold maxLen; omega) (by omega) (by simp; omega) ?_; intro v' w2 hown2 hg2; have O2:=hid hown2; have G2:=hid hg2; clear hown2 hg2))
   go_roundw
   case rel=>exact ⟨k + 1,by omega,by go_num,by rw [levels_succ,intCells_append]; exact O2.out,(hb.alloc hsz _).grown G2.out (by simp; omega) (fun g hg=>(ownsRow_block OW.out hg).1)⟩
   case measure=>simp [intOf]; omega
  ·go_wp2
   go_ret
   have e:k=s.T.length:=by omega
   subst e
   exact ⟨_,rfl,OW.out,hb⟩
end Go.Proofs.YtbkfildnijjioaaGreat

namespace Go.Proofs.YtbkfildnijjioaaGreat
open Go.RowKit
set_option maxRecDepth 100000 in
set_option maxHeartbeats 4000000 in
theorem rFirst_any (F:Nat->Prop) (w:World) (sb:Nat) (h:RH) (s:RS) (m:RMem F w sb h s) (g:RGood s) (what of_:Int) (lv:Option Addr) (lc:Nat) (l:List Int) (hl:IntsIn w.heap.size w lv l) (hll:l.length<=100) :
  Calls Tryz.prog 125 #[.pointer (some ⟨sb,0,none⟩),.int .i64 what,.int .i64 of_,.slice lv l.length lc] w fun e w'=>e=.returned (.int .i64 (R.first s what of_ l))/\∃ n,w'=w.drewN n:=by
 have c8:=m.blk.cell 8
 simp [rsCells] at c8
 have hfew:=g.few
 have M:=hid m
 have G:=hid g
 have HLS:=hid hl
 clear m g hl
 go_enter Tryz.func125,Tryz.ntmps125
 go_wp2
 go_loopw [9,10] (fun b i wr=>∃ k:Nat,k<=s.T.length/\i=.int .i64 k/\b=.int .i64 (R.firstTo s what of_ l k)/\∃ n,wr=w.drewN n) (fun _ i _=>s.T.length - (intOf i).toNat)
 case atStart=>exact ⟨0,Nat.zero_le _,rfl,rfl,0,rfl⟩
 case round =>
  obtain ⟨k,hk,rfl,rfl,n,rfl⟩:=hrel
  obtain ⟨hb0,hb1⟩:=R.firstTo_bd s what of_ l k
  by_cases hlt:k < s.T.length
  ·have a9:=M.out.tcell hlt 9 (by decide)
   have a10:=M.out.tcell hlt 10 (by decide)
   have a12:=M.out.tcell hlt 12 (by decide)
   simp [rtCells] at a9 a10 a12
   have eth:R.th s.T k=s.T[k]:=by simp [R.th,List.getD,hlt]
   have estep:R.firstTo s what of_ l (k + 1)=if (R.th s.T k).for_ ≠ what\/(R.th s.T k).of_ ≠ of_ then R.firstTo s what of_ l k
     else if R.namedTo l (k:Int) l.length=true then R.firstTo s what of_ l k
     else if R.firstTo s what of_ l k < 0 then (k:Int)
     else if R.goesFirst s k (R.firstTo s what of_ l k).toNat=true then (k:Int) else R.firstTo s what of_ l k:=rfl
   rw [eth] at estep
   have hlb:0<=R.firstTo s what of_ l k->∃ (hj:(R.firstTo s what of_ l k).toNat < s.T.length),R.th s.T (R.firstTo s what of_ l k).toNat=s.T[(R.firstTo s what of_ l k).toNat]:=by
    intro hp
    have hj:(R.firstTo s what of_ l k).toNat < s.T.length:=by omega
    exact ⟨hj,by simp [R.th,List.getD,hj]⟩
   have HLB:=hid hlb
   have ES:=hid estep
   have ETH:=hid eth
   clear estep eth hlb
   have hgf:∀ b:Nat,R.goesFirst s k b=(decide (R.Level s b < R.Level s k) || (decide (R.Level s k=R.Level s b) && decide (s.T[k].since < (R.th s.T b).since))):=by
    intro b
    unfold R.goesFirst
    rw [ETH.out]
   have HGF:=hid hgf
   clear hgf
   have MN:=hid (M.out.drewN n)
   generalize s.T[k]=x at *
   generalize R.firstTo s what of_ l k=b at *
   have hkI:(k:Int) < (s.T.length:Int):=by omega
   generalize hwn:w.drewN n=wn at *
   have HWN:=hid hwn
   have hcn8:wn.cell? ⟨sb,8,none⟩=some (Value.slice (some ⟨h.gT,0,none⟩) s.T.length h.cT):=by rw [<- hwn]; exact c8
   have hcn9:wn.cell? ⟨h.gT,k * 13 + 9,none⟩=some (.int .i64 x.for_):=by rw [<- hwn]; exact a9
   have hcn10:wn.cell? ⟨h.gT,k * 13 + 10,none⟩=some (.int .i64 x.of_):=by rw [<- hwn]; exact a10
   have hcn12:wn.cell? ⟨h.gT,k * 13 + 12,none⟩=some (.int .i64 x.since):=by rw [<- hwn]; exact a12
   have HLN:=hid (show IntsIn wn.heap.size wn lv l by rw [<- hwn]; exact HLS.out)
   clear hwn a9 a10 a12
   cases hf:(x.for_ != what)
   ·have HF:=hid hf
    cases ho:(x.of_ != of_)
    ·have HO:=hid ho
     have ES2:Hid (R.firstTo s what of_ l (k + 1)=if R.namedTo l (k:Int) l.length=true then b
       else if b < 0 then (k:Int)
       else if R.goesFirst s k b.toNat=true then (k:Int) else b):=by
      rw [ES.out,if_neg]
      exact hid rfl
      have h1:=HF.out
      have h2:=HO.out
      simp at h1 h2
      simp [h1,h2]
     go_wp2_with fail
     go_loop [11,12] (fun b i=>∃ j:Nat,j<=l.length/\i=.int .i64 j/\b=.bool (R.namedTo l (k:Int) j)) (fun _ i=>l.length - (intOf i).toNat)
     case atStart=>exact ⟨0,Nat.zero_le _,rfl,rfl⟩
     case round =>
      obtain ⟨j,hj,rfl,rfl⟩:=hrel
      have ej:R.namedTo l (k:Int) (j + 1)=(R.namedTo l (k:Int) j || (l.getD j 0 == (k:Int))):=rfl
      have EJ:=hid ej
      clear ej
      by_cases hjl:j < l.length
      ·obtain ⟨lg,lo,hla,_,hlc⟩:=HLN.out j hjl
       subst hla
       have hgj:l.getD j 0=l[j]:=by simp [List.getD,hjl]
       rw [hgj] at EJ
       clear hgj
       generalize l[j]=y at *
       have hjI:(j:Int) < (l.length:Int):=by omega
       cases hnm:R.namedTo l (k:Int) j
       ·rw [hnm] at EJ
        cases hy:(y == (k:Int))
        ·rw [hy] at EJ
         go_wp2
         go_round
         case rel=>exact ⟨j + 1,by omega,by go_num,by rw [EJ.out]; rfl⟩
         case measure=>simp [intOf]; omega
        ·rw [hy] at EJ
         go_wp2
         go_round
         case rel=>exact ⟨j + 1,by omega,by go_num,by rw [EJ.out]; rfl⟩
         case measure=>simp [intOf]; omega
       ·rw [hnm] at EJ
        go_wp2
        go_round
        case rel=>exact ⟨j + 1,by omega,by go_num,by rw [EJ.out]; rfl⟩
        case measure=>simp [intOf]; omega
      ·have e:j=l.length:=by omega
       subst e
       cases hnm:R.namedTo l (k:Int) l.length
       ·have HNM:=hid hnm
        by_cases hbn:b < 0
        ·go_wp2
         go_roundw
         case rel=>exact ⟨k + 1,by omega,by go_num,by rw [ES2.out,HNM.out]; simp [hbn],_,HWN.out.symm⟩
         case measure=>simp [intOf]; omega
        ·obtain ⟨hjb,hthb⟩:=HLB.out (by omega)
         have hgfb:=HGF.out b.toNat
         rw [hthb] at hgfb
         have hcb12:=MN.out.tcell hjb 12 (by decide)
         simp [rtCells] at hcb12
         have ES3:Hid (R.firstTo s what of_ l (k + 1)=if R.goesFirst s k b.toNat=true then (k:Int) else b):=by
          rw [ES2.out,HNM.out,if_neg (by decide),if_neg hbn]
          exact hid rfl
         have HB:Hid (b=(b.toNat:Int)):=hid (by omega)
         have hbt:b.toNat < s.T.length:=hjb
         generalize hbb:b.toNat=bt at *
         clear hbb
         have hbe:=HB.out
         subst hbe
         generalize s.T[bt].since=sb12 at *
         have LV:=hid (fun t ht=>rLevelOf_any F wn sb h s MN.out G.out t ht)
         have HGB:=hid hgfb
         clear hgfb hthb
         have hbI:(bt:Int) < (s.T.length:Int):=by omega
         have hbd:decide ((bt:Int) < 0)=false:=by simp
         go_wp2_with fail
         refine (LV.out k hlt).mono ?_
         rintro e w1 ⟨rfl,hw1⟩
         have hw2:=hw1.symm
         subst hw2
         clear hw1
         go_wp2_with fail
         refine (LV.out bt hbt).mono ?_
         rintro e w1 ⟨rfl,hw1⟩
         have hw2:=hw1.symm
         subst hw2
         clear hw1
         generalize R.Level s k=lk at *
         generalize R.Level s bt=lt at *
         rcases Int.lt_trichotomy lt lk with h1 | h1 | h1
         ·go_wp2_with fail
          go_quiet (fail)
          go_wp2
          go_roundw
          case rel=>exact ⟨k + 1,by omega,by go_num,by rw [ES3.out,HGB.out]; simp [h1],_,by rw [<- HWN.out,World.drewN_drewN]⟩
          case measure=>simp [intOf]; omega
         ·subst h1
          have d1:decide (lt < lt)=false:=by simp
          have d2:(lt == lt)=true:=by simp
          by_cases h2:x.since < sb12
          ·go_wp2_with fail
           go_quiet (fail)
           go_wp2
           go_roundw
           case rel=>exact ⟨k + 1,by omega,by go_num,by rw [ES3.out,HGB.out]; simp [h2],_,by rw [<- HWN.out,World.drewN_drewN]⟩
           case measure=>simp [intOf]; omega
          ·go_wp2_with fail
           go_quiet (fail)
           go_wp2
           go_roundw
           case rel=>exact ⟨k + 1,by omega,by go_num,by rw [ES3.out,HGB.out]; have n2:¬ x.since < sb12:=(by omega); simp [n2],_,by rw [<- HWN.out,World.drewN_drewN]⟩
           case measure=>simp [intOf]; omega
         ·have d1:decide (lt < lk)=false:=by simp; omega
          have d2:(lk == lt)=false:=by simp; omega
          go_wp2_with fail
          go_quiet (fail)
          go_wp2
          go_roundw
          case rel=>exact ⟨k + 1,by omega,by go_num,by rw [ES3.out,HGB.out]; have n1:¬ lt < lk:=(by omega); have n2:¬ lk=lt:=(by omega); simp [n1,n2],_,by rw [<- HWN.out,World.drewN_drewN]⟩
          case measure=>simp [intOf]; omega
       ·have HNM:=hid hnm
        go_wp2
        go_roundw
        case rel=>exact ⟨k + 1,by omega,by go_num,by rw [ES2.out,HNM.out]; rfl,_,HWN.out.symm⟩
        case measure=>simp [intOf]; omega
    ·have HO:=hid ho
     go_wp2_with fail
     go_roundw
     case rel=>exact ⟨k + 1,by omega,by go_num,by rw [ES.out,if_pos (.inr (by simpa using HO.out))],_,HWN.out.symm⟩
     case measure=>simp [intOf]; omega
   ·have HF:=hid hf
    go_wp2_with fail
    go_roundw
    case rel=>exact ⟨k + 1,by omega,by go_num,by rw [ES.out,if_pos (.inl (by simpa using HF.out))],_,HWN.out.symm⟩
    case measure=>simp [intOf]; omega
  ·go_wp2
   go_ret
   have e:k=s.T.length:=by omega
   subst e
   exact ⟨rfl,_,rfl⟩
end Go.Proofs.YtbkfildnijjioaaGreat

namespace Go.Proofs.YtbkfildnijjioaaGreat
open Go.RowKit
end Go.Proofs.YtbkfildnijjioaaGreat

namespace Go.Proofs.YtbkfildnijjioaaGreat
open Go.RowKit
set_option maxHeartbeats 1000000 in
theorem rEnd_any (F:Nat->Prop) (w:World) (sb:Nat) (h:RH) (s:RS) (m:RMem F w sb h s) (t:Nat) (ht:t < s.T.length) (hfew:s.T.length<=16) (c:Int) (h0:0<=s.next) (h1:s.next<=4611686018427387904) :
  Calls Tryz.prog 72 #[.pointer (some ⟨sb,0,none⟩),.int .i64 t,.int .i64 c] w fun e w'=>e=.returned (.tuple #[])/\RMem F w' sb h (R.endW s t c)/\Only [sb,h.gT] w w':=by
 obtain ⟨w0,hw0⟩:∃ w0,w0=w:=⟨w,rfl⟩
 have M0:Hid (RMem F w0 sb h s):=by rw [hw0]; exact m
 have O0:Hid (Only [sb,h.gT] w w0):=by rw [hw0]; exact Only.refl _ _
 rw [show Calls Tryz.prog 72 #[.pointer (some ⟨sb,0,none⟩),.int .i64 t,.int .i64 c] w=Calls Tryz.prog 72 #[.pointer (some ⟨sb,0,none⟩),.int .i64 t,.int .i64 c] w0 from by rw [hw0]]
 clear m hw0
 have c8:=M0.out.blk.cell 8
 simp [rsCells] at c8
 have ac:=M0.out.tcell (i:=t) (by simpa using ht) 9 (by decide)
 simp [rtCells] at ac
 have fc:=M0.out.tfrozen (t * 13 + 9)
 go_enter Tryz.func72,Tryz.ntmps72
 go_upto_region 1 with fail
 have hm1:=M0.out.setT (i:=t) (j:=9) (by simpa using ht) (by decide) (.int .i64 0) (fun x=>{ x with for_:=0 }) rfl
 have ho1:Only [sb,h.gT] w (w0.setCell ⟨h.gT,t * 13 + 9,none⟩ (.int .i64 0)):=O0.out.setCell (.inl (by simp)) _
 clear c8 ac fc M0 O0
 generalize w0.setCell ⟨h.gT,t * 13 + 9,none⟩ (.int .i64 0)=w1 at hm1 ho1 ⊢
 have M1:=hid hm1
 have O1:=hid ho1
 clear hm1 ho1
 have c8:=M1.out.blk.cell 8
 simp [rsCells] at c8
 have ac:=M1.out.tcell (i:=t) (by simpa using ht) 10 (by decide)
 simp [rtCells] at ac
 have fc:=M1.out.tfrozen (t * 13 + 10)
 go_upto_region 2 with fail
 have hm2:=M1.out.setT (i:=t) (j:=10) (by simpa using ht) (by decide) (.int .i64 0) (fun x=>{ x with of_:=0 }) rfl
 have ho2:Only [sb,h.gT] w (w1.setCell ⟨h.gT,t * 13 + 10,none⟩ (.int .i64 0)):=O1.out.setCell (.inl (by simp)) _
 clear c8 ac fc M1 O1
 generalize w1.setCell ⟨h.gT,t * 13 + 10,none⟩ (.int .i64 0)=w2 at hm2 ho2 ⊢
 have M2:=hid hm2
 have O2:=hid ho2
 clear hm2 ho2
 have c8:=M2.out.blk.cell 8
 simp [rsCells] at c8
 have ac:=M2.out.tcell (i:=t) (by simpa using ht) 11 (by decide)
 simp [rtCells] at ac
 have fc:=M2.out.tfrozen (t * 13 + 11)
 go_upto_region 3 with fail
 have hm3:=M2.out.setT (i:=t) (j:=11) (by simpa using ht) (by decide) (.int .i64 0) (fun x=>{ x with until_:=0 }) rfl
 have ho3:Only [sb,h.gT] w (w2.setCell ⟨h.gT,t * 13 + 11,none⟩ (.int .i64 0)):=O2.out.setCell (.inl (by simp)) _
 clear c8 ac fc M2 O2
 generalize w2.setCell ⟨h.gT,t * 13 + 11,none⟩ (.int .i64 0)=w3 at hm3 ho3 ⊢
 have M3:=hid hm3
 have O3:=hid ho3
 clear hm3 ho3
 have c8:=M3.out.blk.cell 8
 simp [rsCells] at c8
 have ac:=M3.out.tcell (i:=t) (by simpa using ht) 2 (by decide)
 simp [rtCells] at ac
 have fc:=M3.out.tfrozen (t * 13 + 2)
 go_upto_region 4 with fail
 have hm4:=M3.out.setT (i:=t) (j:=2) (by simpa using ht) (by decide) (.int .i64 c) (fun x=>{ x with last:=c }) rfl
 have ho4:Only [sb,h.gT] w (w3.setCell ⟨h.gT,t * 13 + 2,none⟩ (.int .i64 c)):=O3.out.setCell (.inl (by simp)) _
 clear c8 ac fc M3 O3
 generalize w3.setCell ⟨h.gT,t * 13 + 2,none⟩ (.int .i64 c)=w4 at hm4 ho4 ⊢
 have M4:=hid hm4
 have O4:=hid ho4
 clear hm4 ho4
 go_wp2_with fail
 refine (rWake_any F w4 sb h _ M4.out t (by simpa using ht) (by simpa using hfew) h0 h1).mono ?_
 rintro e w5 ⟨rfl,hm5,ho5⟩
 have M5:=hid hm5
 have O5:=hid (O4.out.trans ho5)
 clear hm5 ho5
 go_wp2
 go_end0
 refine ⟨rfl,?_,O5.out⟩
 have e:R.endW s t c=R.wake { s with T:=(((s.T.modify t (fun x=>{ x with for_:=0 })).modify t (fun x=>{ x with of_:=0 })).modify t (fun x=>{ x with until_:=0 })).modify t (fun x=>{ x with last:=c }) } t:=by
  unfold R.endW
  simp only [List.modify_modify_eq]
  rfl
 rw [e]
 exact M5.out
set_option maxHeartbeats 2000000 in
theorem rBegin_any (F:Nat->Prop) (w:World) (sb:Nat) (h:RH) (s:RS) (m:RMem F w sb h s) (t:Nat) (ht:t < s.T.length) (_hfew:s.T.length<=16) (what of_ n:Int) (hn1:n<=1000) (g0:0<=s.now) (g1:s.now<=1000000000) (h0:0<=s.next) (h1:s.next<=4611686018427387904) :
  Calls Tryz.prog 116 #[.pointer (some ⟨sb,0,none⟩),.int .i64 t,.int .i64 what,.int .i64 of_,.int .i64 n] w fun e w'=>e=.returned (.int .i64 1)/\RMem F w' sb h (R.beginW s t what of_ n)/\Only [sb,h.gT] w w':=by
 obtain ⟨w0,hw0⟩:∃ w0,w0=w:=⟨w,rfl⟩
 have M0:Hid (RMem F w0 sb h s):=by rw [hw0]; exact m
 have O0:Hid (Only [sb,h.gT] w w0):=by rw [hw0]; exact Only.refl _ _
 rw [show Calls Tryz.prog 116 #[.pointer (some ⟨sb,0,none⟩),.int .i64 t,.int .i64 what,.int .i64 of_,.int .i64 n] w=Calls Tryz.prog 116 #[.pointer (some ⟨sb,0,none⟩),.int .i64 t,.int .i64 what,.int .i64 of_,.int .i64 n] w0 from by rw [hw0]]
 clear m hw0
 have c8:=M0.out.blk.cell 8
 simp [rsCells] at c8
 have ac:=M0.out.tcell (i:=t) (by simpa using ht) 6 (by decide)
 simp [rtCells] at ac
 have fc:=M0.out.tfrozen (t * 13 + 6)
 go_enter Tryz.func116,Tryz.ntmps116
 go_upto_region 2 with fail
 have hm1:=M0.out.setT (i:=t) (j:=6) (by simpa using ht) (by decide) (.bool false) (fun x=>{ x with awake:=false }) rfl
 have ho1:Only [sb,h.gT] w (w0.setCell ⟨h.gT,t * 13 + 6,none⟩ (.bool false)):=O0.out.setCell (.inl (by simp)) _
 clear c8 ac fc M0 O0
 generalize w0.setCell ⟨h.gT,t * 13 + 6,none⟩ (.bool false)=w1 at hm1 ho1 ⊢
 have M1:=hid hm1
 have O1:=hid ho1
 clear hm1 ho1
 have c8:=M1.out.blk.cell 8
 simp [rsCells] at c8
 have ac:=M1.out.tcell (i:=t) (by simpa using ht) 8 (by decide)
 simp [rtCells] at ac
 have fc:=M1.out.tfrozen (t * 13 + 8)
 go_upto_region 3 with fail
 have hm2:=M1.out.setT (i:=t) (j:=8) (by simpa using ht) (by decide) (.int .i64 (-1)) (fun x=>{ x with wkr:=-1 }) rfl
 have ho2:Only [sb,h.gT] w (w1.setCell ⟨h.gT,t * 13 + 8,none⟩ (.int .i64 (-1))):=O1.out.setCell (.inl (by simp)) _
 clear c8 ac fc M1 O1
 generalize w1.setCell ⟨h.gT,t * 13 + 8,none⟩ (.int .i64 (-1))=w2 at hm2 ho2 ⊢
 have M2:=hid hm2
 have O2:=hid ho2
 clear hm2 ho2
 have c8:=M2.out.blk.cell 8
 simp [rsCells] at c8
 have ac:=M2.out.tcell (i:=t) (by simpa using ht) 9 (by decide)
 simp [rtCells] at ac
 have fc:=M2.out.tfrozen (t * 13 + 9)
 go_upto_region 4 with fail
 have hm3:=M2.out.setT (i:=t) (j:=9) (by simpa using ht) (by decide) (.int .i64 what) (fun x=>{ x with for_:=what }) rfl
 have ho3:Only [sb,h.gT] w (w2.setCell ⟨h.gT,t * 13 + 9,none⟩ (.int .i64 what)):=O2.out.setCell (.inl (by simp)) _
 clear c8 ac fc M2 O2
 generalize w2.setCell ⟨h.gT,t * 13 + 9,none⟩ (.int .i64 what)=w3 at hm3 ho3 ⊢
 have M3:=hid hm3
 have O3:=hid ho3
 clear hm3 ho3
 have c8:=M3.out.blk.cell 8
 simp [rsCells] at c8
 have ac:=M3.out.tcell (i:=t) (by simpa using ht) 10 (by decide)
 simp [rtCells] at ac
 have fc:=M3.out.tfrozen (t * 13 + 10)
 go_upto_region 5 with fail
 have hm4:=M3.out.setT (i:=t) (j:=10) (by simpa using ht) (by decide) (.int .i64 of_) (fun x=>{ x with of_:=of_ }) rfl
 have ho4:Only [sb,h.gT] w (w3.setCell ⟨h.gT,t * 13 + 10,none⟩ (.int .i64 of_)):=O3.out.setCell (.inl (by simp)) _
 clear c8 ac fc M3 O3
 generalize w3.setCell ⟨h.gT,t * 13 + 10,none⟩ (.int .i64 of_)=w4 at hm4 ho4 ⊢
 have M4:=hid hm4
 have O4:=hid ho4
 clear hm4 ho4
 have c8:=M4.out.blk.cell 8
 simp [rsCells] at c8
 have ac:=M4.out.tcell (i:=t) (by simpa using ht) 11 (by decide)
 simp [rtCells] at ac
 have fc:=M4.out.tfrozen (t * 13 + 11)
 go_upto_region 6 with fail
 have hm5:=M4.out.setT (i:=t) (j:=11) (by simpa using ht) (by decide) (.int .i64 (-1)) (fun x=>{ x with until_:=-1 }) rfl
 have ho5:Only [sb,h.gT] w (w4.setCell ⟨h.gT,t * 13 + 11,none⟩ (.int .i64 (-1))):=O4.out.setCell (.inl (by simp)) _
 clear c8 ac fc M4 O4
 generalize w4.setCell ⟨h.gT,t * 13 + 11,none⟩ (.int .i64 (-1))=w5 at hm5 ho5 ⊢
 have M5:=hid hm5
 have O5:=hid ho5
 clear hm5 ho5
 by_cases hn:0<=n
 ·have fin:R.beginW s t what of_ n={ s with next:=s.next + 1,T:=((((((s.T.modify t (fun x=>{ x with awake:=false })).modify t (fun x=>{ x with wkr:=-1 })).modify t (fun x=>{ x with for_:=what })).modify t (fun x=>{ x with of_:=of_ })).modify t (fun x=>{ x with until_:=-1 })).modify t (fun x=>{ x with until_:=s.now + n })).modify t (fun x=>{ x with since:=s.next + 1 }) }:=by
   unfold R.beginW
   simp only [List.modify_modify_eq,if_pos hn]
   rfl
  have FIN:=hid fin
  clear fin
  have c8:=M5.out.blk.cell 8
  simp [rsCells] at c8
  have ac:=M5.out.tcell (i:=t) (by simpa using ht) 11 (by decide)
  simp [rtCells] at ac
  have fc:=M5.out.tfrozen (t * 13 + 11)
  have c6:=M5.out.blk.cell 6
  simp [rsCells] at c6
  go_wp2_with fail
  go_region
  have hm6:=(M5.out.setT (i:=t) (j:=11) (by simpa using ht) (by decide) (.int .i64 (s.now + n)) (fun x=>{ x with until_:=s.now + n }) rfl).below (Below.refl _ _).drew
  have ho6:Only [sb,h.gT] w (w5.setCell ⟨h.gT,t * 13 + 11,none⟩ (.int .i64 (s.now + n))).drew:=(O5.out.setCell (.inl (by simp)) _).via (Below.refl _ _).drew
  clear c8 ac fc c6 M5 O5
  generalize (w5.setCell ⟨h.gT,t * 13 + 11,none⟩ (.int .i64 (s.now + n))).drew=w6 at hm6 ho6 ⊢
  have M6:=hid hm6
  have O6:=hid ho6
  clear hm6 ho6
  go_wp2_with fail
  refine (rDraw_any F w6 sb h _ M6.out h0 h1).mono ?_
  rintro e wX ⟨rfl,rfl⟩
  have hmX:=M6.out.setNext (s.next + 1)
  have hoX:Only [sb,h.gT] w (w6.setCell ⟨sb,7,none⟩ (.int .i64 (s.next + 1))):=O6.out.setCell (.inl (by simp)) _
  clear M6 O6
  generalize w6.setCell ⟨sb,7,none⟩ (.int .i64 (s.next + 1))=wX at hmX hoX ⊢
  have MX:=hid hmX
  have OX:=hid hoX
  clear hmX hoX
  have c8:=MX.out.blk.cell 8
  simp [rsCells] at c8
  have ac:=MX.out.tcell (i:=t) (by simpa using ht) 12 (by decide)
  simp [rtCells] at ac
  have fc:=MX.out.tfrozen (t * 13 + 12)
  go_wp2
  go_ret
  have hmY:=MX.out.setT (i:=t) (j:=12) (by simpa using ht) (by decide) (.int .i64 (s.next + 1)) (fun x=>{ x with since:=s.next + 1 }) rfl
  refine ⟨rfl,?_,OX.out.setCell (.inl (by simp)) _⟩
  rw [FIN.out]
  exact hmY
 ·have fin:R.beginW s t what of_ n={ s with next:=s.next + 1,T:=(((((s.T.modify t (fun x=>{ x with awake:=false })).modify t (fun x=>{ x with wkr:=-1 })).modify t (fun x=>{ x with for_:=what })).modify t (fun x=>{ x with of_:=of_ })).modify t (fun x=>{ x with until_:=-1 })).modify t (fun x=>{ x with since:=s.next + 1 }) }:=by
   unfold R.beginW
   simp only [List.modify_modify_eq,if_neg hn]
   rfl
  have FIN:=hid fin
  clear fin
  go_wp2_with fail
  refine (rDraw_any F w5 sb h _ M5.out h0 h1).mono ?_
  rintro e wX ⟨rfl,rfl⟩
  have hmX:=M5.out.setNext (s.next + 1)
  have hoX:Only [sb,h.gT] w (w5.setCell ⟨sb,7,none⟩ (.int .i64 (s.next + 1))):=O5.out.setCell (.inl (by simp)) _
  clear M5 O5
  generalize w5.setCell ⟨sb,7,none⟩ (.int .i64 (s.next + 1))=wX at hmX hoX ⊢
  have MX:=hid hmX
  have OX:=hid hoX
  clear hmX hoX
  have c8:=MX.out.blk.cell 8
  simp [rsCells] at c8
  have ac:=MX.out.tcell (i:=t) (by simpa using ht) 12 (by decide)
  simp [rtCells] at ac
  have fc:=MX.out.tfrozen (t * 13 + 12)
  go_wp2
  go_ret
  have hmY:=MX.out.setT (i:=t) (j:=12) (by simpa using ht) (by decide) (.int .i64 (s.next + 1)) (fun x=>{ x with since:=s.next + 1 }) rfl
  refine ⟨rfl,?_,OX.out.setCell (.inl (by simp)) _⟩
  rw [FIN.out]
  exact hmY
end Go.Proofs.YtbkfildnijjioaaGreat

namespace Go.Proofs.YtbkfildnijjioaaGreat
open Go.RowKit
section
variable {F:Nat->Prop} {w:World} {sb:Nat} {h:RH} {s:RS}
theorem RMem.ownAt (m:RMem F w sb h s) (hpos:0 < s.owner.length):∃ g cap,h.vO=.slice (some ⟨g,0,none⟩) s.owner.length cap/\(∀ i (hi:i < s.owner.length),w.cell? ⟨g,i,none⟩=some (.int .i64 s.owner[i]))/\(∀ j,w.frozen? ⟨g,j,none⟩=false):=rowAt m.oth.own hpos
theorem RMem.cntAt (m:RMem F w sb h s) (hpos:0 < s.count.length):∃ g cap,h.vC=.slice (some ⟨g,0,none⟩) s.count.length cap/\(∀ i (hi:i < s.count.length),w.cell? ⟨g,i,none⟩=some (.int .i64 s.count[i]))/\(∀ j,w.frozen? ⟨g,j,none⟩=false):=rowAt m.oth.cnt hpos
end
set_option maxHeartbeats 1000000 in
theorem rGive_any (F:Nat->Prop) (w:World) (sb:Nat) (h:RH) (s:RS) (m:RMem F w sb h s) (g:RGood s) (what of_:Int) (hnx:s.next<=4611686018427387000) :
  Calls Tryz.prog 138 #[.pointer (some ⟨sb,0,none⟩),.int .i64 what,.int .i64 of_] w fun e w'=>e=.returned (.int .i64 (R.giveT s what of_))/\RMem F w' sb h (R.giveS s what of_)/\Only [sb,h.gT] w w':=by
 have hfew:=g.few
 have hn0:=g.nxt0
 have M:=hid m
 have G:=hid g
 clear m g
 obtain ⟨hb0,hb1⟩:=R.firstTo_bd s what of_ [] s.T.length
 have hT:R.firstTo s what of_ [] s.T.length=R.giveT s what of_:=rfl
 have HT2:Hid (R.first s what of_ []=R.giveT s what of_):=rfl
 have HS:Hid (R.giveS s what of_=if 0<=R.giveT s what of_ then R.endW s (R.giveT s what of_).toNat 0 else s):=rfl
 rw [hT] at hb0 hb1
 clear hT
 generalize R.giveS s what of_=s' at *
 generalize R.giveT s what of_=t at *
 go_enter Tryz.func138,Tryz.ntmps138
 go_wp2_with fail
 refine (rFirst_any F w sb h s M.out G.out what of_ none 0 [] (fun i hi=>absurd hi (by simp)) (by simp)).mono ?_
 rintro e w1 ⟨rfl,n,rfl⟩
 have M1:=hid (M.out.drewN n)
 have O1:Hid (Only [sb,h.gT] w (w.drewN n)):=(Only.refl _ _).drewN n
 generalize w.drewN n=w1 at *
 rw [HT2.out]
 by_cases ht:0<=t
 ·obtain ⟨j,rfl⟩:=Int.eq_ofNat_of_zero_le ht
  have hj:j < s.T.length:=by omega
  have hd:decide ((0:Int)<=(j:Int))=true:=by simp
  go_wp2_with fail
  refine (rEnd_any F w1 sb h s M1.out j hj hfew 0 hn0 (by omega)).mono ?_
  rintro e w2 ⟨rfl,hm2,ho2⟩
  have M2:=hid hm2
  have O2:=hid (O1.out.trans ho2)
  clear hm2 ho2
  go_wp2
  go_ret
  refine ⟨rfl,?_,O2.out⟩
  rw [HS.out,if_pos ht]
  exact M2.out
 ·go_wp2
  go_ret
  refine ⟨rfl,?_,O1.out⟩
  rw [HS.out,if_neg (by omega)]
  exact M1.out
set_option maxRecDepth 100000 in
set_option maxHeartbeats 2000000 in
theorem rRound_any (F:Nat->Prop) (w:World) (sb:Nat) (h:RH) (s:RS) (m:RMem F w sb h s) (hfew:s.T.length<=16) (hown:∀ i (hi:i < s.owner.length),-1<=s.owner[i]/\s.owner[i] < s.T.length)
  (hof:∀ i (hi:i < s.T.length),s.T[i].for_=1->0<=s.T[i].of_/\s.T[i].of_ < s.owner.length) (t k:Nat) (hk:k < s.owner.length) (hol:s.owner.length<=8) :
  Calls Tryz.prog 139 #[.pointer (some ⟨sb,0,none⟩),.int .i64 t,.int .i64 k] w fun e w'=>e=.returned (.bool (R.round s t k))/\∃ n,w'=w.drewN n:=by
 obtain ⟨go,co,hvO,hco,hfo⟩:=m.ownAt (by omega)
 have c8:=m.blk.cell 8
 have c9:=m.blk.cell 9
 simp [rsCells] at c8 c9
 rw [hvO] at c9
 have ck:=hco k hk
 have HCO:=hid hco
 have HOW:=hid hown
 have HOF:=hid hof
 have M:=hid m
 have ER:Hid (R.round s t k=R.roundTo s t (s.T.length + 1) s.owner[k]):=by
  have:s.owner.getD k 0=s.owner[k]:=by simp [List.getD,hk]
  unfold R.round
  rw [this]
  exact hid rfl
 obtain ⟨o0,o1⟩:=hown k hk
 clear m hown hof hco hfo hvO
 generalize R.round s t k=res at *
 generalize s.owner[k]=ok at *
 have hkI:(k:Int) < (s.owner.length:Int):=by omega
 go_enter Tryz.func139,Tryz.ntmps139
 go_wp2
 go_loopw [7,8] (fun o i wr=>∃ (j:Nat) (x:Int),j<=s.T.length + 1/\i=.int .i64 j/\o=.int .i64 x/\-1<=x/\x < s.T.length/\res=R.roundTo s t (s.T.length + 1 - j) x/\∃ n,wr=w.drewN n) (fun _ i _=>s.T.length + 1 - (intOf i).toNat)
 case atStart=>exact ⟨0,ok,Nat.zero_le _,rfl,rfl,o0,o1,ER.out,0,rfl⟩
 case round =>
  obtain ⟨j,x,hj,rfl,rfl,hx0,hx1,hres,n,rfl⟩:=hrel
  have HR:=hid hres
  clear hres
  by_cases hjl:j < s.T.length + 1
  ·have hjI:(j:Int)<=(s.T.length:Int):=by omega
   have e1:s.T.length + 1 - j=(s.T.length - j) + 1:=by omega
   rw [e1] at HR
   have ES:Hid (res=if x < 0\/x=(t:Int) then decide (x=(t:Int)) else if (R.th s.T x.toNat).for_ ≠ 1 then false else R.roundTo s t (s.T.length - j) (s.owner.getD (R.th s.T x.toNat).of_.toNat 0)):=HR.out
   clear HR e1
   by_cases hneg:x < 0
   ·have hne:(x == (t:Int))=false:=by simp; omega
    go_wp2
    go_ret
    refine ⟨?_,n,rfl⟩
    rw [ES.out,if_pos (.inl hneg)]
    have:¬ x=(t:Int):=by omega
    simp [this]
   ·obtain ⟨y,rfl⟩:=Int.eq_ofNat_of_zero_le (show 0<=x by omega)
    have hnd:decide ((y:Int) < 0)=false:=by simp
    cases hyt:((y:Int) == (t:Int))
    ·have HY:=hid hyt
     have hyl:y < s.T.length:=by omega
     have a9:=M.out.tcell hyl 9 (by decide)
     have a10:=M.out.tcell hyl 10 (by decide)
     simp [rtCells] at a9 a10
     have eth:R.th s.T (Int.toNat (y:Int))=s.T[y]:=by simp [R.th,List.getD,hyl]
     have hof:=HOF.out y hyl
     rw [eth] at ES
     have ES2:Hid (res=if s.T[y].for_ ≠ 1 then false else R.roundTo s t (s.T.length - j) (s.owner.getD s.T[y].of_.toNat 0)):=by
      have hne:=HY.out
      rw [ES.out,if_neg]
      ·exact hid rfl
      ·simp at hne
       omega
     clear ES eth
     generalize s.T[y]=z at *
     cases hz:(z.for_ != 1)
     ·have HZ:=hid hz
      have hz1:z.for_=1:=by simpa using hz
      obtain ⟨f0,f1⟩:=hof hz1
      clear hz1 hof
      have HO0:Hid (z.of_=(z.of_.toNat:Int)):=hid (by omega)
      generalize hzo:z.of_=zo at *
      obtain ⟨q,rfl⟩:=Int.eq_ofNat_of_zero_le f0
      clear hzo HO0
      have hq:q < s.owner.length:=by omega
      have cq:=HCO.out q hq
      obtain ⟨p0,p1⟩:=HOW.out q hq
      have eg:s.owner.getD (Int.toNat (q:Int)) 0=s.owner[q]:=by simp [List.getD,hq]
      rw [eg] at ES2
      clear eg
      generalize s.owner[q]=oq at *
      have hqI:(q:Int) < (s.owner.length:Int):=by omega
      have hyI:(y:Int) < (s.T.length:Int):=by omega
      go_wp2_with fail
      go_quiet (fail)
      go_wp2
      go_roundw
      case rel =>
       refine ⟨j + 1,oq,by omega,by go_num,rfl,p0,p1,?_,_,rfl⟩
       rw [ES2.out,if_neg (by simpa using HZ.out),show s.T.length + 1 - (j + 1)=s.T.length - j by omega]
      case measure=>simp [intOf]; omega
     ·have HZ:=hid hz
      go_wp2
      go_ret
      refine ⟨?_,n,rfl⟩
      rw [ES2.out,if_pos (by simpa using HZ.out)]
      rfl
    ·have HY:=hid hyt
     go_wp2
     go_ret
     refine ⟨?_,n,rfl⟩
     have hy:(y:Int)=(t:Int):=by simpa using HY.out
     rw [ES.out,if_pos (.inr hy)]
     simp [hy]
  ·have e:j=s.T.length + 1:=by omega
   subst e
   go_wp2
   go_ret
   refine ⟨?_,n,rfl⟩
   rw [HR.out,Nat.sub_self]
   rfl
end Go.Proofs.YtbkfildnijjioaaGreat

namespace Go.Proofs.YtbkfildnijjioaaGreat
open Go.RowKit
def RH.foot (h:RH):List Nat:=h.gT :: (h.vO.ownBlock.toList ++ h.vC.ownBlock.toList ++ h.vB.ownBlock.toList ++ h.bs.flatMap (fun v=>v.ownBlock.toList))
theorem RH.foot_two (h:RH) (sb:Nat):∀ b,b ∈ [sb,h.gT]->b ∈ sb :: h.foot:=by
 intro b hb
 simp [RH.foot] at hb ⊢
 omega
set_option maxHeartbeats 1000000 in
theorem rUnlock_any (F:Nat->Prop) (w:World) (sb:Nat) (h:RH) (s:RS) (m:RMem F w sb h s) (ap:RApart F h) (g:RGood s) (t k:Nat) (hk:k < s.owner.length) (hnx:s.next<=4611686018427387000) :
  Calls Tryz.prog 114 #[.pointer (some ⟨sb,0,none⟩),.int .i64 t,.int .i64 k] w fun e w'=>e=.returned (.int .i64 (R.unlockC s t k))/\RMem F w' sb h (R.unlockS s t k)/\Only (sb :: h.foot) w w':=by
 have hol:=g.own
 have hmf:=g.mfew
 obtain ⟨go,co,hvO,hco,hfo⟩:=m.ownAt (by omega)
 have c9:=m.blk.cell 9
 simp [rsCells] at c9
 rw [hvO] at c9
 have ck:=hco k hk
 have HVO:=hid hvO
 have M:=hid m
 have G:=hid g
 have AP:=hid ap
 have eg:s.owner.getD k 0=s.owner[k]:=by simp [List.getD,hk]
 have EC:Hid (R.unlockC s t k=if s.owner.getD k 0=(t:Int) then 0 else 6):=rfl
 have ESS:Hid (R.unlockS s t k=if s.owner.getD k 0=(t:Int) then { R.giveS s 1 (k:Int) with owner:=s.owner.set k (R.giveT s 1 (k:Int)) } else s):=rfl
 rw [eg] at EC ESS
 clear m g ap hfo hco hvO eg
 generalize R.unlockC s t k=uc at *
 generalize R.unlockS s t k=us at *
 generalize s.owner[k]=ok at *
 have hkI:(k:Int) < (s.owner.length:Int):=by omega
 go_enter Tryz.func114,Tryz.ntmps114
 cases hq:(ok != (t:Int))
 ·have HQ:=hid hq
  go_wp2_with fail
  refine (rGive_any F w sb h s M.out G.out 1 k hnx).mono ?_
  rintro e w1 ⟨rfl,hm1,ho1⟩
  obtain ⟨p1,p2,p3,p4,p5,p6,p7,p8,p9⟩:=giveS_parts s 1 (k:Int)
  have M1:=hid hm1
  have O1:Hid (Only (sb :: h.foot) w w1):=ho1.mono (RH.foot_two h sb)
  clear hm1 ho1
  obtain ⟨go1,co1,hvO1,hco1,hfo1⟩:=M1.out.ownAt (by rw [p3]; omega)
  have c91:=M1.out.blk.cell 9
  simp [rsCells] at c91
  have ck1:=hco1 k (by rw [p3]; exact hk)
  have f1:=hfo1 k
  have hvv:=hvO1
  rw [HVO.out] at hvv
  simp at hvv
  obtain ⟨e1,e2,e3⟩:=hvv
  subst e1
  subst e3
  rw [HVO.out] at c91
  have HV1:=hid hvO1
  clear hvO1 hco1 hfo1 c9 ck e2
  go_wp2
  go_ret
  have hm2:=M1.out.setOwner AP.out HV1.out k (R.giveT s 1 (k:Int))
  have he:ok=(t:Int):=by simpa using HQ.out
  refine ⟨?_,?_,O1.out.setCell (.inl ?_) _⟩
  ·rw [EC.out,if_pos he]
   rfl
  ·rw [ESS.out,if_pos he]
   rw [p3] at hm2
   exact hm2
  ·rw [RH.foot,HVO.out]
   simp [Value.ownBlock]
 ·have HQ:=hid hq
  go_wp2
  go_ret
  have he:¬ ok=(t:Int):=by simpa using HQ.out
  refine ⟨?_,?_,Only.refl _ _⟩
  ·rw [EC.out,if_neg he]
   rfl
  ·rw [ESS.out,if_neg he]
   exact M.out
set_option maxRecDepth 100000 in
set_option maxHeartbeats 2000000 in
theorem rLock_any (F:Nat->Prop) (w:World) (sb:Nat) (h:RH) (s:RS) (m:RMem F w sb h s) (ap:RApart F h) (g:RGood s) (ln:RLinks s) (t k:Nat) (ht:t < s.T.length) (hk:k < s.owner.length) (n:Int) (hn1:n<=1000) (hnx:s.next<=4611686018427387000) :
  Calls Tryz.prog 117 #[.pointer (some ⟨sb,0,none⟩),.int .i64 t,.int .i64 k,.int .i64 n] w fun e w'=>e=.returned (.int .i64 (R.lockC s t k n))/\RMem F w' sb h (R.lockS s t k n)/\Only (sb :: h.foot) w w':=by
 have hol:=g.own
 have hmf:=g.mfew
 have hfew:=g.few
 have hn0:=g.nxt0
 have hnow:0<=s.now:=by have:=g.now0; have:=g.now1; omega
 have hnow1:=g.now2
 obtain ⟨go,co,hvO,hco,hfo⟩:=m.ownAt (by omega)
 have c9:=m.blk.cell 9
 have c8:=m.blk.cell 8
 have c3:=m.blk.cell 3
 simp [rsCells] at c9 c8 c3
 rw [hvO] at c9
 have ck:=hco k hk
 have fk:=hfo k
 have hkm:k < s.set.mutexes.length:=by omega
 obtain ⟨mb,mo,hma,hmb,hmx,hmy⟩:=m.set.mutexes k hkm
 have hmlt:=m.lt mb hmb
 rw [hma] at c3
 have a0:=m.tcell ht 0 (by decide)
 simp [rtCells] at a0
 have hsl:=m.blk.lt
 have HVO:=hid hvO
 have hgl:go < w.heap.size:=(ownsRow_block m.oth.own (by rw [hvO]; rfl)).2.1
 have hTl:=m.gT_lt
 have M:=hid m
 have G:=hid g
 have AP:=hid ap
 have LN:=hid ln
 have eg:s.owner.getD k 0=s.owner[k]:=by simp [List.getD,hk]
 have em:s.set.mutexes.getD k R.pair0=s.set.mutexes[k]:=by simp [List.getD,hkm]
 have et:R.th s.T t=s.T[t]:=by simp [R.th,List.getD,ht]
 have EC:Hid (R.lockC s t k n=if s.owner.getD k 0=(t:Int) then 3
   else if (s.set.mutexes.getD k R.pair0).x=1/\(s.set.mutexes.getD k R.pair0).y < (R.th s.T t).base then 4
   else if s.owner.getD k 0 < 0 then 0
   else if R.round s t k=true then 5
   else if n=0 then 2 else 1):=rfl
 have ESS:Hid (R.lockS s t k n=if R.lockC s t k n=0 then { s with owner:=s.owner.set k (t:Int) } else if R.lockC s t k n=1 then R.beginW s t 1 (k:Int) n else s):=rfl
 rw [eg,em,et] at EC
 have RN:=hid (fun wx mx=>rRound_any F wx sb h s mx hfew ln.own ln.of_ t k hk (by omega))
 clear m g ap ln hfo hco hvO eg em et hma hmb
 generalize R.lockC s t k n=uc at *
 generalize R.lockS s t k n=us at *
 generalize hok:s.owner[k]=ok at *
 have HOK:=hid hok
 clear hok
 generalize s.set.mutexes[k]=mx at *
 generalize s.T[t].base=bs at *
 have hkI:(k:Int) < (s.owner.length:Int):=by omega
 have hkI2:(k:Int) < (s.set.mutexes.length:Int):=by omega
 have htI:(t:Int) < (s.T.length:Int):=by omega
 go_enter Tryz.func117,Tryz.ntmps117
 cases hq:(ok == (t:Int))
 ·have HQ:=hid hq
  have hne:¬ ok=(t:Int):=by simpa using hq
  rw [if_neg hne] at EC
  have HNE:=hid hne
  clear hne
  have MA:=hid (M.out.below ((Below.refl _ _).alloc (Nat.le_refl _) (.cells #[.int .i64 mx.x,.int .i64 mx.y] 125)))
  have OA:Hid (Only (sb :: h.foot) w (w.alloc (.cells #[.int .i64 mx.x,.int .i64 mx.y] 125))):=Only.of_below ((Below.refl _ _).alloc (Nat.le_refl _) _)
  cases hx1:(mx.x == 1)
  ·have HX:=hid hx1
   have hnx1:¬ (mx.x=1/\mx.y < bs):=by
    have:¬ mx.x=1:=by simpa using hx1
    exact fun hh=>this hh.1
   rw [if_neg hnx1] at EC
   clear hnx1
   go_wp2_with fail
   go_quiet (fail)
   have MB:=hid (MA.out.drewN nq)
   have OB:=hid (OA.out.drewN nq)
   clear c9 c8 c3 ck fk a0 hmx hmy MA OA
   generalize (w.alloc (.cells #[.int .i64 mx.x,.int .i64 mx.y] 125)).drewN nq=wB at MB OB ⊢
   obtain ⟨go1,co1,hvO1,hco1,hfo1⟩:=MB.out.ownAt (by omega)
   have c9:=MB.out.blk.cell 9
   simp [rsCells] at c9
   rw [hvO1] at c9
   have ck:=hco1 k hk
   rw [HOK.out] at ck
   have fk:=hfo1 k
   have HV1:=hid hvO1
   clear hvO1 hco1 hfo1
   by_cases hneg:ok < 0
   ·rw [if_pos hneg] at EC
    go_wp2
    go_ret
    have hm2:=MB.out.setOwner AP.out HV1.out k (t:Int)
    refine ⟨?_,?_,OB.out.setCell (.inl ?_) _⟩
    ·rw [EC.out]
     rfl
    ·rw [ESS.out,EC.out]
     exact hm2
    ·rw [RH.foot,HV1.out]
     simp [Value.ownBlock]
   ·rw [if_neg hneg] at EC
    go_wp2_with fail
    refine (RN.out wB MB.out).mono ?_
    rintro e w1 ⟨rfl,n2,rfl⟩
    have MC:=hid (MB.out.drewN n2)
    have OC:=hid (OB.out.drewN n2)
    clear MB OB c9 ck fk
    generalize wB.drewN n2=wC at *
    cases hr:R.round s t k
    ·rw [hr,if_neg (by decide)] at EC
     cases hz:(n == 0)
     ·have hz':¬ n=0:=by simpa using hz
      rw [if_neg hz'] at EC
      clear hz'
      go_wp2_with fail
      refine (rBegin_any F wC sb h s MC.out t ht hfew 1 (k:Int) n hn1 hnow hnow1 hn0 (by omega)).mono ?_
      rintro e w2 ⟨rfl,hm2,ho2⟩
      have M2:=hid hm2
      have O2:=hid (OC.out.trans (ho2.mono (RH.foot_two h sb)))
      clear hm2 ho2
      go_wp2
      go_ret
      refine ⟨?_,?_,O2.out⟩
      ·rw [EC.out]
       rfl
      ·rw [ESS.out,EC.out]
       exact M2.out
     ·have hz':n=0:=by simpa using hz
      rw [if_pos hz'] at EC
      clear hz'
      go_wp2
      go_ret
      refine ⟨?_,?_,OC.out⟩
      ·rw [EC.out]
       rfl
      ·rw [ESS.out,EC.out]
       exact MC.out
    ·rw [hr,if_pos rfl] at EC
     go_wp2
     go_ret
     refine ⟨?_,?_,OC.out⟩
     ·rw [EC.out]
      rfl
     ·rw [ESS.out,EC.out]
      exact MC.out
  ·have HX:=hid hx1
   have hx1':mx.x=1:=by simpa using hx1
   cases hx2:decide (mx.y < bs)
   ·have HX2:=hid hx2
    have hnx1:¬ (mx.x=1/\mx.y < bs):=by
     have:¬ mx.y < bs:=by simpa using hx2
     exact fun hh=>this hh.2
    rw [if_neg hnx1] at EC
    clear hnx1 hx1'
    go_wp2_with fail
    go_quiet (fail)
    have MB:=hid (MA.out.drewN nq)
    have OB:=hid (OA.out.drewN nq)
    clear c9 c8 c3 ck fk a0 hmx hmy MA OA
    generalize (w.alloc (.cells #[.int .i64 mx.x,.int .i64 mx.y] 125)).drewN nq=wB at MB OB ⊢
    obtain ⟨go1,co1,hvO1,hco1,hfo1⟩:=MB.out.ownAt (by omega)
    have c9:=MB.out.blk.cell 9
    simp [rsCells] at c9
    rw [hvO1] at c9
    have ck:=hco1 k hk
    rw [HOK.out] at ck
    have fk:=hfo1 k
    have HV1:=hid hvO1
    clear hvO1 hco1 hfo1
    by_cases hneg:ok < 0
    ·rw [if_pos hneg] at EC
     go_wp2
     go_ret
     have hm2:=MB.out.setOwner AP.out HV1.out k (t:Int)
     refine ⟨?_,?_,OB.out.setCell (.inl ?_) _⟩
     ·rw [EC.out]
      rfl
     ·rw [ESS.out,EC.out]
      exact hm2
     ·rw [RH.foot,HV1.out]
      simp [Value.ownBlock]
    ·rw [if_neg hneg] at EC
     go_wp2_with fail
     refine (RN.out wB MB.out).mono ?_
     rintro e w1 ⟨rfl,n2,rfl⟩
     have MC:=hid (MB.out.drewN n2)
     have OC:=hid (OB.out.drewN n2)
     clear MB OB c9 ck fk
     generalize wB.drewN n2=wC at *
     cases hr:R.round s t k
     ·rw [hr,if_neg (by decide)] at EC
      cases hz:(n == 0)
      ·have hz':¬ n=0:=by simpa using hz
       rw [if_neg hz'] at EC
       clear hz'
       go_wp2_with fail
       refine (rBegin_any F wC sb h s MC.out t ht hfew 1 (k:Int) n hn1 hnow hnow1 hn0 (by omega)).mono ?_
       rintro e w2 ⟨rfl,hm2,ho2⟩
       have M2:=hid hm2
       have O2:=hid (OC.out.trans (ho2.mono (RH.foot_two h sb)))
       clear hm2 ho2
       go_wp2
       go_ret
       refine ⟨?_,?_,O2.out⟩
       ·rw [EC.out]
        rfl
       ·rw [ESS.out,EC.out]
        exact M2.out
      ·have hz':n=0:=by simpa using hz
       rw [if_pos hz'] at EC
       clear hz'
       go_wp2
       go_ret
       refine ⟨?_,?_,OC.out⟩
       ·rw [EC.out]
        rfl
       ·rw [ESS.out,EC.out]
        exact MC.out
     ·rw [hr,if_pos rfl] at EC
      go_wp2
      go_ret
      refine ⟨?_,?_,OC.out⟩
      ·rw [EC.out]
       rfl
      ·rw [ESS.out,EC.out]
       exact MC.out
   ·have hx2':mx.y < bs:=by simpa using hx2
    rw [if_pos ⟨hx1',hx2'⟩] at EC
    clear hx1'
    go_wp2_with fail
    go_quiet (fail)
    go_wp2
    go_ret
    refine ⟨?_,?_,?_⟩
    ·rw [EC.out]
     rfl
    ·rw [ESS.out,EC.out]
     exact MA.out.drewN _
    ·exact OA.out.drewN _
 ·have HQ:=hid hq
  go_wp2
  go_ret
  have he:ok=(t:Int):=by simpa using HQ.out
  rw [if_pos he] at EC
  refine ⟨?_,?_,?_⟩
  ·rw [EC.out]
   rfl
  ·rw [ESS.out,EC.out]
   exact M.out.below ((Below.refl _ _).alloc (Nat.le_refl _) _)
  ·exact Only.of_below ((Below.refl _ _).alloc (Nat.le_refl _) _)
end Go.Proofs.YtbkfildnijjioaaGreat

namespace Go.Proofs.YtbkfildnijjioaaGreat
open Go.RowKit
set_option maxRecDepth 100000 in
set_option maxHeartbeats 2000000 in
theorem rStop_any (F:Nat->Prop) (w:World) (sb:Nat) (h:RH) (s:RS) (m:RMem F w sb h s) (ap:RApart F h) (g:RGood s) (t:Nat) (ht:t < s.T.length) (he0:-1000000001<=s.T[t].ended) (he1:s.T[t].ended<=2000000000) (hnx:s.next<=4611686018427386000) :
  Calls Tryz.prog 74 #[.pointer (some ⟨sb,0,none⟩),.int .i64 t] w fun e w'=>e=.returned (.tuple #[])/\RMem F w' sb h (R.stop s t)/\Only (sb :: h.foot) w w':=by
 have hfew:=g.few
 have hol:=g.own
 have hmf:=g.mfew
 have c8:=m.blk.cell 8
 simp [rsCells] at c8
 have a5:=m.tcell ht 5 (by decide)
 simp [rtCells] at a5
 have f5:=m.tfrozen (t * 13 + 5)
 have M:=hid m
 have G:=hid g
 have AP:=hid ap
 have HEN:Hid (∀ x,(s.T[t].ended + 1=x)->rtCells ((fun y:RT=>{ y with ended:=x }) s.T[t])=(rtCells s.T[t]).set 5 (.int .i64 x)):=fun x _=>rfl
 have ETH:Hid (R.stop0 s t={ s with T:=((s.T.modify t (fun x=>{ x with ended:=s.T[t].ended + 1 })).modify t (fun x=>{ x with at_:=0 })).modify t (fun x=>{ x with last:=0 }) }):=by
  have:s.T.modify t (fun x=>{ x with ended:=x.ended + 1,at_:=0,last:=0 })=((s.T.modify t (fun x=>{ x with ended:=s.T[t].ended + 1 })).modify t (fun x=>{ x with at_:=0 })).modify t (fun x=>{ x with last:=0 }):=by
   simp only [List.modify_modify_eq]
   apply List.ext_getElem
   ·simp
   ·intro i h1 h2
    simp only [List.getElem_modify]
    by_cases e:t=i
    ·subst e; simp
    ·simp [e]
  unfold R.stop0
  rw [this]
  exact hid rfl
 clear m g ap
 generalize hen:s.T[t].ended=en at *
 have HENN:=hid hen
 clear hen
 have htI:(t:Int) < (s.T.length:Int):=by omega
 go_enter Tryz.func74,Tryz.ntmps74
 go_upto_region 1 with fail
 have hm1:=M.out.setT ht (j:=5) (by decide) (.int .i64 (en + 1)) (fun x=>{ x with ended:=en + 1 }) rfl
 have ho1:Only [sb,h.gT] w (w.setCell ⟨h.gT,t * 13 + 5,none⟩ (.int .i64 (en + 1))):=(Only.refl _ _).setCell (.inl (by simp)) _
 clear c8 a5 f5 M
 generalize w.setCell ⟨h.gT,t * 13 + 5,none⟩ (.int .i64 (en + 1))=w1 at hm1 ho1 ⊢
 have M1:=hid hm1
 have O1:=hid ho1
 clear hm1 ho1
 have c8:=M1.out.blk.cell 8
 simp [rsCells] at c8
 have ac:=M1.out.tcell (i:=t) (by simpa using ht) 1 (by decide)
 simp [rtCells] at ac
 have fc:=M1.out.tfrozen (t * 13 + 1)
 go_upto_region 2 with fail
 have hm2:=M1.out.setT (i:=t) (j:=1) (by simpa using ht) (by decide) (.int .i64 0) (fun x=>{ x with at_:=0 }) rfl
 have ho2:Only [sb,h.gT] w (w1.setCell ⟨h.gT,t * 13 + 1,none⟩ (.int .i64 0)):=O1.out.setCell (.inl (by simp)) _
 clear c8 ac fc M1 O1
 generalize w1.setCell ⟨h.gT,t * 13 + 1,none⟩ (.int .i64 0)=w2 at hm2 ho2 ⊢
 have M2:=hid hm2
 have O2:=hid ho2
 clear hm2 ho2
 have c8:=M2.out.blk.cell 8
 simp [rsCells] at c8
 have ac:=M2.out.tcell (i:=t) (by simpa using ht) 2 (by decide)
 simp [rtCells] at ac
 have fc:=M2.out.tfrozen (t * 13 + 2)
 go_upto_region 3 with fail
 have hm3:=M2.out.setT (i:=t) (j:=2) (by simpa using ht) (by decide) (.int .i64 0) (fun x=>{ x with last:=0 }) rfl
 have ho3:Only [sb,h.gT] w (w2.setCell ⟨h.gT,t * 13 + 2,none⟩ (.int .i64 0)):=O2.out.setCell (.inl (by simp)) _
 clear c8 ac fc M2 O2
 generalize w2.setCell ⟨h.gT,t * 13 + 2,none⟩ (.int .i64 0)=w3 at hm3 ho3 ⊢
 have hm3':RMem F w3 sb h (R.stop0 s t):=by rw [ETH.out]; exact hm3
 have M3:=hid hm3'
 have O3:Hid (Only (sb :: h.foot) w w3):=ho3.mono (RH.foot_two h sb)
 clear hm3 hm3' ho3 ETH HEN
 have L0:RLike s (R.stop0 s t) 0:=like_modify _ _ _
 have HL0:=hid L0
 have hs0:(R.stop0 s t).owner.length=s.owner.length:=L0.own
 have EFIN:Hid (R.stop s t=if (R.th (R.asleep (R.unlocksTo (R.stop0 s t) t s.owner.length) t).T t).ended < (R.th (R.asleep (R.unlocksTo (R.stop0 s t) t s.owner.length) t).T t).rel then R.wake (R.asleep (R.unlocksTo (R.stop0 s t) t s.owner.length) t) t else R.asleep (R.unlocksTo (R.stop0 s t) t s.owner.length) t):=rfl
 clear L0
 generalize R.stop0 s t=s0 at *
 go_wp2
 go_loopw [4] (fun i wr=>∃ k:Nat,k<=s.owner.length/\i=.int .i64 k/\RMem F wr sb h (R.unlocksTo s0 t k)/\Only (sb :: h.foot) w wr) (fun i _=>s.owner.length - (intOf i).toNat)
 case atStart=>exact ⟨0,Nat.zero_le _,rfl,M3.out,O3.out⟩
 case round =>
  obtain ⟨k,hk,rfl,hm,ho⟩:=hrel
  have MK:=hid hm
  have OK:=hid ho
  have LK:=HL0.out.trans (like_unlocksTo s0 t k)
  have HLK:=hid LK
  have hlk:(R.unlocksTo s0 t k).owner.length=s.owner.length:=LK.own
  have htk:t < (R.unlocksTo s0 t k).T.length:=by rw [LK.len]; exact ht
  have hfk:(R.unlocksTo s0 t k).T.length<=16:=by rw [LK.len]; exact hfew
  have hnk0:=LK.nx0
  have hnk1:=LK.nx1
  clear hm ho LK
  by_cases hkl:k < s.owner.length
  ·have hg:=HLK.out.good G.out (by omega)
   have HG:=hid hg
   have ES:Hid (R.unlocksTo s0 t (k + 1)=R.unlockS (R.unlocksTo s0 t k) t k):=rfl
   have EU:Hid (R.unlockS (R.unlocksTo s0 t k) t k=if (R.unlocksTo s0 t k).owner.getD k 0=(t:Int) then { R.giveS (R.unlocksTo s0 t k) 1 (k:Int) with owner:=(R.unlocksTo s0 t k).owner.set k (R.giveT (R.unlocksTo s0 t k) 1 (k:Int)) } else R.unlocksTo s0 t k):=rfl
   clear hg
   generalize R.unlocksTo s0 t k=sk at *
   have hkk:k < sk.owner.length:=by omega
   have eg:sk.owner.getD k 0=sk.owner[k]:=by simp [List.getD,hkk]
   rw [eg] at EU
   clear eg
   obtain ⟨go,co,hvO,hco,hfo⟩:=MK.out.ownAt (by omega)
   have c9:=MK.out.blk.cell 9
   simp [rsCells] at c9
   rw [hvO] at c9
   have ck:=hco k hkk
   clear hvO hco hfo
   have UN:=hid (rUnlock_any F wr sb h sk MK.out AP.out HG.out t k hkk (by omega))
   generalize sk.owner[k]=ok at *
   rw [hlk] at c9
   have hkI:(k:Int) < (s.owner.length:Int):=by omega
   cases hq:(ok == (t:Int))
   ·have HQ:=hid hq
    go_wp2
    go_roundw
    case rel=>exact ⟨k + 1,by omega,by go_num,by rw [ES.out,EU.out,if_neg (by simpa using HQ.out)]; exact MK.out,OK.out⟩
    case measure=>simp [intOf]; omega
   ·have HQ:=hid hq
    go_wp2_with fail
    refine UN.out.mono ?_
    rintro e w4 ⟨rfl,hm4,ho4⟩
    have M4:=hid hm4
    have O4:=hid (OK.out.trans ho4)
    clear hm4 ho4
    go_wp2
    go_roundw
    case rel=>exact ⟨k + 1,by omega,by go_num,by rw [ES.out]; exact M4.out,O4.out⟩
    case measure=>simp [intOf]; omega
  ·have e:k=s.owner.length:=by omega
   subst e
   obtain ⟨ao,cO,hvO,_,_⟩:=owns_cells MK.out.oth.own
   have c9:=MK.out.blk.cell 9
   simp [rsCells] at c9
   rw [hvO,hlk] at c9
   clear hvO
   generalize R.unlocksTo s0 t s.owner.length=sk at *
   have c8:=MK.out.blk.cell 8
   simp [rsCells] at c8
   have ac:=MK.out.tcell htk 6 (by decide)
   simp [rtCells] at ac
   have fc:=MK.out.tfrozen (t * 13 + 6)
   have htkI:(t:Int) < (sk.T.length:Int):=by omega
   go_upto_region 9 with fail
   have hm4:RMem F (wr.setCell ⟨h.gT,t * 13 + 6,none⟩ (.bool false)) sb h (R.asleep sk t):=MK.out.setT htk (j:=6) (by decide) (.bool false) (fun x=>{ x with awake:=false }) rfl
   have ho4:Only (sb :: h.foot) w (wr.setCell ⟨h.gT,t * 13 + 6,none⟩ (.bool false)):=OK.out.setCell (.inl (by simp [RH.foot])) _
   clear c9 c8 ac fc MK OK
   generalize wr.setCell ⟨h.gT,t * 13 + 6,none⟩ (.bool false)=w4 at hm4 ho4 ⊢
   have M4:=hid hm4
   have O4:=hid ho4
   clear hm4 ho4
   have L4:RLike sk (R.asleep sk t) 0:=like_modify _ _ _
   have hl4:=L4.len
   have hnx4:=L4.nx1
   have hnx5:=L4.nx0
   clear L4
   generalize R.asleep sk t=s4 at *
   have ht4:t < s4.T.length:=by omega
   have eth:R.th s4.T t=s4.T[t]:=by simp [R.th,List.getD,ht4]
   rw [eth] at EFIN
   clear eth
   have c8:=M4.out.blk.cell 8
   simp [rsCells] at c8
   have x4:=M4.out.tcell ht4 4 (by decide)
   have x5:=M4.out.tcell ht4 5 (by decide)
   simp [rtCells] at x4 x5
   generalize s4.T[t]=x at *
   have htI4:(t:Int) < (s4.T.length:Int):=by omega
   have hn0:=G.out.nxt0
   by_cases hre:x.ended < x.rel
   ·rw [if_pos hre] at EFIN
    go_wp2_with fail
    go_quiet (fail)
    go_wp2_with fail
    refine (rWake_any F _ sb h s4 (M4.out.drewN nq) t ht4 (by omega) (by omega) (by omega)).mono ?_
    rintro e w5 ⟨rfl,hm5,ho5⟩
    have M5:=hid hm5
    have O5:=hid ((O4.out.drewN nq).trans (ho5.mono (RH.foot_two h sb)))
    clear hm5 ho5
    go_wp2
    go_end0
    refine ⟨rfl,?_,O5.out⟩
    rw [EFIN.out]
    exact M5.out
   ·rw [if_neg hre] at EFIN
    go_wp2_with fail
    go_quiet (fail)
    go_wp2
    go_end0
    refine ⟨rfl,?_,O4.out.drewN _⟩
    rw [EFIN.out]
    exact M4.out.drewN _
end Go.Proofs.YtbkfildnijjioaaGreat
