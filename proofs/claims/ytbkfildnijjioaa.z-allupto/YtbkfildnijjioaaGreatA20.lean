import Derived.Test.YtbkfildnijjioaaGreatA07
import Derived.Test.YtbkfildnijjioaaGreatA16
import Derived.Test.YtbkfildnijjioaaGreatA15
import Derived.Test.YtbkfildnijjioaaGreatA09
import Derived.Test.YtbkfildnijjioaaGreatA19
import Derived.Test.YtbkfildnijjioaaGreatA14
import Derived.Deep.QuietTactic
import Derived.BigQuiet
namespace Go.Proofs.YtbkfildnijjioaaGreat
open Go.RowKit
namespace R
end R
set_option maxHeartbeats 400000 in
theorem rRunning_any (F:Nat->Prop) (w:World) (sb:Nat) (h:RH) (s:RS) (m:RMem F w sb h s) (g:RGood s) (n:Nat) (hn:s.set.workers=n) :
  Calls Tryz.prog 31 #[.pointer (some ⟨sb,0,none⟩)] w fun e w'=>∃ v,e=.returned v/\w'.ownsRow w.heap.size 3 1 v n (intCells (R.running s))/\Below w.heap.size w w':=by
 have hfew:=g.few
 have hn8:(n:Int)<=8:=by rw [<- hn]; exact g.wk1
 have M:=hid m
 have HN:=hid hn
 have erun:R.running s=(List.range n).map (fun (x:Nat)=>R.on s.T (x:Int)):=by unfold R.running; rw [hn]; simp
 have ER:=hid erun
 clear m g hn erun
 obtain ⟨i3,hi3,hz30,hz31,hz32⟩:=info_parts Tryz.infoInt
 have HI3:Hid (Tryz.prog.info? 3=some i3/\i3.zero=some (.int .i64 0)/\i3.size=1/\i3.bytes=8):=⟨hi3,hz30,hz31,hz32⟩
 clear hi3 hz30 hz31 hz32
 go_enter Tryz.func31,Tryz.ntmps31
 go_wp2
 go_loopw [3,4] (fun v i wr=>∃ k:Nat,k<=n/\i=.int .i64 k/\wr.ownsRow w.heap.size 3 1 v k (intCells ((List.range k).map (fun (x:Nat)=>R.on s.T (x:Int))))/\Below w.heap.size w wr) (fun _ i _=>n - (intOf i).toNat)
 case atStart=>exact ⟨0,Nat.zero_le _,rfl,World.ownsRow_nil _ _ _ _,Below.refl _ _⟩
 case round =>
  obtain ⟨k,hk,rfl,hown,hb⟩:=hrel
  have hm:=M.out.below hb
  have Mk:=hid hm
  have c0:=hm.blk.cell 0
  simp [rsCells] at c0
  rw [HN.out] at c0
  have OW:=hid hown
  have hsz:=hb.size
  clear hm hown
  by_cases hlt:k < n
  ·go_wp2_with (first
    | (go_at_call 73; refine (rOn_any F _ sb h s Mk.out hfew (k:Int)).mono ?_; rintro e w1 ⟨rfl,hw1⟩; have hw2:=hw1.symm; subst hw2; clear hw1)
    | (at_builtin; refine wpList_append_src rfl (.tmp 18) (.tmp 20) 25 rfl w.heap.size 3 i3 (.int .i64 0) 1 8 Tryz.underlying25 HI3.out.1 HI3.out.2.1 HI3.out.2.2.1 HI3.out.2.2.2 rfl (by decide) u3 k (intCells ((List.range k).map (fun (x:Nat)=>R.on s.T (x:Int)))) rfl (OW.out.alloc _) (some ⟨wr.heap.size,0,none⟩) 1 1 [.int .i64 (R.on s.T (k:Int))] rfl rfl (fun h=>(by cases h)) (fun j u hj=>⟨_,rfl,(by rw [Addr.add_lit,Nat.zero_add,(Blk.new wr #[.int .i64 (R.on s.T (k:Int))] 3).cell]; simpa using hj)⟩) (by intro u hu; simp at hu; subst hu; rfl) (by unfold maxLen; omega) (by omega) (by simp; omega) ?_; intro v' w2 hown2 hg2; have O2:=hid hown2; have G2:=hid hg2; clear hown2 hg2))
   go_roundw
   case rel=>exact ⟨k + 1,by omega,by go_num,by rw [running_succ,intCells_append]; exact O2.out,(hb.alloc hsz _).grown G2.out (by simp; omega) (fun g hg=>(ownsRow_block OW.out hg).1)⟩
   case measure=>simp [intOf]; omega
  ·go_wp2
   go_ret
   have e:k=n:=by omega
   subst e
   exact ⟨_,rfl,by rw [ER.out]; exact OW.out,hb⟩
set_option maxHeartbeats 400000 in
theorem rLook_not (F:Nat->Prop) (w:World) (sb:Nat) (h:RH) (s:RS) (m:RMem F w sb h s) (t:Int) (ht:t < 0\/(0<=t/\(s.T.length:Int)<=t)) :
  Calls Tryz.prog 87 #[.pointer (some ⟨sb,0,none⟩),.int .i64 t] w fun e w'=>e=.returned (.tuple #[noView,.int .i64 7])/\Below w.heap.size w w':=by
 have c8:=m.blk.cell 8
 simp [rsCells] at c8
 have hsl:=m.blk.lt
 clear m
 rcases ht with h1 | ⟨h1,h2⟩
 all_goals
  go_enter Tryz.func87,Tryz.ntmps87
  go_wp2
  exact bodyPost_ret (v:=.tuple #[noView,.int .i64 7]) (by simp [results,Tryz.results87,go_sem,noView]) rfl ⟨rfl,(Below.refl _ _).alloc (Nat.le_refl _) _⟩
set_option maxHeartbeats 1000000 in
theorem rLook_any (F:Nat->Prop) (w:World) (sb:Nat) (h:RH) (s:RS) (m:RMem F w sb h s) (g:RGood s) (t:Nat) (ht:t < s.T.length) :
  Calls Tryz.prog 87 #[.pointer (some ⟨sb,0,none⟩),.int .i64 t] w fun e w'=>e=.returned (.tuple #[viewV s.T[t] (R.Level s t),.int .i64 0])/\Below w.heap.size w w':=by
 have c8:=m.blk.cell 8
 simp [rsCells] at c8
 have hfew:=g.few
 have hsl:=m.blk.lt
 have hgl:=m.gT_lt
 have a0:=m.tcell ht 0 (by decide)
 have a1:=m.tcell ht 1 (by decide)
 have a2:=m.tcell ht 2 (by decide)
 have a3:=m.tcell ht 3 (by decide)
 have a4:=m.tcell ht 4 (by decide)
 have a5:=m.tcell ht 5 (by decide)
 have a6:=m.tcell ht 6 (by decide)
 have a7:=m.tcell ht 7 (by decide)
 have a8:=m.tcell ht 8 (by decide)
 have a9:=m.tcell ht 9 (by decide)
 have a10:=m.tcell ht 10 (by decide)
 have a11:=m.tcell ht 11 (by decide)
 have a12:=m.tcell ht 12 (by decide)
 simp [rtCells] at a0 a1 a2 a3 a4 a5 a6 a7 a8 a9 a10 a11 a12
 have M:=hid m
 have G:=hid g
 clear m g
 generalize s.T[t]=x at *
 go_enter Tryz.func87,Tryz.ntmps87
 go_wp2_with fail
 refine (rLevelOf_any F _ sb h s (M.out.below (((((Below.refl _ _).alloc (Nat.le_refl _) _).alloc (by simp) _)).alloc (by simp; omega) _)) G.out t ht).mono ?_
 rintro e w1 ⟨rfl,rfl⟩
 clear a0 a1 a2 a3 a4 a5 a6 a7 a8 a9 a10 a11 a12 c8
 generalize hlv:R.Level s t=lv at *
 have HLV:=hid hlv
 clear hlv
 have fin:∀ (st:Int),R.stateOf x=st->viewV x lv=.agg #[.int .i64 st,.int .i64 x.base,.int .i64 lv,.int .i64 x.at_,.int .i64 x.last,.int .i64 x.got,.int .i64 x.rel,.int .i64 x.ended,.int .i64 x.for_,.int .i64 x.of_,.int .i64 x.until_]:=by
  intro st e
  unfold viewV
  rw [e]
 have FIN:=hid fin
 clear fin
 cases hf:(x.for_ != 0)
 ·have HF:=hid hf
  by_cases hw:0<=x.wkr
  ·go_wp2
   refine bodyPost_ret (v:=.tuple #[viewV x lv,.int .i64 0]) ?_ rfl ⟨by rw [HLV.out],(((Below.refl _ _).alloc (Nat.le_refl _) _).alloc (by simp) _).alloc (by simp; omega) _⟩
   rw [FIN.out 2 (by have:=HF.out; simp at this; simp [R.stateOf,this,hw])]
   simp [results,Tryz.results87,go_sem]
  ·cases ha:x.awake
   ·have HA:=hid ha
    go_wp2
    refine bodyPost_ret (v:=.tuple #[viewV x lv,.int .i64 0]) ?_ rfl ⟨by rw [HLV.out],(((Below.refl _ _).alloc (Nat.le_refl _) _).alloc (by simp) _).alloc (by simp; omega) _⟩
    rw [FIN.out 0 (by have:=HF.out; simp at this; have h2:¬ 0<=x.wkr:=(by omega); simp [R.stateOf,this,h2,HA.out])]
    simp [results,Tryz.results87,go_sem]
   ·have HA:=hid ha
    go_wp2
    refine bodyPost_ret (v:=.tuple #[viewV x lv,.int .i64 0]) ?_ rfl ⟨by rw [HLV.out],(((Below.refl _ _).alloc (Nat.le_refl _) _).alloc (by simp) _).alloc (by simp; omega) _⟩
    rw [FIN.out 1 (by have:=HF.out; simp at this; have h2:¬ 0<=x.wkr:=(by omega); simp [R.stateOf,this,h2,HA.out])]
    simp [results,Tryz.results87,go_sem]
 ·have HF:=hid hf
  go_wp2
  refine bodyPost_ret (v:=.tuple #[viewV x lv,.int .i64 0]) ?_ rfl ⟨by rw [HLV.out],(((Below.refl _ _).alloc (Nat.le_refl _) _).alloc (by simp) _).alloc (by simp; omega) _⟩
  rw [FIN.out 3 (by have:=HF.out; simp at this; simp [R.stateOf,this])]
  simp [results,Tryz.results87,go_sem]
end Go.Proofs.YtbkfildnijjioaaGreat

namespace Go.Proofs.YtbkfildnijjioaaGreat
open Go.RowKit
set_option maxRecDepth 100000 in
set_option maxHeartbeats 2000000 in
theorem rWaiting_any (F:Nat->Prop) (w:World) (sb:Nat) (h:RH) (s:RS) (m:RMem F w sb h s) (g:RGood s) (hc4:s.count.length<=4) (hq4:s.box.length<=4) (what i:Int) :
  Calls Tryz.prog 83 #[.pointer (some ⟨sb,0,none⟩),.int .i64 what,.int .i64 i] w fun e w'=>Below w.heap.size w w' /\
   (((i < 0\/R.things s what<=i)/\e=.returned (.tuple #[.slice none 0 0,.int .i64 7])) \/
   (¬ (i < 0\/R.things s what<=i)/\∃ v,e=.returned (.tuple #[v,.int .i64 0])/\w'.ownsRow w.heap.size 3 1 v (R.waiting s what i).length (intCells (R.waiting s what i)))):=by
 have hfew:=g.few
 have hol:=g.own
 have hmf:=g.mfew
 have c8:=m.blk.cell 8
 have c9:=m.blk.cell 9
 have c10:=m.blk.cell 10
 have c11:=m.blk.cell 11
 simp [rsCells] at c8 c9 c10 c11
 obtain ⟨ao,co,hvO,_,_⟩:=owns_cells m.oth.own
 obtain ⟨ac,cc,hvC,_,_⟩:=owns_cells m.oth.cnt
 obtain ⟨ab,cb,hvB,_,_⟩:=owns_cells m.oth.box.1
 rw [hvO] at c9
 rw [hvC] at c10
 rw [hvB] at c11
 have M:=hid m
 have G:=hid g
 have ETH:Hid (R.things s what=if what=1 then (s.owner.length:Int) else if what=2 then (s.count.length:Int) else if what=3 then (s.box.length:Int) else 0):=rfl
 clear m g hvO hvC hvB
 generalize R.things s what=n at *
 obtain ⟨i3,hi3,hz30,hz31,hz32⟩:=info_parts Tryz.infoInt
 have HI3:=hid (And.intro hi3 (And.intro hz30 (And.intro hz31 hz32)))
 clear hi3 hz30 hz31 hz32
 have hn:n<=8/\0<=n:=by
  have:=ETH.out
  split at this
  ·omega
  ·split at this
   ·omega
   ·split at this <;> omega
 go_enter Tryz.func83,Tryz.ntmps83
 by_cases h1:what=1
 ·subst h1
  have HN:Hid (n=(s.owner.length:Int)):=by rw [ETH.out]; exact hid rfl
  clear ETH
  by_cases hneg:i < 0
  ·go_wp2
   go_ret2
   exact ⟨Below.refl _ _,.inl ⟨.inl hneg,rfl⟩⟩
  ·by_cases hge:(s.owner.length:Int)<=i
   ·go_wp2
    go_ret2
    exact ⟨Below.refl _ _,.inl ⟨.inr (by rw [HN.out]; exact hge),rfl⟩⟩
   ·have hno:¬ (i < 0\/n<=i):=by rw [HN.out]; omega
    have HNO:=hid hno
    clear hno
    go_wp2
    go_loopw [9] (fun v wr=>∃ j:Nat,j<=s.T.length + 1/\(R.waitTo s 1 i j).length=j/\wr.ownsRow w.heap.size 3 1 v j (intCells (R.waitTo s 1 i j))/\Below w.heap.size w wr) (fun v _=>s.T.length + 1 - lenV v)
    case atStart=>exact ⟨0,Nat.zero_le _,rfl,World.ownsRow_nil _ _ _ _,Below.refl _ _⟩
    case round =>
     obtain ⟨j,hj,hlen,hrow,hb⟩:=hrel
     have hrow':wr.ownsRow w.heap.size 3 1 u9 (R.waitTo s 1 i j).length (intCells (R.waitTo s 1 i j)):=by rw [hlen]; exact hrow
     obtain ⟨lv,lc,rfl,hln,hli,hla⟩:=IntsIn.of_owns hrow'
     have HLI:=hid hli
     have ROW:=hid hrow
     have HB:=hid hb
     have hsz:=hb.size
     have MK:=hid (M.out.below hb)
     have c8':=MK.out.blk.cell 8
     simp [rsCells] at c8'
     have ES:Hid (R.waitTo s 1 i (j + 1)=if R.first s 1 i (R.waitTo s 1 i j) < 0 then R.waitTo s 1 i j else R.waitTo s 1 i j ++ [R.first s 1 i (R.waitTo s 1 i j)]):=rfl
     have STOP:=hid (R.waitTo_stop s 1 i j)
     have FB:=R.firstTo_bd s 1 i (R.waitTo s 1 i j) s.T.length
     have HFB:=hid FB
     have FR:=hid (rFirst_any F wr sb h s MK.out G.out 1 i lv lc (R.waitTo s 1 i j) hli (by omega))
     have EF:R.first s 1 i (R.waitTo s 1 i j)=R.firstTo s 1 i (R.waitTo s 1 i j) s.T.length:=rfl
     rw [<- EF] at FB
     have EW:Hid (R.waiting s 1 i=R.waitTo s 1 i (s.T.length + 1)):=rfl
     clear hrow hrow' hli hla hb EF
     generalize hL:R.waitTo s 1 i j=L at *
     have HL:=hid hL
     clear hL
     subst hlen
     have hLI:(L.length:Int)<=17:=by omega
     by_cases hjl:L.length < s.T.length + 1
     ·have hjI:(L.length:Int)<=(s.T.length:Int):=by omega
      go_wp2_with fail
      refine FR.out.mono ?_
      rintro e w1 ⟨rfl,nd,rfl⟩
      have ROW1:Hid ((wr.drewN nd).ownsRow w.heap.size 3 1 (.slice lv L.length lc) L.length (intCells L)):=ROW.out
      have HB1:Hid (Below w.heap.size w (wr.drewN nd)):=bdrewN HB.out nd
      have hsz1:w.heap.size<=(wr.drewN nd).heap.size:=hsz
      clear ROW HB c8' FR HLI MK
      generalize wr.drewN nd=w1 at *
      generalize hfi:R.first s 1 i L=fi at *
      have HFI:=hid hfi
      clear hfi
      by_cases hfn:fi < 0
      ·rw [if_pos hfn] at ES
       go_wp2
       go_ret2
       have e:R.waiting s 1 i=L:=by
        rw [EW.out]
        have hst:=STOP.out hfn (s.T.length + 1 - L.length)
        rw [show L.length + (s.T.length + 1 - L.length)=s.T.length + 1 by omega] at hst
        exact hst
       refine ⟨HB1.out,.inr ⟨HNO.out,.slice lv L.length lc,rfl,?_⟩⟩
       rw [e]
       exact ROW1.out
      ·rw [if_neg hfn] at ES
       go_wp2_with (at_builtin; refine wpList_append_src rfl (.tmp 55) (.tmp 57) 25 rfl w.heap.size 3 i3 (.int .i64 0) 1 8 Tryz.underlying25 HI3.out.1 HI3.out.2.1 HI3.out.2.2.1 HI3.out.2.2.2 rfl (by decide) (.slice lv L.length lc) L.length (intCells L) rfl (ROW1.out.alloc _) (some ⟨w1.heap.size,0,none⟩) 1 1 [.int .i64 fi] rfl rfl (fun h=>(by cases h)) (fun j u hj=>⟨_,rfl,(by rw [Addr.add_lit,Nat.zero_add,(Blk.new w1 #[.int .i64 fi] 3).cell]; simpa using hj)⟩) (by intro u hu; simp at hu; subst hu; rfl) (by unfold maxLen; omega) (by omega) (by simp; omega) ?_; intro v' w2 hown2 hg2; obtain ⟨tv5,tc5,rfl,_,_⟩:=owns_cells hown2; have O2:=hid hown2; have G2:=hid hg2; clear hown2 hg2)
       go_roundw
       case rel =>
        refine ⟨L.length + 1,by omega,by rw [ES.out]; simp,?_,(HB1.out.alloc (by omega) _).grown G2.out (by simp; omega) (fun g hg=>(ownsRow_block ROW1.out hg).1)⟩
        rw [ES.out,intCells_append]
        exact O2.out
       case measure=>simp [lenV]; omega
     ·have e:L.length=s.T.length + 1:=by omega
      have e2:R.waiting s 1 i=L:=by
       rw [EW.out,<- e]
       exact HL.out
      go_wp2
      go_ret2
      refine ⟨HB.out,.inr ⟨HNO.out,.slice lv L.length lc,rfl,?_⟩⟩
      rw [e2]
      exact ROW.out
 by_cases h2:what=2
 ·subst h2
  have HN:Hid (n=(s.count.length:Int)):=by rw [ETH.out]; exact hid rfl
  clear ETH
  by_cases hneg:i < 0
  ·go_wp2
   go_ret2
   exact ⟨Below.refl _ _,.inl ⟨.inl hneg,rfl⟩⟩
  ·by_cases hge:(s.count.length:Int)<=i
   ·go_wp2
    go_ret2
    exact ⟨Below.refl _ _,.inl ⟨.inr (by rw [HN.out]; exact hge),rfl⟩⟩
   ·have hno:¬ (i < 0\/n<=i):=by rw [HN.out]; omega
    have HNO:=hid hno
    clear hno
    go_wp2
    go_loopw [9] (fun v wr=>∃ j:Nat,j<=s.T.length + 1/\(R.waitTo s 2 i j).length=j/\wr.ownsRow w.heap.size 3 1 v j (intCells (R.waitTo s 2 i j))/\Below w.heap.size w wr) (fun v _=>s.T.length + 1 - lenV v)
    case atStart=>exact ⟨0,Nat.zero_le _,rfl,World.ownsRow_nil _ _ _ _,Below.refl _ _⟩
    case round =>
     obtain ⟨j,hj,hlen,hrow,hb⟩:=hrel
     have hrow':wr.ownsRow w.heap.size 3 1 u9 (R.waitTo s 2 i j).length (intCells (R.waitTo s 2 i j)):=by rw [hlen]; exact hrow
     obtain ⟨lv,lc,rfl,hln,hli,hla⟩:=IntsIn.of_owns hrow'
     have HLI:=hid hli
     have ROW:=hid hrow
     have HB:=hid hb
     have hsz:=hb.size
     have MK:=hid (M.out.below hb)
     have c8':=MK.out.blk.cell 8
     simp [rsCells] at c8'
     have ES:Hid (R.waitTo s 2 i (j + 1)=if R.first s 2 i (R.waitTo s 2 i j) < 0 then R.waitTo s 2 i j else R.waitTo s 2 i j ++ [R.first s 2 i (R.waitTo s 2 i j)]):=rfl
     have STOP:=hid (R.waitTo_stop s 2 i j)
     have FB:=R.firstTo_bd s 2 i (R.waitTo s 2 i j) s.T.length
     have HFB:=hid FB
     have FR:=hid (rFirst_any F wr sb h s MK.out G.out 2 i lv lc (R.waitTo s 2 i j) hli (by omega))
     have EF:R.first s 2 i (R.waitTo s 2 i j)=R.firstTo s 2 i (R.waitTo s 2 i j) s.T.length:=rfl
     rw [<- EF] at FB
     have EW:Hid (R.waiting s 2 i=R.waitTo s 2 i (s.T.length + 1)):=rfl
     clear hrow hrow' hli hla hb EF
     generalize hL:R.waitTo s 2 i j=L at *
     have HL:=hid hL
     clear hL
     subst hlen
     have hLI:(L.length:Int)<=17:=by omega
     by_cases hjl:L.length < s.T.length + 1
     ·have hjI:(L.length:Int)<=(s.T.length:Int):=by omega
      go_wp2_with fail
      refine FR.out.mono ?_
      rintro e w1 ⟨rfl,nd,rfl⟩
      have ROW1:Hid ((wr.drewN nd).ownsRow w.heap.size 3 1 (.slice lv L.length lc) L.length (intCells L)):=ROW.out
      have HB1:Hid (Below w.heap.size w (wr.drewN nd)):=bdrewN HB.out nd
      have hsz1:w.heap.size<=(wr.drewN nd).heap.size:=hsz
      clear ROW HB c8' FR HLI MK
      generalize wr.drewN nd=w1 at *
      generalize hfi:R.first s 2 i L=fi at *
      have HFI:=hid hfi
      clear hfi
      by_cases hfn:fi < 0
      ·rw [if_pos hfn] at ES
       go_wp2
       go_ret2
       have e:R.waiting s 2 i=L:=by
        rw [EW.out]
        have hst:=STOP.out hfn (s.T.length + 1 - L.length)
        rw [show L.length + (s.T.length + 1 - L.length)=s.T.length + 1 by omega] at hst
        exact hst
       refine ⟨HB1.out,.inr ⟨HNO.out,.slice lv L.length lc,rfl,?_⟩⟩
       rw [e]
       exact ROW1.out
      ·rw [if_neg hfn] at ES
       go_wp2_with (at_builtin; refine wpList_append_src rfl (.tmp 55) (.tmp 57) 25 rfl w.heap.size 3 i3 (.int .i64 0) 1 8 Tryz.underlying25 HI3.out.1 HI3.out.2.1 HI3.out.2.2.1 HI3.out.2.2.2 rfl (by decide) (.slice lv L.length lc) L.length (intCells L) rfl (ROW1.out.alloc _) (some ⟨w1.heap.size,0,none⟩) 1 1 [.int .i64 fi] rfl rfl (fun h=>(by cases h)) (fun j u hj=>⟨_,rfl,(by rw [Addr.add_lit,Nat.zero_add,(Blk.new w1 #[.int .i64 fi] 3).cell]; simpa using hj)⟩) (by intro u hu; simp at hu; subst hu; rfl) (by unfold maxLen; omega) (by omega) (by simp; omega) ?_; intro v' w2 hown2 hg2; obtain ⟨tv5,tc5,rfl,_,_⟩:=owns_cells hown2; have O2:=hid hown2; have G2:=hid hg2; clear hown2 hg2)
       go_roundw
       case rel =>
        refine ⟨L.length + 1,by omega,by rw [ES.out]; simp,?_,(HB1.out.alloc (by omega) _).grown G2.out (by simp; omega) (fun g hg=>(ownsRow_block ROW1.out hg).1)⟩
        rw [ES.out,intCells_append]
        exact O2.out
       case measure=>simp [lenV]; omega
     ·have e:L.length=s.T.length + 1:=by omega
      have e2:R.waiting s 2 i=L:=by
       rw [EW.out,<- e]
       exact HL.out
      go_wp2
      go_ret2
      refine ⟨HB.out,.inr ⟨HNO.out,.slice lv L.length lc,rfl,?_⟩⟩
      rw [e2]
      exact ROW.out
 by_cases h3:what=3
 ·subst h3
  have HN:Hid (n=(s.box.length:Int)):=by rw [ETH.out]; exact hid rfl
  clear ETH
  by_cases hneg:i < 0
  ·go_wp2
   go_ret2
   exact ⟨Below.refl _ _,.inl ⟨.inl hneg,rfl⟩⟩
  ·by_cases hge:(s.box.length:Int)<=i
   ·go_wp2
    go_ret2
    exact ⟨Below.refl _ _,.inl ⟨.inr (by rw [HN.out]; exact hge),rfl⟩⟩
   ·have hno:¬ (i < 0\/n<=i):=by rw [HN.out]; omega
    have HNO:=hid hno
    clear hno
    go_wp2
    go_loopw [9] (fun v wr=>∃ j:Nat,j<=s.T.length + 1/\(R.waitTo s 3 i j).length=j/\wr.ownsRow w.heap.size 3 1 v j (intCells (R.waitTo s 3 i j))/\Below w.heap.size w wr) (fun v _=>s.T.length + 1 - lenV v)
    case atStart=>exact ⟨0,Nat.zero_le _,rfl,World.ownsRow_nil _ _ _ _,Below.refl _ _⟩
    case round =>
     obtain ⟨j,hj,hlen,hrow,hb⟩:=hrel
     have hrow':wr.ownsRow w.heap.size 3 1 u9 (R.waitTo s 3 i j).length (intCells (R.waitTo s 3 i j)):=by rw [hlen]; exact hrow
     obtain ⟨lv,lc,rfl,hln,hli,hla⟩:=IntsIn.of_owns hrow'
     have HLI:=hid hli
     have ROW:=hid hrow
     have HB:=hid hb
     have hsz:=hb.size
     have MK:=hid (M.out.below hb)
     have c8':=MK.out.blk.cell 8
     simp [rsCells] at c8'
     have ES:Hid (R.waitTo s 3 i (j + 1)=if R.first s 3 i (R.waitTo s 3 i j) < 0 then R.waitTo s 3 i j else R.waitTo s 3 i j ++ [R.first s 3 i (R.waitTo s 3 i j)]):=rfl
     have STOP:=hid (R.waitTo_stop s 3 i j)
     have FB:=R.firstTo_bd s 3 i (R.waitTo s 3 i j) s.T.length
     have HFB:=hid FB
     have FR:=hid (rFirst_any F wr sb h s MK.out G.out 3 i lv lc (R.waitTo s 3 i j) hli (by omega))
     have EF:R.first s 3 i (R.waitTo s 3 i j)=R.firstTo s 3 i (R.waitTo s 3 i j) s.T.length:=rfl
     rw [<- EF] at FB
     have EW:Hid (R.waiting s 3 i=R.waitTo s 3 i (s.T.length + 1)):=rfl
     clear hrow hrow' hli hla hb EF
     generalize hL:R.waitTo s 3 i j=L at *
     have HL:=hid hL
     clear hL
     subst hlen
     have hLI:(L.length:Int)<=17:=by omega
     by_cases hjl:L.length < s.T.length + 1
     ·have hjI:(L.length:Int)<=(s.T.length:Int):=by omega
      go_wp2_with fail
      refine FR.out.mono ?_
      rintro e w1 ⟨rfl,nd,rfl⟩
      have ROW1:Hid ((wr.drewN nd).ownsRow w.heap.size 3 1 (.slice lv L.length lc) L.length (intCells L)):=ROW.out
      have HB1:Hid (Below w.heap.size w (wr.drewN nd)):=bdrewN HB.out nd
      have hsz1:w.heap.size<=(wr.drewN nd).heap.size:=hsz
      clear ROW HB c8' FR HLI MK
      generalize wr.drewN nd=w1 at *
      generalize hfi:R.first s 3 i L=fi at *
      have HFI:=hid hfi
      clear hfi
      by_cases hfn:fi < 0
      ·rw [if_pos hfn] at ES
       go_wp2
       go_ret2
       have e:R.waiting s 3 i=L:=by
        rw [EW.out]
        have hst:=STOP.out hfn (s.T.length + 1 - L.length)
        rw [show L.length + (s.T.length + 1 - L.length)=s.T.length + 1 by omega] at hst
        exact hst
       refine ⟨HB1.out,.inr ⟨HNO.out,.slice lv L.length lc,rfl,?_⟩⟩
       rw [e]
       exact ROW1.out
      ·rw [if_neg hfn] at ES
       go_wp2_with (at_builtin; refine wpList_append_src rfl (.tmp 55) (.tmp 57) 25 rfl w.heap.size 3 i3 (.int .i64 0) 1 8 Tryz.underlying25 HI3.out.1 HI3.out.2.1 HI3.out.2.2.1 HI3.out.2.2.2 rfl (by decide) (.slice lv L.length lc) L.length (intCells L) rfl (ROW1.out.alloc _) (some ⟨w1.heap.size,0,none⟩) 1 1 [.int .i64 fi] rfl rfl (fun h=>(by cases h)) (fun j u hj=>⟨_,rfl,(by rw [Addr.add_lit,Nat.zero_add,(Blk.new w1 #[.int .i64 fi] 3).cell]; simpa using hj)⟩) (by intro u hu; simp at hu; subst hu; rfl) (by unfold maxLen; omega) (by omega) (by simp; omega) ?_; intro v' w2 hown2 hg2; obtain ⟨tv5,tc5,rfl,_,_⟩:=owns_cells hown2; have O2:=hid hown2; have G2:=hid hg2; clear hown2 hg2)
       go_roundw
       case rel =>
        refine ⟨L.length + 1,by omega,by rw [ES.out]; simp,?_,(HB1.out.alloc (by omega) _).grown G2.out (by simp; omega) (fun g hg=>(ownsRow_block ROW1.out hg).1)⟩
        rw [ES.out,intCells_append]
        exact O2.out
       case measure=>simp [lenV]; omega
     ·have e:L.length=s.T.length + 1:=by omega
      have e2:R.waiting s 3 i=L:=by
       rw [EW.out,<- e]
       exact HL.out
      go_wp2
      go_ret2
      refine ⟨HB.out,.inr ⟨HNO.out,.slice lv L.length lc,rfl,?_⟩⟩
      rw [e2]
      exact ROW.out
 ·have HN:Hid (n=0):=by rw [ETH.out,if_neg h1,if_neg h2,if_neg h3]; exact hid rfl
  have e1:(what == 1)=false:=by simpa using h1
  have e2:(what == 2)=false:=by simpa using h2
  have e3:(what == 3)=false:=by simpa using h3
  clear ETH
  by_cases hneg:i < 0
  ·go_wp2
   go_ret2
   exact ⟨Below.refl _ _,.inl ⟨.inl hneg,rfl⟩⟩
  ·have hge:(0:Int)<=i:=by omega
   go_wp2
   go_ret2
   exact ⟨Below.refl _ _,.inl ⟨.inr (by rw [HN.out]; exact hge),rfl⟩⟩
end Go.Proofs.YtbkfildnijjioaaGreat

namespace Go.Proofs.YtbkfildnijjioaaGreat
open Go.RowKit
def Kb (F:Nat->Prop) (sb:Nat) (h:RH) (b:Nat):Prop:=F b\/b ∈ sb :: h.foot\/h.vM.ownBlock=some b
structure RK (Q:Nat->Prop) (w:World) (sb:Nat) (s:RS):Prop where
 mem:∃ F h,RMem F w sb h s/\RApart F h/\∀ b,Kb F sb h b->Q b
 lt:∀ b,Q b->b < w.heap.size
 inv:RInv s
theorem Kb.lt {F:Nat->Prop} {w:World} {sb:Nat} {h:RH} {s:RS} (m:RMem F w sb h s):∀ b,Kb F sb h b->b < w.heap.size:=by
 rintro b (hb | hb | hb)
 ·exact m.lt b hb
 ·exact m.foot_lt b hb
 ·exact (ownsRow_block m.oth.mis hb).2.1
theorem RMem.frame {F:Nat->Prop} {w w':World} {sb:Nat} {h:RH} {s:RS} (m:RMem F w sb h s) (hs:∀ b,Kb F sb h b->w'.heap[b]?=w.heap[b]?) (hz:w.heap.size<=w'.heap.size):RMem F w' sb h s:=by
 have foot:∀ b,b ∈ sb :: h.foot->w'.heap[b]?=w.heap[b]?:=fun b hb=>hs b (.inr (.inl hb))
 refine ⟨?_,?_,m.set.same fun b hb=>hs b (.inl hb),⟨?_,?_,?_,?_,fun i hi=>?_⟩,m.nsb,m.nT,fun b hb=>Nat.lt_of_lt_of_le (m.lt b hb) hz⟩
 ·have:=m.blk
  unfold Blk at this ⊢
  rw [foot sb (by simp)]
  exact this
 ·refine ownsRow_same m.rows fun g hg=>?_
  cases hg
  exact foot _ (by simp [RH.foot])
 ·exact ownsRow_same m.oth.own fun g hg=>foot g (by simp [RH.foot,hg])
 ·exact ownsRow_same m.oth.cnt fun g hg=>foot g (by simp [RH.foot,hg])
 ·exact ownsRow_same m.oth.mis fun g hg=>hs g (.inr (.inr hg))
 ·exact ownsRow_same m.oth.box.1 fun g hg=>foot g (by simp [RH.foot,hg])
 ·obtain ⟨v,hv,hr⟩:=m.oth.box.2 i hi
  refine ⟨v,hv,ownsRow_same hr fun g hg=>foot g ?_⟩
  simp only [RH.foot,List.mem_cons,List.mem_append,List.mem_flatMap,Option.mem_toList]
  exact .inr (.inr (.inr ⟨v,List.mem_of_getElem? hv,hg⟩))
section
variable {Q:Nat->Prop} {w w':World} {sb:Nat} {s:RS}
theorem RK.frame (k:RK Q w sb s) (hs:∀ b,Q b->w'.heap[b]?=w.heap[b]?) (hz:w.heap.size<=w'.heap.size):RK Q w' sb s:=by
 obtain ⟨F,h,m,a,hq⟩:=k.mem
 exact ⟨⟨F,h,m.frame (fun b hb=>hs b (hq b hb)) hz,a,hq⟩,fun b hb=>Nat.lt_of_lt_of_le (k.lt b hb) hz,k.inv⟩
theorem RK.below (k:RK Q w sb s) (hb:Below w.heap.size w w'):RK Q w' sb s:=k.frame (fun b h=>hb.block b (k.lt b h)) hb.size
end
theorem rkNew_any (tv mv sv qv:Option Addr) (tc mc sc qc:Nat) (S:SetD) (w:World) (hS:SetIn w.heap.size w tv mv sv qv S) (hF:Fits S) (hnil:(tv=none->tc=0)/\(mv=none->mc=0)/\(sv=none->sc=0)/\(qv=none->qc=0)) (hok:P3.err S=0) :
  Calls Tryz.prog 28 #[.agg #[.int .i64 S.workers,.int .i64 S.start,.slice tv S.threads.length tc,.slice mv S.mutexes.length mc,.slice sv S.sems.length sc,.slice qv S.queues.length qc]] w fun e w' =>
   ∃ sb Q,e=.returned (.pointer (some ⟨sb,0,none⟩))/\RK Q w' sb (R.new S)/\(∀ b,Q b->w.heap.size<=b)/\Below w.heap.size w w':=by
 refine (rNew_any tv mv sv qv tc mc sc qc S w hS hF hnil hok).mono ?_
 rintro e w' ⟨sb,h,F,rfl,m,a,r,hb⟩
 refine ⟨sb,Kb F sb h,rfl,⟨⟨F,h,m,a,fun b hb=>hb⟩,Kb.lt m,inv_new hok⟩,fun b hb=>?_,hb⟩
 rcases hb with hb | hb | hb
 ·exact r.f b hb
 ·simp only [RH.foot,List.mem_cons,List.mem_append,List.mem_flatMap,Option.mem_toList] at hb
  rcases hb with rfl | rfl | ((hb | hb) | hb) | ⟨u,hu,hb⟩
  ·exact r.sb
  ·exact r.t
  ·exact r.o b hb
  ·exact r.c b hb
  ·exact r.b b hb
  ·obtain ⟨j,hj,e⟩:=List.getElem_of_mem hu
   exact r.bs j u b (by rw [List.getElem?_eq_getElem hj,e]) hb
 ·exact r.m b hb
theorem rkPick_any (Q:Nat->Prop) (w:World) (sb:Nat) (s:RS) (k:RK Q w sb s) (wk:Int) (hnx:s.next<=4611686018427386000) :
  Calls Tryz.prog 30 #[.pointer (some ⟨sb,0,none⟩),.int .i64 wk] w fun e w' =>
   e=.returned (.tuple #[.agg #[.int .i64 (R.pickT s wk),.int .i64 (R.pickA s wk),.int .i64 (R.pickC s wk)],.int .i64 (R.pickE s wk)]) /\
   ∃ Q',RK Q' w' sb (R.pickS s wk)/\(∀ b,Q' b->Q b\/w.heap.size<=b)/\Turns Q w w':=by
 obtain ⟨F,h,m,a,hq⟩:=k.mem
 have inv:=k.inv.toRMid
 refine (rPick_any F w sb h s m a inv.good inv.links inv.store inv.code wk hnx).mono ?_
 rintro e w' ⟨rfl,h',m',a',nx,ho⟩
 refine ⟨rfl,Kb F sb h',⟨⟨F,h',m',a',fun b hb=>hb⟩,Kb.lt m',k.inv.pick wk hnx⟩,fun b hb=>?_,Turns.of_only ho (fun b hb=>hq b (.inr (.inl hb)))⟩
 rcases hb with hb | hb | hb
 ·exact .inl (hq b (.inl hb))
 ·rcases List.mem_cons.1 hb with rfl | hb
  ·exact .inl (hq b (.inr (.inl (by simp))))
  ·rcases nx.all b hb with h1 | h1
   ·exact .inl (hq b (.inr (.inl (List.mem_cons_of_mem _ h1))))
   ·exact .inr h1
 ·rcases nx.m b hb with h1 | h1
  ·exact .inl (hq b (.inr (.inr h1)))
  ·exact .inr h1
theorem rkTick_any (Q:Nat->Prop) (w:World) (sb:Nat) (s:RS) (k:RK Q w sb s) (hnx:s.next<=4611686018427386000) :
  Calls Tryz.prog 29 #[.pointer (some ⟨sb,0,none⟩)] w fun e w' =>
   (s.now=1000000000/\e=.returned (.tuple #[.slice none 0 0,.int .i64 8])/\w'=w) \/
   (s.now < 1000000000/\∃ l Q',e=.returned (.tuple #[l,.int .i64 0])/\w'.ownsRow w.heap.size 95 3 l (R.late (R.ticked s)).length (missCells (R.late (R.ticked s)))/\RK Q' w' sb (R.tick s) /\
    (∀ b,Q' b->Q b\/w.heap.size<=b)/\(∀ b,l.ownBlock=some b->¬ Q' b)/\Turns Q w w'):=by
 obtain ⟨F,h,m,a,hq⟩:=k.mem
 have inv:=k.inv.toRMid
 have hmis:s.missed.length<=16000000000:=by
  have:=inv.mis
  have:=inv.good.now0
  have:=inv.good.now1
  have:=inv.good.now2
  omega
 refine (rTick_any F w sb h s m a inv.good hmis hnx).mono ?_
 rintro e w' (⟨h1,rfl,rfl⟩ | ⟨h1,l,vM,rfl,hl,m',hv,ho⟩)
 ·exact .inl ⟨h1,rfl,rfl⟩
 ·refine .inr ⟨h1,l,Kb F sb { h with vM:=vM },rfl,hl,⟨⟨F,_,m',⟨a.o,a.c,fun g hg=>?_,a.b,a.bs⟩,fun b hb=>hb⟩,Kb.lt m',k.inv.tick h1 hnx⟩,fun b hb=>?_,fun b hb hk=>?_,?_⟩
  ·rcases hv with hv | ⟨b,hv,hb,_⟩
   ·rw [hv] at hg
    exact a.m g hg
   ·intro hf
    rw [hv] at hg
    cases hg
    have:=m.lt _ hf
    omega
  ·rcases hb with hb | hb | hb
   ·exact .inl (hq b (.inl hb))
   ·exact .inl (hq b (.inr (.inl hb)))
   ·rcases hv with hv | ⟨b',hv,hb',_⟩
    ·have hb2:vM.ownBlock=some b:=hb
     rw [hv] at hb2
     exact .inl (hq b (.inr (.inr hb2)))
    ·have hb2:vM.ownBlock=some b:=hb
     rw [hv] at hb2
     cases hb2
     exact .inr hb'
  ·have hge:=(ownsRow_block hl hb).1
   rcases hk with hk | hk | hk
   ·have:=m.lt b hk
    omega
   ·have:=m.foot_lt b hk
    omega
   ·have hb2:vM.ownBlock=some b:=hk
    rcases hv with hv | ⟨b',hv,_,hn⟩
    ·rw [hv] at hb2
     have:=(ownsRow_block m.oth.mis hb2).2.1
     omega
    ·rw [hv] at hb2
     cases hb2
     exact hn hb
  ·refine Turns.of_only ho fun b hb=>?_
   simp at hb
   rcases hb with rfl | rfl | hb
   ·exact hq b (.inr (.inl (by simp)))
   ·exact hq _ (.inr (.inl (by simp [RH.foot])))
   ·exact hq b (.inr (.inr hb))
end Go.Proofs.YtbkfildnijjioaaGreat

namespace Go.Proofs.YtbkfildnijjioaaGreat
open Go.RowKit
set_option maxHeartbeats 400000 in
theorem sameInts_eq (w:World) (ao bo:Option Addr) (ca cb:Nat) (l:List Int) (ha:IntsIn w.heap.size w ao l) (hb:IntsIn w.heap.size w bo l) (hl:l.length<=1099511627776) :
  Calls Tryz.prog 36 #[.slice ao l.length ca,.slice bo l.length cb] w fun e w'=>e=.returned (.bool true)/\∃ n,w'=w.drewN n:=by
 have HA:=hid ha
 have HB:=hid hb
 clear ha hb
 go_enter Tryz.func36,Tryz.ntmps36
 go_wp2
 go_loopw [5] (fun i wr=>∃ k:Nat,k<=l.length/\i=.int .i64 k/\∃ n,wr=w.drewN n) (fun i _=>l.length - (intOf i).toNat)
 case atStart=>exact ⟨0,Nat.zero_le _,rfl,0,rfl⟩
 case round =>
  obtain ⟨k,hk,rfl,n,rfl⟩:=hrel
  by_cases hlt:k < l.length
  ·obtain ⟨b1,o1,rfl,_,x1⟩:=HA.out k hlt
   obtain ⟨b2,o2,rfl,_,x2⟩:=HB.out k hlt
   have hkI:(k:Int) < (l.length:Int):=by omega
   go_wp2_with fail
   go_quiet (fail)
   go_wp2
   go_roundw
   case rel=>exact ⟨k + 1,by omega,by go_num,_,rfl⟩
   case measure=>simp [intOf]; omega
  ·go_wp2
   go_ret
   exact ⟨rfl,_,rfl⟩
set_option maxHeartbeats 400000 in
theorem sameMisses_eq (w:World) (ao bo:Option Addr) (ca cb:Nat) (l:List MissD) (ha:MissesIn w.heap.size w ao l) (hb:MissesIn w.heap.size w bo l) (hl:l.length<=1099511627776) :
  Calls Tryz.prog 77 #[.slice ao l.length ca,.slice bo l.length cb] w fun e w'=>e=.returned (.bool true)/\∃ n,w'=w.drewN n:=by
 have HA:=hid ha
 have HB:=hid hb
 clear ha hb
 go_enter Tryz.func77,Tryz.ntmps77
 go_wp2
 go_loopw [5] (fun i wr=>∃ k:Nat,k<=l.length/\i=.int .i64 k/\∃ n,wr=w.drewN n) (fun i _=>l.length - (intOf i).toNat)
 case atStart=>exact ⟨0,Nat.zero_le _,rfl,0,rfl⟩
 case round =>
  obtain ⟨k,hk,rfl,n,rfl⟩:=hrel
  by_cases hlt:k < l.length
  ·obtain ⟨b1,o1,rfl,_,x1,y1,z1⟩:=HA.out k hlt
   obtain ⟨b2,o2,rfl,_,x2,y2,z2⟩:=HB.out k hlt
   have hkI:(k:Int) < (l.length:Int):=by omega
   generalize l[k]=m at *
   go_wp2_with fail
   go_quiet (fail)
   go_wp2
   go_roundw
   case rel=>exact ⟨k + 1,by omega,by go_num,_,rfl⟩
   case measure=>simp [intOf]; omega
  ·go_wp2
   go_ret
   exact ⟨rfl,_,rfl⟩
set_option maxHeartbeats 400000 in
theorem sameReport_eq (w:World) (a b c:Int) :
  Calls Tryz.prog 76 #[.agg #[.int .i64 a,.int .i64 b,.int .i64 c],.agg #[.int .i64 a,.int .i64 b,.int .i64 c]] w fun e w'=>e=.returned (.bool true)/\Below w.heap.size w w':=by
 go_enter Tryz.func76,Tryz.ntmps76
 go_wp2
 go_ret
 exact ⟨rfl,((Below.refl _ _).alloc (Nat.le_refl _) _).alloc (by simp) _⟩
set_option maxHeartbeats 400000 in
theorem sameView_eq (w:World) (v0 v1 v2 v3 v4 v5 v6 v7 v8 v9 v10:Int) :
  Calls Tryz.prog 88 #[.agg #[.int .i64 v0,.int .i64 v1,.int .i64 v2,.int .i64 v3,.int .i64 v4,.int .i64 v5,.int .i64 v6,.int .i64 v7,.int .i64 v8,.int .i64 v9,.int .i64 v10],.agg #[.int .i64 v0,.int .i64 v1,.int .i64 v2,.int .i64 v3,.int .i64 v4,.int .i64 v5,.int .i64 v6,.int .i64 v7,.int .i64 v8,.int .i64 v9,.int .i64 v10]] w fun e w'=>e=.returned (.bool true)/\Below w.heap.size w w':=by
 go_enter Tryz.func88,Tryz.ntmps88
 go_wp2
 go_ret
 exact ⟨rfl,((Below.refl _ _).alloc (Nat.le_refl _) _).alloc (by simp) _⟩
end Go.Proofs.YtbkfildnijjioaaGreat

namespace Go.Proofs.YtbkfildnijjioaaGreat
open Go.RowKit
namespace R
end R
structure LK (PK:KP) (B:Nat) (w:World) (bb kb sb:Nat) (P Q:Nat->Prop) (s:RS):Prop where
 blk:Blk w bb #[.pointer (some ⟨kb,0,none⟩),.pointer (some ⟨sb,0,none⟩)] 87
 pk:PK P w kb s
 rk:RK Q w sb s
 ap:∀ b,P b->¬ Q b
 np:¬ P bb
 nq:¬ Q bb
 hp:∀ b,P b->B<=b
 hq:∀ b,Q b->B<=b
 hb:B<=bb
theorem LK.below {PK:KP} (f:KFrame PK) {B:Nat} {w w':World} {bb kb sb:Nat} {P Q:Nat->Prop} {s:RS} (l:LK PK B w bb kb sb P Q s) (hb:Below w.heap.size w w'):LK PK B w' bb kb sb P Q s:=by
 refine ⟨?_,f.below l.pk hb,l.rk.below hb,l.ap,l.np,l.nq,l.hp,l.hq,l.hb⟩
 have h1:=l.blk
 have hl:=l.blk.lt
 unfold Blk at h1 ⊢
 rw [hb.block bb hl]
 exact h1
section
variable {PK:KP} {B:Nat} {w:World} {bb kb sb:Nat} {P Q:Nat->Prop} {s:RS}
theorem rLookAll_any (F:Nat->Prop) (w:World) (sb:Nat) (h:RH) (s:RS) (m:RMem F w sb h s) (g:RGood s) (t:Int) :
  Calls Tryz.prog 87 #[.pointer (some ⟨sb,0,none⟩),.int .i64 t] w fun e w'=>e=.returned (.tuple #[R.lookV s t,.int .i64 (R.lookE s t)])/\Below w.heap.size w w':=by
 unfold R.lookV R.lookE
 by_cases ht:0<=t/\t < s.T.length
 ·rw [if_pos ht,if_pos ht]
  obtain ⟨n,rfl⟩:=Int.eq_ofNat_of_zero_le ht.1
  have hn:n < s.T.length:=by omega
  have e:R.th s.T (Int.toNat (n:Int))=s.T[n]:=by simp [R.th,List.getD,hn]
  rw [e]
  exact rLook_any F w sb h s m g n hn
 ·rw [if_neg ht,if_neg ht]
  exact rLook_not F w sb h s m t (by omega)
set_option maxHeartbeats 1000000 in
theorem lLook_any (f:KFrame PK) (cl:CLook PK) (l:LK PK B w bb kb sb P Q s) (t:Int) :
  Calls Tryz.prog 43 #[.pointer (some ⟨bb,0,none⟩),.int .i64 t] w fun e w'=>e=.returned (.bool true)/\Below w.heap.size w w':=by
 have c0:=l.blk.cell 0
 simp at c0
 have L:=hid l
 have C1:=hid (cl P w kb s l.pk t)
 have C2:=hid (fun F wx h m=>rLookAll_any F wx sb h s m l.rk.inv.good t)
 obtain ⟨v0,v1,v2,v3,v4,v5,v6,v7,v8,v9,v10,hv⟩:=lookV_shape s t
 rw [hv] at C1 C2
 generalize R.lookE s t=er at *
 clear l hv
 go_enter Tryz.func43,Tryz.ntmps43
 go_wp2_with fail
 refine C1.out.mono ?_
 rintro e w1 ⟨rfl,hb1⟩
 have L1:=hid (L.out.below f hb1)
 have HB1:=hid hb1
 clear hb1 c0
 go_upto_region 2 with fail
 have hbA:Below w1.heap.size w1 (w1.alloc (.cells #[.int .i64 v0,.int .i64 v1,.int .i64 v2,.int .i64 v3,.int .i64 v4,.int .i64 v5,.int .i64 v6,.int .i64 v7,.int .i64 v8,.int .i64 v9,.int .i64 v10] 133)):=(Below.refl _ _).alloc (Nat.le_refl _) _
 have bA:Blk (w1.alloc (.cells #[.int .i64 v0,.int .i64 v1,.int .i64 v2,.int .i64 v3,.int .i64 v4,.int .i64 v5,.int .i64 v6,.int .i64 v7,.int .i64 v8,.int .i64 v9,.int .i64 v10] 133)) w1.heap.size #[.int .i64 v0,.int .i64 v1,.int .i64 v2,.int .i64 v3,.int .i64 v4,.int .i64 v5,.int .i64 v6,.int .i64 v7,.int .i64 v8,.int .i64 v9,.int .i64 v10] 133:=Blk.new _ _ _
 generalize w1.alloc (.cells #[.int .i64 v0,.int .i64 v1,.int .i64 v2,.int .i64 v3,.int .i64 v4,.int .i64 v5,.int .i64 v6,.int .i64 v7,.int .i64 v8,.int .i64 v9,.int .i64 v10] 133)=wA at hbA bA ⊢
 have LA:=hid (L1.out.below f hbA)
 have HBA:=hid (via HB1.out HB1.out.size hbA)
 have BA:=hid bA
 clear hbA bA
 have c1:=LA.out.blk.cell 1
 simp at c1
 obtain ⟨F,h,m,_,_⟩:=LA.out.rk.mem
 have C3:=hid (C2.out F wA h m)
 clear m C2 C1
 go_wp2_with fail
 refine C3.out.mono ?_
 rintro e w2 ⟨rfl,hb2⟩
 have B2:=hid (show Blk w2 w1.heap.size #[.int .i64 v0,.int .i64 v1,.int .i64 v2,.int .i64 v3,.int .i64 v4,.int .i64 v5,.int .i64 v6,.int .i64 v7,.int .i64 v8,.int .i64 v9,.int .i64 v10] 133 from by
  have h1:=BA.out
  have hl:=BA.out.lt
  unfold Blk at h1 ⊢
  rw [hb2.block _ hl]
  exact h1)
 have HB2:=hid (via HBA.out HBA.out.size hb2)
 have hsz2:=hb2.size
 have hlt2:=B2.out.lt
 clear hb2 c1
 have x0:=B2.out.cell 0
 have x1:=B2.out.cell 1
 have x2:=B2.out.cell 2
 have x3:=B2.out.cell 3
 have x4:=B2.out.cell 4
 have x5:=B2.out.cell 5
 have x6:=B2.out.cell 6
 have x7:=B2.out.cell 7
 have x8:=B2.out.cell 8
 have x9:=B2.out.cell 9
 have x10:=B2.out.cell 10
 simp at x0 x1 x2 x3 x4 x5 x6 x7 x8 x9 x10
 go_wp2_with fail
 refine (sameView_eq _ v0 v1 v2 v3 v4 v5 v6 v7 v8 v9 v10).mono ?_
 rintro e w3 ⟨rfl,hb3⟩
 have HB3:=hid (via (HB2.out.alloc HB2.out.size _) (by have:=HB2.out.size; simp; omega) hb3)
 clear hb3 x0 x1 x2 x3 x4 x5 x6 x7 x8 x9 x10
 go_wp2
 go_ret
 exact ⟨by simp,HB3.out⟩
end
end Go.Proofs.YtbkfildnijjioaaGreat

namespace Go.Proofs.YtbkfildnijjioaaGreat
open Go.RowKit
theorem Turns.below {P:Nat->Prop} {B:Nat} {w w':World} (h:Turns P w w') (hB:B<=w.heap.size) (hp:∀ b,P b->B<=b):Below B w w' :=
 ⟨h.os,h.tape,h.output,h.size,fun b hb=>h.block b (by omega) (fun e=>by have:=hp b e; omega)⟩
theorem blk_turns {P:Nat->Prop} {w w':World} {b:Nat} {cs:Array Value} {e:TypeId} (h:Blk w b cs e) (t:Turns P w w') (hn:¬ P b):Blk w' b cs e:=by
 have h1:=h
 unfold Blk at h1 ⊢
 rw [t.block b h.lt hn]
 exact h1
theorem ints_turns {P:Nat->Prop} {w w':World} {e:TypeId} {size n N:Nat} {v:Value} {xs:List Value} (h:w.ownsRow N e size v n xs) (t:Turns P w w') (hn:∀ b,v.ownBlock=some b->¬ P b):w'.ownsRow N e size v n xs :=
 ownsRow_same h fun g hg=>t.block g (ownsRow_block h hg).2.1 (hn g hg)
section
variable {PK:KP} {B:Nat} {w:World} {bb kb sb:Nat} {P Q:Nat->Prop} {s:RS}
theorem LK.prog (_f:KFrame PK) (l:LK PK B w bb kb sb P Q s) {w1:World} {s':RS} {P':Nat->Prop} (pk:PK P' w1 kb s') (hs:∀ b,P' b->P b\/w.heap.size<=b) (t:Turns P w w1) :
  Blk w1 bb #[.pointer (some ⟨kb,0,none⟩),.pointer (some ⟨sb,0,none⟩)] 87/\PK P' w1 kb s'/\RK Q w1 sb s/\(∀ b,P' b->¬ Q b)/\¬ P' bb/\¬ Q bb:=by
 refine ⟨blk_turns l.blk t l.np,pk,l.rk.frame (fun b hb=>t.block b (l.rk.lt b hb) (fun e=>l.ap b e hb)) t.size,fun b hb hq=>?_,fun hb=>?_,l.nq⟩
 ·rcases hs b hb with h1 | h1
  ·exact l.ap b h1 hq
  ·have:=l.rk.lt b hq
   omega
 ·rcases hs bb hb with h1 | h1
  ·exact l.np h1
  ·have:=l.blk.lt
   omega
theorem rkTick2_any (Q:Nat->Prop) (w:World) (sb:Nat) (s:RS) (k:RK Q w sb s) (hnx:s.next<=4611686018427386000) :
  Calls Tryz.prog 29 #[.pointer (some ⟨sb,0,none⟩)] w fun e w' =>
   ∃ l Q',e=.returned (.tuple #[l,.int .i64 (R.tickE s)])/\w'.ownsRow w.heap.size 95 3 l (R.tickL s).length (missCells (R.tickL s))/\RK Q' w' sb (R.tickS s) /\
    (∀ b,Q' b->Q b\/w.heap.size<=b)/\(∀ b,l.ownBlock=some b->¬ Q' b)/\Turns Q w w':=by
 refine (rkTick_any Q w sb s k hnx).mono ?_
 rintro e w' (⟨h1,rfl,rfl⟩ | ⟨h1,l,Q',rfl,r⟩)
 ·have e1:R.tickS s=s:=by unfold R.tickS; rw [if_pos h1]
  have e2:R.tickE s=8:=by unfold R.tickE; rw [if_pos h1]
  have e3:R.tickL s=[]:=by unfold R.tickL; rw [if_pos h1]
  rw [e1,e2,e3]
  exact ⟨_,Q,rfl,World.ownsRow_nil _ _ _ _,k,fun b hb=>.inl hb,fun b hb=>(by cases hb),Turns.refl _ _⟩
 ·have hn:¬ s.now=1000000000:=by omega
  have e1:R.tickS s=R.tick s:=by unfold R.tickS; rw [if_neg hn]
  have e2:R.tickE s=0:=by unfold R.tickE; rw [if_neg hn]
  have e3:R.tickL s=R.late (R.ticked s):=by unfold R.tickL; rw [if_neg hn]
  rw [e1,e2,e3]
  exact ⟨l,Q',rfl,r⟩
theorem tickL_len (s:RS) (h:s.T.length<=16):(R.tickL s).length<=16:=by
 unfold R.tickL
 split
 ·simp
 ·have:=R.lateTo_len (R.ticked s) (R.ticked s).T.length
  have e:(R.ticked s).T.length=s.T.length:=rfl
  unfold R.late
  omega
end
end Go.Proofs.YtbkfildnijjioaaGreat
