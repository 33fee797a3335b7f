import Derived.Test.YtbkfildnijjioaaGreatA07
import Derived.Test.YtbkfildnijjioaaGreatA16
import Derived.Test.YtbkfildnijjioaaGreatA15
import Derived.Deep.RegionLaw
import Derived.Test.YtbkfildnijjioaaGreatA08
namespace Go.Proofs.YtbkfildnijjioaaGreat
open Go.RowKit
structure ST (w:World) (sb:Nat) (h:RH) (s:RS) (lg ag:Nat) (al:List Int) (T:List RT) (wr:World):Prop where
 blk:Blk wr sb (rsCells h s) 82
 rows:wr.ownsRow 0 114 13 (.slice (some ⟨h.gT,0,none⟩) s.T.length h.cT) s.T.length (rtAll T)
 at_:wr.ownsRow w.heap.size 3 1 (.slice (some ⟨ag,0,none⟩) s.T.length s.T.length) s.T.length (intCells al)
 lev:∀ i,i < s.T.length->wr.cell? ⟨lg,i,none⟩=some (.int .i64 ((R.levels s).getD i 0))
 only:Only [sb,h.gT] w wr
 new1:w.heap.size<=lg
 new2:lg < ag
 sbl:sb < w.heap.size
 gtl:h.gT < w.heap.size
 ne:sb ≠ h.gT
 agl:ag < wr.heap.size
section
variable {F:Nat->Prop} {w wr:World} {sb:Nat} {h:RH} {s:RS} {lg ag:Nat} {al:List Int} {T:List RT}
theorem ST.mem (st:ST w sb h s lg ag al T wr) (m:RMem F w sb h s) (hT:T.length=s.T.length):RMem F wr sb h { s with T:=T }:=m.rebuild st.only T hT st.blk st.rows
theorem ST.drewN (st:ST w sb h s lg ag al T wr) (n:Nat):ST w sb h s lg ag al T (wr.drewN n) :=
 ⟨st.blk,st.rows,st.at_,st.lev,st.only.drewN n,st.new1,st.new2,st.sbl,st.gtl,st.ne,st.agl⟩
theorem ST.setAt (st:ST w sb h s lg ag al T wr) (i:Nat) (x:Int):ST w sb h s lg ag (al.set i x) T (wr.setCell ⟨ag,i,none⟩ (.int .i64 x)):=by
 have hst:=(st.at_.stored i (.int .i64 x)).1
 rw [intCells_set] at hst
 have h1:=st.new1
 have h2:=st.new2
 have h3:=st.sbl
 have h4:=st.gtl
 refine ⟨st.blk.other (by show sb ≠ ag; omega) _,ownsRow_same st.rows fun g hg=>?_,hst,fun j hj=>?_,st.only.setCell (.inr (by show w.heap.size<=ag; omega)) _,h1,h2,h3,h4,st.ne,by simpa [World.setCell] using st.agl⟩
 ·cases hg
  exact Below.heap_setCell _ _ _ _ (by show h.gT ≠ ag; omega)
 ·exact (World.cell?_of_block (Below.heap_setCell _ _ _ _ (by show lg ≠ ag; omega))).trans (st.lev j hj)
theorem ST.setT (st:ST w sb h s lg ag al T wr) {i j:Nat} (hi:i < T.length) (hj:j < 13) (v:Value) (f:RT->RT) (hf:rtCells (f T[i])=(rtCells T[i]).set j v) :
  ST w sb h s lg ag al (T.modify i f) (wr.setCell ⟨h.gT,i * 13 + j,none⟩ v):=by
 have hst:=(st.rows.stored (i * 13 + j) v).1
 rw [rtAll_set T i j hi hj v f hf] at hst
 have h1:=st.new1
 have h2:=st.new2
 have h4:=st.gtl
 refine ⟨st.blk.other st.ne _,hst,ownsRow_same st.at_ fun g hg=>?_,fun k hk=>?_,st.only.setCell (.inl (by simp)) _,h1,h2,st.sbl,h4,st.ne,by simpa [World.setCell] using st.agl⟩
 ·cases hg
  exact Below.heap_setCell _ _ _ _ (by show ag ≠ h.gT; omega)
 ·exact (World.cell?_of_block (Below.heap_setCell _ _ _ _ (by show lg ≠ h.gT; omega))).trans (st.lev k hk)
theorem ST.atCell (st:ST w sb h s lg ag al T wr) (hl:al.length=s.T.length) (i:Nat) (hi:i < s.T.length):wr.cell? ⟨ag,i,none⟩=some (.int .i64 (al.getD i 0)):=by
 rw [st.at_.cellAt i (by omega),intCells_get al i (by omega)]
theorem ST.atFrozen (st:ST w sb h s lg ag al T wr) (i:Nat):wr.frozen? ⟨ag,i,none⟩=false:=st.at_.frozenAt i
end
set_option maxRecDepth 100000 in
set_option maxHeartbeats 2000000 in
theorem rSettle_any (F:Nat->Prop) (w:World) (sb:Nat) (h:RH) (s:RS) (m:RMem F w sb h s) (g:RGood s) (n:Nat) (hn:s.set.workers=n) :
  Calls Tryz.prog 69 #[.pointer (some ⟨sb,0,none⟩)] w fun e w'=>e=.returned (.tuple #[])/\RMem F w' sb h (R.settle s)/\Only [sb,h.gT] w w':=by
 have hfew:=g.few
 have hpos:=g.pos
 have hn8:(n:Int)<=8:=by rw [<- hn]; exact g.wk1
 have M:=hid m
 have G:=hid g
 have HN:=hid hn
 clear m g hn
 obtain ⟨i3,hi3,hz30,hz31,hz32⟩:=info_parts Tryz.infoInt
 have HI3:Hid (Tryz.prog.info? 3=some i3/\i3.zero=some (.int .i64 0)/\i3.size=1/\i3.bytes=8):=⟨hi3,hz30,hz31,hz32⟩
 clear hi3 hz30 hz31 hz32
 go_enter Tryz.func69,Tryz.ntmps69
 go_wp2_with fail
 refine (rLevels_any F w sb h s M.out G.out).mono ?_
 rintro e w1 ⟨v,rfl,hlev,hb1⟩
 obtain ⟨ao,cap,rfl,hnn,hao⟩:=owns_cells hlev
 cases ao with
 | none=>have:=(hnn rfl).1; omega
 | some a =>
  obtain ⟨lg,rfl,hlg0,hlg1,_,hlc⟩:=hao a rfl
  have hm1:=M.out.below hb1
  have M1:=hid hm1
  have c8:=hm1.blk.cell 8
  simp [rsCells] at c8
  have HLC:=hid hlc
  have hsz1:=hb1.size
  clear hm1 hlc hnn hao hlev
  go_wp2_with (at_make; refine wpList_make_full _ rfl _ _ 25 rfl w.heap.size 3 i3 (.int .i64 0) 1 Tryz.underlying25 HI3.out.1 HI3.out.2.1 HI3.out.2.2.1 .i64 .i64 _ _ s.T.length rfl rfl rfl rfl (by rw [HI3.out.2.2.2]; omega) (by unfold maxLen; omega) hsz1 ?_; intro w2 hown2 hg2; have O2:=hid hown2; have G2:=hid hg2; clear hown2 hg2)
  have hst:ST w sb h s lg w1.heap.size (R.atTo (R.place (R.levels s) s.T n) s.T.length 0) s.T w2:=by
   have hlt:=M1.out.gT_lt
   refine ⟨M1.out.blk.grown G2.out (by simp),ownsRow_same M1.out.rows fun g hg=>?_,?_,fun i hi=>?_,(Only.of_below hb1).trans (Only.of_below ((Below.refl _ _).grown G2.out (Nat.le_refl _) (by simp))),hlg0,hlg1,M.out.blk.lt,M.out.gT_lt,M.out.ne,?_⟩
   ·cases hg
    exact G2.out.block _ hlt (by simp)
   ·have:=O2.out
    have e:(madeCells (Value.int IntKind.i64 0).cells (s.T.length * 1)).toList=intCells (R.atTo (R.place (R.levels s) s.T n) s.T.length 0):=by
     rw [R.atTo_zero,Nat.mul_one]
     show (madeCells #[Value.int IntKind.i64 0] s.T.length).toList=_
     rw [toList_madeCells_one]
     simp [intCells]
    rwa [e] at this
   ·rw [World.cell?_of_block (G2.out.block lg hlg1 (by simp)),HLC.out i (by omega)]
    exact intCells_get _ _ (by simpa [R.levels] using hi)
   ·exact (ownsRow_block O2.out rfl).2.1
  have HP:Hid (∀ t,R.place (R.levels s) s.T n t=if (R.th s.T t).awake=true then (if (R.rank (R.levels s) s.T t:Int) < n then (R.rank (R.levels s) s.T t:Int) else n) else n):=fun t=>rfl
  have ST0:=hid hst
  clear hst O2 G2 HLC M1 c8 hb1
  generalize w1.heap.size=ag at *
  generalize hPP:R.place (R.levels s) s.T n=PP at *
  have HPP:=hid hPP
  clear hPP
  go_loopw [4] (fun i wr=>∃ k:Nat,k<=s.T.length/\i=.int .i64 k/\ST w sb h s lg ag (R.atTo PP s.T.length k) (R.clearTo PP n s.T k) wr) (fun i _=>s.T.length - (intOf i).toNat)
  case atStart=>exact ⟨0,Nat.zero_le _,rfl,ST0.out⟩
  case round =>
   obtain ⟨k,hk,rfl,hst⟩:=hrel
   clear ST0
   have SK:=hid hst
   have c8:=hst.blk.cell 8
   have c0:=hst.blk.cell 0
   simp [rsCells] at c8 c0
   rw [HN.out] at c0
   clear hst
   have hTl:=hid (R.clearTo_length PP n s.T k)
   by_cases hlt:k < s.T.length
   ·have hstep:R.clearTo PP n s.T (k + 1)=if PP k=n then R.setW (R.clearTo PP n s.T k) k (-1) else R.clearTo PP n s.T k:=rfl
    have HS:=hid hstep
    have hPk:=HP.out k
    have hrk:=R.rank_clearTo (R.levels s) PP n s.T k k
    have haw:=(R.th_clearTo PP n s.T k k).1
    have hkT:k < (R.clearTo PP n s.T k).length:=by rw [hTl.out]; exact hlt
    have eth:R.th (R.clearTo PP n s.T k) k=(R.clearTo PP n s.T k)[k]:=by simp [R.th,List.getD,hkT]
    rw [<- haw] at hPk
    rw [<- hrk,eth] at hPk
    have HPk:=hid hPk
    clear hstep hPk hrk haw eth
    have a0:=SK.out.atCell (R.atTo_length _ _ _) k hlt
    have z0:=SK.out.atFrozen k
    generalize hTk:R.clearTo PP n s.T k=Tk at *
    have a6:=(SK.out.mem M.out hTl.out).tcell hkT 6 (by decide)
    simp [rtCells] at a6
    have HTk:=hid hTk
    clear hTk
    go_upto_region 6 with fail
    have hst1:=SK.out.setAt k (n:Int)
    clear c8 c0 a0 z0 a6 SK
    generalize wr.setCell ⟨ag,k,none⟩ (.int .i64 (n:Int))=w3 at hst1 ⊢
    have S1:=hid hst1
    have c8:=hst1.blk.cell 8
    have c0:=hst1.blk.cell 0
    simp [rsCells] at c8 c0
    rw [HN.out] at c0
    have hm3:=hst1.mem M.out hTl.out
    have M3:=hid hm3
    have a6:=hm3.tcell (i:=k) hkT 6 (by decide)
    have a8:=hm3.tcell (i:=k) hkT 8 (by decide)
    simp [rtCells] at a6 a8
    have f8:=hm3.tfrozen (k * 13 + 8)
    have at3:=hst1.atCell (by simp [R.atTo]) k hlt
    have zt3:=hst1.atFrozen k
    have eat:((R.atTo PP s.T.length k).set k (n:Int)).getD k 0=n:=by simp [List.getD,R.atTo,hlt]
    rw [eat] at at3
    have hag:ag ≠ h.gT:=by have:=hst1.gtl; have:=hst1.new1; have:=hst1.new2; omega
    have fin1:PP k=n->∀ q,ST w sb h s lg ag (R.atTo PP s.T.length (k + 1)) (R.clearTo PP n s.T (k + 1)) ((w3.drewN q).setCell ⟨h.gT,k * 13 + 8,none⟩ (.int .i64 (-1))):=by
     intro e q
     rw [HS.out,if_pos e,<- R.atTo_set1 PP _ k hlt,e]
     exact (hst1.drewN q).setT hkT (j:=8) (by decide) (.int .i64 (-1)) (fun x=>{ x with wkr:=-1 }) rfl
    have FIN1:=hid fin1
    have hlev:=hid hst1.lev
    clear hst1 hm3 eat fin1
    cases haw:Tk[k].awake
    ·have ePk:PP k=n:=by
      have:=HPk.out
      rw [haw] at this
      simpa using this
     have HE:=hid ePk
     clear ePk
     rw [haw] at a6
     clear haw
     go_upto_region 10 with fail
     go_quiet (fail)
     go_wp2
     go_roundw
     case rel=>exact ⟨k + 1,by omega,by go_num,FIN1.out HE.out _⟩
     case measure=>simp [intOf]; omega
    ·have ePk:PP k=if (R.rank (R.levels s) Tk k:Int) < n then (R.rank (R.levels s) Tk k:Int) else n:=by
      have:=HPk.out
      rw [haw] at this
      simpa using this
     have HE:=hid ePk
     clear ePk
     rw [haw] at a6
     clear haw
     go_wp2_with fail
     refine (rRank_any F w3 sb h _ M3.out (by show Tk.length<=16; rw [hTl.out]; exact hfew) (R.levels s) lg s.T.length cap hTl.out (fun i hi=>hlev.out i (by have:=hTl.out; simp at hi; omega)) k hkT).mono ?_
     rintro e w4 ⟨rfl,q,rfl⟩
     generalize hrr:R.rank (R.levels s) Tk k=rr at *
     have hrle:rr<=s.T.length:=by
      rw [<- hrr,<- hTl.out]
      exact R.rankTo_le _ _ _ _
     have HR:=hid hrr
     clear hrr
     by_cases hr:(rr:Int) < n
     ·have ePk:PP k=rr:=by rw [HE.out,if_pos hr]
      have HE2:=hid ePk
      clear ePk
      go_upto_region 10 with fail
      have hst2:=(S1.out.drewN q).setAt k (rr:Int)
      clear a6 a8 f8 at3 zt3 c8 c0
      generalize (w3.drewN q).setCell ⟨ag,k,none⟩ (.int .i64 (rr:Int))=w5 at hst2 ⊢
      have c0:=hst2.blk.cell 0
      simp [rsCells] at c0
      rw [HN.out] at c0
      have at5:=hst2.atCell (by simp [R.atTo]) k hlt
      have eat:(((R.atTo PP s.T.length k).set k (n:Int)).set k (rr:Int)).getD k 0=rr:=by simp [List.getD,R.atTo,hlt]
      rw [eat] at at5
      have S2:=hid hst2
      clear hst2 eat
      have hne:((rr:Int) == (n:Int))=false:=by simp; omega
      go_quiet (fail)
      go_wp2
      go_roundw
      case rel =>
       refine ⟨k + 1,by omega,by go_num,?_⟩
       rw [HS.out,if_neg (by rw [HE2.out]; omega),<- R.atTo_set PP _ k hlt n,HE2.out]
       exact S2.out.drewN _
      case measure=>simp [intOf]; omega
     ·have ePk:PP k=n:=by rw [HE.out,if_neg hr]
      have HE2:=hid ePk
      clear ePk
      go_upto_region 10 with fail
      go_quiet (fail)
      go_wp2
      go_roundw
      case rel=>exact ⟨k + 1,by omega,by go_num,by first | exact FIN1.out HE2.out _ | (rw [World.drewN_drewN]; exact FIN1.out HE2.out _)⟩
      case measure=>simp [intOf]; omega
   ·have e:k=s.T.length:=by omega
    have SK2:Hid (ST w sb h s lg ag (R.atTo PP s.T.length s.T.length) (R.clearTo PP n s.T s.T.length) wr):=by have h0:=SK.out; rw [e] at h0; exact h0
    clear e SK hTl
    have hTc:=hid (R.clearTo_length PP n s.T s.T.length)
    have hfinal:R.settle s={ s with T:=R.seatTo PP n (R.clearTo PP n s.T s.T.length) n }:=by
     unfold R.settle R.settleT
     rw [HN.out]
     simp only [Int.toNat_natCast,HPP.out]
    have HFIN:=hid hfinal
    clear hfinal
    generalize R.clearTo PP n s.T s.T.length=Tc at *
    generalize hAL:R.atTo PP s.T.length s.T.length=AL at *
    have hALl:AL.length=s.T.length:=by rw [<- hAL,R.atTo_length]
    have hALg:∀ i,i < s.T.length->AL.getD i 0=PP i:=by
     intro i hi
     rw [<- hAL,List.getD_eq_getElem?_getD,R.atTo_get PP _ i hi]
     rfl
    have HALl:=hid hALl
    have HALg:=hid hALg
    clear hAL hALl hALg
    go_wp2
    clear c8 c0
    go_loopw [6] (fun i wx=>∃ r:Nat,r<=n/\i=.int .i64 r/\ST w sb h s lg ag AL (R.seatTo PP n Tc r) wx) (fun i _=>n - (intOf i).toNat)
    case atStart=>exact ⟨0,Nat.zero_le _,rfl,SK2.out⟩
    case round =>
     clear SK2
     obtain ⟨r,hr,rfl,hst⟩:=hrel
     have c0:=hst.blk.cell 0
     simp [rsCells] at c0
     rw [HN.out] at c0
     have SR:=hid hst
     clear hst
     by_cases hrn:r < n
     ·have estep:R.seatTo PP n Tc (r + 1)=R.seatIn PP n r (R.seatTo PP n Tc r) Tc.length:=rfl
      have ESR:=hid estep
      clear estep
      have hTr:=R.seatTo_length PP n Tc r
      have HTr:=hid (hTr.trans hTc.out)
      clear hTr
      generalize R.seatTo PP n Tc r=Tr at *
      go_wp2
      clear c0
      go_loopw [7] (fun i wx=>∃ t:Nat,t<=s.T.length/\i=.int .i64 t/\ST w sb h s lg ag AL (R.seatIn PP n r Tr t) wx) (fun i _=>s.T.length - (intOf i).toNat)
      case atStart=>exact ⟨0,Nat.zero_le _,rfl,SR.out⟩
      case round =>
       clear SR
       obtain ⟨t,ht,rfl,hst⟩:=hrel
       have c8:=hst.blk.cell 8
       simp [rsCells] at c8
       have SS:=hid hst
       have hTt:=hid ((R.seatIn_length PP n r Tr t).trans HTr.out)
       by_cases htl:t < s.T.length
       ·have estep:R.seatIn PP n r Tr (t + 1)=if PP t=(r:Int)/\(R.th (R.seatIn PP n r Tr t) t).wkr < 0 then R.setW (R.seatIn PP n r Tr t) t (R.free (R.seatIn PP n r Tr t) n) else R.seatIn PP n r Tr t:=rfl
        generalize R.seatIn PP n r Tr t=Tt at *
        have htT:t < Tt.length:=by rw [hTt.out]; exact htl
        have eth:R.th Tt t=Tt[t]:=by simp [R.th,List.getD,htT]
        rw [eth] at estep
        have ES:=hid estep
        have hm:=hst.mem M.out hTt.out
        have MM:=hid hm
        have at3:=hst.atCell HALl.out t htl
        rw [HALg.out t htl] at at3
        have a8:=hm.tcell (i:=t) htT 8 (by decide)
        simp [rtCells] at a8
        have f8:=hm.tfrozen (t * 13 + 8)
        clear hst hm estep eth
        generalize PP t=pt at *
        generalize hwk:Tt[t].wkr=wk at *
        have HWK:=hid hwk
        clear hwk
        cases hq:(pt == (r:Int))
        ·have HQ:=hid hq
         go_wp2
         go_roundw
         case rel =>
          refine ⟨t + 1,by omega,by go_num,?_⟩
          have e1:¬ (pt=(r:Int)/\wk < 0):=fun hh=>by have:=HQ.out; simp at this; exact this hh.1
          rw [ES.out,if_neg e1]
          exact SS.out
         case measure=>simp [intOf]; omega
        ·have HQ:=hid hq
         by_cases hw:wk < 0
         ·go_wp2_with fail
          refine (rFree_any F wr sb h _ MM.out (by show Tt.length<=16; rw [hTt.out]; exact hfew) n HN.out (by omega)).mono ?_
          rintro e w4 ⟨rfl,hw4⟩
          have hw5:=hw4.symm
          subst hw5
          clear hw4
          have hfl:=R.free_le Tt n
          have hS2:=SS.out.setT htT (j:=8) (by decide) (.int .i64 (R.free Tt n)) (fun x=>{ x with wkr:=R.free Tt n }) rfl
          have SS2:=hid hS2
          clear hS2
          simp only
          generalize R.free Tt n=fr at *
          go_wp2
          go_roundw
          case rel =>
           refine ⟨t + 1,by omega,by go_num,?_⟩
           have e1:pt=(r:Int)/\wk < 0:=⟨by simpa using HQ.out,by omega⟩
           rw [ES.out,if_pos e1]
           exact SS2.out
          case measure=>simp [intOf]; omega
         ·go_wp2
          go_roundw
          case rel =>
           refine ⟨t + 1,by omega,by go_num,?_⟩
           have e1:¬ (pt=(r:Int)/\wk < 0):=fun hh=>by omega
           rw [ES.out,if_neg e1]
           exact SS.out
          case measure=>simp [intOf]; omega
       ·have e:t=s.T.length:=by omega
        have S2:Hid (ST w sb h s lg ag AL (R.seatIn PP n r Tr Tc.length) wr):=by
         have h0:=SS.out
         rw [e] at h0
         rw [hTc.out]
         exact h0
        clear e hst SS
        go_wp2
        go_roundw
        case rel=>exact ⟨r + 1,by omega,by go_num,by rw [ESR.out]; exact S2.out⟩
        case measure=>simp [intOf]; omega
     ·have e:r=n:=by omega
      have S2:Hid (ST w sb h s lg ag AL (R.seatTo PP n Tc n) wr):=by have h0:=SR.out; rw [e] at h0; exact h0
      clear e SR
      go_wp2
      go_end0
      refine ⟨rfl,?_,S2.out.only⟩
      rw [HFIN.out]
      exact S2.out.mem M.out ((R.seatTo_length _ _ _ _).trans hTc.out)
end Go.Proofs.YtbkfildnijjioaaGreat

namespace Go.Proofs.YtbkfildnijjioaaGreat
open Go.RowKit
theorem Tryz.infoT:(Tryz.prog.info? 114).map (fun i=>(i.zero,i.size,i.bytes))=some (some (.agg #[.int .i64 0,.int .i64 0,.int .i64 0,.int .i64 0,.int .i64 0,.int .i64 0,.bool false,.int .i64 0,.int .i64 0,.int .i64 0,.int .i64 0,.int .i64 0,.int .i64 0]),13,104):=by kernel_rfl
structure NS (N sb:Nat) (S:SetD) (x:Array Value) (a b c d:Value) (wL wr:World) (vT vO vC vB:Value):Prop where
 x:Blk wr N x 27
 c:Blk wr sb (nsCells S a b c d vT vO vC vB) 82
 but:But wL.heap.size sb wL wr
 sbl:sb < wL.heap.size
 nl:N < wL.heap.size
 ne:N ≠ sb
section
variable {N sb:Nat} {S:SetD} {x:Array Value} {a b c d:Value} {wL wr w':World} {vT vO vC vB:Value}
theorem NS.restart (h:NS N sb S x a b c d wL wr vT vO vC vB):NS N sb S x a b c d wr wr vT vO vC vB:=⟨h.x,h.c,But.refl _ _ _,h.c.lt,h.x.lt,h.ne⟩
theorem NS.drew (h:NS N sb S x a b c d wL wr vT vO vC vB):NS N sb S x a b c d wL wr.drew vT vO vC vB:=⟨h.x,h.c,h.but.drew,h.sbl,h.nl,h.ne⟩
theorem NS.alloc (h:NS N sb S x a b c d wL wr vT vO vC vB) (o:Obj):NS N sb S x a b c d wL (wr.alloc o) vT vO vC vB:=⟨h.x.alloc o,h.c.alloc o,h.but.alloc h.but.size o,h.sbl,h.nl,h.ne⟩
theorem NS.grown (h:NS N sb S x a b c d wL wr vT vO vC vB) {row:Option Nat} (hg:wr.grownBy w' row) (hr:∀ k,row=some k->wL.heap.size<=k):NS N sb S x a b c d wL w' vT vO vC vB:=by
 have h1:=h.sbl
 have h2:=h.nl
 exact ⟨h.x.grown hg (fun e=>by have:=hr _ e.symm; omega),h.c.grown hg (fun e=>by have:=hr _ e.symm; omega),h.but.grown hg h.but.size hr,h1,h2,h.ne⟩
theorem NS.set8 (h:NS N sb S x a b c d wL wr vT vO vC vB) (u:Value):NS N sb S x a b c d wL (wr.setCell ⟨sb,8,none⟩ u) u vO vC vB :=
 ⟨h.x.other h.ne u,by simpa [nsCells] using h.c.set 8 u,h.but.setCell (.inl rfl) u,h.sbl,h.nl,h.ne⟩
theorem NS.set9 (h:NS N sb S x a b c d wL wr vT vO vC vB) (u:Value):NS N sb S x a b c d wL (wr.setCell ⟨sb,9,none⟩ u) vT u vC vB :=
 ⟨h.x.other h.ne u,by simpa [nsCells] using h.c.set 9 u,h.but.setCell (.inl rfl) u,h.sbl,h.nl,h.ne⟩
theorem NS.set10 (h:NS N sb S x a b c d wL wr vT vO vC vB) (u:Value):NS N sb S x a b c d wL (wr.setCell ⟨sb,10,none⟩ u) vT vO u vB :=
 ⟨h.x.other h.ne u,by simpa [nsCells] using h.c.set 10 u,h.but.setCell (.inl rfl) u,h.sbl,h.nl,h.ne⟩
theorem NS.set11 (h:NS N sb S x a b c d wL wr vT vO vC vB) (u:Value):NS N sb S x a b c d wL (wr.setCell ⟨sb,11,none⟩ u) vT vO vC u :=
 ⟨h.x.other h.ne u,by simpa [nsCells] using h.c.set 11 u,h.but.setCell (.inl rfl) u,h.sbl,h.nl,h.ne⟩
theorem NS.row (h:NS N sb S x a b c d wL wr vT vO vC vB) {base:Nat} {e:TypeId} {size n:Nat} {v:Value} {xs:List Value} (ho:wL.ownsRow base e size v n xs) (hb:sb < base):wr.ownsRow base e size v n xs:=by
 refine ownsRow_same ho fun g hg=>?_
 obtain ⟨h1,h2,_⟩:=ownsRow_block ho hg
 exact h.but.block g h2 (by omega)
end
set_option maxRecDepth 100000 in
set_option maxHeartbeats 4000000 in
theorem rNew_any (tv mv sv qv:Option Addr) (tc mc sc qc:Nat) (S:SetD) (w:World) (hS:SetIn w.heap.size w tv mv sv qv S) (hF:Fits S) (hnil:(tv=none->tc=0)/\(mv=none->mc=0)/\(sv=none->sc=0)/\(qv=none->qc=0)) (hok:P3.err S=0) :
  Calls Tryz.prog 28 #[.agg #[.int .i64 S.workers,.int .i64 S.start,.slice tv S.threads.length tc,.slice mv S.mutexes.length mc,.slice sv S.sems.length sc,.slice qv S.queues.length qc]] w fun e w' =>
   ∃ sb h F,e=.returned (.pointer (some ⟨sb,0,none⟩))/\RMem F w' sb h (R.new S)/\RApart F h/\RIn (fun b=>w.heap.size<=b) F sb h/\Below w.heap.size w w':=by
 have HS:=hid hS
 have HF:=hid hF
 have HN:=hid hnil
 have HOK:=hid hok
 clear hS hF hnil hok
 go_enter Tryz.func28,Tryz.ntmps28
 go_wp2_with fail
 have hb0:Below w.heap.size w (w.alloc (.cells #[.int .i64 S.workers,.int .i64 S.start,.slice tv S.threads.length tc,.slice mv S.mutexes.length mc,.slice sv S.sems.length sc,.slice qv S.queues.length qc] 27)):=(Below.refl _ _).alloc (Nat.le_refl _) _
 have X0:=Blk.new w #[.int .i64 S.workers,.int .i64 S.start,.slice tv S.threads.length tc,.slice mv S.mutexes.length mc,.slice sv S.sems.length sc,.slice qv S.queues.length qc] 27
 have k0:(w.alloc (.cells #[.int .i64 S.workers,.int .i64 S.start,.slice tv S.threads.length tc,.slice mv S.mutexes.length mc,.slice sv S.sems.length sc,.slice qv S.queues.length qc] 27)).heap.size=w.heap.size + 1:=by simp
 generalize w.alloc (.cells #[.int .i64 S.workers,.int .i64 S.start,.slice tv S.threads.length tc,.slice mv S.mutexes.length mc,.slice sv S.sems.length sc,.slice qv S.queues.length qc] 27)=w0 at hb0 X0 k0 ⊢
 refine (copy_any tv mv sv qv tc mc sc qc S w0 (HS.out.later hb0) HF.out HN.out).mono ?_
 rintro e w1 ⟨tv',mv',sv',qv',tc',mc',sc',qc',rfl,hS1,hnil1,hb1⟩
 have hb01:=via hb0 hb0.size hb1
 have X1:=X0.but (But.of_below (c:=w0.heap.size) hb1) X0.lt (by have:=X0.lt; omega)
 have k1:w.heap.size < w1.heap.size:=X1.lt
 have x1:=X1.cell 1
 simp at x1
 have HX1:=hid X1
 have HS1:=hid hS1
 have K0:=hid k0
 clear hS1 X0 X1 k0
 go_upto_region 3 with fail
 have hNS:NS w.heap.size (w1.heap.size + 1) S #[.int .i64 S.workers,.int .i64 S.start,.slice tv S.threads.length tc,.slice mv S.mutexes.length mc,.slice sv S.sems.length sc,.slice qv S.queues.length qc] (.slice tv' S.threads.length tc') (.slice mv' S.mutexes.length mc') (.slice sv' S.sems.length sc') (.slice qv' S.queues.length qc')
   ((w1.alloc (.cells #[.int .i64 S.workers,.int .i64 S.start,.slice tv' S.threads.length tc',.slice mv' S.mutexes.length mc',.slice sv' S.sems.length sc',.slice qv' S.queues.length qc'] 27)).alloc (.cells #[.int .i64 S.workers,.int .i64 S.start,.slice tv' S.threads.length tc',.slice mv' S.mutexes.length mc',.slice sv' S.sems.length sc',.slice qv' S.queues.length qc',.int .i64 S.start,.int .i64 0,.slice none 0 0,.slice none 0 0,.slice none 0 0,.slice none 0 0,.slice none 0 0] 82))
   ((w1.alloc (.cells #[.int .i64 S.workers,.int .i64 S.start,.slice tv' S.threads.length tc',.slice mv' S.mutexes.length mc',.slice sv' S.sems.length sc',.slice qv' S.queues.length qc'] 27)).alloc (.cells #[.int .i64 S.workers,.int .i64 S.start,.slice tv' S.threads.length tc',.slice mv' S.mutexes.length mc',.slice sv' S.sems.length sc',.slice qv' S.queues.length qc',.int .i64 S.start,.int .i64 0,.slice none 0 0,.slice none 0 0,.slice none 0 0,.slice none 0 0,.slice none 0 0] 82))
   (.slice none 0 0) (.slice none 0 0) (.slice none 0 0) (.slice none 0 0):=by
  refine ⟨(HX1.out.alloc _).alloc _,?_,But.refl _ _ _,by simp,by simp; omega,by omega⟩
  have:=Blk.new (w1.alloc (.cells #[.int .i64 S.workers,.int .i64 S.start,.slice tv' S.threads.length tc',.slice mv' S.mutexes.length mc',.slice sv' S.sems.length sc',.slice qv' S.queues.length qc'] 27)) (nsCells S (.slice tv' S.threads.length tc') (.slice mv' S.mutexes.length mc') (.slice sv' S.sems.length sc') (.slice qv' S.queues.length qc') (.slice none 0 0) (.slice none 0 0) (.slice none 0 0) (.slice none 0 0)) 82
  simpa [nsCells] using this
 have hb2:Below w1.heap.size w1 ((w1.alloc (.cells #[.int .i64 S.workers,.int .i64 S.start,.slice tv' S.threads.length tc',.slice mv' S.mutexes.length mc',.slice sv' S.sems.length sc',.slice qv' S.queues.length qc'] 27)).alloc (.cells #[.int .i64 S.workers,.int .i64 S.start,.slice tv' S.threads.length tc',.slice mv' S.mutexes.length mc',.slice sv' S.sems.length sc',.slice qv' S.queues.length qc',.int .i64 S.start,.int .i64 0,.slice none 0 0,.slice none 0 0,.slice none 0 0,.slice none 0 0,.slice none 0 0] 82)):=((Below.refl _ _).alloc (Nat.le_refl _) _).alloc (by simp) _
 generalize (w1.alloc (.cells #[.int .i64 S.workers,.int .i64 S.start,.slice tv' S.threads.length tc',.slice mv' S.mutexes.length mc',.slice sv' S.sems.length sc',.slice qv' S.queues.length qc'] 27)).alloc (.cells #[.int .i64 S.workers,.int .i64 S.start,.slice tv' S.threads.length tc',.slice mv' S.mutexes.length mc',.slice sv' S.sems.length sc',.slice qv' S.queues.length qc',.int .i64 S.start,.int .i64 0,.slice none 0 0,.slice none 0 0,.slice none 0 0,.slice none 0 0,.slice none 0 0] 82)=w2 at hNS hb2 ⊢
 have HS2:=hid ((HS1.out.same (w':=w2) (fun b hb=>hb2.block b hb.2)))
 have HSw:=hid (HS.out.later (via hb01 hb01.size hb2))
 have hsz:=sizes_of (S:=S) (by have:=HOK.out; unfold P3.err at this; cases hz:P3.sizesB S <;> simp_all)
 obtain ⟨n1,n2,n3,n4⟩:=hsz
 have hb02:=via hb01 hb01.size hb2
 have HB2:=hid hb2
 have NS0:=hid hNS
 have HNL:=hid hnil1
 clear hNS HX1 HS1 hb2 hnil1 x1
 generalize hsb:w1.heap.size + 1=sb at *
 have HSB:=hid hsb
 clear hsb
 obtain ⟨iT,hiT,hzT0,hzT1,hzT2⟩:=info_parts Tryz.infoT
 have HIT:=hid (And.intro hiT (And.intro hzT0 (And.intro hzT1 hzT2)))
 clear hiT hzT0 hzT1 hzT2
 go_wp2
 go_loopw [5] (fun i wr=>∃ (k:Nat) (vT:Value),k<=S.threads.length/\i=.int .i64 k/\NS w.heap.size sb S #[.int .i64 S.workers,.int .i64 S.start,.slice tv S.threads.length tc,.slice mv S.mutexes.length mc,.slice sv S.sems.length sc,.slice qv S.queues.length qc] (.slice tv' S.threads.length tc') (.slice mv' S.mutexes.length mc') (.slice sv' S.sems.length sc') (.slice qv' S.queues.length qc') w2 wr vT (.slice none 0 0) (.slice none 0 0) (.slice none 0 0)/\wr.ownsRow w2.heap.size 114 13 vT k (rtAll ((S.threads.map bareT).take k))) (fun i _=>S.threads.length - (intOf i).toNat)
 case atStart=>exact ⟨0,_,Nat.zero_le _,rfl,NS0.out,World.ownsRow_nil _ _ _ _⟩
 case round =>
  obtain ⟨k,vT,hk,rfl,hns,hrow⟩:=hrel
  have NK:=hid hns
  have RK:=hid hrow
  have x2:=hns.x.cell 2
  have c8:=hns.c.cell 8
  simp [nsCells] at x2 c8
  have f8:=hns.c.frozen 8
  have hsbl:=hns.c.lt
  have hsz2:=hns.but.size
  clear hns hrow
  by_cases hlt:k < S.threads.length
  ·obtain ⟨b,o,cv,cc,hta,hbb,y0,_⟩:=HS.out.threads k hlt
   rw [hta] at x2
   have y0':wr.cell? ⟨b,o + k * 5,none⟩=some (.int .i64 S.threads[k].base):=by
    have e1:=hb02.cell (p:=⟨b,o + k * 5,none⟩) hbb
    have e2:=NK.out.but.cell (p:=⟨b,o + k * 5,none⟩) (by show b < _; have:=NK.out.nl; omega) (by show b ≠ sb; have:=HSB.out; have:=hb01.size; omega)
    exact e2.trans (e1.trans y0)
   clear hta y0
   have hkI:(k:Int) < (S.threads.length:Int):=by omega
   go_wp2_with fail
   go_region_law (refine step_append_own rfl (.tmp 27) (.tmp 35) 80 rfl w2.heap.size 114 iT (.agg #[.int .i64 0,.int .i64 0,.int .i64 0,.int .i64 0,.int .i64 0,.int .i64 0,.bool false,.int .i64 0,.int .i64 0,.int .i64 0,.int .i64 0,.int .i64 0,.int .i64 0]) 13 104 Tryz.underlying80 HIT.out.1 HIT.out.2.1 HIT.out.2.2.1 HIT.out.2.2.2 rfl (by decide) vT k (rtAll ((S.threads.map bareT).take k)) (by simp [Act.eval]) (RK.out.drew.alloc _) ⟨wr.heap.size,0,none⟩ 1 1 (rtCells (bareT S.threads[k])) (by simp [Act.eval]) rfl (fun j u hj=>(by rw [Addr.add_lit,Nat.zero_add]; exact ((Blk.new wr.drew (rtCells (bareT S.threads[k])).toArray 114).cell j).trans (by simpa using hj))) (rtCells_one _) (by unfold maxLen; omega) (by omega) (by simp; omega) ?_; intro v' w5 hown5 hg5; obtain ⟨tv5,tc5,rfl,_,_⟩:=owns_cells hown5; have N5:=hid ((NK.out.drew.alloc _).grown hg5 (fun g hg=>(ownsRow_block RK.out hg).1)); have z5:=N5.out.c.frozen 8; have y5:=N5.out.c.cell 8; simp [nsCells] at y5; have O5:=hid hown5; clear hown5 hg5)
   all_goals
    go_wp2
    go_roundw
    case rel =>
     refine ⟨k + 1,_,by omega,by go_num,N5.out.set8 _,?_⟩
     have hrow:w5.ownsRow w2.heap.size 114 13 (.slice tv5 (k + 1) tc5) (k + 1) (rtAll ((S.threads.map bareT).take (k + 1))):=by
      rw [take_map_succ bareT _ k hlt,rtAll_append]
      simpa [rtAll] using O5.out
     refine ownsRow_same hrow fun g hg=>Below.heap_setCell _ _ _ _ ?_
     have:=(ownsRow_block hrow hg).1
     have:=N5.out.sbl
     show g ≠ sb
     omega
    case measure=>simp [intOf]; omega
  ·have e:k=S.threads.length:=by omega
   have hrow:wr.ownsRow w2.heap.size 114 13 vT S.threads.length (rtAll (S.threads.map bareT)):=by
    have h0:=RK.out
    rw [e,List.take_of_length_le (by simp)] at h0
    exact h0
   have RT1:=hid hrow
   have hlow:sb < w2.heap.size:=NK.out.sbl
   have N1:=hid NK.out.restart
   have B1:=hid NK.out.but
   clear e hrow NK RK f8 c8 hsbl
   go_wp2
   clear x2
   obtain ⟨i3,hi3,hz30,hz31,hz32⟩:=info_parts Tryz.infoInt
   have HI3:=hid (And.intro hi3 (And.intro hz30 (And.intro hz31 hz32)))
   clear hi3 hz30 hz31 hz32
   generalize wr=wA at *
   go_loopw [6] (fun i wr=>∃ (k:Nat) (vO:Value),k<=S.mutexes.length/\i=.int .i64 k/\NS w.heap.size sb S #[.int .i64 S.workers,.int .i64 S.start,.slice tv S.threads.length tc,.slice mv S.mutexes.length mc,.slice sv S.sems.length sc,.slice qv S.queues.length qc] (.slice tv' S.threads.length tc') (.slice mv' S.mutexes.length mc') (.slice sv' S.sems.length sc') (.slice qv' S.queues.length qc') wA wr vT vO (.slice none 0 0) (.slice none 0 0)/\wr.ownsRow wA.heap.size 3 1 vO k (intCells (List.replicate k (-1)))) (fun i _=>S.mutexes.length - (intOf i).toNat)
   case atStart=>exact ⟨0,_,Nat.zero_le _,rfl,N1.out,World.ownsRow_nil _ _ _ _⟩
   case round =>
    obtain ⟨k,vO,hk,rfl,hns,hrow⟩:=hrel
    have NK:=hid hns
    have RK:=hid hrow
    have x3:=hns.x.cell 3
    have c9:=hns.c.cell 9
    simp [nsCells] at x3 c9
    have f9:=hns.c.frozen 9
    have hsbl:=hns.c.lt
    have hsz2:=hns.but.size
    clear hns hrow
    by_cases hlt:k < S.mutexes.length
    ·go_wp2_with (at_builtin; refine wpList_append_src rfl (.tmp 50) (.tmp 51) 25 rfl wA.heap.size 3 i3 (.int .i64 0) 1 8 Tryz.underlying25 HI3.out.1 HI3.out.2.1 HI3.out.2.2.1 HI3.out.2.2.2 rfl (by decide) vO k (intCells (List.replicate k (-1))) rfl (RK.out.alloc _) (some ⟨wr.heap.size,0,none⟩) 1 1 [.int .i64 (-1)] rfl rfl (fun h=>(by cases h)) (fun j u hj=>⟨_,rfl,(by rw [Addr.add_lit,Nat.zero_add,(Blk.new wr #[.int .i64 (-1)] 3).cell]; simpa using hj)⟩) (by intro u hu; simp at hu; subst hu; rfl) (by unfold maxLen; omega) (by omega) (by simp; omega) ?_; intro v' w5 hown5 hg5; obtain ⟨tv5,tc5,rfl,_,_⟩:=owns_cells hown5; have N5:=hid ((NK.out.alloc _).grown hg5 (fun g hg=>(ownsRow_block RK.out hg).1)); have z5:=N5.out.c.frozen 9; have y5:=N5.out.c.cell 9; simp [nsCells] at y5; have O5:=hid hown5; clear hown5 hg5)
     go_roundw
     case rel =>
      refine ⟨k + 1,_,by omega,by go_num,N5.out.set9 _,?_⟩
      have hrow:w5.ownsRow wA.heap.size 3 1 (.slice tv5 (k + 1) tc5) (k + 1) (intCells (List.replicate (k + 1) (-1))):=by
       rw [List.replicate_succ',intCells_append]
       exact O5.out
      refine ownsRow_same hrow fun g hg=>Below.heap_setCell _ _ _ _ ?_
      have:=(ownsRow_block hrow hg).1
      have:=N5.out.sbl
      show g ≠ sb
      omega
     case measure=>simp [intOf]; omega
    ·have e:k=S.mutexes.length:=by omega
     have hrow:wr.ownsRow wA.heap.size 3 1 vO S.mutexes.length (intCells (List.replicate S.mutexes.length (-1))):=by
      have h0:=RK.out
      rw [e] at h0
      exact h0
     have RO1:=hid hrow
     have HO:=hid (fun g (hg:vO.ownBlock=some g)=>And.intro (ownsRow_block hrow hg).1 (ownsRow_block hrow hg).2.1)
     have RT2:=hid (NK.out.row RT1.out hlow)
     have hlowA:sb < wA.heap.size:=NK.out.sbl
     have N2:=hid NK.out.restart
     have B2:=hid NK.out.but
     clear e hrow NK RK f9 c9 hsbl RT1 N1
     go_wp2
     clear x3
     generalize wr=wB at *
     go_loopw [7] (fun i wr=>∃ (k:Nat) (vC:Value),k<=S.sems.length/\i=.int .i64 k/\NS w.heap.size sb S #[.int .i64 S.workers,.int .i64 S.start,.slice tv S.threads.length tc,.slice mv S.mutexes.length mc,.slice sv S.sems.length sc,.slice qv S.queues.length qc] (.slice tv' S.threads.length tc') (.slice mv' S.mutexes.length mc') (.slice sv' S.sems.length sc') (.slice qv' S.queues.length qc') wB wr vT vO vC (.slice none 0 0)/\wr.ownsRow wB.heap.size 3 1 vC k (intCells ((S.sems.map PairD.x).take k))) (fun i _=>S.sems.length - (intOf i).toNat)
     case atStart=>exact ⟨0,_,Nat.zero_le _,rfl,N2.out,World.ownsRow_nil _ _ _ _⟩
     case round =>
      obtain ⟨k,vC,hk,rfl,hns,hrow⟩:=hrel
      have NK:=hid hns
      have RK:=hid hrow
      have x4:=hns.x.cell 4
      have c10:=hns.c.cell 10
      simp [nsCells] at x4 c10
      have f10:=hns.c.frozen 10
      have hsbl:=hns.c.lt
      have hsz3:=hns.but.size
      clear hns hrow
      by_cases hlt:k < S.sems.length
      ·obtain ⟨b,o,hta,hbb,y0,_⟩:=HS.out.sems k hlt
       rw [hta] at x4
       have y0':wr.cell? ⟨b,o + k * 2,none⟩=some (.int .i64 S.sems[k].x):=by
        have e1:=hb02.cell (p:=⟨b,o + k * 2,none⟩) hbb
        have hne:b ≠ sb:=by have:=HSB.out; have:=hb01.size; omega
        have hn2:=hb02.size
        have e2:=B1.out.cell (p:=⟨b,o + k * 2,none⟩) (by show b < _; omega) hne
        have e3:=B2.out.cell (p:=⟨b,o + k * 2,none⟩) (by show b < _; omega) hne
        have e4:=NK.out.but.cell (p:=⟨b,o + k * 2,none⟩) (by show b < _; omega) hne
        exact e4.trans (e3.trans (e2.trans (e1.trans y0)))
       clear hta y0
       have hkI:(k:Int) < (S.sems.length:Int):=by omega
       go_wp2_with fail
       go_region_law (refine step_append_own rfl (.tmp 66) (.tmp 73) 25 rfl wB.heap.size 3 i3 (.int .i64 0) 1 8 Tryz.underlying25 HI3.out.1 HI3.out.2.1 HI3.out.2.2.1 HI3.out.2.2.2 rfl (by decide) vC k (intCells ((S.sems.map PairD.x).take k)) (by simp [Act.eval]) (RK.out.drew.alloc _) ⟨wr.heap.size,0,none⟩ 1 1 [.int .i64 S.sems[k].x] (by simp [Act.eval]) rfl (fun j u hj=>(by rw [Addr.add_lit,Nat.zero_add]; exact ((Blk.new wr.drew #[.int .i64 S.sems[k].x] 3).cell j).trans (by simpa using hj))) (by intro u hu; simp at hu; subst hu; rfl) (by unfold maxLen; omega) (by omega) (by simp; omega) ?_; intro v' w5 hown5 hg5; obtain ⟨tv5,tc5,rfl,_,_⟩:=owns_cells hown5; have N5:=hid ((NK.out.drew.alloc _).grown hg5 (fun g hg=>(ownsRow_block RK.out hg).1)); have z5:=N5.out.c.frozen 10; have y5:=N5.out.c.cell 10; simp [nsCells] at y5; have O5:=hid hown5; clear hown5 hg5)
       all_goals
        go_wp2
        go_roundw
        case rel =>
         refine ⟨k + 1,_,by omega,by go_num,N5.out.set10 _,?_⟩
         have hrow:w5.ownsRow wB.heap.size 3 1 (.slice tv5 (k + 1) tc5) (k + 1) (intCells ((S.sems.map PairD.x).take (k + 1))):=by
          rw [take_map_succ PairD.x _ k hlt,intCells_append]
          exact O5.out
         refine ownsRow_same hrow fun g hg=>Below.heap_setCell _ _ _ _ ?_
         have:=(ownsRow_block hrow hg).1
         have:=N5.out.sbl
         show g ≠ sb
         omega
        case measure=>simp [intOf]; omega
      ·have e:k=S.sems.length:=by omega
       have hrow:wr.ownsRow wB.heap.size 3 1 vC S.sems.length (intCells (S.sems.map PairD.x)):=by
        have h0:=RK.out
        rw [e,List.take_of_length_le (by simp)] at h0
        exact h0
       have RC1:=hid hrow
       have HC:=hid (fun g (hg:vC.ownBlock=some g)=>And.intro (ownsRow_block hrow hg).1 (ownsRow_block hrow hg).2.1)
       have RT3:=hid (NK.out.row RT2.out hlow)
       have RO2:=hid (NK.out.row RO1.out hlowA)
       have hlowB:sb < wB.heap.size:=NK.out.sbl
       have N3:=hid NK.out.restart
       have B3:=hid NK.out.but
       clear e hrow NK RK f10 c10 hsbl RT2 RO1 N2
       go_wp2
       clear x4
       obtain ⟨iS,hiS,hzS0,hzS1,hzS2⟩:=info_parts Tryz.infoInts
       have HIS:=hid (And.intro hiS (And.intro hzS0 (And.intro hzS1 hzS2)))
       clear hiS hzS0 hzS1 hzS2
       generalize wr=wC at *
       go_loopw [8] (fun i wr=>∃ (k:Nat) (vB:Value),k<=S.queues.length/\i=.int .i64 k/\NS w.heap.size sb S #[.int .i64 S.workers,.int .i64 S.start,.slice tv S.threads.length tc,.slice mv S.mutexes.length mc,.slice sv S.sems.length sc,.slice qv S.queues.length qc] (.slice tv' S.threads.length tc') (.slice mv' S.mutexes.length mc') (.slice sv' S.sems.length sc') (.slice qv' S.queues.length qc') wC wr vT vO vC vB/\wr.ownsRow wC.heap.size 25 1 vB k (List.replicate k (.slice none 0 0))) (fun i _=>S.queues.length - (intOf i).toNat)
       case atStart=>exact ⟨0,_,Nat.zero_le _,rfl,N3.out,World.ownsRow_nil _ _ _ _⟩
       case round =>
        obtain ⟨k,vB,hk,rfl,hns,hrow⟩:=hrel
        have NK:=hid hns
        have RK:=hid hrow
        have x5:=hns.x.cell 5
        have c11:=hns.c.cell 11
        simp [nsCells] at x5 c11
        have f11:=hns.c.frozen 11
        have hsbl:=hns.c.lt
        have hsz4:=hns.but.size
        clear hns hrow
        by_cases hlt:k < S.queues.length
        ·go_wp2_with (at_builtin; refine wpList_append_src rfl (.tmp 88) (.tmp 89) 42 rfl wC.heap.size 25 iS (.slice none 0 0) 1 24 Tryz.underlying42 HIS.out.1 HIS.out.2.1 HIS.out.2.2.1 HIS.out.2.2.2 rfl (by decide) vB k (List.replicate k (.slice none 0 0)) rfl (RK.out.alloc _) (some ⟨wr.heap.size,0,none⟩) 1 1 [.slice none 0 0] rfl rfl (fun h=>(by cases h)) (fun j u hj=>⟨_,rfl,(by rw [Addr.add_lit,Nat.zero_add,(Blk.new wr #[.slice none 0 0] 25).cell]; simpa using hj)⟩) (by intro u hu; simp at hu; subst hu; rfl) (by unfold maxLen; omega) (by omega) (by simp; omega) ?_; intro v' w5 hown5 hg5; obtain ⟨tv5,tc5,rfl,_,_⟩:=owns_cells hown5; have N5:=hid ((NK.out.alloc _).grown hg5 (fun g hg=>(ownsRow_block RK.out hg).1)); have z5:=N5.out.c.frozen 11; have y5:=N5.out.c.cell 11; simp [nsCells] at y5; have O5:=hid hown5; clear hown5 hg5)
         go_roundw
         case rel =>
          refine ⟨k + 1,_,by omega,by go_num,N5.out.set11 _,?_⟩
          have hrow:w5.ownsRow wC.heap.size 25 1 (.slice tv5 (k + 1) tc5) (k + 1) (List.replicate (k + 1) (.slice none 0 0)):=by
           rw [List.replicate_succ']
           exact O5.out
          refine ownsRow_same hrow fun g hg=>Below.heap_setCell _ _ _ _ ?_
          have:=(ownsRow_block hrow hg).1
          have:=N5.out.sbl
          show g ≠ sb
          omega
         case measure=>simp [intOf]; omega
        ·have e:k=S.queues.length:=by omega
         have hrow:wr.ownsRow wC.heap.size 25 1 vB S.queues.length (List.replicate S.queues.length (.slice none 0 0)):=by
          have h0:=RK.out
          rw [e] at h0
          exact h0
         have RB1:=hid hrow
         have HB:=hid (fun g (hg:vB.ownBlock=some g)=>And.intro (ownsRow_block hrow hg).1 (ownsRow_block hrow hg).2.1)
         have RT4:=hid (NK.out.row RT3.out hlow)
         have RO3:=hid (NK.out.row RO2.out hlowA)
         have RC2:=hid (NK.out.row RC1.out hlowB)
         have B4:=hid NK.out.but
         have N4:=hid NK.out.c
         clear e hrow NK RK f11 c11 hsbl RT3 RO2 RC1 N3
         obtain ⟨ao,cT,rfl,hnT,haT⟩:=owns_cells RT4.out
         have hpos:1<=S.threads.length:=by
          have:=(ok_parts HOK.out).1
          unfold P3.sizesB at this
          rw [decide_eq_true_iff] at this
          omega
         cases ao with
         | none=>have:=(hnT rfl).1; omega
         | some aT =>
          obtain ⟨gT,rfl,hgT,hgTl,_,_⟩:=haT aT rfl
          have hw2:w1.heap.size<=w2.heap.size:=HB2.out.size
          have hsbw:=HSB.out
          have hfin:RMem (fun b=>w0.heap.size<=b/\b < w1.heap.size) wr sb ⟨tv',mv',sv',qv',tc',mc',sc',qc',gT,cT,vO,vC,vB,.slice none 0 0,List.replicate S.queues.length (.slice none 0 0)⟩ (R.bare S):=by
           have hA:=B1.out.size
           have hB:=B2.out.size
           have hC:=B3.out.size
           have hD:=B4.out.size
           refine ⟨?_,?_,HS2.out.same fun b hb=>?_,⟨?_,?_,World.ownsRow_nil _ _ _ _,?_,fun i hi=>?_⟩,?_,?_,fun b hb=>?_⟩
           ·have:=N4.out
            simpa [rsCells,nsCells,R.bare] using this
           ·have:=ownsRow_mono RT4.out (Nat.zero_le _)
            have e:(R.bare S).T.length=S.threads.length:=by simp [R.bare]
            rw [e,bare_T]
            exact this
           ·exact (B4.out.block b (by omega) (by omega)).trans ((B3.out.block b (by omega) (by omega)).trans ((B2.out.block b (by omega) (by omega)).trans (B1.out.block b (by omega) (by omega))))
           ·have:=ownsRow_mono RO3.out (Nat.zero_le _)
            have e1:(R.bare S).owner.length=S.mutexes.length:=by simp [R.bare]
            have e2:(R.bare S).owner=List.replicate S.mutexes.length (-1):=by simp [R.bare,List.map_const']
            rw [e1,e2]
            exact this
           ·have:=ownsRow_mono RC2.out (Nat.zero_le _)
            simpa [R.bare] using this
           ·have:=ownsRow_mono RB1.out (Nat.zero_le _)
            simpa [R.bare] using this
           ·have hi':i < S.queues.length:=by simpa [R.bare] using hi
            refine ⟨.slice none 0 0,by simp [hi'],?_⟩
            have:(R.bare S).box[i]=[]:=by simp [R.bare]
            rw [this]
            exact World.ownsRow_nil _ _ _ _
           ·show ¬ (w0.heap.size<=sb/\sb < w1.heap.size)
            omega
           ·show ¬ (w0.heap.size<=gT/\gT < w1.heap.size)
            omega
           ·omega
          have hbw:Below w.heap.size w wr:=by
           have h2:=hb02.size
           have hA:=B1.out.size
           have hB:=B2.out.size
           have hC:=B3.out.size
           exact hb02.trans ((B1.out.below (by omega) (by omega)).trans ((B2.out.below (by omega) (by omega)).trans ((B3.out.below (by omega) (by omega)).trans (B4.out.below (by omega) (by omega)))))
          have hg0:=good_bare HOK.out
          have hap:RApart (fun b=>w0.heap.size<=b/\b < w1.heap.size) ⟨tv',mv',sv',qv',tc',mc',sc',qc',gT,cT,vO,vC,vB,.slice none 0 0,List.replicate S.queues.length (.slice none 0 0)⟩:=by
           have hA:=B1.out.size
           have hB:=B2.out.size
           have hC:=B3.out.size
           refine ⟨fun g hg hf=>?_,fun g hg=>⟨fun hf=>?_,fun hg'=>?_⟩,fun g hg=>(by cases hg),fun g hg hf=>?_,fun i v g hv hg=>?_⟩
           ·have:=HO.out g hg
            omega
           ·have:=HC.out g hg
            omega
           ·have:=HC.out g hg
            have:=HO.out g hg'
            omega
           ·have:=HB.out g hg
            omega
           ·rw [List.getElem?_replicate] at hv
            split at hv
            ·cases hv
             cases hg
            ·cases hv
          have hin:RIn (fun b=>w.heap.size<=b) (fun b=>w0.heap.size<=b/\b < w1.heap.size) sb ⟨tv',mv',sv',qv',tc',mc',sc',qc',gT,cT,vO,vC,vB,.slice none 0 0,List.replicate S.queues.length (.slice none 0 0)⟩:=by
           have hA:=B1.out.size
           have hB:=B2.out.size
           have hC:=B3.out.size
           have h2sz:=hb02.size
           have h0sz:=hb0.size
           refine ⟨fun b hb=>by omega,by omega,by show w.heap.size<=gT; omega,fun g hg=>?_,fun g hg=>?_,fun g hg=>(by cases hg),fun g hg=>?_,fun i v g hv hg=>?_⟩
           ·have:=HO.out g hg
            omega
           ·have:=HC.out g hg
            omega
           ·have:=HB.out g hg
            omega
           ·rw [List.getElem?_replicate] at hv
            split at hv
            ·cases hv
             cases hg
            ·cases hv
          have AP:=hid hap
          have IN:=hid hin
          clear hap hin
          have FI:=hid hfin
          have BW:=hid hbw
          have G0:=hid hg0
          have h2sz:=hb02.size
          clear hfin hbw hg0 RT4 RO3 RC2 RB1 N4 B1 B2 B3 B4 haT hnT
          go_wp2_with fail
          refine (rRelease_any _ wr sb _ (R.bare S) FI.out G0.out (by show (0:Int)<=_; decide)).mono ?_
          rintro e wD ⟨rfl,hmD,hoD⟩
          have MD:=hid hmD
          have OD:=hid hoD
          have G1:=hid (good_release G0.out (by show (0:Int)<=_; decide))
          clear hmD hoD
          go_wp2_with fail
          have hwk:(R.release (R.bare S)).set.workers=(S.workers.toNat:Int):=by
           have h1:(R.release (R.bare S)).set=S:=R.releaseTo_set _ _
           rw [h1]
           have:=G0.out.wk0
           have h3:(R.bare S).set.workers=S.workers:=rfl
           omega
          refine (rSettle_any _ wD sb _ (R.release (R.bare S)) MD.out G1.out S.workers.toNat hwk).mono ?_
          rintro e wE ⟨rfl,hmE,hoE⟩
          have ME:=hid hmE
          have OE:=hid (OD.out.trans hoE)
          clear hmE hoE
          go_wp2
          go_ret
          refine ⟨sb,_,_,rfl,ME.out,AP.out,IN.out,BW.out.trans (OE.out.below BW.out.size ?_)⟩
          intro b hb
          simp at hb
          rcases hb with rfl | rfl <;> omega
end Go.Proofs.YtbkfildnijjioaaGreat

namespace Go.Proofs.YtbkfildnijjioaaGreat
open Go.RowKit
structure RNext (h h':RH) (N:Nat):Prop where
 t:h'.gT=h.gT
 all:∀ b,b ∈ h'.foot->b ∈ h.foot\/N<=b
 m:∀ b,h'.vM.ownBlock=some b->h.vM.ownBlock=some b\/N<=b
theorem RNext.refl (h:RH) (N:Nat):RNext h h N:=⟨rfl,fun _ hb=>.inl hb,fun _ hb=>.inl hb⟩
theorem RNext.setBox {h:RH} {k N:Nat} {v v':Value} (hv:h.bs[k]?=some v) (hat:∀ b,v'.ownBlock=some b->v.ownBlock=some b\/N<=b):RNext h { h with bs:=h.bs.set k v' } N:=by
 refine ⟨rfl,fun b hb=>?_,fun b hb=>.inl hb⟩
 simp only [RH.foot,List.mem_cons,List.mem_append,List.mem_flatMap,Option.mem_toList] at hb ⊢
 rcases hb with hb | ((hb | hb) | hb) | ⟨u,hu,hb⟩
 ·exact .inl (.inl hb)
 ·exact .inl (.inr (.inl (.inl (.inl hb))))
 ·exact .inl (.inr (.inl (.inl (.inr hb))))
 ·exact .inl (.inr (.inl (.inr hb)))
 ·rcases List.mem_or_eq_of_mem_set hu with hu' | rfl
  ·exact .inl (.inr (.inr ⟨u,hu',hb⟩))
  ·rcases hat b hb with h1 | h1
   ·exact .inl (.inr (.inr ⟨v,List.mem_of_getElem? hv,h1⟩))
   ·exact .inr h1
theorem RMem.lts {F:Nat->Prop} {w:World} {sb:Nat} {h:RH} {s:RS} (m:RMem F w sb h s):(∀ b,h.vO.ownBlock=some b->b < w.heap.size)/\(∀ b,h.vC.ownBlock=some b->b < w.heap.size)/\(∀ (j:Nat) (u:Value) (b:Nat),h.bs[j]?=some u->u.ownBlock=some b->b < w.heap.size):=by
 refine ⟨fun b hb=>(ownsRow_block m.oth.own hb).2.1,fun b hb=>(ownsRow_block m.oth.cnt hb).2.1,fun j u b hu hb=>?_⟩
 have hl:j < s.box.length:=by
  have h1:=m.oth.box.1.1
  rcases Nat.lt_or_ge j h.bs.length with h' | h'
  ·omega
  ·rw [List.getElem?_eq_none h'] at hu; cases hu
 obtain ⟨u',hu',hr⟩:=m.oth.box.2 j hl
 rw [hu] at hu'
 cases hu'
 exact (ownsRow_block hr hb).2.1
set_option maxRecDepth 100000 in
set_option maxHeartbeats 2000000 in
theorem rRecv_any (F:Nat->Prop) (w:World) (sb:Nat) (h:RH) (s:RS) (m:RMem F w sb h s) (ap:RApart F h) (g:RGood s) (t:Nat) (ht:t < s.T.length) (k:Nat) (hk:k < s.box.length) (_hc4:s.box.length<=4)
  (hcb:s.box[k].length<=8) (n:Int) (hn1:n<=1000) (hnx:s.next<=4611686018427386000) :
  Calls Tryz.prog 119 #[.pointer (some ⟨sb,0,none⟩),.int .i64 t,.agg #[.int .i64 11,.int .i64 k,.int .i64 n]] w fun e w'=>e=.returned (.int .i64 (R.recvC s k n))/\∃ h',RMem F w' sb h' (R.recvS s t k n)/\RApart F h'/\RNext h h' w.heap.size/\Only (sb :: h.foot) w w':=by
 have hfew:=g.few
 have hn0:=g.nxt0
 have hnow:0<=s.now:=by have:=g.now0; have:=g.now1; omega
 have hnow1:=g.now2
 have eg:R.boxAt s k=s.box[k]:=by simp [R.boxAt,List.getD,hk]
 have EC:Hid (R.recvC s k n=if 0 < (R.boxAt s k).length then 0 else if n=0 then 2 else 1):=rfl
 have ESS:Hid (R.recvS s t k n=if R.recvC s k n=0 then { R.gets s t ((R.boxAt s k).getD 0 0) with box:=s.box.set k ((R.boxAt s k).drop 1) } else if R.recvC s k n=1 then R.beginW s t 3 (k:Int) n else s):=rfl
 rw [eg] at EC ESS
 clear eg
 have MA:=hid (m.below ((Below.refl _ _).alloc (Nat.le_refl _) (.cells #[.int .i64 11,.int .i64 k,.int .i64 n] 61)))
 have OA:Hid (Only (sb :: h.foot) w (w.alloc (.cells #[.int .i64 11,.int .i64 k,.int .i64 n] 61))):=Only.of_below ((Below.refl _ _).alloc (Nat.le_refl _) _)
 have BA:Hid (Blk (w.alloc (.cells #[.int .i64 11,.int .i64 k,.int .i64 n] 61)) w.heap.size #[.int .i64 11,.int .i64 k,.int .i64 n] 61):=Blk.new _ _ _
 have G:=hid g
 have AP:=hid ap
 generalize hbox:s.box[k]=B at *
 have HBOX:=hid hbox
 clear hbox m g ap
 generalize R.recvC s k n=uc at *
 generalize R.recvS s t k n=us at *
 have hkI:(k:Int) < (s.box.length:Int):=by omega
 go_enter Tryz.func119,Tryz.ntmps119
 go_upto_region 1 with fail
 generalize hwA:w.alloc (.cells #[.int .i64 11,.int .i64 k,.int .i64 n] 61)=wA at *
 have hszA:w.heap.size < wA.heap.size:=by rw [<- hwA]; simp
 clear hwA
 have b0:=BA.out.cell 0
 have b1:=BA.out.cell 1
 have b2:=BA.out.cell 2
 simp at b0 b1 b2
 obtain ⟨gB,cB,v,hvB,hbs,xk,fk,hrow⟩:=MA.out.boxAt hk
 rw [HBOX.out] at hrow
 have c11:=MA.out.blk.cell 11
 simp [rsCells] at c11
 rw [hvB] at c11
 have HVB:=hid hvB
 have HBS:=hid hbs
 have ROW:=hid hrow
 obtain ⟨ao,cq,rfl,hqn,hqa⟩:=owns_cells hrow
 have HQN:=hid hqn
 have HQA:=hid hqa
 clear hvB hbs hrow hqn hqa
 by_cases hpos:0 < B.length
 ·rw [if_pos hpos] at EC
  cases ao with
  | none=>have:=(HQN.out rfl).1; omega
  | some aq =>
   obtain ⟨gq,rfl,_,hgql,_,hqc⟩:=HQA.out aq rfl
   have q0:wA.cell? ⟨gq,0,none⟩=some (.int .i64 (B.getD 0 0)):=by
    rw [hqc 0 (by omega)]
    cases B with
    | nil=>simp at hpos
    | cons x xs=>simp [intCells]
   have HQC:=hid hqc
   clear hqc
   generalize hbv:B.getD 0 0=bv at *
   have HBV:=hid hbv
   clear hbv
   have hlI:(0:Int) < (B.length:Int):=by omega
   have hld:decide ((0:Int) < (B.length:Int))=true:=by simpa using hpos
   go_wp2_with fail
   go_quiet (fail)
   generalize hwB:wA.drewN nq=wB at *
   have MB:Hid (RMem F wB sb h s):=by rw [<- hwB]; exact MA.out.drewN nq
   have OB:Hid (Only (sb :: h.foot) w wB):=by rw [<- hwB]; exact OA.out.drewN nq
   have BB:Hid (Blk wB w.heap.size #[.int .i64 11,.int .i64 k,.int .i64 n] 61):=by rw [<- hwB]; exact BA.out
   have hszB:w.heap.size < wB.heap.size:=by rw [<- hwB]; exact hszA
   have q0':wB.cell? ⟨gq,0,none⟩=some (.int .i64 bv):=by rw [<- hwB]; exact q0
   have ROWB:Hid (wB.ownsRow 0 3 1 (.slice (some ⟨gq,0,none⟩) B.length cq) B.length (intCells B)):=by rw [<- hwB]; exact ROW.out
   clear hwB b0 b1 b2 c11 xk fk q0 MA OA BA HQC HQA HQN ROW
   have c8:=MB.out.blk.cell 8
   simp [rsCells] at c8
   have a3:=MB.out.tcell ht 3 (by decide)
   simp [rtCells] at a3
   have f3:=MB.out.tfrozen (t * 13 + 3)
   have htI:(t:Int) < (s.T.length:Int):=by omega
   have b0:=BB.out.cell 0
   simp at b0
   go_wp2_with fail
   go_region
   have hmC:=(MB.out.setT ht (j:=3) (by decide) (.int .i64 bv) (fun x=>{ x with got:=bv }) rfl).below (Below.refl _ _).drew
   have hoC:Only [sb,h.gT] wB (wB.setCell ⟨h.gT,t * 13 + 3,none⟩ (.int .i64 bv)).drew:=((Only.refl _ _).setCell (.inl (by simp)) _).via (Below.refl _ _).drew
   clear c8 a3 f3 q0' b0
   generalize (wB.setCell ⟨h.gT,t * 13 + 3,none⟩ (.int .i64 bv)).drew=wC at hmC hoC ⊢
   have MC:=hid hmC
   have OC:=hid (OB.out.trans (hoC.mono (RH.foot_two h sb)))
   have hgne:∀ b,b < wB.heap.size->b ≠ sb->b ≠ h.gT->wC.heap[b]?=wB.heap[b]?:=fun b hb h1 h2=>hoC.block b hb (by simp; exact ⟨h1,h2⟩)
   have hszC:=hoC.size
   have rowC:wC.ownsRow 0 3 1 (.slice (some ⟨gq,0,none⟩) B.length cq) B.length (intCells B):=by
    refine ownsRow_same ROWB.out fun b hb=>?_
    obtain ⟨_,hl,cur,hc⟩:=ownsRow_block ROWB.out hb
    obtain ⟨e1,e2⟩:=MB.out.ownType hc (by decide) (by decide)
    exact hgne b hl (fun e=>e1 e.symm) (fun e=>e2 e.symm)
   have ROWC:=hid rowC
   have blkC:Blk wC w.heap.size #[.int .i64 11,.int .i64 k,.int .i64 n] 61:=by
    refine BB.out.only hoC (by
     simp
     have:=MB.out.blk.lt
     refine ⟨fun e=>?_,fun e=>?_⟩
     ·rw [e] at BB
      exact absurd (blk_type MB.out.blk BB.out) (by decide)
     ·obtain ⟨_,_,cur',hc'⟩:=ownsRow_block MB.out.rows rfl
      have hb:=BB.out
      unfold Blk at hb
      rw [e,hc'] at hb
      cases hb)
   have BC:=hid blkC
   clear hmC hoC hgne rowC blkC ROWB MB OB BB
   have hcq:B.length<=cq:=by
    rcases ROWC.out.2 with ⟨e,_⟩ | ⟨g',cap,cur,e,_,_,h4,h5,_⟩
    ·cases e
    ·cases e
     exact h4
   have hcq2:cq<=maxLen:=by
    rcases ROWC.out.2 with ⟨e,_⟩ | ⟨g',cap,cur,e,_,_,h4,h5,_⟩
    ·cases e
    ·cases e
     exact h5
   obtain ⟨i3,hi3,hz30,hz31,hz32⟩:=info_parts Tryz.infoInt
   have HI3:=hid (And.intro hi3 (And.intro hz30 (And.intro hz31 hz32)))
   clear hi3 hz30 hz31 hz32
   have hnews:=drop_news ROWC.out
   have HNEWS:=hid hnews
   clear hnews
   by_cases hc1:cq=1
   ·subst hc1
    have hB1:B.length=1:=by omega
    go_upto_region 7 with (at_builtin; refine wpList_append_src_at rfl (.tmp 34) (.tmp 36) 25 rfl 0 3 i3 (.int .i64 0) 1 8 Tryz.underlying25 HI3.out.1 HI3.out.2.1 HI3.out.2.2.1 HI3.out.2.2.2 rfl (by decide) (.slice none 0 0) 0 [] rfl (World.ownsRow_nil _ _ _ _) _ 0 0 [] rfl rfl (fun _=>rfl) (fun j u hj=>(by simp at hj)) (fun u hu=>(by simp at hu)) (by unfold maxLen; omega) (by omega) (Nat.zero_le _) ?_; intro v' wD hown hg hat)
    have hr:wD.ownsRow 0 3 1 v' (B.drop 1).length (intCells (B.drop 1)):=by
     have e:B.drop 1=[]:=by apply List.eq_nil_of_length_eq_zero; simp; omega
     rw [e]
     exact hown
    generalize B.drop 1=D at *
    obtain ⟨tv5,tc5,rfl,_,_⟩:=owns_cells hr
    have hbd:Below wC.heap.size wC wD:=⟨hg.os,hg.tape,hg.output,hg.size,fun b hb=>hg.block b hb (by simp [Value.ownBlock])⟩
    have MD:=hid (MC.out.below hbd)
    have OD:=hid (OC.out.via hbd)
    have BD:Hid (Blk wD w.heap.size #[.int .i64 11,.int .i64 k,.int .i64 n] 61):=by
     have hl:=BC.out.lt
     have hb:=BC.out
     unfold Blk at hb ⊢
     exact hid ((hbd.block _ hl).trans hb)
    have hat2:∀ b,(Value.slice tv5 D.length tc5).ownBlock=some b->(Value.slice (some (⟨gq,0,none⟩:Addr)) B.length 1).ownBlock=some b\/wC.heap.size<=b:=by
     intro b hb
     rcases hat with e | e
     ·rw [e] at hb
      cases hb
     ·rw [e] at hb
      cases hb
      exact .inr (Nat.le_refl _)
    have HAT:=hid hat2
    have HR:=hid hr
    have hN:w.heap.size<=wC.heap.size:=by omega
    have LTS:=hid (And.intro MC.out.lt MC.out.lts)
    clear hr hg hat hown hbd MC OC BC ROWC HNEWS hat2
    obtain ⟨gB2,cB2,v2,hvB2,hbs2,xk2,fk2,hrow2⟩:=MD.out.boxAt (k:=k) hk
    have e2:=hvB2
    rw [HVB.out] at e2
    simp at e2
    obtain ⟨e3,e4⟩:=e2
    subst e3
    subst e4
    have e5:=hbs2
    rw [HBS.out] at e5
    cases e5
    have c11:=MD.out.blk.cell 11
    simp [rsCells] at c11
    rw [HVB.out] at c11
    have b1:=BD.out.cell 1
    simp at b1
    have ROW2:=hid hrow2
    clear hvB2 hbs2 hrow2
    go_wp2_with fail
    go_region
    go_wp2
    go_ret
    have hm2:=(MD.out.setBox AP.out HVB.out hk HBS.out (.inl rfl) ⟨rfl,rfl,rfl,Nat.le_refl _,fun _ _ _=>rfl⟩ HR.out ROW2.out).below (Below.refl _ _).drew
    refine ⟨?_,_,?_,AP.out.setBox HBS.out LTS.out.1 LTS.out.2.1 LTS.out.2.2.1 LTS.out.2.2.2 HAT.out,RNext.setBox HBS.out (fun b hb=>(HAT.out b hb).imp id (fun h1=>by omega)),?_⟩
    ·rw [EC.out]
     rfl
    ·rw [ESS.out,EC.out,if_pos rfl]
     exact hm2
    ·refine (Only.setCell OD.out (.inl ?_) _).via (Below.refl _ _).drew
     rw [RH.foot,HVB.out]
     simp [Value.ownBlock]
   ·have hc1d:(cq == 1)=false:=by simpa using hc1
    go_upto_region 7 with (at_builtin; refine wpList_append_src_at rfl (.tmp 34) (.tmp 36) 25 rfl 0 3 i3 (.int .i64 0) 1 8 Tryz.underlying25 HI3.out.1 HI3.out.2.1 HI3.out.2.2.1 HI3.out.2.2.2 rfl (by decide) (.slice none 0 0) 0 [] rfl (World.ownsRow_nil _ _ _ _) (some ⟨gq,1,none⟩) (B.length - 1) (cq - 1) (intCells (B.drop 1)) rfl (by rw [intCells_length]; simp) (fun hh=>(by cases hh)) HNEWS.out (intCells_one _) (by unfold maxLen; omega) (by omega) (Nat.zero_le _) ?_; intro v' wD hown hg hat)
    have hr:wD.ownsRow 0 3 1 v' (B.drop 1).length (intCells (B.drop 1)):=by
     have e:(B.drop 1).length=B.length - 1:=by simp
     rw [e]
     simpa using hown
    generalize B.drop 1=D at *
    obtain ⟨tv5,tc5,rfl,_,_⟩:=owns_cells hr
    have hbd:Below wC.heap.size wC wD:=⟨hg.os,hg.tape,hg.output,hg.size,fun b hb=>hg.block b hb (by simp [Value.ownBlock])⟩
    have MD:=hid (MC.out.below hbd)
    have OD:=hid (OC.out.via hbd)
    have BD:Hid (Blk wD w.heap.size #[.int .i64 11,.int .i64 k,.int .i64 n] 61):=by
     have hl:=BC.out.lt
     have hb:=BC.out
     unfold Blk at hb ⊢
     exact hid ((hbd.block _ hl).trans hb)
    have hat2:∀ b,(Value.slice tv5 D.length tc5).ownBlock=some b->(Value.slice (some (⟨gq,0,none⟩:Addr)) B.length cq).ownBlock=some b\/wC.heap.size<=b:=by
     intro b hb
     rcases hat with e | e
     ·rw [e] at hb
      cases hb
     ·rw [e] at hb
      cases hb
      exact .inr (Nat.le_refl _)
    have HAT:=hid hat2
    have HR:=hid hr
    have hN:w.heap.size<=wC.heap.size:=by omega
    have LTS:=hid (And.intro MC.out.lt MC.out.lts)
    clear hr hg hat hown hbd MC OC BC ROWC HNEWS hat2
    obtain ⟨gB2,cB2,v2,hvB2,hbs2,xk2,fk2,hrow2⟩:=MD.out.boxAt (k:=k) hk
    have e2:=hvB2
    rw [HVB.out] at e2
    simp at e2
    obtain ⟨e3,e4⟩:=e2
    subst e3
    subst e4
    have e5:=hbs2
    rw [HBS.out] at e5
    cases e5
    have c11:=MD.out.blk.cell 11
    simp [rsCells] at c11
    rw [HVB.out] at c11
    have b1:=BD.out.cell 1
    simp at b1
    have ROW2:=hid hrow2
    clear hvB2 hbs2 hrow2
    go_wp2_with fail
    go_region
    go_wp2
    go_ret
    have hm2:=(MD.out.setBox AP.out HVB.out hk HBS.out (.inl rfl) ⟨rfl,rfl,rfl,Nat.le_refl _,fun _ _ _=>rfl⟩ HR.out ROW2.out).below (Below.refl _ _).drew
    refine ⟨?_,_,?_,AP.out.setBox HBS.out LTS.out.1 LTS.out.2.1 LTS.out.2.2.1 LTS.out.2.2.2 HAT.out,RNext.setBox HBS.out (fun b hb=>(HAT.out b hb).imp id (fun h1=>by omega)),?_⟩
    ·rw [EC.out]
     rfl
    ·rw [ESS.out,EC.out,if_pos rfl]
     exact hm2
    ·refine (Only.setCell OD.out (.inl ?_) _).via (Below.refl _ _).drew
     rw [RH.foot,HVB.out]
     simp [Value.ownBlock]
 ·rw [if_neg hpos] at EC
  have hld:decide ((0:Int) < (B.length:Int))=false:=by simpa using hpos
  cases hz:(n == 0)
  ·rw [if_neg (by simpa using hz)] at EC
   go_wp2_with fail
   go_quiet (fail)
   go_wp2_with fail
   refine (rBegin_any F _ sb h s (MA.out.drewN nq) t ht hfew 3 (k:Int) n hn1 hnow hnow1 hn0 (by omega)).mono ?_
   rintro e w2 ⟨rfl,hm2,ho2⟩
   have M2:=hid hm2
   have O2:=hid ((OA.out.drewN nq).trans (ho2.mono (RH.foot_two h sb)))
   clear hm2 ho2
   go_wp2
   go_ret
   refine ⟨?_,h,?_,AP.out,RNext.refl _ _,O2.out⟩
   ·rw [EC.out]
    rfl
   ·rw [ESS.out,EC.out]
    exact M2.out
  ·rw [if_pos (by simpa using hz)] at EC
   go_wp2_with fail
   go_quiet (fail)
   go_wp2
   go_ret
   refine ⟨?_,h,?_,AP.out,RNext.refl _ _,OA.out.drewN _⟩
   ·rw [EC.out]
    rfl
   ·rw [ESS.out,EC.out]
    exact MA.out.drewN _
end Go.Proofs.YtbkfildnijjioaaGreat
