import Derived.Test.YtbkfildnijjioaaGreatA16
import Derived.Test.YtbkfildnijjioaaGreatA10
import Derived.Deep.RegionHeld3
import Derived.Test.YtbkfildnijjioaaGreatA23
import Derived.Test.YtbkfildnijjioaaGreatA13
import Derived.Test.YtbkfildnijjioaaGreatA20
namespace Go.Proofs.YtbkfildnijjioaaGreat
open Go.RowKit
namespace P3
theorem e_size {S:SetD} (h:sizesB S=false):err S=1/\place S=0:=by simp [err,place,h]
theorem e_table {S:SetD} (h:sizesB S=true) (ht:(terr S != 0)=true):err S=terr S/\place S=tplace S:=by
 rw [bne_iff_ne] at ht
 unfold terr at ht
 unfold err place terr tplace
 by_cases a:badOr mutexP S.mutexes=-1 <;> by_cases b:badOr semP S.sems=-1 <;> by_cases c:badOr queueB S.queues=-1 <;> simp_all
theorem t_none {S:SetD} (ht:(terr S != 0)=false):badOr mutexP S.mutexes=-1/\badOr semP S.sems=-1/\badOr queueB S.queues=-1:=by
 rw [bne_eq_false_iff_eq] at ht
 unfold terr at ht
 by_cases a:badOr mutexP S.mutexes=-1 <;> by_cases b:badOr semP S.sems=-1 <;> by_cases c:badOr queueB S.queues=-1 <;> simp_all
theorem e_thread {S:SetD} {k:Nat} (h:sizesB S=true) (ht:(terr S != 0)=false) (hk:badOr threadP S.threads=k):err S=5/\place S=k:=by
 obtain ⟨a,b,c⟩:=t_none ht
 have e:(k:Int) ≠ -1:=by omega
 simp [err,place,h,a,b,c,hk,e]
theorem e_code {S:SetD} {n:Int} (h:sizesB S=true) (ht:(terr S != 0)=false) (hk:badOr threadP S.threads=-1) (hn:badCode S=n) (h0:0<=n):err S=6/\place S=n:=by
 obtain ⟨a,b,c⟩:=t_none ht
 have e:n ≠ -1:=by omega
 simp [err,place,h,a,b,c,hk,hn,e]
theorem e_ok {S:SetD} (h:sizesB S=true) (ht:(terr S != 0)=false) (hk:badOr threadP S.threads=-1) (hn:badCode S=-1):err S=0/\place S=0:=by
 obtain ⟨a,b,c⟩:=t_none ht
 simp [err,place,h,a,b,c,hk,hn]
end P3
set_option maxHeartbeats 1000000 in
theorem rCheck_any (tv mv sv qv:Option Addr) (tc mc sc qc:Nat) (S:SetD) (w:World) (hS:SetIn w.heap.size w tv mv sv qv S) :
  Calls Tryz.prog 27 #[.agg #[.int .i64 S.workers,.int .i64 S.start,.slice tv S.threads.length tc,.slice mv S.mutexes.length mc,.slice sv S.sems.length sc,.slice qv S.queues.length qc]] w fun e w' =>
   e=.returned (.tuple #[.int .i64 (P3.err S),.int .i64 (P3.place S)])/\Below w.heap.size w w':=by
 have HS:Hid (SetIn w.heap.size w tv mv sv qv S):=hS
 clear hS
 go_enter Tryz.func27,Tryz.ntmps27
 go_wp2_with fail
 generalize hw0:w.alloc (.cells #[.int .i64 S.workers,.int .i64 S.start,.slice tv S.threads.length tc,.slice mv S.mutexes.length mc,.slice sv S.sems.length sc,.slice qv S.queues.length qc] 27)=w0
 have hs0:w.heap.size < w0.heap.size:=by rw [<- hw0]; simp
 have b0:w0.cell? ⟨w.heap.size,0,none⟩=some (.int .i64 S.workers):=by rw [<- hw0]; simp
 have b1:w0.cell? ⟨w.heap.size,1,none⟩=some (.int .i64 S.start):=by rw [<- hw0]; simp
 have b2:w0.cell? ⟨w.heap.size,2,none⟩=some (.slice tv S.threads.length tc):=by rw [<- hw0]; simp
 have b3:w0.cell? ⟨w.heap.size,3,none⟩=some (.slice mv S.mutexes.length mc):=by rw [<- hw0]; simp
 have b4:w0.cell? ⟨w.heap.size,4,none⟩=some (.slice sv S.sems.length sc):=by rw [<- hw0]; simp
 have b5:w0.cell? ⟨w.heap.size,5,none⟩=some (.slice qv S.queues.length qc):=by rw [<- hw0]; simp
 have hb0:Below w.heap.size w w0:=by rw [<- hw0]; exact (Below.refl _ _).alloc (Nat.le_refl _) _
 clear hw0
 have HS0:Hid (SetIn w.heap.size w0 tv mv sv qv S):=HS.out.stays hb0
 clear HS
 refine (rSizes_any _ _ _ _ _ _ _ _ S _).mono ?_
 rintro e w1 ⟨rfl,hb1⟩
 cases hz:P3.sizesB S
 ·go_wp2_with fail
  go_ret2
  exact ⟨ret_two (P3.e_size hz),via hb0 (by omega) hb1⟩
 ·obtain ⟨n1,n2,n3,n4⟩:=sizes_of hz
  have HZ:Hid (P3.sizesB S=true):=hz
  clear hz
  obtain ⟨hc1,hf1⟩:=bcell hb1
  have k1:=hb1.size
  go_wp2_with fail
  refine (rTables_any _ _ _ _ _ _ _ _ S _ ((HS0.out.stays (hb1.mono (Nat.le_of_lt hs0))).mono (by omega)) n2 n3 n4).mono ?_
  rintro e w2 ⟨rfl,hb2⟩
  have hB2:=via hb1 k1 hb2
  have k2:=hB2.size
  clear hc1 hf1
  cases ht:(P3.terr S != 0)
  ·have HT:Hid ((P3.terr S != 0)=false):=ht
   go_wp2
   clear ht
   go_loopw [7] (fun i wr=>∃ k:Nat,k<=S.threads.length/\i=.int .i64 k/\P3.GoodTo P3.threadP S.threads k/\Below w0.heap.size w0 wr) (fun i _=>S.threads.length - (intOf i).toNat)
   case atStart=>exact ⟨0,Nat.zero_le _,rfl,P3.GoodTo.zero _ _,hB2⟩
   case round =>
    obtain ⟨k,hk,rfl,hall,hb⟩:=hrel
    have hsz:=hb.size
    have q1:w.heap.size < wr.heap.size:=by omega
    have c2:=(hb.cell (p:=⟨w.heap.size,2,none⟩) hs0).trans b2
    by_cases hlt:k < S.threads.length
    ·obtain ⟨b,o,cv,cc,rfl,hbb,x0,x1,x2,x3,x4,_⟩:=HS0.out.threads k hlt
     have x0':=(hb.cell (p:=⟨b,o + k * 5,none⟩) (by show b < _; omega)).trans x0
     have x1':=(hb.cell (p:=⟨b,o + k * 5 + 1,none⟩) (by show b < _; omega)).trans x1
     have x2':=(hb.cell (p:=⟨b,o + k * 5 + 2,none⟩) (by show b < _; omega)).trans x2
     have x3':=(hb.cell (p:=⟨b,o + k * 5 + 3,none⟩) (by show b < _; omega)).trans x3
     have x4':=(hb.cell (p:=⟨b,o + k * 5 + 4,none⟩) (by show b < _; omega)).trans x4
     clear x0 x1 x2 x3 x4
     go_wp2_with (go_at_call 66; refine (rThreadFits_any _ _ _ _ _ _ _ _).mono ?_; rintro e w3 ⟨rfl,hb3⟩)
     ·go_ret2
      refine ⟨ret_two (P3.e_thread HZ.out HT.out (hall.at hlt ?_)),via hb0 (by omega) (via hb hsz hb3)⟩
      simpa [P3.threadP] using ‹(!P3.threadB _ _ _ _ _)=true›
     ·go_roundw
      case rel =>
       refine ⟨k + 1,by omega,by go_num,hall.step hlt ?_,via hb hsz hb3⟩
       simpa [P3.threadP] using ‹(!P3.threadB _ _ _ _ _)=false›
      case measure=>simp [intOf]; omega
    ·have HM:Hid (P3.badOr P3.threadP S.threads=-1):=hall.none hlt
     clear hall
     have H5:Hid (∀ j (_:j < S.threads.length),(S.threads[j].code.length:Int)<=32):=codes_of HM.out
     go_wp2
     clear c2
     go_loopw [8] (fun i wr=>∃ k:Nat,k<=S.threads.length/\i=.int .i64 k/\CodesTo S k/\Below w0.heap.size w0 wr) (fun i _=>S.threads.length - (intOf i).toNat)
     case atStart=>exact ⟨0,Nat.zero_le _,rfl,fun j h=>absurd h (Nat.not_lt_zero _),hb⟩
     case round =>
      clear hb hsz q1 hlt hk
      obtain ⟨k,hk,rfl,hall,hb⟩:=hrel
      have hsz:=hb.size
      have q1:w.heap.size < wr.heap.size:=by omega
      have c2:=(hb.cell (p:=⟨w.heap.size,2,none⟩) hs0).trans b2
      have HB:Hid (CodesTo S k):=hall
      clear hall
      by_cases hlt:k < S.threads.length
      ·obtain ⟨b,o,cv,cc,rfl,hbb,x0,x1,x2,x3,x4,hcode,_⟩:=HS0.out.threads k hlt
       have x4':=(hb.cell (p:=⟨b,o + k * 5 + 4,none⟩) (by show b < _; omega)).trans x4
       have hlen:=H5.out k hlt
       have HC:Hid (InstrsIn w.heap.size w0 cv S.threads[k].code):=hcode
       clear x0 x1 x2 x3 x4 hcode
       go_wp2
       clear c2 x4'
       go_loopw [10] (fun i wr=>∃ m:Nat,m<=S.threads[k].code.length/\i=.int .i64 m/\CodeTo S S.threads[k].code m/\Below w0.heap.size w0 wr) (fun i _=>S.threads[k].code.length - (intOf i).toNat)
       case atStart=>exact ⟨0,Nat.zero_le _,rfl,fun j h=>absurd h (Nat.not_lt_zero _),hb⟩
       case round =>
        clear hb hsz q1
        obtain ⟨m,hm,rfl,hall,hb⟩:=hrel
        have hsz:=hb.size
        have q1:w.heap.size < wr.heap.size:=by omega
        have HA:Hid (CodeTo S S.threads[k].code m):=hall
        clear hall
        by_cases hlt2:m < S.threads[k].code.length
        ·obtain ⟨b',o',rfl,hbb',x0,x1,x2⟩:=HC.out m hlt2
         have y0:=(hb.cell (p:=⟨b',o' + m * 3,none⟩) (by show b' < _; omega)).trans x0
         have y1:=(hb.cell (p:=⟨b',o' + m * 3 + 1,none⟩) (by show b' < _; omega)).trans x1
         have y2:=(hb.cell (p:=⟨b',o' + m * 3 + 2,none⟩) (by show b' < _; omega)).trans x2
         have f0:=(hb.cell (p:=⟨w.heap.size,0,none⟩) hs0).trans b0
         have f1:=(hb.cell (p:=⟨w.heap.size,1,none⟩) hs0).trans b1
         have f2:=(hb.cell (p:=⟨w.heap.size,2,none⟩) hs0).trans b2
         have f3:=(hb.cell (p:=⟨w.heap.size,3,none⟩) hs0).trans b3
         have f4:=(hb.cell (p:=⟨w.heap.size,4,none⟩) hs0).trans b4
         have f5:=(hb.cell (p:=⟨w.heap.size,5,none⟩) hs0).trans b5
         clear x0 x1 x2 b0 b1 b2 b3 b4 b5
         have hmi:(m:Int) < (S.threads[k].code.length:Int):=by omega
         go_wp2_with fail
         go_region_held3 (fun w'=>w'.cell? ⟨w.heap.size,0,none⟩=some (.int .i64 S.workers)/\w'.cell? ⟨w.heap.size,1,none⟩=some (.int .i64 S.start)/\w'.cell? ⟨w.heap.size,2,none⟩=some (.slice (some ⟨b,o,none⟩) S.threads.length tc)/\w'.cell? ⟨w.heap.size,3,none⟩=some (.slice mv S.mutexes.length mc)/\w'.cell? ⟨w.heap.size,4,none⟩=some (.slice sv S.sems.length sc)/\w'.cell? ⟨w.heap.size,5,none⟩=some (.slice qv S.queues.length qc)/\w'.cell? ⟨b',o' + m * 3,none⟩=some (.int .i64 S.threads[k].code[m].op)/\w'.cell? ⟨b',o' + m * 3 + 1,none⟩=some (.int .i64 S.threads[k].code[m].a)/\w'.cell? ⟨b',o' + m * 3 + 2,none⟩=some (.int .i64 S.threads[k].code[m].b)) (simp [*])
          (first
           | (go_at_call 67; refine (rInstrFits_any _ _ _ _ _ _ _ _ _ _ _ _ _ _ _ _ _ _ _ n1 n2 n3 n4).mono ?_; rintro e w3 ⟨rfl,hb3⟩; have d0:=cell_later hb3 f0; have d1:=cell_later hb3 f1; have d2:=cell_later hb3 f2; have d3:=cell_later hb3 f3; have d4:=cell_later hb3 f4; have d5:=cell_later hb3 f5; have e0:=cell_later hb3 y0; have e1:=cell_later hb3 y1; have e2:=cell_later hb3 y2))
         go_wp2
         ·go_ret2
          refine ⟨ret_two (P3.e_code HZ.out HT.out HM.out (badCode_at HB.out hlt HA.out hlt2 ?_) (by omega)),via hb0 (by omega) (via hb.drew hsz hb3)⟩
          simpa [P3.instrP] using ‹(!P3.instrB _ _ _ _ _ _ _ _)=true›
         ·go_roundw
          case rel =>
           refine ⟨m + 1,by omega,by go_num,?_,via hb.drew hsz hb3⟩
           intro j h h'
           rcases Nat.lt_succ_iff_lt_or_eq.1 h with h1 | rfl
           ·exact HA.out j h1 h'
           ·simpa [P3.instrP] using ‹(!P3.instrB _ _ _ _ _ _ _ _)=false›
          case measure=>simp [intOf]; omega
        ·have hmm:m=S.threads[k].code.length:=by omega
         have HA':Hid (CodeTo S S.threads[k].code S.threads[k].code.length):=hmm ▸ HA.out
         clear hmm
         go_wp2
         go_roundw
         case rel=>exact ⟨k + 1,by omega,by go_num,HB.out.step hlt HA'.out,hb⟩
         case measure=>simp [intOf]; omega
      ·go_wp2
       go_ret2
       have e:k=S.threads.length:=by omega
       subst e
       exact ⟨ret_two (P3.e_ok HZ.out HT.out HM.out (badCode_none HB.out)),via hb0 (by omega) hb⟩
  ·have HT:Hid ((P3.terr S != 0)=true):=ht
   go_wp2
   go_ret2
   exact ⟨ret_two (P3.e_table HZ.out HT.out),via hb0 (by omega) hB2⟩
end Go.Proofs.YtbkfildnijjioaaGreat

namespace Go.Proofs.YtbkfildnijjioaaGreat
open Go.RowKit
section
variable {PK:KP} {ok:SetD->Prop}
end
end Go.Proofs.YtbkfildnijjioaaGreat

namespace Go.Proofs.YtbkfildnijjioaaGreat
open Go.RowKit
section
variable {PK:KP} {B:Nat} {w:World} {bb kb sb:Nat} {P Q:Nat->Prop} {s:RS}
set_option maxHeartbeats 1000000 in
theorem lPicksT_any (f:KFrame PK) (cp:CPick PK) (l:LK PK B w bb kb sb P Q s) (hB:B<=w.heap.size) (hnx:s.next<=4611686018427386000) (wk:Int) :
  Calls Tryz.prog 52 #[.pointer (some ⟨bb,0,none⟩),.int .i64 wk,.int .i64 1] w fun e w'=>e=.returned (.bool true)/\∃ P' Q',LK PK B w' bb kb sb P' Q' (R.pickS s wk)/\(∀ b,P' b\/Q' b->(P b\/Q b)\/w.heap.size<=b)/\Turns (fun b=>P b\/Q b) w w':=by
 have c0:=l.blk.cell 0
 simp at c0
 have L:=hid l
 have C1:=hid (cp P w kb s l.pk hnx wk)
 have C2:=hid (fun Q' wx (k:RK Q' wx sb s)=>rkPick_any Q' wx sb s k wk hnx)
 generalize R.pickT s wk=rt at *
 generalize R.pickA s wk=ra at *
 generalize R.pickC s wk=rc at *
 generalize R.pickE s wk=re at *
 generalize R.pickS s wk=s' at *
 clear l
 go_enter Tryz.func52,Tryz.ntmps52
 go_wp2_with fail
 refine C1.out.mono ?_
 rintro e w1 ⟨rfl,P',pk1,hs1,t1⟩
 have PR:=hid (L.out.prog f pk1 hs1 t1)
 have HS1:=hid hs1
 have T1:=hid t1
 have hsz1:=t1.size
 have hb1:=hid (t1.below hB L.out.hp)
 clear pk1 hs1 t1 c0 C1
 go_upto_region 2 with fail
 have bA:Blk (w1.alloc (.cells #[.int .i64 rt,.int .i64 ra,.int .i64 rc] 72)) w1.heap.size #[.int .i64 rt,.int .i64 ra,.int .i64 rc] 72:=Blk.new _ _ _
 have hbA:Below w1.heap.size w1 (w1.alloc (.cells #[.int .i64 rt,.int .i64 ra,.int .i64 rc] 72)):=(Below.refl _ _).alloc (Nat.le_refl _) _
 have hszA:(w1.alloc (.cells #[.int .i64 rt,.int .i64 ra,.int .i64 rc] 72)).heap.size=w1.heap.size + 1:=by simp
 generalize w1.alloc (.cells #[.int .i64 rt,.int .i64 ra,.int .i64 rc] 72)=wA at bA hbA hszA ⊢
 have BA:=hid bA
 have HBA:=hid hbA
 have bbA:Blk wA bb #[.pointer (some ⟨kb,0,none⟩),.pointer (some ⟨sb,0,none⟩)] 87:=by
  have h1:=PR.out.1
  have hl:=PR.out.1.lt
  unfold Blk at h1 ⊢
  rw [hbA.block bb hl]
  exact h1
 have BBA:=hid bbA
 have c1:=bbA.cell 1
 simp at c1
 have PKA:=hid (f.below PR.out.2.1 hbA)
 have RKA:=hid (PR.out.2.2.1.below hbA)
 clear bA hbA bbA
 go_wp2_with fail
 refine (C2.out Q wA RKA.out).mono ?_
 rintro e w2 ⟨rfl,Q',rk2,hs2,t2⟩
 have RK2:=hid rk2
 have PK2:=hid (f.frame PKA.out (fun b hb=>t2.block b (f.lt PKA.out b hb) (PR.out.2.2.2.1 b hb)) t2.size)
 have BB2:=hid (blk_turns BBA.out t2 L.out.nq)
 have hnq1:¬ Q w1.heap.size:=fun hq=>by have:=L.out.rk.lt _ hq; omega
 have BR2:=hid (blk_turns BA.out t2 hnq1)
 have hsz2:=t2.size
 have hb2:=hid (t2.below (B:=B) (by omega) L.out.hq)
 have HS2:=hid hs2
 have hlt2:=BR2.out.lt
 have T2:=hid t2
 clear rk2 hs2 t2 c1
 have x0:=BR2.out.cell 0
 have x1:=BR2.out.cell 1
 have x2:=BR2.out.cell 2
 simp at x0 x1 x2
 have hfin:∀ w3,Below w2.heap.size w2 w3->∃ P' Q',LK PK B w3 bb kb sb P' Q' s'/\(∀ b,P' b\/Q' b->(P b\/Q b)\/w.heap.size<=b)/\Turns (fun b=>P b\/Q b) w w3:=by
  intro w3 hb3
  refine ⟨P',Q',⟨?_,f.below PK2.out hb3,RK2.out.below hb3,fun b hb hq=>?_,PR.out.2.2.2.2.1,fun hq=>?_,fun b hb=>?_,fun b hb=>?_,L.out.hb⟩,fun b hb=>?_,?_⟩
  ·have h1:=BB2.out
   have hl:=BB2.out.lt
   unfold Blk at h1 ⊢
   rw [hb3.block bb hl]
   exact h1
  ·rcases HS2.out b hq with h1 | h1
   ·exact PR.out.2.2.2.1 b hb h1
   ·have:=f.lt PKA.out b hb
    omega
  ·rcases HS2.out bb hq with h1 | h1
   ·exact L.out.nq h1
   ·have:=BBA.out.lt
    omega
  ·rcases HS1.out b hb with h1 | h1
   ·exact L.out.hp b h1
   ·omega
  ·rcases HS2.out b hb with h1 | h1
   ·exact L.out.hq b h1
   ·omega
  ·rcases hb with hb | hb
   ·rcases HS1.out b hb with h1 | h1
    ·exact .inl (.inl h1)
    ·exact .inr h1
   ·rcases HS2.out b hb with h1 | h1
    ·exact .inl (.inr h1)
    ·exact .inr (by omega)
  ·have t01:Turns (fun b=>P b\/Q b) w w1:=⟨T1.out.os,T1.out.tape,T1.out.output,T1.out.size,fun b hl hn=>T1.out.block b hl (fun e=>hn (.inl e))⟩
   have t1A:Turns (fun b=>P b\/Q b) w wA:=t01.trans (Turns.of_below (Q:=fun _=>False) HBA.out) (fun b hb=>hb.elim)
   have t12:Turns (fun b=>P b\/Q b) w w2:=t1A.trans T2.out (fun b hb=>.inl (.inr hb))
   exact t12.trans (Turns.of_below (Q:=fun _=>False) hb3) (fun b hb=>hb.elim)
 have FIN:=hid hfin
 clear hfin
 go_wp2_with fail
 refine (sameReport_eq _ rt ra rc).mono ?_
 rintro e w3 ⟨rfl,hb3⟩
 have HB3:=hid (via ((Below.refl w2.heap.size w2).alloc (Nat.le_refl _) _) (by simp) hb3)
 clear hb3 x0 x1 x2
 go_wp2
 go_ret
 exact ⟨by simp,FIN.out _ HB3.out⟩
end
section
variable {PK:KP} {B:Nat} {w w':World} {tag:Tag} {wb:Nat} {sv:Value} {ks:List KI} {ins mss lns:List Value} {vk vi vm vl:Value}
open Classical in
theorem AM.move (f:KFrame PK) (h:AM PK B (fun _=>True) w tag wb sv ks ins mss lns vk vi vm vl) (i:Nat) (hi:i < ks.length) {P' Q':Nat->Prop} {s':RS} (l':LK PK B w' ks[i].bb ks[i].kb ks[i].sb P' Q' s') (hs:∀ b,P' b\/Q' b->(ks[i].P b\/ks[i].Q b)\/w.heap.size<=b) (t:Turns (fun b=>ks[i].P b\/ks[i].Q b) w w') :
  ∃ tag',AM PK B (fun _=>True) w' tag' wb sv (ks.set i ⟨ks[i].bb,ks[i].kb,ks[i].sb,P',Q',s'⟩) ins mss lns vk vi vm vl/\(∀ b,b < w.heap.size->tag' b=tag b)/\(∀ b,w.heap.size<=b->¬ P' b->¬ Q' b->tag' b=(0,0)):=by
 let tag':Tag:=fun b=>if b < w.heap.size then tag b else if P' b\/Q' b then (10,i) else (0,0)
 have hold:∀ b,b < w.heap.size->tag' b=tag b:=fun b hl=>by
  show (if b < w.heap.size then tag b else if P' b\/Q' b then (10,i) else (0,0))=tag b
  rw [if_pos hl]
 have h1:=h.retag f (tag':=tag') (fun b hl _=>hold b hl)
 have h2:AM PK B (fun x=>x ≠ (10,i)) w' tag' wb sv ks ins mss lns vk vi vm vl:=h1.turn f (fun b hl hn=>t.block b hl (fun e=>hn (h1.tker i hi b (.inr e)))) t.size (fun _ _=>trivial)
 have hbb:(ks.set i ⟨ks[i].bb,ks[i].kb,ks[i].sb,P',Q',s'⟩).map (fun k=>Value.pointer (some ⟨k.bb,0,none⟩))=ks.map (fun k=>Value.pointer (some ⟨k.bb,0,none⟩)):=by
  apply List.ext_getElem
  ·simp
  ·intro j h3 h4
   simp only [List.getElem_map,List.getElem_set]
   split
   ·rename_i e
    subst e
    rfl
   ·rfl
 refine ⟨tag',⟨fun _=>h2.blk (by simp),h2.tb,h.hb,fun _=>?_,h2.tk,fun _=>h2.ri (by simp),h2.ti,fun _=>h2.rm (by simp),h2.tm,fun _=>h2.rl (by simp),h2.tl,fun j hj _=>?_,fun j hj b hb=>?_,fun j hj _=>h2.mi j hj (by simp),h2.tmi,fun j hj _=>h2.mm j hj (by simp),h2.tmm,fun j hj _=>h2.ml j hj (by simp),h2.tml⟩,hold,fun b hl n1 n2=>?_⟩
 ·rw [hbb,List.length_set]
  exact h2.rk (by simp)
 ·have hj':j < ks.length:=by simpa using hj
  by_cases e:i=j
  ·subst e
   simp only [List.getElem_set_self]
   exact l'
  ·simp only [List.getElem_set_ne e]
   exact h2.ker j hj' (by simp; exact fun x=>e x.symm)
 ·have hj':j < ks.length:=by simpa using hj
  by_cases e:i=j
  ·subst e
   simp only [List.getElem_set_self] at hb
   rcases hb with hb | hb
   ·have hb':b=ks[i].bb:=hb
    exact h1.tker i hi b (.inl hb')
   ·have hb':P' b\/Q' b:=hb
    by_cases hl:b < w.heap.size
    ·rcases hs b hb' with h3 | h3
     ·exact h1.tker i hi b (.inr h3)
     ·omega
    ·show (if b < w.heap.size then tag b else if P' b\/Q' b then (10,i) else (0,0))=(10,i)
     rw [if_neg hl,if_pos hb']
  ·simp only [List.getElem_set_ne e] at hb
   exact h1.tker j hj' b hb
 ·show (if b < w.heap.size then tag b else if P' b\/Q' b then (10,i) else (0,0))=(0,0)
  rw [if_neg (by omega),if_neg (fun e=>e.elim n1 n2)]
set_option maxHeartbeats 2000000 in
theorem moves_any (f:KFrame PK) (cp:CPick PK) (ct:CTick PK) (h:AM PK B (fun _=>True) w tag wb sv ks ins mss lns vk vi vm vl) (hBw:B<=w.heap.size) (i:Nat) (hi:i < ks.length) (hnx:ks[i].s.next<=4611686018427386000) (hc:mss.length<=100000000) (kd k' a b:Int) (sl:Value) (hkd:kd=2\/kd=3) :
  Calls Tryz.prog 40 #[.pointer (some ⟨wb,0,none⟩),.pointer (some ⟨ks[i].bb,0,none⟩),.agg #[.int .i64 kd,.int .i64 k',.int .i64 a,.int .i64 b,sl]] w fun e w'=>e=.returned (.bool true)/\∃ tag' ks' mss' vm',AM PK B (fun _=>True) w' tag' wb sv ks' ins mss' lns vk vi vm' vl/\ks'.length=ks.length/\(∀ j (hj:j < ks.length) (hj':j < ks'.length),ks'[j].s.next<=ks[j].s.next + 33)/\mss'.length<=mss.length + 1/\Below B w w':=by
 have l:=h.ker i hi trivial
 have hbA:Below w.heap.size w (w.alloc (.cells #[.int .i64 kd,.int .i64 k',.int .i64 a,.int .i64 b,sl] 48)):=(Below.refl _ _).alloc (Nat.le_refl _) _
 have XA:=Blk.new w #[.int .i64 kd,.int .i64 k',.int .i64 a,.int .i64 b,sl] 48
 have AMA:=hid (h.below f hbA)
 have hszA:w.heap.size<=(w.alloc (.cells #[.int .i64 kd,.int .i64 k',.int .i64 a,.int .i64 b,sl] 48)).heap.size:=hbA.size
 have HBA:Hid (Below B w (w.alloc (.cells #[.int .i64 kd,.int .i64 k',.int .i64 a,.int .i64 b,sl] 48))):=hbA.mono hBw
 have ENT:Hid (R.entry ks[i].s a=R.entry ks[i].s a):=rfl
 have NXP:=hid (fun n=>entry_next ks[i].s n l.rk.inv)
 rcases hkd with rfl | rfl
 ·have CP:=hid (fun wx (lx:LK PK B wx ks[i].bb ks[i].kb ks[i].sb ks[i].P ks[i].Q ks[i].s) (hBx:B<=wx.heap.size)=>lPicksT_any f cp lx hBx hnx a)
  clear h l ENT
  obtain ⟨bb,HBB⟩:∃ x,Hid (ks[i].bb=x):=⟨_,hid rfl⟩
  rw [HBB.out]
  go_enter Tryz.func40,Tryz.ntmps40
  go_upto_region 1 with fail
  generalize w.alloc (.cells #[.int .i64 2,.int .i64 k',.int .i64 a,.int .i64 b,sl] 48)=wA at *
  have x0:=XA.cell 0
  have x2:=XA.cell 2
  simp at x0 x2
  have CPA:=hid (CP.out wA (AMA.out.ker i hi trivial) (by omega))
  rw [HBB.out] at CPA
  clear CP XA
  go_wp2_with fail
  refine CPA.out.mono ?_
  rintro e w2 ⟨rfl,P',Q',l2,hs2,t2⟩
  rw [<- HBB.out] at l2
  obtain ⟨tag2,am2,_,_⟩:=AMA.out.move f i hi l2 hs2 t2
  have AM2:=hid am2
  have HB2:Hid (Below B wA w2):=t2.below (by omega) (fun b hb=>by
   rcases hb with hb | hb
   ·exact (AMA.out.ker i hi trivial).hp b hb
   ·exact (AMA.out.ker i hi trivial).hq b hb)
  clear am2 l2 hs2 t2 CPA
  go_wp2
  go_ret
  refine ⟨rfl,tag2,_,mss,vm,AM2.out,by simp,fun j hj hj'=>?_,by omega,HBA.out.trans HB2.out⟩
  simp only [List.getElem_set]
  split
  ·rename_i e
   subst e
   have hb1:=NXP.out a
   by_cases ha:a=-1
   ·have:(R.pickS ks[i].s a).next<=ks[i].s.next + 33:=by
     have e1:R.pickS ks[i].s a=ks[i].s:=by unfold R.pickS; rw [if_pos (by omega)]
     rw [e1]
     omega
    exact this
   ·have e1:R.entry ks[i].s a=R.pickS ks[i].s a:=by unfold R.entry; rw [if_neg ha]
    rw [e1] at hb1
    exact hb1
  ·omega
 ·have CT:=hid (fun wx (px:PK ks[i].P wx ks[i].kb ks[i].s)=>ct ks[i].P wx ks[i].kb ks[i].s px hnx)
  have CR:=hid (fun Q wx (kx:RK Q wx ks[i].sb ks[i].s)=>rkTick2_any Q wx ks[i].sb ks[i].s kx hnx)
  have hln:=tickL_len ks[i].s l.rk.inv.good.few
  have NX1:Hid ((R.tickS ks[i].s).next<=ks[i].s.next + 33):=by
   have:=NXP.out (-1)
   have e1:R.entry ks[i].s (-1)=R.tickS ks[i].s:=by unfold R.entry; rw [if_pos rfl]
   rw [e1] at this
   exact hid this
  clear h l ENT NXP
  generalize R.tickE ks[i].s=re at *
  generalize R.tickL ks[i].s=rl at *
  generalize R.tickS ks[i].s=s' at *
  obtain ⟨bb,HBB⟩:∃ x,Hid (ks[i].bb=x):=⟨_,hid rfl⟩
  rw [HBB.out]
  go_enter Tryz.func40,Tryz.ntmps40
  go_upto_region 1 with fail
  generalize w.alloc (.cells #[.int .i64 3,.int .i64 k',.int .i64 a,.int .i64 b,sl] 48)=wA at *
  have x0:=XA.cell 0
  simp at x0
  have LA:=hid (AMA.out.ker i hi trivial)
  have c0:=LA.out.blk.cell 0
  simp at c0
  rw [HBB.out] at c0
  have CTA:=hid (CT.out wA LA.out.pk)
  clear CT XA
  go_wp2_with fail
  refine CTA.out.mono ?_
  rintro e w1 ⟨v1,P',rfl,ho1,pk1,hs1,hn1,t1⟩
  have PR:=hid (LA.out.prog f pk1 hs1 t1)
  have HS1:=hid hs1
  have T1:=hid t1
  have HN1:=hid hn1
  have hsz1:=t1.size
  obtain ⟨ao,ca,rfl,_,_⟩:=MissesIn.of_owns ho1
  have OW1:=hid ho1
  have c1:=PR.out.1.cell 1
  simp at c1
  rw [HBB.out] at c1
  have CR1:=hid (CR.out ks[i].Q w1 PR.out.2.2.1)
  clear pk1 hs1 t1 hn1 ho1 CTA CR c0
  go_wp2_with fail
  refine CR1.out.mono ?_
  rintro e w2 ⟨v2,Q',rfl,ho2,rk2,hs2,hn2,t2⟩
  have ow1:=ints_turns OW1.out t2 (fun b hb hq=>by have:=(ownsRow_block OW1.out hb).1; have:=LA.out.rk.lt b hq; omega)
  have lk2:LK PK B w2 ks[i].bb ks[i].kb ks[i].sb P' Q' s':=by
   refine ⟨blk_turns PR.out.1 t2 LA.out.nq,f.frame PR.out.2.1 (fun b hb=>t2.block b (f.lt PR.out.2.1 b hb) (PR.out.2.2.2.1 b hb)) t2.size,rk2,fun b hb hq=>?_,PR.out.2.2.2.2.1,fun hq=>?_,fun b hb=>?_,fun b hb=>?_,LA.out.hb⟩
   ·rcases hs2 b hq with h1 | h1
    ·exact PR.out.2.2.2.1 b hb h1
    ·have:=f.lt PR.out.2.1 b hb
     omega
   ·rcases hs2 _ hq with h1 | h1
    ·exact LA.out.nq h1
    ·have:=PR.out.1.lt
     omega
   ·rcases HS1.out b hb with h1 | h1
    ·exact LA.out.hp b h1
    ·omega
   ·rcases hs2 b hb with h1 | h1
    ·exact LA.out.hq b h1
    ·omega
  have t12:Turns (fun b=>ks[i].P b\/ks[i].Q b) wA w2:=by
   have t01:Turns (fun b=>ks[i].P b\/ks[i].Q b) wA w1:=⟨T1.out.os,T1.out.tape,T1.out.output,T1.out.size,fun b hl hn=>T1.out.block b hl (fun e=>hn (.inl e))⟩
   exact t01.trans t2 (fun b hb=>.inl (.inr hb))
  have hs12:∀ b,P' b\/Q' b->(ks[i].P b\/ks[i].Q b)\/wA.heap.size<=b:=fun b hb=>by
   rcases hb with hb | hb
   ·rcases HS1.out b hb with h1 | h1
    ·exact .inl (.inl h1)
    ·exact .inr h1
   ·rcases hs2 b hb with h1 | h1
    ·exact .inl (.inr h1)
    ·exact .inr (by omega)
  obtain ⟨tag2,am2,hold2,hnew2⟩:=AMA.out.move f i hi lk2 hs12 t12
  have free1:∀ g,(Value.slice ao rl.length ca).ownBlock=some g->tag2 g=(0,0):=fun g hg=>by
   have h1:=(ownsRow_block OW1.out hg).1
   have h2:=(ownsRow_block OW1.out hg).2.1
   refine hnew2 g h1 (HN1.out g hg) (fun hq=>?_)
   rcases hs2 g hq with h3 | h3
   ·have:=LA.out.rk.lt g h3
    omega
   ·omega
  have HB2:Hid (Below B wA w2):=t12.below (by omega) (fun b hb=>by
   rcases hb with hb | hb
   ·exact LA.out.hp b hb
   ·exact LA.out.hq b hb)
  obtain ⟨ao',ca',e1,_,hi1⟩:=MissesIn.of_owns ow1
  cases e1
  obtain ⟨bo,cb,rfl,_,hi2⟩:=MissesIn.of_owns ho2
  have HI1:=hid hi1
  have HI2:=hid hi2
  have ROW:=hid (ownsRow_mono ow1 (show B<=wA.heap.size by omega))
  have hz2:=t2.size
  have AM2:=hid am2
  have FR1:=hid free1
  clear CR1 ow1 lk2 t12 hs12 am2 hold2 hnew2 free1 hi1 hi2 rk2 hs2 hn2 t2 ho2 c1
  go_wp2_with fail
  refine (sameMisses_eq w2 ao bo ca cb rl HI1.out HI2.out (by omega)).mono ?_
  rintro e w3 ⟨rfl,nd,rfl⟩
  have AM3:=hid (AM2.out.free f (w':=w2.drewN nd) (fun _ _ _=>rfl) (Nat.le_refl _))
  have HB3:=hid (bdrewN HB2.out nd)
  have TL:=hid (told_any f AM3.out (.slice ao rl.length ca) _ _ (show (w2.drewN nd).ownsRow B 95 3 (.slice ao rl.length ca) rl.length (missCells rl) from ownsRow_same ROW.out fun _ _=>rfl) FR1.out hc (show B<=(w2.drewN nd).heap.size from by show B<=w2.heap.size; omega))
  clear AM2 HB2 ROW
  generalize w2.drewN nd=w3 at *
  go_wp2_with fail
  refine TL.out.mono ?_
  rintro e w4 ⟨rfl,tag4,fv4,vm4,am4,tk4⟩
  have AM4:=hid am4
  have HB4:=hid (HB3.out.trans tk4.b)
  clear TL am4 tk4
  go_wp2
  go_ret
  refine ⟨by simp,tag4,_,_,_,AM4.out,by simp,fun j hj hj'=>?_,by simp,HBA.out.trans HB4.out⟩
  simp only [List.getElem_set]
  split
  ·rename_i e
   subst e
   exact NX1.out
  ·omega
end
end Go.Proofs.YtbkfildnijjioaaGreat

namespace Go.Proofs.YtbkfildnijjioaaGreat
open Go.RowKit
theorem Tryz.infoLineR:(Tryz.prog.info? 75).map (fun i=>(i.zero,i.size,i.bytes))=some (some (.agg #[.int .i64 0,.int .i64 0,.int .i64 0,.int .i64 0,.int .i64 0,.slice none 0 0,.slice none 0 0]),7,88):=by kernel_rfl
theorem Blk.onto {w w':World} {b:Nat} {cs:Array Value} {e:TypeId} (h:Blk w b cs e) (hb:Below w.heap.size w w'):Blk w' b cs e:=by
 have hl:=h.lt
 unfold Blk at h ⊢
 rw [hb.block _ hl]
 exact h
structure RL (B:Nat) (w0 w:World) (Q:Nat->Prop) (sb:Nat) (s:RS) (v:Value) (k:Nat) (C:List Value) (L:List LineD) (lb:Nat):Prop where
 rk:RK Q w sb s
 row:w.ownsRow B 75 7 v k C
 lr:LRow B w Q C L
 nv:∀ b,v.ownBlock=some b->¬ Q b/\b ≠ lb
 nl:¬ Q lb
 lt:Typ w lb 75
 hq:∀ b,Q b->B<=b
 hb:Below B w0 w
 hl:B<=lb
structure MisAt (B:Nat) (w:World) (Q:Nat->Prop) (mv:Value) (l:List MissD):Prop where
 row:w.ownsRow B 95 3 mv l.length (missCells l)
 nm:∀ b,mv.ownBlock=some b->¬ Q b
section
variable {B:Nat} {w0 w w':World} {Q Q':Nat->Prop} {sb:Nat} {s s':RS} {v mv:Value} {k:Nat} {C:List Value} {L:List LineD} {lb:Nat} {l:List MissD}
theorem RL.store (r:RL B w0 w Q sb s v k C L lb) (j:Nat) (u:Value):RL B w0 (w.setCell ⟨lb,j,none⟩ u) Q sb s v k C L lb:=by
 have same:∀ b,b ≠ lb->(w.setCell ⟨lb,j,none⟩ u).heap[b]?=w.heap[b]?:=fun b hb=>Below.heap_setCell _ _ _ _ hb
 have hz:(w.setCell ⟨lb,j,none⟩ u).heap.size=w.heap.size:=by simp [World.setCell]
 refine ⟨r.rk.frame (fun b hb=>same b (fun e=>r.nl (e ▸ hb))) (by omega),ownsRow_same r.row fun g hg=>same g (r.nv g hg).2,r.lr.turn (fun b _ _ ht=>same b (fun e=>?_)) (fun _ h=>.inl h),r.nv,r.nl,?_,r.hq,r.hb.setCell r.hl _,r.hl⟩
 ·subst e
  rcases ht with ht | ht
  ·exact ht.ne r.lt (by decide) rfl
  ·exact ht.ne r.lt (by decide) rfl
 ·obtain ⟨cs,hc⟩:=r.lt
  have:Blk w lb cs 75:=hc
  exact ⟨_,this.set j u⟩
theorem RL.below (r:RL B w0 w Q sb s v k C L lb) (hb:Below w.heap.size w w'):RL B w0 w' Q sb s v k C L lb :=
 ⟨r.rk.below hb,ownsRow_same r.row fun g hg=>hb.block g (ownsRow_block r.row hg).2.1,r.lr.below hb,r.nv,r.nl,r.lt.same (hb.block lb r.lt.lt),r.hq,r.hb.trans (hb.mono (by have:=r.lt.lt; have:=r.hl; omega)),r.hl⟩
theorem RL.turn (r:RL B w0 w Q sb s v k C L lb) (t:Turns Q w w') (rk:RK Q' w' sb s') (hs:∀ b,Q' b->Q b\/w.heap.size<=b):RL B w0 w' Q' sb s' v k C L lb:=by
 have hBw:B<=w.heap.size:=by have:=r.lt.lt; have:=r.hl; omega
 refine ⟨rk,ownsRow_same r.row fun g hg=>t.block g (ownsRow_block r.row hg).2.1 (r.nv g hg).1,r.lr.turns t hs,fun b hb=>⟨fun hq=>?_,(r.nv b hb).2⟩,fun hq=>?_,r.lt.same (t.block lb r.lt.lt r.nl),fun b hb=>?_,r.hb.trans (t.below hBw r.hq),r.hl⟩
 ·rcases hs b hq with h | h
  ·exact (r.nv b hb).1 h
  ·have:=(ownsRow_block r.row hb).2.1
   omega
 ·rcases hs lb hq with h | h
  ·exact r.nl h
  ·have:=r.lt.lt
   omega
 ·rcases hs b hb with h | h
  ·exact r.hq b h
  ·omega
theorem MisAt.store (m:MisAt B w Q mv l) (ht:Typ w lb 75) (j:Nat) (u:Value):MisAt B (w.setCell ⟨lb,j,none⟩ u) Q mv l :=
 ⟨ownsRow_same m.row fun g hg=>Below.heap_setCell _ _ _ _ (fun e=>(own_typ m.row hg).ne ht (by decide) e),m.nm⟩
theorem MisAt.below (m:MisAt B w Q mv l) (hb:Below w.heap.size w w'):MisAt B w' Q mv l:=⟨ownsRow_same m.row fun g hg=>hb.block g (ownsRow_block m.row hg).2.1,m.nm⟩
end
theorem rkNow {Q:Nat->Prop} {w:World} {sb:Nat} {s:RS} (k:RK Q w sb s):w.cell? ⟨sb,6,none⟩=some (.int .i64 s.now):=by
 obtain ⟨F,h,m,_⟩:=k.mem
 have:=m.blk.cell 6
 simpa [rsCells] using this
theorem rkRunning_any (Q:Nat->Prop) (w:World) (sb:Nat) (s:RS) (k:RK Q w sb s) :
  Calls Tryz.prog 31 #[.pointer (some ⟨sb,0,none⟩)] w fun e w'=>∃ v,e=.returned v/\w'.ownsRow w.heap.size 3 1 v (R.running s).length (intCells (R.running s))/\Below w.heap.size w w':=by
 obtain ⟨F,h,m,_⟩:=k.mem
 have hn:s.set.workers=(s.set.workers.toNat:Int):=by have:=k.inv.good.wk0; omega
 have c:=rRunning_any F w sb h s m k.inv.good s.set.workers.toNat hn
 rw [<- running_len s] at c
 exact c
theorem lineOf_tick (s:RS):R.lineOf s (-1)=⟨-1,0,0,R.tickE s,(R.tickS s).now,R.running (R.tickS s),R.tickL s⟩/\R.entry s (-1)=R.tickS s:=by
 unfold R.lineOf R.entry
 rw [if_pos rfl,if_pos rfl]
 exact ⟨rfl,rfl⟩
theorem lineOf_pick (s:RS) (n:Int) (h:n ≠ -1):R.lineOf s n=⟨R.pickT s n,R.pickA s n,R.pickC s n,R.pickE s n,(R.pickS s n).now,R.running (R.pickS s n),[]⟩/\R.entry s n=R.pickS s n:=by
 unfold R.lineOf R.entry
 rw [if_neg h,if_neg h]
 exact ⟨rfl,rfl⟩
set_option maxRecDepth 100000 in
set_option maxHeartbeats 4000000 in
theorem rRun_any (tv mv sv qv:Option Addr) (tc mc sc qc:Nat) (S:SetD) (w:World) (hS:SetIn w.heap.size w tv mv sv qv S) (hF:Fits S) (hnil:(tv=none->tc=0)/\(mv=none->mc=0)/\(sv=none->sc=0)/\(qv=none->qc=0)) (av:Option Addr) (ac:Nat) (l:List Int) (hl:IntsIn w.heap.size w av l) (hll:l.length<=9223372036854775807) :
  Calls Tryz.prog 17 #[.agg #[.int .i64 S.workers,.int .i64 S.start,.slice tv S.threads.length tc,.slice mv S.mutexes.length mc,.slice sv S.sems.length sc,.slice qv S.queues.length qc],.slice av l.length ac] w fun e w'=>RunOk S l w e w':=by
 have hb0:Below w.heap.size w (w.alloc (.cells #[.int .i64 S.workers,.int .i64 S.start,.slice tv S.threads.length tc,.slice mv S.mutexes.length mc,.slice sv S.sems.length sc,.slice qv S.queues.length qc] 27)):=(Below.refl _ _).alloc (Nat.le_refl _) _
 have X0:=Blk.new w #[.int .i64 S.workers,.int .i64 S.start,.slice tv S.threads.length tc,.slice mv S.mutexes.length mc,.slice sv S.sems.length sc,.slice qv S.queues.length qc] 27
 have HS:=hid hS
 have HF:=hid hF
 have HN:=hid hnil
 have HL:=hid hl
 clear hS hF hnil hl
 by_cases hlong:1000 < l.length
 ·obtain ⟨e1,e2⟩:=runL_long (S:=S) hlong
  unfold RunOk
  rw [e1,e2]
  clear e1 e2
  have hlI:(1000:Int) < (l.length:Int):=by omega
  go_enter Tryz.func17,Tryz.ntmps17
  go_wp2
  go_ret2
  exact ⟨_,[],rfl,World.ownsRow_nil _ _ _ _,LRow.nil _ _ _ _,hb0⟩
 ·have hlI:(l.length:Int)<=1000:=by omega
  have CC:=hid (fun wx hSx=>rCheck_any tv mv sv qv tc mc sc qc S wx hSx)
  by_cases herr:P3.err S=0
  ·obtain ⟨e1,e2⟩:=runL_ok hlong herr
   unfold RunOk
   rw [e1,e2]
   clear e1 e2
   have hthr:S.threads.length<=16:=by
    have:=(good_bare herr).few
    simpa [R.bare] using this
   have hnext:=new_next S hthr
   have HLEN:=hid (R.linesTo_length (R.new S) l)
   have HE:=hid herr
   have INV:=hid (fun j (hj:j<=1000)=>stTo_inv (inv_new herr) l j (by omega))
   have CN:=hid (fun wx hSx=>rkNew_any tv mv sv qv tc mc sc qc S wx hSx HF.out HN.out herr)
   rw [herr] at CC
   clear herr hlong
   generalize P3.place S=pl at *
   generalize R.new S=s0 at *
   obtain ⟨iT,hiT,hzT0,hzT1,hzT2⟩:=info_parts Tryz.infoLineR
   have HIT:=hid (And.intro hiT (And.intro hzT0 (And.intro hzT1 hzT2)))
   clear hiT hzT0 hzT1 hzT2
   go_enter Tryz.func17,Tryz.ntmps17
   go_upto_region 1 with fail
   generalize w.alloc (.cells #[.int .i64 S.workers,.int .i64 S.start,.slice tv S.threads.length tc,.slice mv S.mutexes.length mc,.slice sv S.sems.length sc,.slice qv S.queues.length qc] 27)=w0 at hb0 X0 ⊢
   have y0:=X0.cell 0
   have y1:=X0.cell 1
   have y2:=X0.cell 2
   have y3:=X0.cell 3
   have y4:=X0.cell 4
   have y5:=X0.cell 5
   simp at y0 y1 y2 y3 y4 y5
   have CC0:=hid (CC.out w0 (HS.out.later hb0))
   have HB0:=hid hb0
   have XS:=hid X0
   have hsz0:=hb0.size
   clear CC hb0 X0
   go_wp2_with fail
   refine CC0.out.mono ?_
   rintro e w1 ⟨rfl,hb1⟩
   have X1:=XS.out.onto hb1
   have HB1:=hid (via HB0.out HB0.out.size hb1)
   have CN1:=hid (CN.out w1 (HS.out.later HB1.out))
   have y0:=X1.cell 0
   have y1:=X1.cell 1
   have y2:=X1.cell 2
   have y3:=X1.cell 3
   have y4:=X1.cell 4
   have y5:=X1.cell 5
   simp at y0 y1 y2 y3 y4 y5
   clear CC0 XS hb1 X1 CN
   go_wp2_with fail
   refine CN1.out.mono ?_
   rintro e w2 ⟨sb,Q,rfl,rk2,hq2,hb2⟩
   have HB2:=hid (via HB1.out HB1.out.size hb2)
   have RK2:=hid rk2
   have HQ2:Hid (∀ b,Q b->w.heap.size<=b):=fun b hb=>by have:=hq2 b hb; have:=HB1.out.size; omega
   clear CN1 rk2 hq2 hb2 y0 y1 y2 y3 y4 y5
   go_wp2
   go_loopw [9,10] (fun v i wr=>∃ j:Nat,j<=l.length/\i=.int .i64 j/\∃ C Q',wr.ownsRow w.heap.size 75 7 v j C/\LRow w.heap.size wr Q' C (R.linesTo s0 l j)/\RK Q' wr sb (R.stTo s0 l j)/\(∀ b,v.ownBlock=some b->¬ Q' b)/\(∀ b,Q' b->w.heap.size<=b)/\Below w.heap.size w wr) (fun _ i _=>l.length - (intOf i).toNat)
   case atStart=>exact ⟨0,Nat.zero_le _,rfl,[],Q,World.ownsRow_nil _ _ _ _,LRow.nil _ _ _ _,RK2.out,fun b hb=>(by cases hb),HQ2.out,HB2.out⟩
   case round =>
    rename_i v _ _
    obtain ⟨k,hk,rfl,C,Q',hrow,hlr,hrk,hnv,hq,hb⟩:=hrel
    obtain ⟨va0,vc0,rfl,_,_⟩:=owns_cells hrow
    have hCl:C.length=k * 7:=hrow.1
    have hnext2:=(INV.out k (by omega)).2
    have hszr:=hb.size
    by_cases hkl:k < l.length
    ·obtain ⟨b,o,hta,hbb,y0⟩:=HL.out k hkl
     subst hta
     have bl:∀ wx,Below w.heap.size w wx->wx.cell? ⟨b,o + k,none⟩=some (.int .i64 l[k]):=fun wx hx=>(hx.cell (p:=⟨b,o + k,none⟩) hbb).trans y0
     have BL:=hid bl
     have hkI:(k:Int) < (l.length:Int):=by omega
     have EX:Hid (R.linesTo s0 l (k + 1)=R.linesTo s0 l k ++ [R.lineOf (R.stTo s0 l k) l[k]]):=by
      refine hid ?_
      have e:l.getD k 0=l[k]:=by simp [List.getD,hkl]
      show R.linesTo s0 l k ++ [R.lineOf (R.stTo s0 l k) (l.getD k 0)]=_
      rw [e]
     have EY:Hid (R.stTo s0 l (k + 1)=R.entry (R.stTo s0 l k) l[k]):=by
      refine hid ?_
      have e:l.getD k 0=l[k]:=by simp [List.getD,hkl]
      show R.entry (R.stTo s0 l k) (l.getD k 0)=_
      rw [e]
     have HLL:=hid (HLEN.out k)
     have nxk:(R.stTo s0 l k).next<=4611686018427386000:=by omega
     generalize R.linesTo s0 l k=LL at *
     generalize R.stTo s0 l k=sk at *
     have hbA:Below wr.heap.size wr (wr.alloc (.cells #[.int .i64 0,.int .i64 0,.int .i64 0,.int .i64 0,.int .i64 0,.slice none 0 0,.slice none 0 0] 75)):=(Below.refl _ _).alloc (Nat.le_refl _) _
     have XA:=Blk.new wr #[.int .i64 0,.int .i64 0,.int .i64 0,.int .i64 0,.int .i64 0,.slice none 0 0,.slice none 0 0] 75
     have rlA:RL w.heap.size w (wr.alloc (.cells #[.int .i64 0,.int .i64 0,.int .i64 0,.int .i64 0,.int .i64 0,.slice none 0 0,.slice none 0 0] 75)) Q' sb sk (.slice va0 k vc0) k C LL wr.heap.size:=by
      refine ⟨hrk.below hbA,ownsRow_same hrow fun g hg=>hbA.block g (ownsRow_block hrow hg).2.1,hlr.below hbA,fun b hb=>⟨hnv b hb,fun e=>?_⟩,fun hh=>?_,⟨_,XA⟩,hq,hb.trans (hbA.mono hszr),hszr⟩
      ·have:=(ownsRow_block hrow hb).2.1
       omega
      ·have:=hrk.lt _ hh
       omega
     have hA:Below w.heap.size w (wr.alloc (.cells #[.int .i64 0,.int .i64 0,.int .i64 0,.int .i64 0,.int .i64 0,.slice none 0 0,.slice none 0 0] 75)):=rlA.hb
     clear y0 hrow hlr hrk hnv hq hb bl
     have y0:=BL.out _ rlA.hb
     go_upto_region 12 with fail
     generalize wr.alloc (.cells #[.int .i64 0,.int .i64 0,.int .i64 0,.int .i64 0,.int .i64 0,.slice none 0 0,.slice none 0 0] 75)=wA at *
     generalize hlb:wr.heap.size=lb at *
     generalize hn:l[k]=n at *
     clear hn
     by_cases hm1:n=-1
     ·subst hm1
      obtain ⟨ex,ey⟩:=lineOf_tick sk
      rw [ex] at EX
      rw [ey] at EY
      clear ex ey
      have CT:=hid (fun Q wx (kx:RK Q wx sb sk)=>rkTick2_any Q wx sb sk kx nxk)
      generalize R.tickE sk=te at *
      generalize R.tickL sk=tl at *
      generalize R.tickS sk=se at *
      have z0:=XA.frozen 0
      have x0:=XA.cell 0
      simp at x0
      have hxl:=XA.lt
      have xB:Blk (wA.setCell ⟨lb,0,none⟩ (.int .i64 (-1))) lb #[.int .i64 (-1),.int .i64 0,.int .i64 0,.int .i64 0,.int .i64 0,.slice none 0 0,.slice none 0 0] 75:=by
       have:=XA.set 0 (.int .i64 (-1))
       simpa using this
      have rlB:=rlA.store 0 (.int .i64 (-1))
      go_upto_region 14 with fail
      generalize wA.setCell ⟨lb,0,none⟩ (.int .i64 (-1))=wB at *
      have CTB:=hid (CT.out Q' wB rlB.rk)
      have RLB:=hid rlB
      have XB:=hid xB
      clear x0 z0 hxl XA rlA CT rlB xB y0 hbA
      go_wp2_with fail
      refine CTB.out.mono ?_
      rintro e w3 ⟨m,Q2,rfl,hr3,rk3,hs3,hn3,t3⟩
      obtain ⟨va,vc,rfl,_,_⟩:=owns_cells hr3
      have hlbB:=RLB.out.lt.lt
      have rl3:=RLB.out.turn t3 rk3 hs3
      have x3:Blk w3 lb #[.int .i64 (-1),.int .i64 0,.int .i64 0,.int .i64 0,.int .i64 0,.slice none 0 0,.slice none 0 0] 75:=blk_turns XB.out t3 RLB.out.nl
      have ma3:MisAt w.heap.size w3 Q2 (.slice va tl.length vc) tl:=⟨ownsRow_mono hr3 (by have:=RLB.out.hb.size; omega),hn3⟩
      have y6:=x3.cell 6
      have y3:=x3.cell 3
      simp at y6 y3
      have z6:=x3.frozen 6
      have z3:=x3.frozen 3
      have hxl:=x3.lt
      have rl4:=(rl3.store 6 (.slice va tl.length vc)).store 3 (.int .i64 te)
      have ma4:=(ma3.store rl3.lt 6 (.slice va tl.length vc)).store (rl3.store 6 (.slice va tl.length vc)).lt 3 (.int .i64 te)
      have x4:Blk ((w3.setCell ⟨lb,6,none⟩ (.slice va tl.length vc)).setCell ⟨lb,3,none⟩ (.int .i64 te)) lb #[.int .i64 (-1),.int .i64 0,.int .i64 0,.int .i64 te,.int .i64 0,.slice none 0 0,.slice va tl.length vc] 75:=by
       have:=(x3.set 6 (.slice va tl.length vc)).set 3 (.int .i64 te)
       simpa using this
      clear CTB RLB XB hr3 rk3 hs3 hn3 t3 rl3 x3 ma3
      go_upto_region 20 with fail
      clear y6 y3 z6 z3 hxl
      generalize (w3.setCell ⟨lb,6,none⟩ (.slice va tl.length vc)).setCell ⟨lb,3,none⟩ (.int .i64 te)=w4 at *
      have y4:=x4.cell 4
      simp at y4
      have z4:=x4.frozen 4
      have hxl:=x4.lt
      have cnow:=rkNow rl4.rk
      have rl5:=rl4.store 4 (.int .i64 se.now)
      have ma5:=ma4.store rl4.lt 4 (.int .i64 se.now)
      have x5:Blk (w4.setCell ⟨lb,4,none⟩ (.int .i64 se.now)) lb #[.int .i64 (-1),.int .i64 (0),.int .i64 (0),.int .i64 (te),.int .i64 se.now,.slice none 0 0,.slice va tl.length vc] 75:=by
       have:=x4.set 4 (.int .i64 se.now)
       simpa using this
      clear rl4 ma4 x4
      go_upto_region 21 with fail
      clear y4 z4 hxl cnow
      generalize w4.setCell ⟨lb,4,none⟩ (.int .i64 se.now)=w5 at *
      have CR:=hid (rkRunning_any Q2 w5 sb se rl5.rk)
      generalize R.running se=rr at *
      go_wp2_with fail
      refine CR.out.mono ?_
      rintro e w6 ⟨rv,rfl,hr6,hb6⟩
      obtain ⟨ra,rc,rfl,_,_⟩:=owns_cells hr6
      have rl6:=rl5.below hb6
      have ma6:=ma5.below hb6
      have x6:=x5.onto hb6
      have y5:=x6.cell 5
      simp at y5
      have z5:=x6.frozen 5
      have hxl:=x6.lt
      have rl7:=rl6.store 5 (.slice ra rr.length rc)
      have ma7:=ma6.store rl6.lt 5 (.slice ra rr.length rc)
      have x7:Blk (w6.setCell ⟨lb,5,none⟩ (.slice ra rr.length rc)) lb #[.int .i64 (-1),.int .i64 (0),.int .i64 (0),.int .i64 (te),.int .i64 se.now,.slice ra rr.length rc,.slice va tl.length vc] 75:=by
       have:=x6.set 5 (.slice ra rr.length rc)
       simpa using this
      have run7:(w6.setCell ⟨lb,5,none⟩ (.slice ra rr.length rc)).ownsRow w5.heap.size 3 1 (.slice ra rr.length rc) rr.length (intCells rr):=ownsRow_same hr6 fun g hg=>Below.heap_setCell _ _ _ _ (fun e=>(own_typ hr6 hg).ne rl6.lt (by decide) e)
      have nr7:∀ b,(Value.slice ra rr.length rc).ownBlock=some b->¬ Q2 b:=fun b hb hq=>by
       have h1:=(ownsRow_block hr6 hb).1
       have h2:=rl5.rk.lt b hq
       omega
      have hz5:w.heap.size<=w5.heap.size:=rl5.hb.size
      clear CR rl5 ma5 x5 hr6 hb6 rl6 ma6 x6
      go_upto_region 22 with fail
      clear y5 z5 hxl
      generalize w6.setCell ⟨lb,5,none⟩ (.slice ra rr.length rc)=w7 at *
      have q0:=x7.cell 0
      have q1:=x7.cell 1
      have q2:=x7.cell 2
      have q3:=x7.cell 3
      have q4:=x7.cell 4
      have q5:=x7.cell 5
      have q6:=x7.cell 6
      simp at q0 q1 q2 q3 q4 q5 q6
      have hxl:=x7.lt
      have hb8:Below w7.heap.size w7 (w7.alloc (.cells #[.int .i64 (-1),.int .i64 (0),.int .i64 (0),.int .i64 (te),.int .i64 se.now,.slice ra rr.length rc,.slice va tl.length vc] 75)):=(Below.refl _ _).alloc (Nat.le_refl _) _
      have rl8:=rl7.below hb8
      have ma8:=ma7.below hb8
      have run8:(w7.alloc (.cells #[.int .i64 (-1),.int .i64 (0),.int .i64 (0),.int .i64 (te),.int .i64 se.now,.slice ra rr.length rc,.slice va tl.length vc] 75)).ownsRow w5.heap.size 3 1 (.slice ra rr.length rc) rr.length (intCells rr):=ownsRow_same run7 fun g hg=>hb8.block g (ownsRow_block run7 hg).2.1
      have x8:=Blk.new w7 #[.int .i64 (-1),.int .i64 (0),.int .i64 (0),.int .i64 (te),.int .i64 se.now,.slice ra rr.length rc,.slice va tl.length vc] 75
      have RL8:=hid rl8
      have MA8:=hid ma8
      have RUN8:=hid run8
      have X8:=hid x8
      have NR:=hid nr7
      have hsz7:w.heap.size<=w7.heap.size:=rl7.hb.size
      clear rl7 ma7 x7 run7 nr7 rl8 ma8 run8 x8 hb8
      go_wp2_with (at_builtin; refine wpList_append_src_at rfl (.tmp 72) (.tmp 74) 33 rfl w.heap.size 75 iT (.agg #[.int .i64 0,.int .i64 0,.int .i64 0,.int .i64 0,.int .i64 0,.slice none 0 0,.slice none 0 0]) 7 88 Tryz.underlying33 HIT.out.1 HIT.out.2.1 HIT.out.2.2.1 HIT.out.2.2.2 rfl (by decide) (.slice va0 k vc0) k C rfl RL8.out.row (some ⟨w7.heap.size,0,none⟩) 1 1 [.int .i64 (-1),.int .i64 (0),.int .i64 (0),.int .i64 (te),.int .i64 se.now,.slice ra rr.length rc,.slice va tl.length vc] rfl rfl (fun h=>(by cases h)) (fun j u hj=>⟨_,rfl,(by rw [Addr.add_lit,Nat.zero_add,X8.out.cell]; simpa using hj)⟩) (by intro u hu; simp at hu; rcases hu with rfl | rfl | rfl | rfl | rfl | rfl | rfl <;> rfl) (by unfold maxLen; omega) (by omega) (by simp; omega) ?_; intro v' w9 hown9 hg9 hat9; obtain ⟨tv9,tc9,rfl,_,_⟩:=owns_cells hown9; have O9:=hid hown9; have G9:=hid hg9; have A9:=hid hat9; clear hown9 hg9 hat9)
      go_roundw
      case rel =>
       have lineTv:∀ b,(Value.slice va0 k vc0).ownBlock=some b->Typ _ b 75:=fun b hb=>own_typ RL8.out.row hb
       have sm:∀ b,b < (w7.alloc (.cells #[.int .i64 (-1),.int .i64 (0),.int .i64 (0),.int .i64 (te),.int .i64 se.now,.slice ra rr.length rc,.slice va tl.length vc] 75)).heap.size->(Value.slice va0 k vc0).ownBlock ≠ some b->w9.heap[b]?=(w7.alloc (.cells #[.int .i64 (-1),.int .i64 (0),.int .i64 (0),.int .i64 (te),.int .i64 se.now,.slice ra rr.length rc,.slice va tl.length vc] 75)).heap[b]?:=fun b hb hn=>G9.out.block b hb (fun e=>hn e.symm)
       have lm9:LineMem w.heap.size w9 Q2 ⟨-1,0,0,te,se.now,rr,tl⟩ (.slice ra rr.length rc) (.slice va tl.length vc):=by
        refine ⟨?_,?_,NR.out,MA8.out.nm⟩
        ·exact ownsRow_mono (ownsRow_same RUN8.out fun g hg=>sm g (ownsRow_block RUN8.out hg).2.1 (fun e=>(own_typ RUN8.out hg).ne (lineTv g e) (by decide) rfl)) hz5
        ·exact ownsRow_same MA8.out.row fun g hg=>sm g (ownsRow_block MA8.out.row hg).2.1 (fun e=>(own_typ MA8.out.row hg).ne (lineTv g e) (by decide) rfl)
       have lr9:LRow w.heap.size w9 Q2 C LL:=RL8.out.lr.turn (fun b hb _ ht=>sm b hb (fun e=>by
        rcases ht with ht | ht
        ·exact ht.ne (lineTv b e) (by decide) rfl
        ·exact ht.ne (lineTv b e) (by decide) rfl)) (fun _ h=>.inl h)
       have nq9:∀ b,(Value.slice tv9 (k + 1) tc9).ownBlock=some b->¬ Q2 b:=fun b hb hq=>by
        rcases A9.out with e | e
        ·rw [e] at hb
         exact (RL8.out.nv b hb).1 hq
        ·rw [e] at hb
         cases hb
         have:=RL8.out.rk.lt _ hq
         omega
       refine ⟨k + 1,by omega,by go_num,C ++ [.int .i64 (-1),.int .i64 (0),.int .i64 (0),.int .i64 (te),.int .i64 se.now,.slice ra rr.length rc,.slice va tl.length vc],Q2,O9.out,?_,?_,nq9,RL8.out.hq,?_⟩
       ·rw [EX.out]
        refine lr9.snoc lm9 (fun i hi j hj=>?_) (fun j hj=>?_)
        ·rw [List.getElem?_append_left (by have:=HLL.out; omega)]
        ·rw [HLL.out,List.getElem?_append_right (by omega),hCl]
         simp [lineCells]
       ·rw [EY.out]
        refine RL8.out.rk.frame (fun b hb=>sm b (RL8.out.rk.lt b hb) (fun e=>(RL8.out.nv b e).1 hb)) G9.out.size
       ·exact RL8.out.hb.trans ⟨G9.out.os,G9.out.tape,G9.out.output,G9.out.size,fun b hb=>G9.out.block b (by have:=RL8.out.hb.size; omega) (fun e=>by
         have:=(ownsRow_block RL8.out.row e.symm).1
         omega)⟩
      case measure=>simp [intOf]; omega
     ·obtain ⟨ex,ey⟩:=lineOf_pick sk n hm1
      rw [ex] at EX
      rw [ey] at EY
      have hm1':(n == -1)=false:=by simpa using hm1
      clear ex ey
      have CP:=hid (fun Q wx (kx:RK Q wx sb sk)=>rkPick_any Q wx sb sk kx n nxk)
      generalize R.pickT sk n=pt at *
      generalize R.pickA sk n=pa at *
      generalize R.pickC sk n=pc at *
      generalize R.pickE sk n=pe at *
      generalize R.pickS sk n=se at *
      have CPA:=hid (CP.out Q' wA rlA.rk)
      have RLA:=hid rlA
      have XL:=hid XA
      clear XA rlA CP hbA
      go_wp2_with fail
      refine CPA.out.mono ?_
      rintro e w2' ⟨rfl,Q2,rk3,hs3,t3⟩
      have rl3:=RLA.out.turn t3 rk3 hs3
      have x3:Blk w2' lb #[.int .i64 0,.int .i64 0,.int .i64 0,.int .i64 0,.int .i64 0,.slice none 0 0,.slice none 0 0] 75:=blk_turns XL.out t3 RLA.out.nl
      have hbR:Below w2'.heap.size w2' (w2'.alloc (.cells #[.int .i64 pt,.int .i64 pa,.int .i64 pc] 72)):=(Below.refl _ _).alloc (Nat.le_refl _) _
      have XR:=Blk.new w2' #[.int .i64 pt,.int .i64 pa,.int .i64 pc] 72
      have rlR:=rl3.below hbR
      have xR:=x3.onto hbR
      go_upto_region 18 with fail
      generalize w2'.alloc (.cells #[.int .i64 pt,.int .i64 pa,.int .i64 pc] 72)=w3 at *
      have r0:=XR.cell 0
      have r1:=XR.cell 1
      have r2:=XR.cell 2
      have q0:=xR.cell 0
      have q1:=xR.cell 1
      have q2:=xR.cell 2
      have q3:=xR.cell 3
      simp at r0 r1 r2 q0 q1 q2 q3
      have z0:=xR.frozen 0
      have z1:=xR.frozen 1
      have z2:=xR.frozen 2
      have z3:=xR.frozen 3
      have hxl:=xR.lt
      have hxr:=XR.lt
      have rl4:=(((rlR.store 0 (.int .i64 pt)).store 1 (.int .i64 pa)).store 2 (.int .i64 pc)).store 3 (.int .i64 pe)
      have ma4:MisAt w.heap.size ((((w3.setCell ⟨lb,0,none⟩ (.int .i64 pt)).setCell ⟨lb,1,none⟩ (.int .i64 pa)).setCell ⟨lb,2,none⟩ (.int .i64 pc)).setCell ⟨lb,3,none⟩ (.int .i64 pe)) Q2 (.slice none 0 0) []:=⟨World.ownsRow_nil _ _ _ _,fun b hb=>(by cases hb)⟩
      have x4:Blk ((((w3.setCell ⟨lb,0,none⟩ (.int .i64 pt)).setCell ⟨lb,1,none⟩ (.int .i64 pa)).setCell ⟨lb,2,none⟩ (.int .i64 pc)).setCell ⟨lb,3,none⟩ (.int .i64 pe)) lb #[.int .i64 pt,.int .i64 pa,.int .i64 pc,.int .i64 pe,.int .i64 0,.slice none 0 0,.slice none 0 0] 75:=by
       have:=(((xR.set 0 (.int .i64 pt)).set 1 (.int .i64 pa)).set 2 (.int .i64 pc)).set 3 (.int .i64 pe)
       simpa using this
      clear CPA RLA XL rk3 hs3 t3 rl3 x3 hbR XR rlR xR
      go_upto_region 20 with fail
      clear r0 r1 r2 q0 q1 q2 q3 z0 z1 z2 z3 hxl hxr
      generalize (((w3.setCell ⟨lb,0,none⟩ (.int .i64 pt)).setCell ⟨lb,1,none⟩ (.int .i64 pa)).setCell ⟨lb,2,none⟩ (.int .i64 pc)).setCell ⟨lb,3,none⟩ (.int .i64 pe)=w4 at *
      have y4:=x4.cell 4
      simp at y4
      have z4:=x4.frozen 4
      have hxl:=x4.lt
      have cnow:=rkNow rl4.rk
      have rl5:=rl4.store 4 (.int .i64 se.now)
      have ma5:=ma4.store rl4.lt 4 (.int .i64 se.now)
      have x5:Blk (w4.setCell ⟨lb,4,none⟩ (.int .i64 se.now)) lb #[.int .i64 (pt),.int .i64 (pa),.int .i64 (pc),.int .i64 (pe),.int .i64 se.now,.slice none 0 0,.slice none 0 0] 75:=by
       have:=x4.set 4 (.int .i64 se.now)
       simpa using this
      clear rl4 ma4 x4
      go_upto_region 21 with fail
      clear y4 z4 hxl cnow
      generalize w4.setCell ⟨lb,4,none⟩ (.int .i64 se.now)=w5 at *
      have CR:=hid (rkRunning_any Q2 w5 sb se rl5.rk)
      generalize R.running se=rr at *
      go_wp2_with fail
      refine CR.out.mono ?_
      rintro e w6 ⟨rv,rfl,hr6,hb6⟩
      obtain ⟨ra,rc,rfl,_,_⟩:=owns_cells hr6
      have rl6:=rl5.below hb6
      have ma6:=ma5.below hb6
      have x6:=x5.onto hb6
      have y5:=x6.cell 5
      simp at y5
      have z5:=x6.frozen 5
      have hxl:=x6.lt
      have rl7:=rl6.store 5 (.slice ra rr.length rc)
      have ma7:=ma6.store rl6.lt 5 (.slice ra rr.length rc)
      have x7:Blk (w6.setCell ⟨lb,5,none⟩ (.slice ra rr.length rc)) lb #[.int .i64 (pt),.int .i64 (pa),.int .i64 (pc),.int .i64 (pe),.int .i64 se.now,.slice ra rr.length rc,.slice none 0 0] 75:=by
       have:=x6.set 5 (.slice ra rr.length rc)
       simpa using this
      have run7:(w6.setCell ⟨lb,5,none⟩ (.slice ra rr.length rc)).ownsRow w5.heap.size 3 1 (.slice ra rr.length rc) rr.length (intCells rr):=ownsRow_same hr6 fun g hg=>Below.heap_setCell _ _ _ _ (fun e=>(own_typ hr6 hg).ne rl6.lt (by decide) e)
      have nr7:∀ b,(Value.slice ra rr.length rc).ownBlock=some b->¬ Q2 b:=fun b hb hq=>by
       have h1:=(ownsRow_block hr6 hb).1
       have h2:=rl5.rk.lt b hq
       omega
      have hz5:w.heap.size<=w5.heap.size:=rl5.hb.size
      clear CR rl5 ma5 x5 hr6 hb6 rl6 ma6 x6
      go_upto_region 22 with fail
      clear y5 z5 hxl
      generalize w6.setCell ⟨lb,5,none⟩ (.slice ra rr.length rc)=w7 at *
      have q0:=x7.cell 0
      have q1:=x7.cell 1
      have q2:=x7.cell 2
      have q3:=x7.cell 3
      have q4:=x7.cell 4
      have q5:=x7.cell 5
      have q6:=x7.cell 6
      simp at q0 q1 q2 q3 q4 q5 q6
      have hxl:=x7.lt
      have hb8:Below w7.heap.size w7 (w7.alloc (.cells #[.int .i64 (pt),.int .i64 (pa),.int .i64 (pc),.int .i64 (pe),.int .i64 se.now,.slice ra rr.length rc,.slice none 0 0] 75)):=(Below.refl _ _).alloc (Nat.le_refl _) _
      have rl8:=rl7.below hb8
      have ma8:=ma7.below hb8
      have run8:(w7.alloc (.cells #[.int .i64 (pt),.int .i64 (pa),.int .i64 (pc),.int .i64 (pe),.int .i64 se.now,.slice ra rr.length rc,.slice none 0 0] 75)).ownsRow w5.heap.size 3 1 (.slice ra rr.length rc) rr.length (intCells rr):=ownsRow_same run7 fun g hg=>hb8.block g (ownsRow_block run7 hg).2.1
      have x8:=Blk.new w7 #[.int .i64 (pt),.int .i64 (pa),.int .i64 (pc),.int .i64 (pe),.int .i64 se.now,.slice ra rr.length rc,.slice none 0 0] 75
      have RL8:=hid rl8
      have MA8:=hid ma8
      have RUN8:=hid run8
      have X8:=hid x8
      have NR:=hid nr7
      have hsz7:w.heap.size<=w7.heap.size:=rl7.hb.size
      clear rl7 ma7 x7 run7 nr7 rl8 ma8 run8 x8 hb8
      go_wp2_with (at_builtin; refine wpList_append_src_at rfl (.tmp 72) (.tmp 74) 33 rfl w.heap.size 75 iT (.agg #[.int .i64 0,.int .i64 0,.int .i64 0,.int .i64 0,.int .i64 0,.slice none 0 0,.slice none 0 0]) 7 88 Tryz.underlying33 HIT.out.1 HIT.out.2.1 HIT.out.2.2.1 HIT.out.2.2.2 rfl (by decide) (.slice va0 k vc0) k C rfl RL8.out.row (some ⟨w7.heap.size,0,none⟩) 1 1 [.int .i64 (pt),.int .i64 (pa),.int .i64 (pc),.int .i64 (pe),.int .i64 se.now,.slice ra rr.length rc,.slice none 0 0] rfl rfl (fun h=>(by cases h)) (fun j u hj=>⟨_,rfl,(by rw [Addr.add_lit,Nat.zero_add,X8.out.cell]; simpa using hj)⟩) (by intro u hu; simp at hu; rcases hu with rfl | rfl | rfl | rfl | rfl | rfl | rfl <;> rfl) (by unfold maxLen; omega) (by omega) (by simp; omega) ?_; intro v' w9 hown9 hg9 hat9; obtain ⟨tv9,tc9,rfl,_,_⟩:=owns_cells hown9; have O9:=hid hown9; have G9:=hid hg9; have A9:=hid hat9; clear hown9 hg9 hat9)
      go_roundw
      case rel =>
       have lineTv:∀ b,(Value.slice va0 k vc0).ownBlock=some b->Typ _ b 75:=fun b hb=>own_typ RL8.out.row hb
       have sm:∀ b,b < (w7.alloc (.cells #[.int .i64 (pt),.int .i64 (pa),.int .i64 (pc),.int .i64 (pe),.int .i64 se.now,.slice ra rr.length rc,.slice none 0 0] 75)).heap.size->(Value.slice va0 k vc0).ownBlock ≠ some b->w9.heap[b]?=(w7.alloc (.cells #[.int .i64 (pt),.int .i64 (pa),.int .i64 (pc),.int .i64 (pe),.int .i64 se.now,.slice ra rr.length rc,.slice none 0 0] 75)).heap[b]?:=fun b hb hn=>G9.out.block b hb (fun e=>hn e.symm)
       have lm9:LineMem w.heap.size w9 Q2 ⟨pt,pa,pc,pe,se.now,rr,[]⟩ (.slice ra rr.length rc) (.slice none 0 0):=by
        refine ⟨?_,?_,NR.out,MA8.out.nm⟩
        ·exact ownsRow_mono (ownsRow_same RUN8.out fun g hg=>sm g (ownsRow_block RUN8.out hg).2.1 (fun e=>(own_typ RUN8.out hg).ne (lineTv g e) (by decide) rfl)) hz5
        ·exact ownsRow_same MA8.out.row fun g hg=>sm g (ownsRow_block MA8.out.row hg).2.1 (fun e=>(own_typ MA8.out.row hg).ne (lineTv g e) (by decide) rfl)
       have lr9:LRow w.heap.size w9 Q2 C LL:=RL8.out.lr.turn (fun b hb _ ht=>sm b hb (fun e=>by
        rcases ht with ht | ht
        ·exact ht.ne (lineTv b e) (by decide) rfl
        ·exact ht.ne (lineTv b e) (by decide) rfl)) (fun _ h=>.inl h)
       have nq9:∀ b,(Value.slice tv9 (k + 1) tc9).ownBlock=some b->¬ Q2 b:=fun b hb hq=>by
        rcases A9.out with e | e
        ·rw [e] at hb
         exact (RL8.out.nv b hb).1 hq
        ·rw [e] at hb
         cases hb
         have:=RL8.out.rk.lt _ hq
         omega
       refine ⟨k + 1,by omega,by go_num,C ++ [.int .i64 (pt),.int .i64 (pa),.int .i64 (pc),.int .i64 (pe),.int .i64 se.now,.slice ra rr.length rc,.slice none 0 0],Q2,O9.out,?_,?_,nq9,RL8.out.hq,?_⟩
       ·rw [EX.out]
        refine lr9.snoc lm9 (fun i hi j hj=>?_) (fun j hj=>?_)
        ·rw [List.getElem?_append_left (by have:=HLL.out; omega)]
        ·rw [HLL.out,List.getElem?_append_right (by omega),hCl]
         simp [lineCells]
       ·rw [EY.out]
        refine RL8.out.rk.frame (fun b hb=>sm b (RL8.out.rk.lt b hb) (fun e=>(RL8.out.nv b e).1 hb)) G9.out.size
       ·exact RL8.out.hb.trans ⟨G9.out.os,G9.out.tape,G9.out.output,G9.out.size,fun b hb=>G9.out.block b (by have:=RL8.out.hb.size; omega) (fun e=>by
         have:=(ownsRow_block RL8.out.row e.symm).1
         omega)⟩
      case measure=>simp [intOf]; omega
    ·have e:k=l.length:=by omega
     subst e
     have R9:=hid hrow
     have L9:=hid hlr
     have B9:=hid hb
     clear hrow hlr hrk hnv hq hb
     go_wp2
     go_ret2
     refine ⟨_,C,rfl,?_,L9.out.turn (fun _ _ _ _=>rfl) (fun _ h=>h.elim),B9.out⟩
     rw [HLEN.out]
     exact R9.out
  ·obtain ⟨e1,e2⟩:=runL_bad hlong herr
   unfold RunOk
   rw [e1,e2]
   clear e1 e2
   have hne:(P3.err S != 0)=true:=by simpa using herr
   clear herr hlong
   generalize P3.err S=er at *
   generalize P3.place S=pl at *
   go_enter Tryz.func17,Tryz.ntmps17
   go_upto_region 1 with fail
   generalize w.alloc (.cells #[.int .i64 S.workers,.int .i64 S.start,.slice tv S.threads.length tc,.slice mv S.mutexes.length mc,.slice sv S.sems.length sc,.slice qv S.queues.length qc] 27)=w0 at hb0 X0 ⊢
   have y0:=X0.cell 0
   have y1:=X0.cell 1
   have y2:=X0.cell 2
   have y3:=X0.cell 3
   have y4:=X0.cell 4
   have y5:=X0.cell 5
   simp at y0 y1 y2 y3 y4 y5
   have CC0:=hid (CC.out w0 (HS.out.later hb0))
   have HB0:=hid hb0
   have hsz0:=hb0.size
   clear CC hb0 X0
   go_wp2_with fail
   refine CC0.out.mono ?_
   rintro e w1 ⟨rfl,hb1⟩
   have HB1:=hid (via HB0.out HB0.out.size hb1)
   clear CC0 hb1
   go_wp2
   go_ret2
   exact ⟨_,[],rfl,World.ownsRow_nil _ _ _ _,LRow.nil _ _ _ _,HB1.out⟩
end Go.Proofs.YtbkfildnijjioaaGreat
