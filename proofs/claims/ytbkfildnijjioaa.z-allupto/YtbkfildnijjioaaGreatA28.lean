import Derived.Test.YtbkfildnijjioaaGreatA27
import Derived.Test.YtbkfildnijjioaaGreatA23
namespace Go.Proofs.YtbkfildnijjioaaGreat
open Go.RowKit
section
variable {PK:KP} {B:Nat} {w:World} {tag:Tag} {wb:Nat} {ks:List KI} {ins mss lns:List Value} {vk vi vm vl:Value}
set_option linter.unusedVariables false in
set_option maxRecDepth 100000 in
set_option maxHeartbeats 4000000 in
theorem makesR_any (C:CAll PK) (cn:CNew PK (fun _=>True)) (cr:CRun) (sa:Option Addr) (scap:Nat) (Ss:List SetD) (h:AM PK B (fun _=>True) w tag wb (.slice sa Ss.length scap) ks ins mss lns vk vi vm vl) (hBw:B<=w.heap.size) (hSs:SetsIn B w sa Ss) (hFs:∀ S,S ∈ Ss->Fits S) (hn:Ss.length<=100000000)
  (k' a b:Int) (ov:Option Addr) (oc:Nat) (l:List Int) (hl:IntsIn B w ov l) (hov:ov=none->oc=0) (hll:l.length<=100000000) (hks:ks.length<=100000000) (hcI:ins.length + 1000<=100000000) (hcM:mss.length + 1000<=100000000) (hcL:lns.length<=100000000) (ha0:-9223372036854775808<=a) (ha1:a<=9223372036854775807) :
  Calls Tryz.prog 19 #[.pointer (some ⟨wb,0,none⟩),.agg #[.int .i64 13,.int .i64 k',.int .i64 a,.int .i64 b,.slice ov l.length oc]] w fun e w'=>Steps PK B w wb (.slice sa Ss.length scap) ks ins mss lns (1 + l.length) e w':=by
 have hbA:Below w.heap.size w (w.alloc (.cells #[.int .i64 13,.int .i64 k',.int .i64 a,.int .i64 b,.slice ov l.length oc] 48)):=(Below.refl _ _).alloc (Nat.le_refl _) _
 have XA:=Blk.new w #[.int .i64 13,.int .i64 k',.int .i64 a,.int .i64 b,.slice ov l.length oc] 48
 have AMA:=hid (h.below C.f hbA)
 have AMFA:=hid (h.toF C.f hbA)
 have SAME:Hid (∀ w',Below w.heap.size w w'->Steps PK B w wb (.slice sa Ss.length scap) ks ins mss lns (1 + l.length) (.returned (.bool true)) w'):=fun w' hb=>Steps.same h C.f hBw hb rfl
 have hszA:B<=(w.alloc (.cells #[.int .i64 13,.int .i64 k',.int .i64 a,.int .i64 b,.slice ov l.length oc] 48)).heap.size:=Nat.le_trans hBw hbA.size
 have HC:=hid C
 have HSS:=hid hSs
 have HLB:=hid hl
 have HFS:=hid hFs
 have HCN:=hid cn
 have HCR:=hid cr
 have HOV:=hid hov
 clear h C hSs hl hFs cn cr hov
 go_enter Tryz.func19,Tryz.ntmps19
 go_upto_region 1 with fail
 generalize w.alloc (.cells #[.int .i64 13,.int .i64 k',.int .i64 a,.int .i64 b,.slice ov l.length oc] 48)=wA at *
 have x2:=XA.cell 2
 simp at x2
 have HXA:=hid XA
 have hbAs:=hid hbA
 have c0:=(AMA.out.blk trivial).cell 0
 simp at c0
 clear hbA XA
 by_cases hzero:Ss.length=0
 ·rw [hzero] at c0
  go_wp2
  go_ret
  exact SAME.out wA hbAs.out
 ·have hz':((Ss.length:Int) == 0)=false:=by simpa using hzero
  obtain ⟨i,hi,pd⟩:=pick_det a Ss.length (by omega) hn ha0 ha1
  obtain ⟨gs,os,tv,mv,sv,qv,tc,mc,sc,qc,rfl,hgs,s0,s1,s2,s3,s4,s5,hS0,hnil⟩:=HSS.out i hi
  have hbAB:=hbAs.out.mono hBw
  replace s0:=(hbAB.cell (p:=⟨gs,_,none⟩) hgs).trans s0
  replace s1:=(hbAB.cell (p:=⟨gs,_,none⟩) hgs).trans s1
  replace s2:=(hbAB.cell (p:=⟨gs,_,none⟩) hgs).trans s2
  replace s3:=(hbAB.cell (p:=⟨gs,_,none⟩) hgs).trans s3
  replace s4:=(hbAB.cell (p:=⟨gs,_,none⟩) hgs).trans s4
  replace s5:=(hbAB.cell (p:=⟨gs,_,none⟩) hgs).trans s5
  have hF:=HFS.out _ (List.getElem_mem hi)
  generalize Ss[i]=S at *
  have HSB:=hid hS0
  have HS:=hid ((hS0.stays hbAB).mono hszA)
  have HF:=hid hF
  have HN:=hid hnil
  have PD:=hid pd
  have hiI:(i:Int) < (Ss.length:Int):=by omega
  clear pd hS0 hF hnil HSS HFS hbAB
  have hwb:=(AMA.out.blk trivial).lt
  have hxl:=HXA.out.lt
  have hgl:gs < wA.heap.size:=by omega
  have n1:wb ≠ wA.heap.size:=by omega
  have n2:w.heap.size ≠ wA.heap.size:=by omega
  have n3:gs ≠ wA.heap.size:=by omega
  have hbZ:Below wA.heap.size wA (wA.drew.alloc (.cells #[.int .i64 0,.int .i64 0,.slice none 0 0,.slice none 0 0,.slice none 0 0,.slice none 0 0] 27)):=(Below.refl _ _).drew.alloc (Nat.le_refl _) _
  have z0:=(hbZ.cell (p:=⟨wb,0,none⟩) hwb).trans c0
  have z2:=(hbZ.cell (p:=⟨w.heap.size,2,none⟩) hxl).trans x2
  have t0:=(hbZ.cell (p:=⟨gs,_,none⟩) hgl).trans s0
  have t1:=(hbZ.cell (p:=⟨gs,_,none⟩) hgl).trans s1
  have t2:=(hbZ.cell (p:=⟨gs,_,none⟩) hgl).trans s2
  have t3:=(hbZ.cell (p:=⟨gs,_,none⟩) hgl).trans s3
  have t4:=(hbZ.cell (p:=⟨gs,_,none⟩) hgl).trans s4
  have t5:=(hbZ.cell (p:=⟨gs,_,none⟩) hgl).trans s5
  have hbY:Below wA.heap.size wA (wA.alloc (.cells #[.int .i64 S.workers,.int .i64 S.start,.slice tv S.threads.length tc,.slice mv S.mutexes.length mc,.slice sv S.sems.length sc,.slice qv S.queues.length qc] 27)).drew:=((Below.refl _ _).alloc (Nat.le_refl _) _).drew
  have X5:Blk (wA.alloc (.cells #[.int .i64 S.workers,.int .i64 S.start,.slice tv S.threads.length tc,.slice mv S.mutexes.length mc,.slice sv S.sems.length sc,.slice qv S.queues.length qc] 27)).drew wA.heap.size #[.int .i64 S.workers,.int .i64 S.start,.slice tv S.threads.length tc,.slice mv S.mutexes.length mc,.slice sv S.sems.length sc,.slice qv S.queues.length qc] 27:=Blk.new wA _ _
  have y0:=(hbY.cell (p:=⟨wb,0,none⟩) hwb).trans c0
  have y2:=(hbY.cell (p:=⟨w.heap.size,2,none⟩) hxl).trans x2
  have r0:=(hbY.cell (p:=⟨gs,_,none⟩) hgl).trans s0
  have r1:=(hbY.cell (p:=⟨gs,_,none⟩) hgl).trans s1
  have r2:=(hbY.cell (p:=⟨gs,_,none⟩) hgl).trans s2
  have r3:=(hbY.cell (p:=⟨gs,_,none⟩) hgl).trans s3
  have r4:=(hbY.cell (p:=⟨gs,_,none⟩) hgl).trans s4
  have r5:=(hbY.cell (p:=⟨gs,_,none⟩) hgl).trans s5
  have AM1:=hid (AMFA.out.below HC.out.f hbY)
  have HS1:=hid (HS.out.later hbY)
  have HX1:=hid (HXA.out.onto hbY)
  have HB1:Hid (Below w.heap.size w _):=hid (hbAs.out.trans (hbY.mono hbAs.out.size))
  have HY5:=hid X5
  have hsz1:Hid (B<=_):=hid (Nat.le_trans hszA hbY.size)
  clear hbZ hbY X5
  go_wp2_with fail
  go_region_held3 (fun w'=>w'.cell? ⟨wb,0,none⟩=some (.slice (some ⟨gs,os,none⟩) Ss.length scap)/\w'.cell? ⟨w.heap.size,2,none⟩=some (.int .i64 a)/\w'.cell? ⟨gs,os + i * 6,none⟩=some (.int .i64 S.workers)/\w'.cell? ⟨gs,os + i * 6 + 1,none⟩=some (.int .i64 S.start)/\w'.cell? ⟨gs,os + i * 6 + 2,none⟩=some (.slice tv S.threads.length tc)/\w'.cell? ⟨gs,os + i * 6 + 3,none⟩=some (.slice mv S.mutexes.length mc)/\w'.cell? ⟨gs,os + i * 6 + 4,none⟩=some (.slice sv S.sems.length sc)/\w'.cell? ⟨gs,os + i * 6 + 5,none⟩=some (.slice qv S.queues.length qc)) (first | exact ⟨c0,x2,s0,s1,s2,s3,s4,s5⟩ | exact ⟨z0,z2,t0,t1,t2,t3,t4,t5⟩ | exact ⟨y0,y2,r0,r1,r2,r3,r4,r5⟩)
   (first
    | (go_at_call 33; refine (PD.out _).mono ?_; rintro e w1 ⟨rfl,hw1⟩; have hw2:=hw1.symm; subst hw2; clear hw1))
  all_goals
   clear y0 y2 r0 r1 r2 r3 r4 r5 z0 z2 t0 t1 t2 t3 t4 t5 s0 s1 s2 s3 s4 s5 c0 x2 PD AMA AMFA HS HXA
   obtain ⟨n5,HN5⟩:∃ x,Hid (wA.heap.size=x):=⟨_,hid rfl⟩
   rw [HN5.out] at HY5 ⊢
   have hn5:w.heap.size<=n5:=by have:=hbAs.out.size; rw [HN5.out] at this; exact this
   generalize (wA.alloc (.cells #[.int .i64 S.workers,.int .i64 S.start,.slice tv S.threads.length tc,.slice mv S.mutexes.length mc,.slice sv S.sems.length sc,.slice qv S.queues.length qc] 27)).drew=w1 at *
   clear n1 n2 n3 hwb hxl hgl hszA hbAs HN5
   have q0:=HY5.out.cell 0
   have q1:=HY5.out.cell 1
   have q2:=HY5.out.cell 2
   have q3:=HY5.out.cell 3
   have q4:=HY5.out.cell 4
   have q5:=HY5.out.cell 5
   simp at q0 q1 q2 q3 q4 q5
   go_wp2_with fail
   refine (roomy_any tv mv sv qv tc mc sc qc S w1 HS1.out HF.out HN.out).mono ?_
   rintro e w2 ⟨ta,ma,sb,qa,tc',mc',sc',qc',ca,cc,rfl,ro,hb2⟩
   have hb3:Below w2.heap.size w2 (w2.alloc (.cells #[.int .i64 S.workers,.int .i64 S.start,.slice ta S.threads.length tc',.slice ma S.mutexes.length mc',.slice sb S.sems.length sc',.slice qa S.queues.length qc'] 27)):=(Below.refl _ _).alloc (Nat.le_refl _) _
   have hz12:=hb2.size
   have AM3:=hid ((AM1.out.below HC.out.f hb2).below HC.out.f hb3)
   have HS3:=hid ((HS1.out.later hb2).later hb3)
   have hb13:=hb2.trans (hb3.mono hb2.size)
   have HX3:=hid (HX1.out.onto hb13)
   have Y3:=HY5.out.onto hb13
   have Z3:=Blk.new w2 #[.int .i64 S.workers,.int .i64 S.start,.slice ta S.threads.length tc',.slice ma S.mutexes.length mc',.slice sb S.sems.length sc',.slice qa S.queues.length qc'] 27
   have HB3:=hid (HB1.out.trans (hb13.mono HB1.out.size))
   have RO:=hid ro
   have RS3:Hid (∀ b,b < w2.heap.size->(w2.alloc (.cells #[.int .i64 S.workers,.int .i64 S.start,.slice ta S.threads.length tc',.slice ma S.mutexes.length mc',.slice sb S.sems.length sc',.slice qa S.queues.length qc'] 27)).heap[b]?=w2.heap[b]?):=fun b hb=>hb3.block b hb
   have HB13:=hid hb13
   have hz13:Hid (w1.heap.size<=_):=hid hb13.size
   clear ro hb2 hb3 hb13 q0 q1 q2 q3 q4 q5 HS1 HX1 HY5 AM1
   go_upto_region 5 with fail
   generalize w2.alloc (.cells #[.int .i64 S.workers,.int .i64 S.start,.slice ta S.threads.length tc',.slice ma S.mutexes.length mc',.slice sb S.sems.length sc',.slice qa S.queues.length qc'] 27)=w3 at *
   have q0:=Y3.cell 0
   have q1:=Y3.cell 1
   have q2:=Y3.cell 2
   have q3:=Y3.cell 3
   have q4:=Y3.cell 4
   have q5:=Y3.cell 5
   simp at q0 q1 q2 q3 q4 q5
   have Y3H:=hid Y3
   have Z3H:=hid Z3
   clear Y3 Z3
   go_wp2_with fail
   refine (rCheck_any tv mv sv qv tc mc sc qc S w3 HS3.out).mono ?_
   rintro e w4 ⟨rfl,hb4⟩
   have AM4:=hid (AM3.out.below HC.out.f hb4)
   have HS4:=hid (HS3.out.later hb4)
   have HX4:=hid (HX3.out.onto hb4)
   have Y4:=hid (Y3H.out.onto hb4)
   have Z4:=hid (Z3H.out.onto hb4)
   have HB4:=hid (HB3.out.trans (hb4.mono HB3.out.size))
   have hz4:=hb4.size
   have hz23:w2.heap.size<=w3.heap.size:=by have:=Z3H.out.lt; omega
   have RS4:Hid (∀ b,b < w2.heap.size->w4.heap[b]?=w2.heap[b]?):=fun b hb=>(hb4.block b (by omega)).trans (RS3.out b hb)
   have RO4:Hid (RoomySet w1.heap.size w4 ta ma sb qa tc' mc' sc' qc' S ca cc):=hid (RO.out.same (fun b _ hb=>RS4.out b hb))
   have hz24:Hid (w2.heap.size<=w4.heap.size):=hid (by omega)
   have hsz4:Hid (B<=w4.heap.size):=hid (Nat.le_trans (Nat.le_trans hsz1.out hz13.out) hz4)
   clear hb4 q0 q1 q2 q3 q4 q5 HS3 HX3 Y3H Z3H HB3 RS3 AM3 HB13 hz4 hz23
   have x0:=HX4.out.cell 0
   simp at x0
   have x4:=HX4.out.cell 4
   simp at x4
   have HL4:=hid (HLB.out.stays (HB4.out.mono hBw))
   have SRC:Hid (∀ j u,(intCells l)[j]?=some u->∃ ad,ov=some ad/\w4.cell? (ad.add j)=some u):=fun j u hj=>by
    have hjl:j < l.length:=by
     rcases Nat.lt_or_ge j l.length with h | h
     ·exact h
     ·rw [List.getElem?_eq_none (by simp [intCells]; omega)] at hj
      cases hj
    obtain ⟨b,o,e,hlt,hc⟩:=HL4.out j hjl
    refine ⟨_,e,?_⟩
    rw [Addr.add_lit,hc]
    simpa [intCells,hjl] using hj
   obtain ⟨i3,hi3,hz30,hz31,hz32⟩:=info_parts Tryz.infoInt
   have HI3:=hid (And.intro hi3 (And.intro hz30 (And.intro hz31 hz32)))
   clear hi3 hz30 hz31 hz32
   go_upto_region 20 with (at_builtin; refine wpList_append_src rfl (.tmp 105) (.tmp 107) 25 rfl w4.heap.size 3 i3 (.int .i64 0) 1 8 Tryz.underlying25 HI3.out.1 HI3.out.2.1 HI3.out.2.2.1 HI3.out.2.2.2 rfl (by decide) (.slice none 0 0) 0 [] rfl (World.ownsRow_nil _ _ _ _) ov l.length oc (intCells l) rfl (intCells_length _) HOV.out SRC.out (intCells_one _) (by unfold maxLen; omega) (by omega) (Nat.le_refl _) ?_; intro v' w5 hown5 hg5; have O5:=hid hown5; have G5:=hid hg5; clear hown5 hg5)
   have hb5:Below w4.heap.size w4 w5:=(Below.refl _ _).grown G5.out (Nat.le_refl _) (fun g hg=>(by cases hg))
   have row5:w5.ownsRow w4.heap.size 3 1 v' l.length (intCells l):=by
    have:=O5.out
    simpa using this
   obtain ⟨lv,lc,rfl,_,_⟩:=owns_cells row5
   have HB45:=hid hb5
   have ROW5:=hid row5
   have hz45:=hb5.size
   clear O5 G5 hb5 row5 SRC
   go_upto_region 21 with (at_builtin; refine wpList_append_src rfl (.tmp 109) (.tmp 110) 25 rfl w4.heap.size 3 i3 (.int .i64 0) 1 8 Tryz.underlying25 HI3.out.1 HI3.out.2.1 HI3.out.2.2.1 HI3.out.2.2.2 rfl (by decide) (.slice lv l.length lc) l.length (intCells l) rfl (ROW5.out.alloc _) (some ⟨w5.heap.size,0,none⟩) 1 1 [.int .i64 (-1000)] rfl rfl (fun h=>(by cases h)) (fun j u hj=>⟨_,rfl,(by rw [Addr.add_lit,Nat.zero_add,(Blk.new w5 #[.int .i64 (-1000)] 3).cell]; simpa using hj)⟩) (by intro u hu; simp at hu; subst hu; rfl) (by unfold maxLen; omega) (by omega) (by simp; omega) ?_; intro v' w6 hown6 hg6; have O6:=hid hown6; have G6:=hid hg6; clear hown6 hg6)
   have hb6:Below w4.heap.size w4 w6:=(HB45.out.alloc hz45 _).grown G6.out (by simp; omega) (fun g hg=>(ownsRow_block ROW5.out hg).1)
   obtain ⟨la,lc6,rfl,_,_⟩:=owns_cells O6.out
   have hsom:∃ g,la=some ⟨g,0,none⟩/\l.length + 1<=lc6:=by
    rcases O6.out.2 with ⟨e,h0⟩ | ⟨g',cap,cur',e,hb,hg,h4,_⟩
    ·omega
    ·cases e
     exact ⟨_,rfl,h4⟩
   obtain ⟨g,rfl,hcap⟩:=hsom
   have hgl:=(ownsRow_block O6.out rfl).2.1
   have lcell:∀ j,j < l.length + 1->w6.cell? ⟨g,j,none⟩=(intCells l ++ [.int .i64 (-1000)])[j]?:=fun j hj=>O6.out.cellAt j (by omega)
   have LI:Hid (IntsIn w6.heap.size w6 (some ⟨g,0,none⟩) l):=fun j hj=>⟨g,0,rfl,hgl,by rw [Nat.zero_add,lcell j (by omega),List.getElem?_append_left (by rw [intCells_length]; omega)]; simp [intCells,hj]⟩
   have hfar:w6.cell? ⟨g,l.length,none⟩=some (.int .i64 (-1000)):=by
    rw [lcell l.length (by omega),List.getElem?_append_right (by rw [intCells_length]; omega),intCells_length]
    simp
   have HFAR:=hid hfar
   have hcapI:(l.length:Int)<=(lc6:Int):=by omega
   have AM6:=hid (AM4.out.below HC.out.f hb6)
   have HB6:=hid (HB4.out.trans (hb6.mono HB4.out.size))
   have HX6:=hid (HX4.out.onto hb6)
   have Y6:=hid (Y4.out.onto hb6)
   have Z6:=hid (Z4.out.onto hb6)
   have RO6:Hid (RoomySet w1.heap.size w6 ta ma sb qa tc' mc' sc' qc' S ca cc):=hid (RO4.out.same (fun b _ hb=>hb6.block b hb))
   have RS6:Hid (∀ b,b < w2.heap.size->w6.heap[b]?=w2.heap[b]?):=fun b hb=>(hb6.block b (Nat.lt_of_lt_of_le hb hz24.out)).trans (RS4.out b hb)
   have hz46:Hid (w4.heap.size<=w6.heap.size):=hid hb6.size
   have Z4L:=hid Z4.out.lt
   have Y4L:=hid Y4.out.lt
   clear hb6 O6 G6 lcell hfar ROW5 HB45 hz45 AM4 HS4 HX4 Y4 Z4 HB4 RS4 HL4 x4
   have x4:=HX6.out.cell 4
   simp at x4
   have z0:=Z6.out.cell 0
   have z1:=Z6.out.cell 1
   have z2:=Z6.out.cell 2
   have z3:=Z6.out.cell 3
   have z4:=Z6.out.cell 4
   have z5:=Z6.out.cell 5
   simp at z0 z1 z2 z3 z4 z5
   have CRD:=hid (HCR.out ta ma sb qa tc' mc' sc' qc' S w6.drew (RO6.out.toIn.1.later (Below.refl _ _).drew) HF.out RO6.out.toIn.2 (some ⟨g,0,none⟩) lc6 l (LI.out.stays (Below.refl _ _).drew) (by omega))
   unfold RunOkD at CRD
   go_wp2_with fail
   go_region_held3 (fun w'=>w'.cell? ⟨w.heap.size,4,none⟩=some (.slice ov l.length oc)/\w'.cell? ⟨w2.heap.size,0,none⟩=some (.int .i64 S.workers)/\w'.cell? ⟨w2.heap.size,1,none⟩=some (.int .i64 S.start)/\w'.cell? ⟨w2.heap.size,2,none⟩=some (.slice ta S.threads.length tc')/\w'.cell? ⟨w2.heap.size,3,none⟩=some (.slice ma S.mutexes.length mc')/\w'.cell? ⟨w2.heap.size,4,none⟩=some (.slice sb S.sems.length sc')/\w'.cell? ⟨w2.heap.size,5,none⟩=some (.slice qa S.queues.length qc')) (first | exact ⟨x4,z0,z1,z2,z3,z4,z5⟩ | exact ⟨xx4,zz0,zz1,zz2,zz3,zz4,zz5⟩)
    (first
     | (go_at_call 16; refine CRD.out.mono ?_; rintro e w7 ⟨v7,C7,rfl,hr7,hl7,hd7,hb7'⟩; have hb7:Below w6.heap.size w6 w7:=(Below.refl w6.heap.size w6).drew.trans hb7'; have ZZ7:=Z6.out.onto hb7; have xx4:=(HX6.out.onto hb7).cell 4; have zz0:=ZZ7.cell 0; have zz1:=ZZ7.cell 1; have zz2:=ZZ7.cell 2; have zz3:=ZZ7.cell 3; have zz4:=ZZ7.cell 4; have zz5:=ZZ7.cell 5; simp at xx4 zz0 zz1 zz2 zz3 zz4 zz5; have HR7:Hid (w7.ownsRow w6.heap.size 75 7 v7 (R.runL S l).length C7):=hid hr7; have HL7:Hid (LRow w6.heap.size w7 (fun _=>False) C7 (R.runL S l)):=hid hl7; have HD7:=hid hd7; have HB7:=hid hb7; clear hr7 hl7 hd7 hb7 hb7' ZZ7))
   obtain ⟨a7,c7,hv7,_,ln7⟩:=LinesAt.of_row HR7.out HL7.out
   subst hv7
   have LN7:=hid ln7
   have AM7:=hid (AM6.out.below HC.out.f HB7.out)
   have HBB7:=hid (HB6.out.trans (HB7.out.mono HB6.out.size))
   have X7:=HX6.out.onto HB7.out
   have Y7:=Y6.out.onto HB7.out
   have Z7:=hid (Z6.out.onto HB7.out)
   have LI7:=hid ((LI.out.stays HB7.out).mono HB7.out.size)
   have FAR7:Hid (w7.cell? ⟨g,l.length,none⟩=some (.int .i64 (-1000))):=hid ((HB7.out.cell (p:=⟨g,l.length,none⟩) hgl).trans HFAR.out)
   have RS7:Hid (∀ b,b < w2.heap.size->w7.heap[b]?=w2.heap[b]?):=fun b hb=>(HB7.out.block b (Nat.lt_of_lt_of_le hb (Nat.le_trans hz24.out hz46.out))).trans (RS6.out b hb)
   have hz67:=HB7.out.size
   have BB7:Hid (Below B w w7):=hid (HBB7.out.mono hBw)
   have HSW7:=hid ((HSB.out.stays BB7.out).mono (Nat.le_trans hBw BB7.out.size))
   have HLW7:=hid ((HLB.out.stays BB7.out).mono (Nat.le_trans hBw BB7.out.size))
   have CM7:=hid (rRun_any tv mv sv qv tc mc sc qc S w7 HSW7.out HF.out HN.out ov oc l HLW7.out (by omega))
   unfold RunOk at CM7
   have hlen:=runL_len S l
   have HSM:=hid (runL_small S l)
   have hle:=runL_le S l
   have HX7:=hid X7
   have HY7:=hid Y7
   clear CRD HB7 AM6 HB6 HX6 Y6 Z6 RO6 RS6 LI HFAR ln7 X7 Y7 x4 z0 z1 z2 z3 z4 z5 xx4 zz0 zz1 zz2 zz3 zz4 zz5 HSW7 HLW7
   have x4:=HX7.out.cell 4
   simp at x4
   have y0:=HY7.out.cell 0
   have y1:=HY7.out.cell 1
   have y2:=HY7.out.cell 2
   have y3:=HY7.out.cell 3
   have y4:=HY7.out.cell 4
   have y5:=HY7.out.cell 5
   simp at y0 y1 y2 y3 y4 y5
   generalize R.runL S l=rl at *
   generalize R.runE S l=re at *
   go_wp2_with fail
   refine CM7.out.mono ?_
   rintro e w8 ⟨v8,C8,rfl,hr8,hl8,hb8⟩
   obtain ⟨a8,c8,rfl,_,ln8⟩:=LinesAt.of_row hr8 hl8
   have LN8:=hid ln8
   have LN78:=hid (LN7.out.on hb8)
   have HB78:=hid hb8
   clear CM7 hr8 hl8 hb8 ln8 LN7 y0 y1 y2 y3 y4 y5
   go_wp2_with fail
   refine (sameLines_eq w8 a7 a8 c7 c8 rl LN78.out LN8.out hlen HSM.out).mono ?_
   rintro e w9 ⟨rfl,hb9⟩
   have HB79:=hid (HB78.out.trans (hb9.mono HB78.out.size))
   have x9:=(HX7.out.onto HB79.out).cell 4
   simp at x9
   have BB9:Hid (Below B w w9):=hid (BB7.out.trans (HB79.out.mono (Nat.le_trans hBw BB7.out.size)))
   have LI9:=hid ((LI7.out.stays HB79.out).mono HB79.out.size)
   have HLW9:=hid ((HLB.out.stays BB9.out).mono (Nat.le_trans hBw BB9.out.size))
   have SI9:Hid (∀ n,Calls Tryz.prog 36 #[.slice (some ⟨g,0,none⟩) l.length lc6,.slice ov l.length oc] (w9.drewN n) fun e w'=>e=.returned (.bool true)/\∃ m,w'=(w9.drewN n).drewN m):=fun n=>sameInts_eq (w9.drewN n) (some ⟨g,0,none⟩) ov lc6 oc l (LI9.out.stays (bdrewN (Below.refl _ _) n)) (HLW9.out.stays (bdrewN (Below.refl _ _) n)) (by omega)
   have hgl7:g < w7.heap.size:=by omega
   have f9:w9.cell? ⟨g,l.length,none⟩=some (.int .i64 (-1000)):=(HB79.out.cell (p:=⟨g,l.length,none⟩) hgl7).trans FAR7.out
   have hlI:(l.length:Int) < (l.length + 1:Int):=by omega
   clear hb9 LN8 LN78 HB78 LI7 FAR7 LI9 HLW9 x4
   go_wp2_with fail
   go_quiet ((go_at_call 36; exact Calls.quiet_of (SI9.out _)))
   go_wp2_with fail
   have hb9q:Below w7.heap.size w7 (w9.drewN nq):=bdrewN HB79.out nq
   have q1:=HB1.out.size
   have q2:=hz24.out
   have q3:=hz46.out
   have q4:=hb9q.size
   have q5:=hsz1.out
   have q6:=Y4L.out
   have q7:=Z4L.out
   have TRC:=hid ((AM7.out.below HC.out.f hb9q).traced HC.out.f (N:=w6.heap.size) (by omega) (by omega) (by omega) (.slice a7 rl.length c7) C7 rl (ownsRow_same HR7.out fun g hg=>hb9q.block g (ownsRow_block HR7.out hg).2.1) (HL7.out.below hb9q) HD7.out (by omega) (by omega) hcL hlen)
   refine TRC.out.mono ?_
   rintro e w10 ⟨rfl,tag10,ins10,mss10,fv,vi10,vm10,v10,am10,hi10,hm10,hb10,hk10⟩
   have AMz:Hid (AMG PK B w1.heap.size w2.heap.size w10 wb _ ks ins10 mss10 (lns ++ [fv]) vk vi10 vm10 v10):=hid ⟨tag10,am10,fun b h1 h2=>(hk10 b (by omega) (by omega)).1⟩
   have keep:∀ b,w.heap.size<=b->b < w4.heap.size->w10.heap[b]?=w7.heap[b]?:=fun b h1 h2=>((hk10 b h1 (by omega)).2).trans (hb9q.block b (by omega))
   have Yz:Hid (Blk w10 n5 #[.int .i64 S.workers,.int .i64 S.start,.slice tv S.threads.length tc,.slice mv S.mutexes.length mc,.slice sv S.sems.length sc,.slice qv S.queues.length qc] 27):=by
    have h1:=HY7.out
    unfold Blk at h1
    refine hid (show Blk _ _ _ _ from ?_)
    unfold Blk
    rw [keep n5 hn5 q6]
    exact h1
   have Zz:Hid (Blk w10 w2.heap.size #[.int .i64 S.workers,.int .i64 S.start,.slice ta S.threads.length tc',.slice ma S.mutexes.length mc',.slice sb S.sems.length sc',.slice qa S.queues.length qc'] 27):=by
    have h1:=Z7.out
    unfold Blk at h1
    refine hid (show Blk _ _ _ _ from ?_)
    unfold Blk
    rw [keep w2.heap.size (by omega) q7]
    exact h1
   have RSz:Hid (∀ b,w1.heap.size<=b->b < w2.heap.size->w10.heap[b]?=w2.heap[b]?):=fun b h1 h2=>(keep b (by omega) (by omega)).trans (RS7.out b h2)
   have HBz:Hid (Below B w w10):=hid ((BB7.out.trans (hb9q.mono (Nat.le_trans hBw BB7.out.size))).trans hb10)
   have HSz:Hid (SetIn w10.heap.size w10 tv mv sv qv S):=hid ((HSB.out.stays HBz.out).mono (Nat.le_trans hBw HBz.out.size))
   have HZZ:Hid (w2.heap.size<=w10.heap.size):=by
    have:=hb10.size
    exact hid (by omega)
   have CNT:Hid ((∀ N:Int,16<=N->(∀ j (hj:j < ks.length),ks[j].s.next<=N)->∀ j (hj:j < ks.length),ks[j].s.next<=N + 33)/\ks.length<=ks.length + 1/\ins10.length<=ins.length + (1 + l.length)/\mss10.length<=mss.length + (1 + l.length)/\(lns ++ [fv]).length<=lns.length + 1):=hid ⟨fun N _ hN j hj=>by have:=hN j hj; omega,by omega,by omega,by omega,by simp⟩
   clear TRC hb9q q1 q2 q3 q4 q5 q6 q7 am10 hi10 hm10 hb10 hk10 keep x9 f9 x0
   have ROz:=hid (RO.out.same RSz.out)
   have y0:=Yz.out.cell 0
   have y1:=Yz.out.cell 1
   have y2:=Yz.out.cell 2
   have y3:=Yz.out.cell 3
   have y4:=Yz.out.cell 4
   have y5:=Yz.out.cell 5
   simp at y0 y1 y2 y3 y4 y5
   have z0:=Zz.out.cell 0
   have z1:=Zz.out.cell 1
   have z2:=Zz.out.cell 2
   have z3:=Zz.out.cell 3
   have z4:=Zz.out.cell 4
   have z5:=Zz.out.cell 5
   simp at z0 z1 z2 z3 z4 z5
   go_wp2_with fail
   refine (kept_any tv mv sv qv tc mc sc qc S w10 HSz.out HF.out ta ma sb qa tc' mc' sc' qc' ROz.out.toRead).mono ?_
   rintro e w6 ⟨rfl,hb6⟩
   have Z6:=Zz.out.onto hb6
   have AM6:=hid (AMz.out.below HC.out.f hb6)
   have hzz:w2.heap.size<=w10.heap.size:=HZZ.out
   have RS6:Hid (∀ b,w1.heap.size<=b->b < w2.heap.size->w6.heap[b]?=w2.heap[b]?):=fun b h1 h2=>(hb6.block b (Nat.lt_of_lt_of_le h2 hzz)).trans (RSz.out b h1 h2)
   have HB6:Hid (Below B w w6):=hid (HBz.out.trans (hb6.mono (Nat.le_trans hsz1.out (Nat.le_trans hz12 hzz))))
   clear y0 y1 y2 y3 y4 y5 z0 z1 z2 z3 z4 z5 hb6 AMz Yz Zz HSz RSz HBz ROz
   have z0:=Z6.cell 0
   have z1:=Z6.cell 1
   have z2:=Z6.cell 2
   have z3:=Z6.cell 3
   have z4:=Z6.cell 4
   have z5:=Z6.cell 5
   simp at z0 z1 z2 z3 z4 z5
   clear Z6
   go_wp2_with fail
   have f1:=HF.out.threads
   have f2:=HF.out.mutexes
   have f3:=HF.out.sems
   have f4:=HF.out.queues
   refine (spoil_any (fun b=>w1.heap.size<=b/\b < w2.heap.size) w1.heap.size w6 S.workers S.start ta ma sb qa tc' mc' sc' qc' S.threads.length S.mutexes.length S.sems.length S.queues.length ca (fun i=>(S.threads.getD i P3.none0).code.length) cc (by omega) (by omega) (by omega) (by omega) (fun i hi=>by
    have:=HF.out.codes i hi
    have e:S.threads.getD i P3.none0=S.threads[i]:=by simp [List.getD,hi]
    rw [e]
    omega) (RO.out.spoils w2.heap.size (Nat.le_refl _) RS6.out)).mono ?_
   rintro e w7 ⟨rfl,t7⟩
   have T7:=hid t7
   clear t7 z0 z1 z2 z3 z4 z5 f1 f2 f3 f4
   go_wp2
   go_ret
   exact AM6.out.done HC.out.f hsz1.out T7.out HB6.out CNT.out.1 CNT.out.2.1 CNT.out.2.2.1 CNT.out.2.2.2.1 CNT.out.2.2.2.2
end
end Go.Proofs.YtbkfildnijjioaaGreat

namespace Go.Proofs.YtbkfildnijjioaaGreat
open Go.RowKit
theorem Blk.onto' {w w':World} {b:Nat} {cs:Array Value} {e:TypeId} (h:Blk w b cs e) (hb:Below w.heap.size w w'):Blk w' b cs e:=by
 have hl:=h.lt
 unfold Blk at h ⊢
 rw [hb.block _ hl]
 exact h
theorem Tryz.neNilInts (w:World):Sem.run Tryz.prog (binOp .neq 25 (.slice none 0 0) (.slice none 0 0)) w=.ok (.bool false) w:=by kernel_rfl
theorem Tryz.neNilMisses (w:World):Sem.run Tryz.prog (binOp .neq 73 (.slice none 0 0) (.slice none 0 0)) w=.ok (.bool false) w:=by kernel_rfl
structure Marked (w:World) (vr:Value) (ls:List Value) (size:Nat) (mark:Nat->List Value):Prop where
 row:∀ i (hi:i < ls.length),∃ g c,vr=.slice (some ⟨g,0,none⟩) ls.length c/\g < w.heap.size/\w.cell? ⟨g,i,none⟩=some ls[i]
 ent:∀ i (hi:i < ls.length),∃ a n c,ls[i]=.slice a n c/\n<=9223372036854775807/\∀ j,j < n->∃ b,a=some ⟨b,0,none⟩/\b < w.heap.size/\∀ p,p < size->w.cell? ⟨b,j * size + p,none⟩=(mark i)[p]?
theorem Marked.on {w w':World} {vr:Value} {ls:List Value} {size:Nat} {mark:Nat->List Value} (h:Marked w vr ls size mark) (hb:Below w.heap.size w w'):Marked w' vr ls size mark:=by
 refine ⟨fun i hi=>?_,fun i hi=>?_⟩
 ·obtain ⟨g,c,e,hl,hc⟩:=h.row i hi
  exact ⟨g,c,e,Nat.lt_of_lt_of_le hl hb.size,(hb.cell (p:=⟨g,i,none⟩) hl).trans hc⟩
 ·obtain ⟨a,n,c,e,hn,hj⟩:=h.ent i hi
  refine ⟨a,n,c,e,hn,fun j hjn=>?_⟩
  obtain ⟨b,ea,hl,hc⟩:=hj j hjn
  exact ⟨b,ea,Nat.lt_of_lt_of_le hl hb.size,fun p hp=>(hb.cell (p:=⟨b,j * size + p,none⟩) hl).trans (hc p hp)⟩
theorem Marked.of {w:World} {B:Nat} {E L:TypeId} {vr:Value} {ls:List Value} {size:Nat} {mark:Nat->List Value} (hsz:∀ i,(mark i).length=size) (hr:w.ownsRow B L 1 vr ls.length ls) (hm:∀ i (hi:i < ls.length),∃ n,w.ownsRow B E size ls[i] n (reps (mark i) n)):Marked w vr ls size mark:=by
 refine ⟨fun i hi=>?_,fun i hi=>?_⟩
 ·rcases hr.2 with ⟨e,h0⟩ | ⟨g,cap,cur,rfl,_⟩
  ·omega
  ·refine ⟨g,cap,rfl,(ownsRow_block hr rfl).2.1,?_⟩
   rw [hr.cellAt i (by omega)]
   exact List.getElem?_eq_getElem hi
 ·obtain ⟨n,hn⟩:=hm i hi
  rcases hn.2 with ⟨e,h0⟩ | ⟨g,cap,cur,e,hb,hg,h4,h5,_⟩
  ·exact ⟨none,0,0,e,by omega,fun j hj=>absurd hj (Nat.not_lt_zero _)⟩
  ·refine ⟨some ⟨g,0,none⟩,n,cap,e,by unfold maxLen at h5; omega,fun j hj=>⟨g,rfl,(ownsRow_block hn (by rw [e]; rfl)).2.1,fun p hp=>?_⟩⟩
   have hn':=hn
   rw [e] at hn'
   have hlt:j * size + p < n * size:=by
    have:(j + 1) * size<=n * size:=Nat.mul_le_mul_right _ hj
    rw [Nat.succ_mul] at this
    omega
   rw [hn'.cellAt _ hlt]
   have:=reps_at (mark i) n j p hj (by rw [hsz]; exact hp)
   rw [hsz] at this
   exact this
section
variable {PK:KP} {B:Nat} {w:World} {tag:Tag} {wb:Nat} {sv:Value} {ks:List KI} {ins mss lns:List Value} {vk vi vm vl:Value}
set_option maxRecDepth 100000 in
set_option maxHeartbeats 4000000 in
theorem whole_any (h:AM PK B (fun _=>True) w tag wb sv ks ins mss lns vk vi vm vl) (hI:ins.length<=100000000) (hM:mss.length<=100000000) (hL:lns.length<=100000000) :
  Calls Tryz.prog 21 #[.pointer (some ⟨wb,0,none⟩)] w fun e w'=>e=.returned (.bool true)/\Below w.heap.size w w':=by
 have MI:Hid (Marked w vi ins 1 markI):=Marked.of (fun _=>rfl) (h.ri trivial) (fun i hi=>h.mi i hi trivial)
 have MM:Hid (Marked w vm mss 3 markM):=Marked.of (fun _=>rfl) (h.rm trivial) (fun i hi=>h.mm i hi trivial)
 have ML:Hid (Marked w vl lns 7 markL):=Marked.of (fun _=>rfl) (h.rl trivial) (fun i hi=>h.ml i hi trivial)
 obtain ⟨ia,ic,rfl,_,_⟩:=owns_cells (h.ri trivial)
 obtain ⟨ma,mc,rfl,_,_⟩:=owns_cells (h.rm trivial)
 obtain ⟨la,lc,rfl,_,_⟩:=owns_cells (h.rl trivial)
 have BK:=hid (h.blk trivial)
 clear h
 go_enter Tryz.func21,Tryz.ntmps21
 go_wp2
 go_loopw [3] (fun i wr=>∃ k:Nat,k<=ins.length/\i=.int .i64 k/\Below w.heap.size w wr) (fun i _=>ins.length - (intOf i).toNat)
 case atStart=>exact ⟨0,Nat.zero_le _,rfl,Below.refl _ _⟩
 case round =>
  obtain ⟨k,hk,rfl,hb⟩:=hrel
  have HB:=hid hb
  have bk:=BK.out.onto' hb
  have c2:=bk.cell 2
  simp at c2
  have mk:=MI.out.on hb
  clear bk hb
  by_cases hlt:k < ins.length
  ·have hkI:(k:Int) < (ins.length:Int):=by omega
   obtain ⟨g,c,e1,hgl,r1⟩:=mk.row k hlt
   simp only [Value.slice.injEq,true_and] at e1
   obtain ⟨a,n,c',e2,hn,hent⟩:=mk.ent k hlt
   rw [e2] at r1
   rw [e1.1] at c2
   clear mk hent
   go_wp2
   go_loopw [4] (fun i wr=>∃ j:Nat,j<=n/\i=.int .i64 j/\Below w.heap.size w wr) (fun i _=>n - (intOf i).toNat)
   case atStart=>exact ⟨0,Nat.zero_le _,rfl,HB.out⟩
   case round =>
    clear c2 r1
    obtain ⟨j,hj,rfl,hb2⟩:=hrel
    have HB2:=hid hb2
    have bk:=BK.out.onto' hb2
    have c2:=bk.cell 2
    simp at c2
    have mk:=MI.out.on hb2
    obtain ⟨g',c'',e1',hgl',r1⟩:=mk.row k hlt
    have eg:=e1.1
    simp only [Value.slice.injEq,true_and] at e1'
    rw [e1'.1] at eg c2
    obtain ⟨a',n',c3,e2',hn',hent⟩:=mk.ent k hlt
    rw [e2] at e2' r1
    simp only [Value.slice.injEq] at e2'
    obtain ⟨ea',en',_⟩:=e2'
    clear bk hb2 mk eg
    by_cases hjl:j < n
    ·have hjI:(j:Int) < (n:Int):=by omega
     obtain ⟨b,ea,hbl,hcell⟩:=hent j (by omega)
     rw [ea',ea] at r1
     have x0:=hcell 0 (by omega)
     simp [markI] at x0
     clear hent hcell
     go_wp2
     go_roundw
     case rel=>exact ⟨j + 1,by omega,by go_num,HB2.out⟩
     case measure=>simp [intOf]; omega
    ·have hjn:(n:Int)<=(j:Int):=by omega
     clear hent
     go_wp2
     go_roundw
     case rel=>exact ⟨k + 1,by omega,by go_num,HB2.out⟩
     case measure=>simp [intOf]; omega
  ·have hkn:(ins.length:Int)<=(k:Int):=by omega
   clear mk
   go_wp2
   go_loopw [5] (fun i wr=>∃ k:Nat,k<=mss.length/\i=.int .i64 k/\Below w.heap.size w wr) (fun i _=>mss.length - (intOf i).toNat)
   case atStart=>exact ⟨0,Nat.zero_le _,rfl,HB.out⟩
   case round =>
    obtain ⟨k,hk,rfl,hb⟩:=hrel
    have HB:=hid hb
    have bk:=BK.out.onto' hb
    have c2:=bk.cell 3
    simp at c2
    have mk:=MM.out.on hb
    clear bk hb
    by_cases hlt:k < mss.length
    ·have hkI:(k:Int) < (mss.length:Int):=by omega
     obtain ⟨g,c,e1,hgl,r1⟩:=mk.row k hlt
     simp only [Value.slice.injEq,true_and] at e1
     obtain ⟨a,n,c',e2,hn,hent⟩:=mk.ent k hlt
     rw [e2] at r1
     rw [e1.1] at c2
     clear mk hent
     go_wp2
     go_loopw [6] (fun i wr=>∃ j:Nat,j<=n/\i=.int .i64 j/\Below w.heap.size w wr) (fun i _=>n - (intOf i).toNat)
     case atStart=>exact ⟨0,Nat.zero_le _,rfl,HB.out⟩
     case round =>
      clear c2 r1
      obtain ⟨j,hj,rfl,hb2⟩:=hrel
      have HB2:=hid hb2
      have bk:=BK.out.onto' hb2
      have c2:=bk.cell 3
      simp at c2
      have mk:=MM.out.on hb2
      obtain ⟨g',c'',e1',hgl',r1⟩:=mk.row k hlt
      have eg:=e1.1
      simp only [Value.slice.injEq,true_and] at e1'
      rw [e1'.1] at eg c2
      obtain ⟨a',n',c3,e2',hn',hent⟩:=mk.ent k hlt
      rw [e2] at e2' r1
      simp only [Value.slice.injEq] at e2'
      obtain ⟨ea',en',_⟩:=e2'
      clear bk hb2 mk eg
      by_cases hjl:j < n
      ·have hjI:(j:Int) < (n:Int):=by omega
       obtain ⟨b,ea,hbl,hcell⟩:=hent j (by omega)
       rw [ea',ea] at r1
       have x0:=hcell 0 (by omega)
       have x1:=hcell 1 (by omega)
       have x2:=hcell 2 (by omega)
       simp [markM] at x0 x1 x2
       clear hent hcell
       have XX:=Blk.new wr #[.int .i64 (-1000 - (k:Int)),.int .i64 0,.int .i64 0] 95
       have HBA:Hid (Below w.heap.size w (wr.alloc (.cells #[.int .i64 (-1000 - (k:Int)),.int .i64 0,.int .i64 0] 95))):=HB2.out.alloc HB2.out.size _
       go_upto_region 16 with fail
       generalize wr.alloc (.cells #[.int .i64 (-1000 - (k:Int)),.int .i64 0,.int .i64 0] 95)=wz at *
       have q0:=XX.cell 0
       have q1:=XX.cell 1
       have q2:=XX.cell 2
       simp at q0 q1 q2
       have hql:=XX.lt
       clear XX c2 r1 x0 x1 x2
       go_wp2
       go_roundw
       case rel=>exact ⟨j + 1,by omega,by go_num,HBA.out⟩
       case measure=>simp [intOf]; omega
      ·have hjn:(n:Int)<=(j:Int):=by omega
       clear hent
       go_wp2
       go_roundw
       case rel=>exact ⟨k + 1,by omega,by go_num,HB2.out⟩
       case measure=>simp [intOf]; omega
    ·have hkn:(mss.length:Int)<=(k:Int):=by omega
     clear mk
     go_wp2
     go_loopw [8] (fun i wr=>∃ k:Nat,k<=lns.length/\i=.int .i64 k/\Below w.heap.size w wr) (fun i _=>lns.length - (intOf i).toNat)
     case atStart=>exact ⟨0,Nat.zero_le _,rfl,HB.out⟩
     case round =>
      obtain ⟨k,hk,rfl,hb⟩:=hrel
      have HB:=hid hb
      have bk:=BK.out.onto' hb
      have c2:=bk.cell 4
      simp at c2
      have mk:=ML.out.on hb
      clear bk hb
      by_cases hlt:k < lns.length
      ·have hkI:(k:Int) < (lns.length:Int):=by omega
       obtain ⟨g,c,e1,hgl,r1⟩:=mk.row k hlt
       simp only [Value.slice.injEq,true_and] at e1
       obtain ⟨a,n,c',e2,hn,hent⟩:=mk.ent k hlt
       rw [e2] at r1
       rw [e1.1] at c2
       clear mk hent
       go_wp2
       go_loopw [9] (fun i wr=>∃ j:Nat,j<=n/\i=.int .i64 j/\Below w.heap.size w wr) (fun i _=>n - (intOf i).toNat)
       case atStart=>exact ⟨0,Nat.zero_le _,rfl,HB.out⟩
       case round =>
        clear c2 r1
        obtain ⟨j,hj,rfl,hb2⟩:=hrel
        have HB2:=hid hb2
        have bk:=BK.out.onto' hb2
        have c2:=bk.cell 4
        simp at c2
        have mk:=ML.out.on hb2
        obtain ⟨g',c'',e1',hgl',r1⟩:=mk.row k hlt
        have eg:=e1.1
        simp only [Value.slice.injEq,true_and] at e1'
        rw [e1'.1] at eg c2
        obtain ⟨a',n',c3,e2',hn',hent⟩:=mk.ent k hlt
        rw [e2] at e2' r1
        simp only [Value.slice.injEq] at e2'
        obtain ⟨ea',en',_⟩:=e2'
        clear bk hb2 mk eg
        by_cases hjl:j < n
        ·have hjI:(j:Int) < (n:Int):=by omega
         obtain ⟨b,ea,hbl,hcell⟩:=hent j (by omega)
         rw [ea',ea] at r1
         have x0:=hcell 0 (by omega)
         have x1:=hcell 1 (by omega)
         have x2:=hcell 2 (by omega)
         have x3:=hcell 3 (by omega)
         have x4:=hcell 4 (by omega)
         have x5:=hcell 5 (by omega)
         have x6:=hcell 6 (by omega)
         simp [markL] at x0 x1 x2 x3 x4 x5 x6
         clear hent hcell
         have XX:=Blk.new wr #[.int .i64 0,.int .i64 0,.int .i64 0,.int .i64 0,.int .i64 (-1000 - (k:Int)),.slice none 0 0,.slice none 0 0] 75
         have HBA:Hid (Below w.heap.size w (wr.alloc (.cells #[.int .i64 0,.int .i64 0,.int .i64 0,.int .i64 0,.int .i64 (-1000 - (k:Int)),.slice none 0 0,.slice none 0 0] 75))):=HB2.out.alloc HB2.out.size _
         go_upto_region 25 with fail
         generalize wr.alloc (.cells #[.int .i64 0,.int .i64 0,.int .i64 0,.int .i64 0,.int .i64 (-1000 - (k:Int)),.slice none 0 0,.slice none 0 0] 75)=wz at *
         have q0:=XX.cell 0
         have q1:=XX.cell 1
         have q2:=XX.cell 2
         have q3:=XX.cell 3
         have q4:=XX.cell 4
         have q5:=XX.cell 5
         have q6:=XX.cell 6
         simp at q0 q1 q2 q3 q4 q5 q6
         have hql:=XX.lt
         have n1:=Tryz.neNilInts wz
         have n2:=Tryz.neNilMisses wz
         clear XX c2 r1 x0 x1 x2 x3 x4 x5 x6
         go_wp2
         go_roundw
         case rel=>exact ⟨j + 1,by omega,by go_num,HBA.out⟩
         case measure=>simp [intOf]; omega
        ·have hjn:(n:Int)<=(j:Int):=by omega
         clear hent
         go_wp2
         go_roundw
         case rel=>exact ⟨k + 1,by omega,by go_num,HB2.out⟩
         case measure=>simp [intOf]; omega
      ·have hkn:(lns.length:Int)<=(k:Int):=by omega
       clear mk
       go_wp2
       go_ret
       exact ⟨rfl,HB.out⟩
end
end Go.Proofs.YtbkfildnijjioaaGreat

namespace Go.Proofs.YtbkfildnijjioaaGreat
open Go.RowKit
structure OpD where
 kd:Int
 k:Int
 a:Int
 b:Int
 l:List Int
def i64r (x:Int):Prop:=-9223372036854775808<=x/\x<=9223372036854775807
def OpsIn (B:Nat) (w:World) (oa:Option Addr) (ops:List OpD):Prop :=
 ∀ i (h:i < ops.length),∃ b o ov oc,oa=some ⟨b,o,none⟩/\b < B/\w.cell? ⟨b,o + i * 5,none⟩=some (.int .i64 ops[i].kd)/\w.cell? ⟨b,o + i * 5 + 1,none⟩=some (.int .i64 ops[i].k)/\w.cell? ⟨b,o + i * 5 + 2,none⟩=some (.int .i64 ops[i].a)/\w.cell? ⟨b,o + i * 5 + 3,none⟩=some (.int .i64 ops[i].b)/\w.cell? ⟨b,o + i * 5 + 4,none⟩=some (.slice ov ops[i].l.length oc) /\
  IntsIn B w ov ops[i].l/\(ov=none->oc=0)/\i64r ops[i].k/\i64r ops[i].a
def made (ops:List OpD) (k:Nat):Nat:=((ops.take k).map fun o=>1 + o.l.length).sum
theorem made_succ (ops:List OpD) (k:Nat) (hk:k < ops.length):made ops (k + 1)=made ops k + (1 + ops[k].l.length):=by
 unfold made
 rw [List.take_succ_eq_append_getElem hk,List.map_append,List.sum_append]
 simp
theorem made_le (ops:List OpD) (k:Nat):made ops k<=made ops ops.length:=by
 induction ops generalizing k with
 | nil=>simp [made]
 | cons x r ih =>
  cases k with
  | zero=>simp [made]
  | succ k =>
   have:=ih k
   unfold made at this ⊢
   simp at this ⊢
   omega
theorem made_ge (ops:List OpD) (k:Nat) (hk:k<=ops.length):k<=made ops k:=by
 induction k with
 | zero=>omega
 | succ k ih =>
  rw [made_succ ops k (by omega)]
  have:=ih (by omega)
  omega
section
variable {PK:KP}
def AllSt (PK:KP) (w0:World) (sv:Value) (ops:List OpD) (k:Nat) (wr:World):Prop :=
 ∃ tag ks ins mss lns vk vi vm vl,AM PK w0.heap.size (fun _=>True) wr tag w0.heap.size sv ks ins mss lns vk vi vm vl/\(∀ j (hj:j < ks.length),ks[j].s.next<=16 + 33 * (k:Int))/\ks.length<=k/\ins.length<=made ops k/\mss.length<=made ops k/\lns.length<=k/\Below w0.heap.size w0 wr
theorem AllSt.start (w0:World) (sv:Value) (ops:List OpD):AllSt PK w0 sv ops 0 (w0.alloc (.cells #[sv,.slice none 0 0,.slice none 0 0,.slice none 0 0,.slice none 0 0] 46)):=by
 refine ⟨fun b=>if b=w0.heap.size then (1,0) else (0,0),[],[],[],[],.slice none 0 0,.slice none 0 0,.slice none 0 0,.slice none 0 0,?_,fun j hj=>by simp at hj,by simp,by simp,by simp,by simp,(Below.refl _ _).alloc (Nat.le_refl _) _⟩
 exact ⟨fun _=>Blk.new _ _ _,by simp,Nat.le_refl _,fun _=>World.ownsRow_nil _ _ _ _,fun g hg=>(by cases hg),fun _=>World.ownsRow_nil _ _ _ _,fun g hg=>(by cases hg),fun _=>World.ownsRow_nil _ _ _ _,fun g hg=>(by cases hg),fun _=>World.ownsRow_nil _ _ _ _,fun g hg=>(by cases hg),fun i hi=>(by simp at hi),fun i hi=>(by simp at hi),fun i hi=>(by simp at hi),fun i hi=>(by simp at hi),fun i hi=>(by simp at hi),fun i hi=>(by simp at hi),fun i hi=>(by simp at hi),fun i hi=>(by simp at hi)⟩
theorem AllSt.below (f:KFrame PK) {w0:World} {sv:Value} {ops:List OpD} {k:Nat} {wr wx:World} (h:AllSt PK w0 sv ops k wr) (hb:Below wr.heap.size wr wx):AllSt PK w0 sv ops k wx:=by
 obtain ⟨tag,ks,ins,mss,lns,vk,vi,vm,vl,am,h1,h2,h3,h4,h5,hb0⟩:=h
 exact ⟨_,ks,ins,mss,lns,vk,vi,vm,vl,am.below f hb,h1,h2,h3,h4,h5,hb0.trans (hb.mono hb0.size)⟩
theorem AllSt.whole {w0:World} {sv:Value} {ops:List OpD} (hops:made ops ops.length<=2000000) {k:Nat} (hk:k<=ops.length) {wr:World} (h:AllSt PK w0 sv ops k wr):Calls Tryz.prog 21 #[.pointer (some ⟨w0.heap.size,0,none⟩)] wr fun e w'=>e=.returned (.bool true)/\Below wr.heap.size wr w':=by
 obtain ⟨tag,ks,ins,mss,lns,vk,vi,vm,vl,am,h1,h2,h3,h4,h5,hb0⟩:=h
 have g1:=made_le ops k
 have g2:=made_ge ops k hk
 exact whole_any am (by omega) (by omega) (by omega)
theorem allStep_any (C:CAll PK) (cn:CNew PK (fun _=>True)) (cr:CRun) (w0:World) (sa:Option Addr) (scap:Nat) (Ss:List SetD) (hSs:SetsIn w0.heap.size w0 sa Ss) (hFs:∀ S,S ∈ Ss->Fits S) (hn:Ss.length<=100000000) (ops:List OpD) (hops:made ops ops.length<=2000000) (k:Nat) (hk:k < ops.length) (wo:World) (h:AllSt PK w0 (.slice sa Ss.length scap) ops k wo) (ov:Option Addr) (oc:Nat) (hl:IntsIn w0.heap.size w0 ov ops[k].l) (hov:ov=none->oc=0) (hr1:i64r ops[k].k) (hr2:i64r ops[k].a) :
  Calls Tryz.prog (if ops[k].kd=1\/ops[k].kd=12\/ops[k].kd=13 then 19 else 20) #[.pointer (some ⟨w0.heap.size,0,none⟩),.agg #[.int .i64 ops[k].kd,.int .i64 ops[k].k,.int .i64 ops[k].a,.int .i64 ops[k].b,.slice ov ops[k].l.length oc]] wo fun e w'=>e=.returned (.bool true)/\AllSt PK w0 (.slice sa Ss.length scap) ops (k + 1) w':=by
 obtain ⟨tag,ks,ins,mss,lns,vk,vi,vm,vl,am,h1,h2,h3,h4,h5,hb⟩:=h
 have g1:=made_le ops k
 have g2:=made_le ops (k + 1)
 have g3:=made_ge ops k (by omega)
 have g4:=made_succ ops k hk
 have hz:=hb.size
 have fin:∀ d,d<=1 + ops[k].l.length->∀ e w',Steps PK w0.heap.size wo w0.heap.size (.slice sa Ss.length scap) ks ins mss lns d e w'->e=.returned (.bool true)/\AllSt PK w0 (.slice sa Ss.length scap) ops (k + 1) w':=by
  rintro d hd e w' ⟨he,tag',ks',ins',mss',lns',vk',vi',vm',vl',am',n1,n2,n3,n4,n5,hb'⟩
  refine ⟨he,tag',ks',ins',mss',lns',vk',vi',vm',vl',am',fun j hj=>?_,by omega,by omega,by omega,by omega,hb.trans hb'⟩
  have:=n1 (16 + 33 * (k:Int)) (by omega) h1 j hj
  omega
 by_cases hkd:ops[k].kd=1\/ops[k].kd=12\/ops[k].kd=13
 ·rw [if_pos hkd]
  have hS':=hSs.stays hb
  have hl':=hl.stays hb
  rcases hkd with e | e | e
  ·rw [e]
   exact (makesN_any C cn cr sa scap Ss am hz hS' hFs hn ops[k].k ops[k].a ops[k].b ov oc ops[k].l hl' hov (by omega) (by omega) (by omega) (by omega) (by omega) hr2.1 hr2.2).mono (fin _ (Nat.le_refl _))
  ·rw [e]
   exact (makesC_any C cn cr sa scap Ss am hz hS' hFs hn ops[k].k ops[k].a ops[k].b ov oc ops[k].l hl' hov (by omega) (by omega) (by omega) (by omega) (by omega) hr2.1 hr2.2).mono (fin _ (Nat.le_refl _))
  ·rw [e]
   exact (makesR_any C cn cr sa scap Ss am hz hS' hFs hn ops[k].k ops[k].a ops[k].b ov oc ops[k].l hl' hov (by omega) (by omega) (by omega) (by omega) (by omega) hr2.1 hr2.2).mono (fin _ (Nat.le_refl _))
 ·rw [if_neg hkd]
  exact (calls_any C am hz (by omega) (fun j hj=>by have:=h1 j hj; omega) (by omega) (by omega) ops[k].kd ops[k].k ops[k].a ops[k].b _ hr1.1 hr1.2).mono (fin 1 (by omega))
set_option maxRecDepth 100000 in
set_option maxHeartbeats 4000000 in
theorem all_any (C:CAll PK) (cn:CNew PK (fun _=>True)) (cr:CRun) (w:World) (sa:Option Addr) (scap:Nat) (Ss:List SetD) (hSs:SetsIn w.heap.size w sa Ss) (hFs:∀ S,S ∈ Ss->Fits S) (hn:Ss.length<=100000000) (oa:Option Addr) (ocap:Nat) (ops:List OpD) (hos:OpsIn w.heap.size w oa ops) (hops:made ops ops.length<=2000000) :
  Calls Tryz.prog 12 #[.slice sa Ss.length scap,.slice oa ops.length ocap] w fun e w'=>e=.returned (.bool true)/\Below w.heap.size w w':=by
 have STEP:=hid (fun k hk wo h ov oc hl hov hr1 hr2=>allStep_any C cn cr w sa scap Ss hSs hFs hn ops hops k hk wo h ov oc hl hov hr1 hr2)
 have START:=hid (AllSt.start (PK:=PK) w (.slice sa Ss.length scap) ops)
 have hlen:=made_ge ops ops.length (Nat.le_refl _)
 have HC:=hid C
 have HOS:=hid hos
 have hlI:(ops.length:Int)<=1099511627776:=by omega
 clear hos hSs hFs cn cr C
 go_enter Tryz.func12,Tryz.ntmps12
 go_upto_region 4 with fail
 generalize w.alloc (.cells #[.slice sa Ss.length scap,.slice none 0 0,.slice none 0 0,.slice none 0 0,.slice none 0 0] 46)=w0 at *
 go_wp2
 go_loopw [6] (fun i wr=>∃ k:Nat,k<=ops.length/\i=.int .i64 k/\AllSt PK w (.slice sa Ss.length scap) ops k wr) (fun i _=>ops.length - (intOf i).toNat)
 case atStart=>exact ⟨0,Nat.zero_le _,rfl,START.out⟩
 case round =>
  obtain ⟨k,hk,rfl,hst⟩:=hrel
  have HST:=hid hst
  clear hst START
  by_cases hlt:k < ops.length
  ·have hkI:(k:Int) < (ops.length:Int):=by omega
   obtain ⟨g,o,ov,oc,rfl,hgl,o0,o1,o2,o3,o4,hl,hov,hr1,hr2⟩:=HOS.out k hlt
   obtain ⟨tag,ks,ins,mss,lns,vk,vi,vm,vl,am,h1,h2,h3,h4,h5,hb⟩:=HST.out
   have hz:=hb.size
   replace o0:=(hb.cell (p:=⟨g,_,none⟩) hgl).trans o0
   replace o1:=(hb.cell (p:=⟨g,_,none⟩) hgl).trans o1
   replace o2:=(hb.cell (p:=⟨g,_,none⟩) hgl).trans o2
   replace o3:=(hb.cell (p:=⟨g,_,none⟩) hgl).trans o3
   replace o4:=(hb.cell (p:=⟨g,_,none⟩) hgl).trans o4
   have hbO:Below wr.heap.size wr (wr.alloc (.cells #[.int .i64 ops[k].kd,.int .i64 ops[k].k,.int .i64 ops[k].a,.int .i64 ops[k].b,.slice ov ops[k].l.length oc] 48)):=(Below.refl _ _).alloc (Nat.le_refl _) _
   have XO:=Blk.new wr #[.int .i64 ops[k].kd,.int .i64 ops[k].k,.int .i64 ops[k].a,.int .i64 ops[k].b,.slice ov ops[k].l.length oc] 48
   have STO:Hid (AllSt PK w (.slice sa Ss.length scap) ops k (wr.alloc (.cells #[.int .i64 ops[k].kd,.int .i64 ops[k].k,.int .i64 ops[k].a,.int .i64 ops[k].b,.slice ov ops[k].l.length oc] 48))):=hid ⟨_,ks,ins,mss,lns,vk,vi,vm,vl,am.below HC.out.f hbO,h1,h2,h3,h4,h5,hb.trans (hbO.mono hz)⟩
   have CALL:=hid (fun wo hso=>STEP.out k hlt wo hso ov oc hl hov hr1 hr2)
   have hgn:g ≠ wr.heap.size:=by omega
   clear am h1 h2 h3 h4 h5 hb hz hbO HST hl hov hr1 hr2
   go_upto_region 8 with fail
   generalize wr.alloc (.cells #[.int .i64 ops[k].kd,.int .i64 ops[k].k,.int .i64 ops[k].a,.int .i64 ops[k].b,.slice ov ops[k].l.length oc] 48)=wo at *
   have x0:=XO.cell 0
   have x1:=XO.cell 1
   have x2:=XO.cell 2
   have x3:=XO.cell 3
   have x4:=XO.cell 4
   simp at x0 x1 x2 x3 x4
   have CO:=hid (CALL.out wo STO.out)
   clear CALL XO STO o0 o1 o2 o3 o4
   generalize ops[k].kd=kd at *
   generalize ops[k].k=k' at *
   generalize ops[k].a=a at *
   generalize ops[k].b=b at *
   generalize ops[k].l.length=ll at *
   by_cases hkd:kd=1\/kd=12\/kd=13
   ·rw [if_pos hkd] at CO
    rcases hkd with rfl | rfl | rfl
    all_goals
     go_wp2_with fail
     refine CO.out.mono ?_
     rintro e w2 ⟨rfl,st2⟩
     have ST2:=hid st2
     clear st2 CO x0 x1 x2 x3 x4
     go_wp2_with fail
     refine (ST2.out.whole hops (by omega)).mono ?_
     rintro e w3 ⟨rfl,hb3⟩
     have ST3:=hid (ST2.out.below HC.out.f hb3)
     clear hb3 ST2
     go_wp2
     go_roundw
     case rel=>exact ⟨k + 1,by omega,by go_num,ST3.out⟩
     case measure=>simp [intOf]; omega
   ·rw [if_neg hkd] at CO
    have b1:(kd == 1)=false:=by simp; omega
    have b2:(kd == 12)=false:=by simp; omega
    have b3:(kd == 13)=false:=by simp; omega
    go_wp2_with fail
    refine CO.out.mono ?_
    rintro e w2 ⟨rfl,st2⟩
    have ST2:=hid st2
    clear st2 CO x0 x1 x2 x3 x4
    go_wp2_with fail
    refine (ST2.out.whole hops (by omega)).mono ?_
    rintro e w3 ⟨rfl,hb3⟩
    have ST3:=hid (ST2.out.below HC.out.f hb3)
    clear hb3 ST2
    go_wp2
    go_roundw
    case rel=>exact ⟨k + 1,by omega,by go_num,ST3.out⟩
    case measure=>simp [intOf]; omega
  ·have hkn:(ops.length:Int)<=(k:Int):=by omega
   obtain ⟨tag,ks,ins,mss,lns,vk,vi,vm,vl,am,h1,h2,h3,h4,h5,hb⟩:=HST.out
   have HB:=hid hb
   clear am h1 h2 h3 h4 h5 hb HST
   go_wp2
   go_ret
   exact ⟨rfl,HB.out⟩
end
end Go.Proofs.YtbkfildnijjioaaGreat
