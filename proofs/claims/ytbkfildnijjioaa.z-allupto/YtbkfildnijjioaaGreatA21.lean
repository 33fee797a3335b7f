import Derived.Test.YtbkfildnijjioaaGreatA07
import Derived.Test.YtbkfildnijjioaaGreatA01
import Derived.Deep.DeepCutAuto
namespace Go.Proofs.YtbkfildnijjioaaGreat
open Go.RowKit
structure OwnSet (B:Nat) (w:World) (vt vm vs vq:Value) (S:SetD) (cs:Nat->Value):Prop where
 t:w.ownsRow B 59 5 vt S.threads.length (thCells S.threads cs S.threads.length)
 c:∀ i (h:i < S.threads.length),w.ownsRow B 61 3 (cs i) S.threads[i].code.length (instrCells S.threads[i].code)
 d:∀ i j g,i < S.threads.length->j < S.threads.length->i ≠ j->(cs i).ownBlock=some g->(cs j).ownBlock ≠ some g
 m:w.ownsRow B 125 2 vm S.mutexes.length (pairCells S.mutexes)
 s:w.ownsRow B 116 2 vs S.sems.length (pairCells S.sems)
 q:w.ownsRow B 3 1 vq S.queues.length (intCells S.queues)
theorem own_keep {w w':World} {lo:Nat} {e:TypeId} {size n:Nat} {v:Value} {xs:List Value} (h:w.ownsRow lo e size v n xs) (hs:∀ g,lo<=g->g < w.heap.size->w'.heap[g]?=w.heap[g]?):w'.ownsRow lo e size v n xs :=
 ownsRow_same h fun g hg=>hs g (ownsRow_block h hg).1 (ownsRow_block h hg).2.1
theorem ThRows.step' {B:Nat} {w0 w1:World} {vt vt' vc:Value} {l:List ThreadD} {k:Nat} {cs:Nat->Value} (h:ThRows B w0 vt l k cs) (hk:k < l.length) (hc:w0.ownsRow B 61 3 vc l[k].code.length (instrCells l[k].code))
  (hg:w0.grownBy w1 vt.ownBlock)
  (hv:w1.ownsRow B 59 5 vt' (k + 1) (thCells l cs k ++ [.int .i64 l[k].base,.int .i64 l[k].offset,.int .i64 l[k].period,.int .i64 l[k].deadline,vc])):ThRows B w1 vt' l (k + 1) (fun i=>if i=k then vc else cs i):=by
 obtain ⟨h1,h2⟩:=h
 have hd:l.getD k P3.none0=l[k]:=by simp [List.getD,hk]
 have keep:∀ {v:Value} {n:Nat} {xs:List Value},w0.ownsRow B 61 3 v n xs->w1.ownsRow B 61 3 v n xs:=by
  intro v n xs ho
  refine ownsRow_same ho fun g hgv=>?_
  obtain ⟨_,hlt,cur,hcur⟩:=ownsRow_block ho hgv
  refine hg.block g hlt fun e=>?_
  obtain ⟨_,_,cur',hcur'⟩:=ownsRow_block h1 e.symm
  rw [hcur] at hcur'
  cases hcur'
 refine ⟨?_,fun i hi hik=>?_⟩
 ·rw [thCells_succ,thCells_congr l (fun i=>if i=k then vc else cs i) cs k (fun i hi=>by simp; omega),hd]
  simpa using hv
 ·by_cases e:i=k
  ·subst e
   simpa using keep hc
  ·simp only [if_neg e]
   exact keep (h2 i hi (by omega))
def CsDist (cs:Nat->Value) (k:Nat):Prop:=∀ i j g,i < k->j < k->i ≠ j->(cs i).ownBlock=some g->(cs j).ownBlock ≠ some g
theorem CsDist.step {cs:Nat->Value} {k:Nat} {vc:Value} (h:CsDist cs k) (hn:∀ i g,i < k->(cs i).ownBlock=some g->vc.ownBlock ≠ some g):CsDist (fun i=>if i=k then vc else cs i) (k + 1):=by
 intro i j g hi hj hne hg
 dsimp only at hg ⊢
 by_cases e1:i=k
 ·rw [if_pos e1] at hg
  rw [if_neg (by omega)]
  exact fun e=>hn j g (by omega) e hg
 ·rw [if_neg e1] at hg
  by_cases e2:j=k
  ·rw [if_pos e2]
   exact hn i g (by omega) hg
  ·rw [if_neg e2]
   exact h i j g (by omega) (by omega) hne hg
set_option maxHeartbeats 1000000 in
theorem copyOwn_any (tv mv sv qv:Option Addr) (tc mc sc qc:Nat) (S:SetD) (w:World) (hS:SetIn w.heap.size w tv mv sv qv S) (hF:Fits S) (hnil:(tv=none->tc=0)/\(mv=none->mc=0)/\(sv=none->sc=0)/\(qv=none->qc=0)) :
  Calls Tryz.prog 15 #[.agg #[.int .i64 S.workers,.int .i64 S.start,.slice tv S.threads.length tc,.slice mv S.mutexes.length mc,.slice sv S.sems.length sc,.slice qv S.queues.length qc]] w fun e w' =>
   ∃ vt vm vs vq cs,e=.returned (.agg #[.int .i64 S.workers,.int .i64 S.start,vt,vm,vs,vq])/\OwnSet w.heap.size w' vt vm vs vq S cs/\Below w.heap.size w w':=by
 have HS:Hid (SetIn w.heap.size w tv mv sv qv S):=hS
 obtain ⟨ht0,hm0,hs0,hq0⟩:=hnil
 have HN1:Hid (tv=none->tc=0):=ht0
 have HN2:Hid (mv=none->mc=0):=hm0
 have HN3:Hid (sv=none->sc=0):=hs0
 have HN4:Hid (qv=none->qc=0):=hq0
 have HF:Hid (Fits S):=hF
 clear hS ht0 hm0 hs0 hq0 hF
 obtain ⟨i1,hi1,hz10,hz11,hz12⟩:=info_parts Tryz.infoMutex
 obtain ⟨i2,hi2,hz20,hz21,hz22⟩:=info_parts Tryz.infoSem
 obtain ⟨i3,hi3,hz30,hz31,hz32⟩:=info_parts Tryz.infoInt
 have HI1:Hid (Tryz.prog.info? 125=some i1/\i1.zero=some (.agg #[.int .i64 0,.int .i64 0])/\i1.size=2/\i1.bytes=16):=⟨hi1,hz10,hz11,hz12⟩
 have HI2:Hid (Tryz.prog.info? 116=some i2/\i2.zero=some (.agg #[.int .i64 0,.int .i64 0])/\i2.size=2/\i2.bytes=16):=⟨hi2,hz20,hz21,hz22⟩
 have HI3:Hid (Tryz.prog.info? 3=some i3/\i3.zero=some (.int .i64 0)/\i3.size=1/\i3.bytes=8):=⟨hi3,hz30,hz31,hz32⟩
 clear hi1 hz10 hz11 hz12 hi2 hz20 hz21 hz22 hi3 hz30 hz31 hz32
 go_enter Tryz.func15,Tryz.ntmps15
 go_upto_region 2 with fail
 have hM0:=CM.start w S (.slice tv S.threads.length tc) (.slice mv S.mutexes.length mc) (.slice sv S.sems.length sc) (.slice qv S.queues.length qc)
 generalize ((w.alloc (.cells #[.int .i64 S.workers,.int .i64 S.start,.slice tv S.threads.length tc,.slice mv S.mutexes.length mc,.slice sv S.sems.length sc,.slice qv S.queues.length qc] 27)).alloc (.cells #[.int .i64 0,.int .i64 0,.slice none 0 0,.slice none 0 0,.slice none 0 0,.slice none 0 0] 27)).alloc (.cells #[.int .i64 S.workers,.int .i64 S.start,.slice none 0 0,.slice none 0 0,.slice none 0 0,.slice none 0 0] 27)=w0 at hM0 ⊢
 have M0:Hid (CM w S (.slice tv S.threads.length tc) (.slice mv S.mutexes.length mc) (.slice sv S.sems.length sc) (.slice qv S.queues.length qc) w0 (.slice none 0 0) (.slice none 0 0) (.slice none 0 0) (.slice none 0 0)):=hM0
 clear hM0
 have x3:=M0.out.x.cell 3
 have c3:=M0.out.c.cell 3
 simp at x3 c3
 go_upto_region 3 with (at_builtin; refine wpList_append_src rfl (.tmp 13) (.tmp 15) 23 rfl (w.heap.size + 3) 125 i1 (.agg #[.int .i64 0,.int .i64 0]) 2 16 Tryz.underlying23 HI1.out.1 HI1.out.2.1 HI1.out.2.2.1 HI1.out.2.2.2 rfl (by decide) (.slice none 0 0) 0 [] rfl (World.ownsRow_nil _ _ _ _) mv S.mutexes.length mc (pairCells S.mutexes) rfl (pairCells_length _) HN2.out (HS.out.stays M0.out.below).mutexes.src (pairCells_one _) (by have:=HF.out.mutexes; unfold maxLen; omega) (by have:=HF.out.mutexes; omega) M0.out.size ?_; intro v1 w1 hown1 hg1; simp only [Nat.zero_add,List.nil_append] at hown1; obtain ⟨mv',mc',rfl,hnm,hpm,ham⟩:=PairsIn.of_owns hown1; have M1:Hid (CM w S (.slice tv S.threads.length tc) (.slice mv S.mutexes.length mc) (.slice sv S.sems.length sc) (.slice qv S.queues.length qc) w1 (.slice none 0 0) (.slice none 0 0) (.slice none 0 0) (.slice none 0 0)):=M0.out.grown hg1 (by simp [Value.ownBlock]); have NM:=hid hnm; clear hnm; have z1:=M1.out.c.frozen 3; have y1:=M1.out.c.cell 3; simp at y1; have HP1:Hid (w1.ownsRow (w.heap.size + 3) 125 2 (.slice mv' S.mutexes.length mc') S.mutexes.length (pairCells S.mutexes)):=hown1; have G1:Hid (w0.grownBy w1 none):=hg1; clear hown1 hg1 ham hpm)
 clear x3 c3 z1 y1 M0
 have hM2:=M1.out.set3 (.slice mv' S.mutexes.length mc')
 have hP:=own_keep HP1.out (setCell_same w1 ⟨w.heap.size + 1 + 1,3,none⟩ (.slice mv' S.mutexes.length mc') _ _ (by show w.heap.size + 1 + 1 < _; omega))
 clear M1 HP1 G1
 generalize w1.setCell ⟨w.heap.size + 1 + 1,3,none⟩ (.slice mv' S.mutexes.length mc')=w2 at hM2 hP ⊢
 have M2:Hid (CM w S (.slice tv S.threads.length tc) (.slice mv S.mutexes.length mc) (.slice sv S.sems.length sc) (.slice qv S.queues.length qc) w2 (.slice none 0 0) (.slice mv' S.mutexes.length mc') (.slice none 0 0) (.slice none 0 0)):=hM2
 have P2mv:Hid (w2.ownsRow (w.heap.size + 3) 125 2 (.slice mv' S.mutexes.length mc') S.mutexes.length (pairCells S.mutexes)):=hP
 clear hM2 hP
 have x4:=M2.out.x.cell 4
 have c4:=M2.out.c.cell 4
 simp at x4 c4
 go_upto_region 4 with (at_builtin; refine wpList_append_src rfl (.tmp 19) (.tmp 21) 24 rfl (w.heap.size + 3) 116 i2 (.agg #[.int .i64 0,.int .i64 0]) 2 16 Tryz.underlying24 HI2.out.1 HI2.out.2.1 HI2.out.2.2.1 HI2.out.2.2.2 rfl (by decide) (.slice none 0 0) 0 [] rfl (World.ownsRow_nil _ _ _ _) sv S.sems.length sc (pairCells S.sems) rfl (pairCells_length _) HN3.out (HS.out.stays M2.out.below).sems.src (pairCells_one _) (by have:=HF.out.sems; unfold maxLen; omega) (by have:=HF.out.sems; omega) M2.out.size ?_; intro v1 w3 hown1 hg1; simp only [Nat.zero_add,List.nil_append] at hown1; obtain ⟨sv',sc',rfl,hnm,hpm,ham⟩:=PairsIn.of_owns hown1; have M3:Hid (CM w S (.slice tv S.threads.length tc) (.slice mv S.mutexes.length mc) (.slice sv S.sems.length sc) (.slice qv S.queues.length qc) w3 (.slice none 0 0) (.slice mv' S.mutexes.length mc') (.slice none 0 0) (.slice none 0 0)):=M2.out.grown hg1 (by simp [Value.ownBlock]); have NS:=hid hnm; clear hnm; have z1:=M3.out.c.frozen 4; have y1:=M3.out.c.cell 4; simp at y1; have HP1:Hid (w3.ownsRow (w.heap.size + 3) 116 2 (.slice sv' S.sems.length sc') S.sems.length (pairCells S.sems)):=hown1; have G3:Hid (w2.grownBy w3 none):=hg1; clear hown1 hg1 ham hpm)
 clear x4 c4 z1 y1 M2
 have hM4:=M3.out.set4 (.slice sv' S.sems.length sc')
 have hP:=own_keep HP1.out (setCell_same w3 ⟨w.heap.size + 1 + 1,4,none⟩ (.slice sv' S.sems.length sc') _ _ (by show w.heap.size + 1 + 1 < _; omega))
 have hP0:=own_keep (own_keep P2mv.out (grown_same G3.out _ _ (Nat.le_refl _) (by simp))) (setCell_same w3 ⟨w.heap.size + 1 + 1,4,none⟩ (.slice sv' S.sems.length sc') _ _ (by show w.heap.size + 1 + 1 < _; omega))
 clear M3 HP1 G3 P2mv
 generalize w3.setCell ⟨w.heap.size + 1 + 1,4,none⟩ (.slice sv' S.sems.length sc')=w4 at hM4 hP hP0 ⊢
 have M4:Hid (CM w S (.slice tv S.threads.length tc) (.slice mv S.mutexes.length mc) (.slice sv S.sems.length sc) (.slice qv S.queues.length qc) w4 (.slice none 0 0) (.slice mv' S.mutexes.length mc') (.slice sv' S.sems.length sc') (.slice none 0 0)):=hM4
 have P4sv:Hid (w4.ownsRow (w.heap.size + 3) 116 2 (.slice sv' S.sems.length sc') S.sems.length (pairCells S.sems)):=hP
 have P4mv:Hid (w4.ownsRow (w.heap.size + 3) 125 2 (.slice mv' S.mutexes.length mc') S.mutexes.length (pairCells S.mutexes)):=hP0
 clear hM4 hP hP0
 have x5:=M4.out.x.cell 5
 have c5:=M4.out.c.cell 5
 simp at x5 c5
 go_upto_region 5 with (at_builtin; refine wpList_append_src rfl (.tmp 25) (.tmp 27) 25 rfl (w.heap.size + 3) 3 i3 (.int .i64 0) 1 8 Tryz.underlying25 HI3.out.1 HI3.out.2.1 HI3.out.2.2.1 HI3.out.2.2.2 rfl (by decide) (.slice none 0 0) 0 [] rfl (World.ownsRow_nil _ _ _ _) qv S.queues.length qc (intCells S.queues) rfl (intCells_length _) HN4.out (HS.out.stays M4.out.below).queues.src (intCells_one _) (by have:=HF.out.queues; unfold maxLen; omega) (by have:=HF.out.queues; omega) M4.out.size ?_; intro v1 w5 hown1 hg1; simp only [Nat.zero_add,List.nil_append] at hown1; obtain ⟨qv',qc',rfl,hnm,hpm,ham⟩:=IntsIn.of_owns hown1; have M5:Hid (CM w S (.slice tv S.threads.length tc) (.slice mv S.mutexes.length mc) (.slice sv S.sems.length sc) (.slice qv S.queues.length qc) w5 (.slice none 0 0) (.slice mv' S.mutexes.length mc') (.slice sv' S.sems.length sc') (.slice none 0 0)):=M4.out.grown hg1 (by simp [Value.ownBlock]); have NQ:=hid hnm; clear hnm; have z1:=M5.out.c.frozen 5; have y1:=M5.out.c.cell 5; simp at y1; have HP1:Hid (w5.ownsRow (w.heap.size + 3) 3 1 (.slice qv' S.queues.length qc') S.queues.length (intCells S.queues)):=hown1; have G5:Hid (w4.grownBy w5 none):=hg1; clear hown1 hg1 ham hpm)
 clear x5 c5 z1 y1 M4
 have hM6:=M5.out.set5 (.slice qv' S.queues.length qc')
 have hP:=own_keep HP1.out (setCell_same w5 ⟨w.heap.size + 1 + 1,5,none⟩ (.slice qv' S.queues.length qc') _ _ (by show w.heap.size + 1 + 1 < _; omega))
 have hP0:=own_keep (own_keep P4mv.out (grown_same G5.out _ _ (Nat.le_refl _) (by simp))) (setCell_same w5 ⟨w.heap.size + 1 + 1,5,none⟩ (.slice qv' S.queues.length qc') _ _ (by show w.heap.size + 1 + 1 < _; omega))
 have hP1:=own_keep (own_keep P4sv.out (grown_same G5.out _ _ (Nat.le_refl _) (by simp))) (setCell_same w5 ⟨w.heap.size + 1 + 1,5,none⟩ (.slice qv' S.queues.length qc') _ _ (by show w.heap.size + 1 + 1 < _; omega))
 clear M5 HP1 G5 P4mv P4sv
 generalize w5.setCell ⟨w.heap.size + 1 + 1,5,none⟩ (.slice qv' S.queues.length qc')=w6 at hM6 hP hP0 hP1 ⊢
 have M6:Hid (CM w S (.slice tv S.threads.length tc) (.slice mv S.mutexes.length mc) (.slice sv S.sems.length sc) (.slice qv S.queues.length qc) w6 (.slice none 0 0) (.slice mv' S.mutexes.length mc') (.slice sv' S.sems.length sc') (.slice qv' S.queues.length qc')):=hM6
 have P6qv:Hid (w6.ownsRow (w.heap.size + 3) 3 1 (.slice qv' S.queues.length qc') S.queues.length (intCells S.queues)):=hP
 have P6mv:Hid (w6.ownsRow (w.heap.size + 3) 125 2 (.slice mv' S.mutexes.length mc') S.mutexes.length (pairCells S.mutexes)):=hP0
 have P6sv:Hid (w6.ownsRow (w.heap.size + 3) 116 2 (.slice sv' S.sems.length sc') S.sems.length (pairCells S.sems)):=hP1
 clear hM6 hP hP0 hP1
 have hM6:=M6.out
 have hlow:w.heap.size + 3<=w6.heap.size:=hM6.size
 clear HN2 HN3 HN4 HI1 HI2 HI3
 obtain ⟨i4,hi4,hz40,hz41,hz42⟩:=info_parts Tryz.infoInstr
 obtain ⟨i5,hi5,hz50,hz51,hz52⟩:=info_parts Tryz.infoThread
 have HI4:Hid (Tryz.prog.info? 61=some i4/\i4.zero=some (.agg #[.int .i64 0,.int .i64 0,.int .i64 0])/\i4.size=3/\i4.bytes=24):=⟨hi4,hz40,hz41,hz42⟩
 have HI5:Hid (Tryz.prog.info? 59=some i5/\i5.zero=some (.agg #[.int .i64 0,.int .i64 0,.int .i64 0,.int .i64 0,.slice none 0 0])/\i5.size=5/\i5.bytes=56):=⟨hi5,hz50,hz51,hz52⟩
 clear hi4 hz40 hz41 hz42 hi5 hz50 hz51 hz52 hM6
 go_wp2
 go_loopw [4] (fun i wr=>∃ (k:Nat) (vt:Value) (cs:Nat->Value),k<=S.threads.length/\i=.int .i64 k/\CM w S (.slice tv S.threads.length tc) (.slice mv S.mutexes.length mc) (.slice sv S.sems.length sc) (.slice qv S.queues.length qc) wr vt (.slice mv' S.mutexes.length mc') (.slice sv' S.sems.length sc') (.slice qv' S.queues.length qc')/\But w6.heap.size (w.heap.size + 1 + 1) w6 wr/\ThRows w6.heap.size wr vt S.threads k cs/\CsDist cs k) (fun i _=>S.threads.length - (intOf i).toNat)
 case atStart=>exact ⟨0,_,fun _=>.slice none 0 0,Nat.zero_le _,rfl,M6.out,But.refl _ _ _,ThRows.zero _ _ _ _,fun _ _ _ h=>absurd h (Nat.not_lt_zero _)⟩
 case round =>
  obtain ⟨k,vt,cs,hk,rfl,hM,hB,hR,hD⟩:=hrel
  have M:Hid (CM w S (.slice tv S.threads.length tc) (.slice mv S.mutexes.length mc) (.slice sv S.sems.length sc) (.slice qv S.queues.length qc) wr vt (.slice mv' S.mutexes.length mc') (.slice sv' S.sems.length sc') (.slice qv' S.queues.length qc')):=hM
  have BB:Hid (But w6.heap.size (w.heap.size + 1 + 1) w6 wr):=hB
  have RR:Hid (ThRows w6.heap.size wr vt S.threads k cs):=hR
  have DD:=hid hD
  clear hM hB hR hD
  have x2:=M.out.x.cell 2
  simp at x2
  have q0:w.heap.size + 3<=wr.heap.size:=M.out.size
  have q1:w.heap.size < wr.heap.size:=by omega
  have q2:w6.heap.size<=wr.heap.size:=BB.out.size
  by_cases hlt:k < S.threads.length
  ·obtain ⟨b,o,cv,cc,rfl,hbb,c0,c1,c2,c3,c4,hcode,hcn⟩:=HS.out.threads k hlt
   have c0':=(M.out.below.cell (p:=⟨b,o + k * 5,none⟩) hbb).trans c0
   have c1':=(M.out.below.cell (p:=⟨b,o + k * 5 + 1,none⟩) hbb).trans c1
   have c2':=(M.out.below.cell (p:=⟨b,o + k * 5 + 2,none⟩) hbb).trans c2
   have c3':=(M.out.below.cell (p:=⟨b,o + k * 5 + 3,none⟩) hbb).trans c3
   have c4':=(M.out.below.cell (p:=⟨b,o + k * 5 + 4,none⟩) hbb).trans c4
   have HC:Hid (InstrsIn w.heap.size w cv S.threads[k].code):=hcode
   have HCN:Hid (cv=none->cc=0):=hcn
   have hfit:=HF.out.codes k hlt
   clear c0 c1 c2 c3 c4 hcode hcn
   go_upto_region 11 with (at_builtin; refine wpList_append_src rfl (.tmp 42) (.tmp 44) 57 rfl (wr.heap.size + 1) 61 i4 (.agg #[.int .i64 0,.int .i64 0,.int .i64 0]) 3 24 Tryz.underlying57 HI4.out.1 HI4.out.2.1 HI4.out.2.2.1 HI4.out.2.2.2 rfl (by decide) (.slice none 0 0) 0 [] rfl (World.ownsRow_nil _ _ _ _) cv S.threads[k].code.length cc (instrCells S.threads[k].code) rfl (instrCells_length _) HCN.out (HC.out.stays (M.out.below.alloc (by omega) _)).src (instrCells_one _) (by unfold maxLen; omega) (by omega) (by simp) ?_; intro v4 w7 hown4 hg4; simp only [Nat.zero_add,List.nil_append] at hown4; obtain ⟨cv',cc',rfl,_,_⟩:=owns_cells hown4; have M7:=hid ((M.out.alloc _).grown hg4 (by simp [Value.ownBlock])); have T7:=hid ((Blk.new wr #[.int .i64 S.threads[k].base,.int .i64 S.threads[k].offset,.int .i64 S.threads[k].period,.int .i64 S.threads[k].deadline,.slice cv S.threads[k].code.length cc] 59).grown hg4 (by simp [Value.ownBlock])); have O7:=hid hown4; have G7:=hid hg4; have z4:=T7.out.frozen 4; have y4:=T7.out.cell 4; simp at y4; clear hown4 hg4)
   clear x2 c0' c1' c2' c3' c4'
   go_upto_region 12 with fail
   clear z4 y4
   have hM8:=M7.out.other (p:=⟨wr.heap.size,4,none⟩) (by show w.heap.size + 3<=wr.heap.size; omega) (.slice cv' S.threads[k].code.length cc')
   have hT8:Blk (w7.setCell ⟨wr.heap.size,4,none⟩ (.slice cv' S.threads[k].code.length cc')) wr.heap.size #[.int .i64 S.threads[k].base,.int .i64 S.threads[k].offset,.int .i64 S.threads[k].period,.int .i64 S.threads[k].deadline,.slice cv' S.threads[k].code.length cc'] 59:=by simpa using T7.out.set 4 (.slice cv' S.threads[k].code.length cc')
   have same8:∀ g,g < wr.heap.size->(w7.setCell ⟨wr.heap.size,4,none⟩ (.slice cv' S.threads[k].code.length cc')).heap[g]?=wr.heap[g]?:=by
    intro g hg
    rw [Below.heap_setCell _ _ _ _ (show g ≠ wr.heap.size by omega),G7.out.block g (by simp; omega) (by simp [Value.ownBlock]),Below.heap_alloc _ _ _ hg]
   have hR8:=RR.out.same (fun g _ hg=>same8 g hg)
   have hD8:CsDist (fun i=>if i=k then .slice cv' S.threads[k].code.length cc' else cs i) (k + 1):=DD.out.step (fun i g hi hg e=>by
    have h1:=(ownsRow_block (RR.out.2 i (by omega) hi) hg).2.1
    have h2:=(ownsRow_block O7.out e).1
    omega)
   have D8:=hid hD8
   clear hD8
   have hO8:(w7.setCell ⟨wr.heap.size,4,none⟩ (.slice cv' S.threads[k].code.length cc')).ownsRow w6.heap.size 61 3 (.slice cv' S.threads[k].code.length cc') S.threads[k].code.length (instrCells S.threads[k].code):=by
    refine ownsRow_mono (ownsRow_same O7.out fun g hg=>?_) (show w6.heap.size<=wr.heap.size + 1 by omega)
    have:=ownsRow_block O7.out hg
    exact Below.heap_setCell _ _ _ _ (show g ≠ wr.heap.size by omega)
   have hB8:But w6.heap.size (w.heap.size + 1 + 1) w6 (w7.setCell ⟨wr.heap.size,4,none⟩ (.slice cv' S.threads[k].code.length cc')) :=
    ((BB.out.alloc q2 _).grown G7.out (by simp; omega) (by simp [Value.ownBlock])).setCell (Or.inr (show w6.heap.size<=wr.heap.size from q2)) _
   have hs8:wr.heap.size < (w7.setCell ⟨wr.heap.size,4,none⟩ (.slice cv' S.threads[k].code.length cc')).heap.size:=hT8.lt
   clear M7 T7 O7 G7 same8
   generalize w7.setCell ⟨wr.heap.size,4,none⟩ (.slice cv' S.threads[k].code.length cc')=w8 at hM8 hT8 hR8 hO8 hB8 hs8 ⊢
   have M8:=hid hM8
   have R8:=hid hR8
   have O8:=hid hO8
   have B8:=hid hB8
   have m2:=hM8.c.cell 2
   have t0:=hT8.cell 0
   have t1:=hT8.cell 1
   have t2:=hT8.cell 2
   have t3:=hT8.cell 3
   have t4:=hT8.cell 4
   simp at m2 t0 t1 t2 t3 t4
   have q8:w6.heap.size<=w8.heap.size:=hB8.size
   have q9:w.heap.size + 1 + 1 < w8.heap.size:=by omega
   clear hM8 hT8 hR8 hO8 hB8
   have hn:=HF.out.threads
   go_wp2_with (at_builtin; refine wpList_append_src rfl (.tmp 49) (.tmp 51) 22 rfl w6.heap.size 59 i5 (.agg #[.int .i64 0,.int .i64 0,.int .i64 0,.int .i64 0,.slice none 0 0]) 5 56 Tryz.underlying22 HI5.out.1 HI5.out.2.1 HI5.out.2.2.1 HI5.out.2.2.2 rfl (by decide) vt k (thCells S.threads cs k) rfl (R8.out.1.alloc _) (some ⟨w8.heap.size,0,none⟩) 1 1 [.int .i64 S.threads[k].base,.int .i64 S.threads[k].offset,.int .i64 S.threads[k].period,.int .i64 S.threads[k].deadline,.slice cv' S.threads[k].code.length cc'] rfl rfl (fun h=>(by cases h)) (fun j u hj=>⟨_,rfl,(by rw [Addr.add_lit,Nat.zero_add,(Blk.new w8 #[.int .i64 S.threads[k].base,.int .i64 S.threads[k].offset,.int .i64 S.threads[k].period,.int .i64 S.threads[k].deadline,.slice cv' S.threads[k].code.length cc'] 59).cell]; simpa using hj)⟩) (by intro u hu; simp at hu; rcases hu with rfl | rfl | rfl | rfl | rfl <;> rfl) (by unfold maxLen; omega) (by omega) (by simp; omega) ?_; intro v5 w10 hown5 hg5; obtain ⟨tv5,tc5,rfl,_,_⟩:=owns_cells hown5; have M10:=hid ((M8.out.alloc _).grown hg5 (fun g hg=>(by have:=ownsRow_block R8.out.1 hg; omega))); have z10:=M10.out.c.frozen 2; have y10:=M10.out.c.cell 2; simp at y10; have O10:=hid hown5; have G10:=hid hg5; clear hown5 hg5)
   have hR10:=ThRows.step' (ThRows.same R8.out (fun g _ hg=>Below.heap_alloc _ _ _ hg)) hlt (O8.out.alloc _) G10.out O10.out
   have hB10:But w6.heap.size (w.heap.size + 1 + 1) w6 w10:=(B8.out.alloc q8 _).grown G10.out (by simp; omega) (fun g hg=>(ownsRow_block R8.out.1 hg).1)
   go_roundw
   case rel=>exact ⟨k + 1,_,_,by omega,by go_num,M10.out.set2 _,hB10.setCell (Or.inl rfl) _,hR10.same (setCell_same _ _ _ _ _ (by show w.heap.size + 1 + 1 < _; omega)),D8.out⟩
   case measure=>simp [intOf]; omega
  ·have e:k=S.threads.length:=by omega
   subst e
   obtain ⟨tv',tc',rfl,_,_⟩:=owns_cells RR.out.1
   have m0:=M.out.c.cell 0
   have m1:=M.out.c.cell 1
   have m2:=M.out.c.cell 2
   have m3:=M.out.c.cell 3
   have m4:=M.out.c.cell 4
   have m5:=M.out.c.cell 5
   have r0:=M.out.r.cell 0
   have r1:=M.out.r.cell 1
   have r2:=M.out.r.cell 2
   have r3:=M.out.r.cell 3
   have r4:=M.out.r.cell 4
   have r5:=M.out.r.cell 5
   simp at m0 m1 m2 m3 m4 m5 r0 r1 r2 r3 r4 r5
   have f0:=M.out.r.frozen 0
   have f1:=M.out.r.frozen 1
   have f2:=M.out.r.frozen 2
   have f3:=M.out.r.frozen 3
   have f4:=M.out.r.frozen 4
   have f5:=M.out.r.frozen 5
   have q3:w.heap.size + 1 < wr.heap.size:=by omega
   go_wp2
   have same:∀ g,w.heap.size + 3<=g->g < w6.heap.size->wr.heap[g]?=w6.heap[g]?:=fun g h1 h2=>BB.out.block g h2 (by omega)
   refine bodyPost_ret (v:=.agg #[.int .i64 S.workers,.int .i64 S.start,.slice tv' S.threads.length tc',.slice mv' S.mutexes.length mc',.slice sv' S.sems.length sc',.slice qv' S.queues.length qc']) ?_ rfl ⟨_,_,_,_,cs,rfl,⟨?_,fun i hi=>?_,DD.out,?_,?_,?_⟩,six_below M.out.below _ (by omega) _ _ _ _ _ _⟩
   ·simp [results,Tryz.results15,go_sem,r0,r1,r2,r3,r4,r5]
   ·exact ownsRow_mono (own_keep RR.out.1 (fun g h1 _=>six_same _ _ _ _ _ _ _ _ _ (by omega))) (by omega)
   ·exact ownsRow_mono (own_keep (RR.out.2 i hi hi) (fun g h1 _=>six_same _ _ _ _ _ _ _ _ _ (by omega))) (by omega)
   ·exact ownsRow_mono (own_keep P6mv.out (fun g h1 h2=>(six_same _ _ _ _ _ _ _ _ _ (by omega)).trans (same g h1 h2))) (by omega)
   ·exact ownsRow_mono (own_keep P6sv.out (fun g h1 h2=>(six_same _ _ _ _ _ _ _ _ _ (by omega)).trans (same g h1 h2))) (by omega)
   ·exact ownsRow_mono (own_keep P6qv.out (fun g h1 h2=>(six_same _ _ _ _ _ _ _ _ _ (by omega)).trans (same g h1 h2))) (by omega)
end Go.Proofs.YtbkfildnijjioaaGreat
