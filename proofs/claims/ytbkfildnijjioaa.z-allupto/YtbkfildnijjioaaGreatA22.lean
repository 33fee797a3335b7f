import Derived.Test.YtbkfildnijjioaaGreatA21
import Derived.Test.YtbkfildnijjioaaGreatA08
import Derived.Test.YtbkfildnijjioaaGreatA02
import Derived.Deep.RegionHeld3
import Derived.Deep.QuietTactic
import Derived.BigQuiet
namespace Go.Proofs.YtbkfildnijjioaaGreat
open Go.RowKit
def TypeAt (w:World) (b:Nat) (e:TypeId):Prop:=∃ cur,w.heap[b]?=some (.cells cur e (0,0))
theorem TypeAt.lt {w:World} {b:Nat} {e:TypeId} (h:TypeAt w b e):b < w.heap.size:=by
 obtain ⟨c,hc⟩:=h
 rcases Nat.lt_or_ge b w.heap.size with h | h
 ·exact h
 ·rw [Array.getElem?_eq_none h] at hc; cases hc
theorem TypeAt.ne {w:World} {b b':Nat} {e e':TypeId} (h:TypeAt w b e) (h':TypeAt w b' e') (he:e ≠ e'):b ≠ b':=by
 rintro rfl
 obtain ⟨c,hc⟩:=h
 obtain ⟨c',hc'⟩:=h'
 rw [hc] at hc'
 cases hc'
 exact he rfl
theorem row_type {w:World} {base:Nat} {e:TypeId} {size n:Nat} {v:Value} {xs:List Value} (h:w.ownsRow base e size v n xs) {g:Nat} (hv:v.ownBlock=some g):TypeAt w g e:=(ownsRow_block h hv).2.2
def TK (e0:TypeId) (w w':World):Prop:=∀ b e,TypeAt w b e->e ≠ e0->w'.heap[b]?=w.heap[b]?
theorem TK.row {e0 e:TypeId} {w w':World} {B size n:Nat} {v:Value} {xs:List Value} (t:TK e0 w w') (h:w.ownsRow B e size v n xs) (he:e ≠ e0):w'.ownsRow B e size v n xs:=ownsRow_same h fun g hg=>t g e (row_type h hg) he
theorem TK.blk {e0 e:TypeId} {w w':World} {b:Nat} {cs:Array Value} (t:TK e0 w w') (h:Blk w b cs e) (he:e ≠ e0):Blk w' b cs e:=by
 have h1:=h
 unfold Blk at h1 ⊢
 rw [t b e ⟨_,h⟩ he]
 exact h1
theorem TK.of_grown {w w1 w':World} {e:TypeId} {row:Option Nat} (hb:Below w.heap.size w w1) (hg:w1.grownBy w' row) (hr:∀ g,row=some g->TypeAt w g e\/w.heap.size<=g):TK e w w':=by
 intro b e' hb' hne
 rw [hg.block b (Nat.lt_of_lt_of_le hb'.lt hb.size) (fun x=>?_),hb.block b hb'.lt]
 rcases hr b x.symm with h | h
 ·exact hb'.ne h hne rfl
 ·have:=hb'.lt
  omega
theorem TK.of_set {w:World} {b j:Nat} {e:TypeId} (h:TypeAt w b e) (u:Value):TK e w (w.setCell ⟨b,j,none⟩ u):=fun _ _ h' he=>Below.heap_setCell _ _ _ _ (fun x=>h'.ne h he x)
theorem TK.of_below {w w':World} (e:TypeId) (hb:Below w.heap.size w w'):TK e w w':=fun b _ h _=>hb.block b h.lt
def spare2:List Value:=[.int .i64 (-1000),.int .i64 0]
def spare3:List Value:=[.int .i64 (-1000),.int .i64 0,.int .i64 0]
def spare5:List Value:=[.int .i64 (-1000),.int .i64 0,.int .i64 0,.int .i64 0,.slice none 0 0]
structure RoomySet (B:Nat) (w:World) (ta ma sa qa:Option Addr) (tc mc sc qc:Nat) (S:SetD) (ca:Nat->Option Addr) (cc:Nat->Nat):Prop where
 t:w.ownsRow B 59 5 (.slice ta (S.threads.length + 1) tc) (S.threads.length + 1) (thCells S.threads (fun i=>.slice (ca i) (S.threads.getD i P3.none0).code.length (cc i)) S.threads.length ++ spare5)
 c:∀ i (h:i < S.threads.length),w.ownsRow B 61 3 (.slice (ca i) (S.threads[i].code.length + 1) (cc i)) (S.threads[i].code.length + 1) (instrCells S.threads[i].code ++ spare3)
 d:∀ i j,i < S.threads.length->j < S.threads.length->i ≠ j->ca i ≠ ca j
 m:w.ownsRow B 125 2 (.slice ma (S.mutexes.length + 1) mc) (S.mutexes.length + 1) (pairCells S.mutexes ++ spare2)
 s:w.ownsRow B 116 2 (.slice sa (S.sems.length + 1) sc) (S.sems.length + 1) (pairCells S.sems ++ spare2)
 q:w.ownsRow B 3 1 (.slice qa (S.queues.length + 1) qc) (S.queues.length + 1) (intCells S.queues ++ [.int .i64 (-1000)])
structure CodesUp (B:Nat) (w:World) (S:SetD) (k:Nat) (cs:Nat->Value):Prop where
 up:∀ i (h:i < S.threads.length),i < k->∃ a c,cs i=.slice a S.threads[i].code.length c/\w.ownsRow B 61 3 (.slice a (S.threads[i].code.length + 1) c) (S.threads[i].code.length + 1) (instrCells S.threads[i].code ++ spare3)
 old:∀ i (h:i < S.threads.length),k<=i->w.ownsRow B 61 3 (cs i) S.threads[i].code.length (instrCells S.threads[i].code)
 d:CsDist cs S.threads.length
theorem CodesUp.blk {B:Nat} {w:World} {S:SetD} {k:Nat} {cs:Nat->Value} (h:CodesUp B w S k cs) {i:Nat} (hi:i < S.threads.length) {g:Nat} (hg:(cs i).ownBlock=some g):TypeAt w g 61/\B<=g:=by
 by_cases hk:i < k
 ·obtain ⟨a,c,e,hr⟩:=h.up i hi hk
  have hg':(Value.slice a (S.threads[i].code.length + 1) c).ownBlock=some g:=by
   rw [e] at hg
   cases a with
   | none=>cases hg
   | some a=>exact hg
  exact ⟨row_type hr hg',(ownsRow_block hr hg').1⟩
 ·exact ⟨row_type (h.old i hi (by omega)) hg,(ownsRow_block (h.old i hi (by omega)) hg).1⟩
theorem CodesUp.same {B:Nat} {w w':World} {S:SetD} {k:Nat} {cs:Nat->Value} (h:CodesUp B w S k cs) (hs:∀ g,TypeAt w g 61->w'.heap[g]?=w.heap[g]?):CodesUp B w' S k cs :=
 ⟨fun i hi hk=>by
  obtain ⟨a,c,e,hr⟩:=h.up i hi hk
  exact ⟨a,c,e,ownsRow_same hr fun g hg=>hs g (row_type hr hg)⟩,fun i hi hk=>ownsRow_same (h.old i hi hk) fun g hg=>hs g (row_type (h.old i hi hk) hg),h.d⟩
theorem slice_own (a:Option Addr) (n n' c c':Nat):(Value.slice a n c).ownBlock=(Value.slice a n' c').ownBlock:=by
 cases a with
 | none=>rfl
 | some a=>rfl
theorem CodesUp.step {B:Nat} {w w0 w':World} {S:SetD} {k:Nat} {cs:Nat->Value} (h:CodesUp B w S k cs) (hk:k < S.threads.length) (hb:Below w.heap.size w w0) (hg:w0.grownBy w' (cs k).ownBlock) {a:Option Addr} {c:Nat}
  (hr:w'.ownsRow B 61 3 (.slice a (S.threads[k].code.length + 1) c) (S.threads[k].code.length + 1) (instrCells S.threads[k].code ++ spare3)) (hat:(Value.slice a (S.threads[k].code.length + 1) c).ownBlock=(cs k).ownBlock\/(Value.slice a (S.threads[k].code.length + 1) c).ownBlock=some w0.heap.size) :
  CodesUp B w' S (k + 1) (fun i=>if i=k then .slice a S.threads[k].code.length c else cs i):=by
 have keep:∀ i (hi:i < S.threads.length) (_:i ≠ k) {v:Value} {n:Nat} {xs:List Value},(v.ownBlock=(cs i).ownBlock)->w.ownsRow B 61 3 v n xs->w'.ownsRow B 61 3 v n xs:=by
  intro i hi hne v n xs he ho
  refine ownsRow_same ho fun g hgv=>?_
  have hlt:=(ownsRow_block ho hgv).2.1
  rw [hg.block g (Nat.lt_of_lt_of_le hlt hb.size) (fun x=>h.d i k g hi hk hne (he ▸ hgv) x.symm),hb.block g hlt]
 refine ⟨fun i hi hik=>?_,fun i hi hik=>?_,fun i j g hi hj hne hg'=>?_⟩
 ·by_cases e:i=k
  ·subst e
   exact ⟨a,c,by simp,hr⟩
  ·obtain ⟨a',c',e',hr'⟩:=h.up i hi (by omega)
   refine ⟨a',c',by simp [if_neg e,e'],keep i hi e ?_ hr'⟩
   rw [e']
   exact slice_own _ _ _ _ _
 ·have e:i ≠ k:=by omega
  simp only [if_neg e]
  exact keep i hi e rfl (h.old i hi (by omega))
 ·have newAt:∀ u g,u < S.threads.length->u ≠ k->(cs u).ownBlock=some g->(Value.slice a S.threads[k].code.length c).ownBlock ≠ some g:=by
   intro u g hu hne hgu e
   rw [slice_own a S.threads[k].code.length (S.threads[k].code.length + 1) c c] at e
   rcases hat with h1 | h1
   ·rw [h1] at e
    exact h.d u k g hu hk hne hgu e
   ·rw [h1] at e
    cases e
    have:=(h.blk hu hgu).1.lt
    have:=hb.size
    omega
  by_cases e1:i=k
  ·rw [if_pos e1] at hg'
   rw [if_neg (by omega)]
   exact fun e=>newAt j g hj (by omega) e hg'
  ·rw [if_neg e1] at hg'
   by_cases e2:j=k
   ·rw [if_pos e2]
    exact newAt i g hi e1 hg'
   ·rw [if_neg e2]
    exact h.d i j g hi hj hne hg'
theorem thCells_set (l:List ThreadD) (cs:Nat->Value) (n k:Nat) (hk:k < n) (v:Value):(thCells l cs n).set (k * 5 + 4) v=thCells l (fun i=>if i=k then v else cs i) n:=by
 induction n with
 | zero=>omega
 | succ n ih =>
  have hlen:∀ cs,(thCells l cs n).length=n * 5:=fun cs=>thCells_length l cs n
  rw [thCells_succ,thCells_succ]
  by_cases e:k=n
  ·subst e
   rw [List.set_append_right _ _ (by rw [hlen]; omega),hlen]
   have e2:k * 5 + 4 - k * 5=4:=by omega
   rw [e2,thCells_congr l (fun i=>if i=k then v else cs i) cs k (fun i hi=>by simp; omega)]
   simp
  ·rw [List.set_append_left _ _ (by rw [hlen]; omega),ih (by omega)]
   simp [show n ≠ k by omega]
theorem thCells_at (l:List ThreadD) (cs:Nat->Value) (n k j:Nat) (hk:k < n) (hj:j < 5):(thCells l cs n)[k * 5 + j]?=[Value.int .i64 (l.getD k P3.none0).base,.int .i64 (l.getD k P3.none0).offset,.int .i64 (l.getD k P3.none0).period,.int .i64 (l.getD k P3.none0).deadline,cs k][j]?:=by
 induction n with
 | zero=>omega
 | succ n ih =>
  have hlen:∀ cs,(thCells l cs n).length=n * 5:=fun cs=>thCells_length l cs n
  rw [thCells_succ]
  by_cases e:k=n
  ·subst e
   rw [List.getElem?_append_right (by rw [hlen]; omega),hlen]
   have e2:k * 5 + j - k * 5=j:=by omega
   rw [e2]
  ·rw [List.getElem?_append_left (by rw [hlen]; omega)]
   exact ih (by omega)
structure RSt (w:World) (S:SetD) (SA:Array Value) (cb:Nat) (wX:World) (vt vm vs vq:Value):Prop where
 x:Blk wX w.heap.size SA 27
 y:Blk wX (w.heap.size + 1) #[.int .i64 0,.int .i64 0,.slice none 0 0,.slice none 0 0,.slice none 0 0,.slice none 0 0] 27
 c:Blk wX cb #[.int .i64 S.workers,.int .i64 S.start,vt,vm,vs,vq] 27
 b:Below w.heap.size w wX
 n:w.heap.size + 1 < cb
section
variable {w:World} {S:SetD} {SA:Array Value} {cb:Nat} {wX w':World} {vt vm vs vq:Value}
theorem RSt.tk {e:TypeId} (h:RSt w S SA cb wX vt vm vs vq) (t:TK e wX w') (he:e ≠ 27) (hb:Below w.heap.size w w'):RSt w S SA cb w' vt vm vs vq:=⟨t.blk h.x (Ne.symm he),t.blk h.y (Ne.symm he),t.blk h.c (Ne.symm he),hb,h.n⟩
theorem RSt.set (h:RSt w S SA cb wX vt vm vs vq) (j:Nat) (v:Value) {vt' vm' vs' vq':Value} (e:(#[.int .i64 S.workers,.int .i64 S.start,vt,vm,vs,vq]:Array Value).setIfInBounds j v=#[.int .i64 S.workers,.int .i64 S.start,vt',vm',vs',vq']):RSt w S SA cb (wX.setCell ⟨cb,j,none⟩ v) vt' vm' vs' vq':=by
 have hn:=h.n
 refine ⟨?_,?_,?_,h.b.setCell (show w.heap.size<=cb by omega) _,h.n⟩
 ·exact h.x.other (p:=⟨cb,j,none⟩) (show w.heap.size ≠ cb by omega) v
 ·exact h.y.other (p:=⟨cb,j,none⟩) (show w.heap.size + 1 ≠ cb by omega) v
 ·rw [<- e]
  exact h.c.set j v
theorem RSt.tc (h:RSt w S SA cb wX vt vm vs vq):TypeAt wX cb 27:=⟨_,h.c⟩
end
set_option linter.unusedSimpArgs false in
set_option maxRecDepth 100000 in
set_option maxHeartbeats 4000000 in
theorem roomy_any (tv mv sv qv:Option Addr) (tc mc sc qc:Nat) (S:SetD) (w:World) (hS:SetIn w.heap.size w tv mv sv qv S) (hF:Fits S) (hnil:(tv=none->tc=0)/\(mv=none->mc=0)/\(sv=none->sc=0)/\(qv=none->qc=0)) :
  Calls Tryz.prog 34 #[.agg #[.int .i64 S.workers,.int .i64 S.start,.slice tv S.threads.length tc,.slice mv S.mutexes.length mc,.slice sv S.sems.length sc,.slice qv S.queues.length qc]] w fun e w' =>
   ∃ ta ma sa qa tc' mc' sc' qc' ca cc,e=.returned (.agg #[.int .i64 S.workers,.int .i64 S.start,.slice ta S.threads.length tc',.slice ma S.mutexes.length mc',.slice sa S.sems.length sc',.slice qa S.queues.length qc'])/\RoomySet w.heap.size w' ta ma sa qa tc' mc' sc' qc' S ca cc/\Below w.heap.size w w':=by
 have CO:=hid (fun wx hSx=>copyOwn_any tv mv sv qv tc mc sc qc S wx hSx hF hnil)
 have HS:=hid hS
 have HF:=hid hF
 obtain ⟨i1,hi1,hz10,hz11,hz12⟩:=info_parts Tryz.infoMutex
 obtain ⟨i2,hi2,hz20,hz21,hz22⟩:=info_parts Tryz.infoSem
 obtain ⟨i3,hi3,hz30,hz31,hz32⟩:=info_parts Tryz.infoInt
 obtain ⟨i4,hi4,hz40,hz41,hz42⟩:=info_parts Tryz.infoInstr
 obtain ⟨i5,hi5,hz50,hz51,hz52⟩:=info_parts Tryz.infoThread
 have HI1:=hid (And.intro hi1 (And.intro hz10 (And.intro hz11 hz12)))
 have HI2:=hid (And.intro hi2 (And.intro hz20 (And.intro hz21 hz22)))
 have HI3:=hid (And.intro hi3 (And.intro hz30 (And.intro hz31 hz32)))
 have HI4:=hid (And.intro hi4 (And.intro hz40 (And.intro hz41 hz42)))
 have HI5:=hid (And.intro hi5 (And.intro hz50 (And.intro hz51 hz52)))
 clear hi1 hz10 hz11 hz12 hi2 hz20 hz21 hz22 hi3 hz30 hz31 hz32 hi4 hz40 hz41 hz42 hi5 hz50 hz51 hz52 hS hF hnil
 have fm:=HF.out.mutexes
 have fs:=HF.out.sems
 have fq:=HF.out.queues
 have ft:=HF.out.threads
 have FC:Hid (∀ k (hk:k < S.threads.length),_):=HF.out.codes
 have hb0:Below w.heap.size w ((w.alloc (.cells #[.int .i64 S.workers,.int .i64 S.start,.slice tv S.threads.length tc,.slice mv S.mutexes.length mc,.slice sv S.sems.length sc,.slice qv S.queues.length qc] 27)).alloc (.cells #[.int .i64 0,.int .i64 0,.slice none 0 0,.slice none 0 0,.slice none 0 0,.slice none 0 0] 27)):=((Below.refl _ _).alloc (Nat.le_refl _) _).alloc (by simp) _
 have X0:Blk ((w.alloc (.cells #[.int .i64 S.workers,.int .i64 S.start,.slice tv S.threads.length tc,.slice mv S.mutexes.length mc,.slice sv S.sems.length sc,.slice qv S.queues.length qc] 27)).alloc (.cells #[.int .i64 0,.int .i64 0,.slice none 0 0,.slice none 0 0,.slice none 0 0,.slice none 0 0] 27)) w.heap.size #[.int .i64 S.workers,.int .i64 S.start,.slice tv S.threads.length tc,.slice mv S.mutexes.length mc,.slice sv S.sems.length sc,.slice qv S.queues.length qc] 27:=(Blk.new w #[.int .i64 S.workers,.int .i64 S.start,.slice tv S.threads.length tc,.slice mv S.mutexes.length mc,.slice sv S.sems.length sc,.slice qv S.queues.length qc] 27).alloc _
 have Y0:Blk ((w.alloc (.cells #[.int .i64 S.workers,.int .i64 S.start,.slice tv S.threads.length tc,.slice mv S.mutexes.length mc,.slice sv S.sems.length sc,.slice qv S.queues.length qc] 27)).alloc (.cells #[.int .i64 0,.int .i64 0,.slice none 0 0,.slice none 0 0,.slice none 0 0,.slice none 0 0] 27)) (w.heap.size + 1) #[.int .i64 0,.int .i64 0,.slice none 0 0,.slice none 0 0,.slice none 0 0,.slice none 0 0] 27:=by
  have:=Blk.new (w.alloc (.cells #[.int .i64 S.workers,.int .i64 S.start,.slice tv S.threads.length tc,.slice mv S.mutexes.length mc,.slice sv S.sems.length sc,.slice qv S.queues.length qc] 27)) #[.int .i64 0,.int .i64 0,.slice none 0 0,.slice none 0 0,.slice none 0 0,.slice none 0 0] 27
  simpa using this
 go_enter Tryz.func34,Tryz.ntmps34
 go_upto_region 1 with fail
 generalize (w.alloc (.cells #[.int .i64 S.workers,.int .i64 S.start,.slice tv S.threads.length tc,.slice mv S.mutexes.length mc,.slice sv S.sems.length sc,.slice qv S.queues.length qc] 27)).alloc (.cells #[.int .i64 0,.int .i64 0,.slice none 0 0,.slice none 0 0,.slice none 0 0,.slice none 0 0] 27)=w0 at *
 have y0:=X0.cell 0
 have y1:=X0.cell 1
 have y2:=X0.cell 2
 have y3:=X0.cell 3
 have y4:=X0.cell 4
 have y5:=X0.cell 5
 simp at y0 y1 y2 y3 y4 y5
 have CO0:=hid (CO.out w0 (HS.out.later hb0))
 have HB0:=hid hb0
 have XY:=hid (And.intro X0 Y0)
 have hsz0:=hb0.size
 have hx0l:=X0.lt
 have hy0l:=Y0.lt
 clear CO hb0 X0 Y0
 go_wp2_with fail
 refine CO0.out.mono ?_
 rintro e w1 ⟨vt,vm,vs,vq,cs,rfl,os,hb1⟩
 have hsz1:=hb1.size
 have hbA:Below w1.heap.size w1 (w1.alloc (.cells #[.int .i64 S.workers,.int .i64 S.start,vt,vm,vs,vq] 27)):=(Below.refl _ _).alloc (Nat.le_refl _) _
 have XC:=Blk.new w1 #[.int .i64 S.workers,.int .i64 S.start,vt,vm,vs,vq] 27
 obtain ⟨ta0,tc0,rfl,_,_⟩:=owns_cells os.t
 obtain ⟨ma0,mc0,rfl,_,_⟩:=owns_cells os.m
 obtain ⟨sa0,sc0,rfl,_,_⟩:=owns_cells os.s
 obtain ⟨qa0,qc0,rfl,_,_⟩:=owns_cells os.q
 go_upto_region 2 with fail
 generalize hcb:w1.heap.size=cb at *
 generalize w1.alloc (.cells #[.int .i64 S.workers,.int .i64 S.start,.slice ta0 S.threads.length tc0,.slice ma0 S.mutexes.length mc0,.slice sa0 S.sems.length sc0,.slice qa0 S.queues.length qc0] 27)=wA at *
 have st:RSt w S #[.int .i64 S.workers,.int .i64 S.start,.slice tv S.threads.length tc,.slice mv S.mutexes.length mc,.slice sv S.sems.length sc,.slice qv S.queues.length qc] cb wA (.slice ta0 S.threads.length tc0) (.slice ma0 S.mutexes.length mc0) (.slice sa0 S.sems.length sc0) (.slice qa0 S.queues.length qc0):=by
  refine ⟨?_,?_,XC,HB0.out.trans ((hb1.mono hsz0).trans (hbA.mono (by omega))),by omega⟩
  ·have h1:=XY.out.1
   unfold Blk at h1 ⊢
   rw [hbA.block _ (by omega),hb1.block _ (by omega)]
   exact h1
  ·have h1:=XY.out.2
   unfold Blk at h1 ⊢
   rw [hbA.block _ (by omega),hb1.block _ (by omega)]
   exact h1
 have tkA:TK 27 w1 wA:=TK.of_below _ (by rw [hcb]; exact hbA)
 have hzz:w0.heap.size<=w1.heap.size:=by omega
 have RM:=hid (ownsRow_mono (tkA.row os.m (by decide)) hsz0)
 have RS_:=hid (ownsRow_mono (tkA.row os.s (by decide)) hsz0)
 have RQ:=hid (ownsRow_mono (tkA.row os.q (by decide)) hsz0)
 have RT:=hid (ownsRow_mono (tkA.row os.t (by decide)) hsz0)
 have RC:Hid (CodesUp w.heap.size wA S 0 cs):=⟨fun i _ h=>absurd h (Nat.not_lt_zero _),fun i hi _=>ownsRow_mono (tkA.row (os.c i hi) (by decide)) hsz0,os.d⟩
 have ST:=hid st
 clear CO0 XY os hb1 hbA XC st tkA hcb HB0 hsz1 hx0l hy0l y0 y1 y2 y3 y4 y5 hzz
 have cM:=ST.out.c.cell 3
 simp at cM
 have hwz:=ST.out.b.size
 go_upto_region 3 with (at_builtin; refine wpList_append_src_at rfl (.tmp 9) (.tmp 11) 23 rfl w.heap.size 125 i1 (.agg #[.int .i64 0,.int .i64 0]) 2 16 Tryz.underlying23 HI1.out.1 HI1.out.2.1 HI1.out.2.2.1 HI1.out.2.2.2 rfl (by decide) (.slice ma0 S.mutexes.length mc0) S.mutexes.length (pairCells S.mutexes) rfl (RM.out.alloc _) (some ⟨wA.heap.size,0,none⟩) 1 1 spare2 rfl rfl (fun h=>(by cases h)) (fun j u hj=>⟨_,rfl,(by rw [Addr.add_lit,Nat.zero_add,(Blk.new wA #[.int .i64 (-1000),.int .i64 0] 125).cell]; simpa [spare2] using hj)⟩) (by intro u hu; simp [spare2] at hu; rcases hu with rfl | rfl <;> rfl) (by unfold maxLen; omega) (by omega) (by simp; omega) ?_; intro vM wMa hownM hgM hatM; have tkM:TK 125 wA wMa:=TK.of_grown ((Below.refl _ _).alloc (Nat.le_refl _) _) hgM (fun g hg=>.inl (row_type RM.out hg)); have bbM:Below w.heap.size w wMa:=(ST.out.b.alloc hwz _).grown hgM (by simp; omega) (fun g hg=>(ownsRow_block RM.out hg).1); have stM:=hid (ST.out.tk tkM (by decide) bbM); have NRS_:=hid (tkM.row RS_.out (by decide)); have NRQ:=hid (tkM.row RQ.out (by decide)); have NRT:=hid (tkM.row RT.out (by decide)); have NC:=hid (RC.out.same (fun g hg=>tkM g _ hg (by decide))); obtain ⟨aM,kM,rfl,_,_⟩:=owns_cells hownM; have NW:=hid hownM; have yM:=stM.out.c.cell 3; have zM:=stM.out.c.frozen 3; simp at yM; clear hownM hgM hatM tkM bbM)
 clear cM RM RS_ RQ RT RC ST hwz
 have tks:=TK.of_set stM.out.tc (j:=3) (.slice aM (S.mutexes.length + 1) kM)
 have ST:=hid (stM.out.set 3 (.slice aM (S.mutexes.length + 1) kM) rfl)
 have RS_:=hid (tks.row NRS_.out (by decide))
 have RQ:=hid (tks.row NRQ.out (by decide))
 have RT:=hid (tks.row NRT.out (by decide))
 have RM:=hid (tks.row NW.out (by decide))
 have RC:=hid (NC.out.same (fun g hg=>tks g _ hg (by decide)))
 clear tks stM yM zM NW NC NRS_ NRQ NRT
 generalize wMa.setCell ⟨cb,3,none⟩ (.slice aM (S.mutexes.length + 1) kM)=wMb at *
 have cM:=ST.out.c.cell 3
 have zM:=ST.out.c.frozen 3
 have xM:=ST.out.x.cell 3
 simp at cM xM
 have hcap:S.mutexes.length + 1<=kM:=by
  rcases RM.out.2 with ⟨e,_⟩ | ⟨g',cap,cur',e,_,_,h4,h5,_⟩
  ·cases e
  ·cases e
   exact h4
 have hcapI:(S.mutexes.length:Int)<=(kM:Int):=by omega
 have hsom:∃ gM,aM=some ⟨gM,0,none⟩:=by
  rcases RM.out.2 with ⟨e,_⟩ | ⟨g',cap,cur',e,_,_,h4,h5,_⟩
  ·cases e
  ·cases e
   exact ⟨_,rfl⟩
 obtain ⟨gM,rfl⟩:=hsom
 go_upto_region 4 with fail
 have tks:=TK.of_set ST.out.tc (j:=3) (.slice (some ⟨gM,0,none⟩) S.mutexes.length kM)
 have ST:=hid (ST.out.set 3 (.slice (some ⟨gM,0,none⟩) S.mutexes.length kM) rfl)
 have RM:=hid (tks.row RM.out (by decide))
 have RS_:=hid (tks.row RS_.out (by decide))
 have RQ:=hid (tks.row RQ.out (by decide))
 have RT:=hid (tks.row RT.out (by decide))
 have RC:=hid (RC.out.same (fun g hg=>tks g _ hg (by decide)))
 clear tks cM zM xM hcap hcapI
 generalize wMb.setCell ⟨cb,3,none⟩ (.slice (some ⟨gM,0,none⟩) S.mutexes.length kM)=wMc at *
 have cS:=ST.out.c.cell 4
 simp at cS
 have hwz:=ST.out.b.size
 go_upto_region 5 with (at_builtin; refine wpList_append_src_at rfl (.tmp 22) (.tmp 24) 24 rfl w.heap.size 116 i2 (.agg #[.int .i64 0,.int .i64 0]) 2 16 Tryz.underlying24 HI2.out.1 HI2.out.2.1 HI2.out.2.2.1 HI2.out.2.2.2 rfl (by decide) (.slice sa0 S.sems.length sc0) S.sems.length (pairCells S.sems) rfl (RS_.out.alloc _) (some ⟨wMc.heap.size,0,none⟩) 1 1 spare2 rfl rfl (fun h=>(by cases h)) (fun j u hj=>⟨_,rfl,(by rw [Addr.add_lit,Nat.zero_add,(Blk.new wMc #[.int .i64 (-1000),.int .i64 0] 116).cell]; simpa [spare2] using hj)⟩) (by intro u hu; simp [spare2] at hu; rcases hu with rfl | rfl <;> rfl) (by unfold maxLen; omega) (by omega) (by simp; omega) ?_; intro vS wSa hownS hgS hatS; have tkS:TK 116 wMc wSa:=TK.of_grown ((Below.refl _ _).alloc (Nat.le_refl _) _) hgS (fun g hg=>.inl (row_type RS_.out hg)); have bbS:Below w.heap.size w wSa:=(ST.out.b.alloc hwz _).grown hgS (by simp; omega) (fun g hg=>(ownsRow_block RS_.out hg).1); have stS:=hid (ST.out.tk tkS (by decide) bbS); have NRM:=hid (tkS.row RM.out (by decide)); have NRQ:=hid (tkS.row RQ.out (by decide)); have NRT:=hid (tkS.row RT.out (by decide)); have NC:=hid (RC.out.same (fun g hg=>tkS g _ hg (by decide))); obtain ⟨aS,kS,rfl,_,_⟩:=owns_cells hownS; have NW:=hid hownS; have yS:=stS.out.c.cell 4; have zS:=stS.out.c.frozen 4; simp at yS; clear hownS hgS hatS tkS bbS)
 clear cS RM RS_ RQ RT RC ST hwz
 have tks:=TK.of_set stS.out.tc (j:=4) (.slice aS (S.sems.length + 1) kS)
 have ST:=hid (stS.out.set 4 (.slice aS (S.sems.length + 1) kS) rfl)
 have RM:=hid (tks.row NRM.out (by decide))
 have RQ:=hid (tks.row NRQ.out (by decide))
 have RT:=hid (tks.row NRT.out (by decide))
 have RS_:=hid (tks.row NW.out (by decide))
 have RC:=hid (NC.out.same (fun g hg=>tks g _ hg (by decide)))
 clear tks stS yS zS NW NC NRM NRQ NRT
 generalize wSa.setCell ⟨cb,4,none⟩ (.slice aS (S.sems.length + 1) kS)=wSb at *
 have cS:=ST.out.c.cell 4
 have zS:=ST.out.c.frozen 4
 have xS:=ST.out.x.cell 4
 simp at cS xS
 have hcap:S.sems.length + 1<=kS:=by
  rcases RS_.out.2 with ⟨e,_⟩ | ⟨g',cap,cur',e,_,_,h4,h5,_⟩
  ·cases e
  ·cases e
   exact h4
 have hcapI:(S.sems.length:Int)<=(kS:Int):=by omega
 have hsom:∃ gM,aS=some ⟨gM,0,none⟩:=by
  rcases RS_.out.2 with ⟨e,_⟩ | ⟨g',cap,cur',e,_,_,h4,h5,_⟩
  ·cases e
  ·cases e
   exact ⟨_,rfl⟩
 obtain ⟨gS,rfl⟩:=hsom
 go_upto_region 6 with fail
 have tks:=TK.of_set ST.out.tc (j:=4) (.slice (some ⟨gS,0,none⟩) S.sems.length kS)
 have ST:=hid (ST.out.set 4 (.slice (some ⟨gS,0,none⟩) S.sems.length kS) rfl)
 have RM:=hid (tks.row RM.out (by decide))
 have RS_:=hid (tks.row RS_.out (by decide))
 have RQ:=hid (tks.row RQ.out (by decide))
 have RT:=hid (tks.row RT.out (by decide))
 have RC:=hid (RC.out.same (fun g hg=>tks g _ hg (by decide)))
 clear tks cS zS xS hcap hcapI
 generalize wSb.setCell ⟨cb,4,none⟩ (.slice (some ⟨gS,0,none⟩) S.sems.length kS)=wSc at *
 have cQ:=ST.out.c.cell 5
 simp at cQ
 have hwz:=ST.out.b.size
 go_upto_region 7 with (at_builtin; refine wpList_append_src_at rfl (.tmp 35) (.tmp 36) 25 rfl w.heap.size 3 i3 (.int .i64 0) 1 8 Tryz.underlying25 HI3.out.1 HI3.out.2.1 HI3.out.2.2.1 HI3.out.2.2.2 rfl (by decide) (.slice qa0 S.queues.length qc0) S.queues.length (intCells S.queues) rfl (RQ.out.alloc _) (some ⟨wSc.heap.size,0,none⟩) 1 1 [.int .i64 (-1000)] rfl rfl (fun h=>(by cases h)) (fun j u hj=>⟨_,rfl,(by rw [Addr.add_lit,Nat.zero_add,(Blk.new wSc #[.int .i64 (-1000)] 3).cell]; simpa using hj)⟩) (by intro u hu; simp at hu; subst hu; rfl) (by unfold maxLen; omega) (by omega) (by simp; omega) ?_; intro vQ wQa hownQ hgQ hatQ; have tkQ:TK 3 wSc wQa:=TK.of_grown ((Below.refl _ _).alloc (Nat.le_refl _) _) hgQ (fun g hg=>.inl (row_type RQ.out hg)); have bbQ:Below w.heap.size w wQa:=(ST.out.b.alloc hwz _).grown hgQ (by simp; omega) (fun g hg=>(ownsRow_block RQ.out hg).1); have stQ:=hid (ST.out.tk tkQ (by decide) bbQ); have NRM:=hid (tkQ.row RM.out (by decide)); have NRS_:=hid (tkQ.row RS_.out (by decide)); have NRT:=hid (tkQ.row RT.out (by decide)); have NC:=hid (RC.out.same (fun g hg=>tkQ g _ hg (by decide))); obtain ⟨aQ,kQ,rfl,_,_⟩:=owns_cells hownQ; have NW:=hid hownQ; have yQ:=stQ.out.c.cell 5; have zQ:=stQ.out.c.frozen 5; simp at yQ; clear hownQ hgQ hatQ tkQ bbQ)
 clear cQ RM RS_ RQ RT RC ST hwz
 have tks:=TK.of_set stQ.out.tc (j:=5) (.slice aQ (S.queues.length + 1) kQ)
 have ST:=hid (stQ.out.set 5 (.slice aQ (S.queues.length + 1) kQ) rfl)
 have RM:=hid (tks.row NRM.out (by decide))
 have RS_:=hid (tks.row NRS_.out (by decide))
 have RT:=hid (tks.row NRT.out (by decide))
 have RQ:=hid (tks.row NW.out (by decide))
 have RC:=hid (NC.out.same (fun g hg=>tks g _ hg (by decide)))
 clear tks stQ yQ zQ NW NC NRM NRS_ NRT
 generalize wQa.setCell ⟨cb,5,none⟩ (.slice aQ (S.queues.length + 1) kQ)=wQb at *
 have cQ:=ST.out.c.cell 5
 have zQ:=ST.out.c.frozen 5
 have xQ:=ST.out.x.cell 5
 simp at cQ xQ
 have hcap:S.queues.length + 1<=kQ:=by
  rcases RQ.out.2 with ⟨e,_⟩ | ⟨g',cap,cur',e,_,_,h4,h5,_⟩
  ·cases e
  ·cases e
   exact h4
 have hcapI:(S.queues.length:Int)<=(kQ:Int):=by omega
 have hsom:∃ gM,aQ=some ⟨gM,0,none⟩:=by
  rcases RQ.out.2 with ⟨e,_⟩ | ⟨g',cap,cur',e,_,_,h4,h5,_⟩
  ·cases e
  ·cases e
   exact ⟨_,rfl⟩
 obtain ⟨gQ,rfl⟩:=hsom
 go_upto_region 8 with fail
 have tks:=TK.of_set ST.out.tc (j:=5) (.slice (some ⟨gQ,0,none⟩) S.queues.length kQ)
 have ST:=hid (ST.out.set 5 (.slice (some ⟨gQ,0,none⟩) S.queues.length kQ) rfl)
 have RM:=hid (tks.row RM.out (by decide))
 have RS_:=hid (tks.row RS_.out (by decide))
 have RQ:=hid (tks.row RQ.out (by decide))
 have RT:=hid (tks.row RT.out (by decide))
 have RC:=hid (RC.out.same (fun g hg=>tks g _ hg (by decide)))
 clear tks cQ zQ xQ hcap hcapI
 generalize wQb.setCell ⟨cb,5,none⟩ (.slice (some ⟨gQ,0,none⟩) S.queues.length kQ)=wQc at *
 go_wp2_with fail
 have hwq:=ST.out.b.size
 go_loopw [4] (fun i wr=>∃ (k:Nat) (cs:Nat->Value),k<=S.threads.length/\i=.int .i64 k/\RSt w S #[.int .i64 S.workers,.int .i64 S.start,.slice tv S.threads.length tc,.slice mv S.mutexes.length mc,.slice sv S.sems.length sc,.slice qv S.queues.length qc] cb wr (.slice ta0 S.threads.length tc0) (.slice (some ⟨gM,0,none⟩) S.mutexes.length kM) (.slice (some ⟨gS,0,none⟩) S.sems.length kS) (.slice (some ⟨gQ,0,none⟩) S.queues.length kQ)/\wr.ownsRow w.heap.size 125 2 (.slice (some ⟨gM,0,none⟩) (S.mutexes.length + 1) kM) (S.mutexes.length + 1) (pairCells S.mutexes ++ spare2)/\wr.ownsRow w.heap.size 116 2 (.slice (some ⟨gS,0,none⟩) (S.sems.length + 1) kS) (S.sems.length + 1) (pairCells S.sems ++ spare2)/\wr.ownsRow w.heap.size 3 1 (.slice (some ⟨gQ,0,none⟩) (S.queues.length + 1) kQ) (S.queues.length + 1) (intCells S.queues ++ [.int .i64 (-1000)])/\wr.ownsRow w.heap.size 59 5 (.slice ta0 S.threads.length tc0) S.threads.length (thCells S.threads cs S.threads.length)/\CodesUp w.heap.size wr S k cs) (fun i _=>S.threads.length - (intOf i).toNat)
 case atStart=>exact ⟨0,cs,Nat.zero_le _,rfl,ST.out,RM.out,RS_.out,RQ.out,RT.out,RC.out⟩
 case round =>
  obtain ⟨k,cs,hk,rfl,st,rm,rs,rq,rt,rc⟩:=hrel
  have c2:=st.c.cell 2
  have x2:=st.x.cell 2
  simp at c2 x2
  have hcbl:=st.c.lt
  have hwr:=st.b.size
  have ST:=hid st
  have RM:=hid rm
  have RS_:=hid rs
  have RQ:=hid rq
  have RT:=hid rt
  have RC:=hid rc
  clear st rm rs rq rt rc
  by_cases hlt:k < S.threads.length
  ·have hkI:(k:Int) < (S.threads.length:Int):=by omega
   have fc:=FC.out k hlt
   obtain ⟨va,vc,hcs,_,_⟩:=owns_cells (RC.out.old k hlt (Nat.le_refl _))
   have HCS:=hid hcs
   have hgT:∃ gT,ta0=some ⟨gT,0,none⟩:=by
    rcases RT.out.2 with ⟨e,h0⟩ | ⟨g',cap,cur',e,_,_,h4,h5,_⟩
    ·simp only [Value.slice.injEq] at e
     omega
    ·cases e
     exact ⟨_,rfl⟩
   obtain ⟨gT,rfl⟩:=hgT
   have t4:wr.cell? ⟨gT,k * 5 + 4,none⟩=some (.slice va S.threads[k].code.length vc):=by
    rw [RT.out.cellAt _ (by omega),thCells_at _ _ _ k 4 hlt (by omega),hcs]
    rfl
   have hgTl:gT < wr.heap.size:=(row_type RT.out rfl).lt
   clear hcs
   obtain ⟨code,HCO⟩:∃ x,Hid (S.threads[k].code=x):=⟨_,hid rfl⟩
   rw [HCO.out] at t4 HCS fc
   go_upto_region 12 with fail
   have ROWK:Hid (wr.ownsRow w.heap.size 61 3 (.slice va code.length vc) code.length (instrCells code)):=by
    have:=RC.out.old k hlt (Nat.le_refl _)
    rw [HCS.out,HCO.out] at this
    exact hid this
   have hbA:Below wr.heap.size wr (wr.drew.alloc (.cells #[.int .i64 (-1000),.int .i64 0,.int .i64 0] 61)):=(Below.refl _ _).drew.alloc (Nat.le_refl _) _
   have HBA:=hid hbA
   have ROWD:Hid ((wr.drew.alloc (.cells #[.int .i64 (-1000),.int .i64 0,.int .i64 0] 61)).ownsRow w.heap.size 61 3 (.slice va code.length vc) code.length (instrCells code)):=ownsRow_same ROWK.out fun g hg=>hbA.block g (ownsRow_block ROWK.out hg).2.1
   have ka1:(wr.alloc (.cells #[.int .i64 (-1000),.int .i64 0,.int .i64 0] 61)).cell? ⟨cb,2,none⟩=some (.slice (some ⟨gT,0,none⟩) S.threads.length tc0):=by
    rw [((Below.refl _ _).alloc (Nat.le_refl _) _).cell (p:=⟨cb,2,none⟩) hcbl]; exact c2
   have ka4:(wr.alloc (.cells #[.int .i64 (-1000),.int .i64 0,.int .i64 0] 61)).cell? ⟨gT,k * 5 + 4,none⟩=some (.slice va code.length vc):=by
    rw [((Below.refl _ _).alloc (Nat.le_refl _) _).cell (p:=⟨gT,k * 5 + 4,none⟩) hgTl]; exact t4
   have ka5:(wr.drew.alloc (.cells #[.int .i64 (-1000),.int .i64 0,.int .i64 0] 61)).cell? ⟨gT,k * 5 + 4,none⟩=some (.slice va code.length vc):=ka4
   have HNC:Hid ((Value.slice va code.length vc).ownBlock ≠ some cb):=fun e=>(row_type ROWK.out e).ne ST.out.tc (by decide) rfl
   have HNT:Hid ((Value.slice va code.length vc).ownBlock ≠ some gT):=fun e=>(row_type ROWK.out e).ne (row_type RT.out rfl) (by decide) rfl
   have hct:gT ≠ cb:=fun e=>(row_type RT.out rfl:TypeAt wr gT _).ne ST.out.tc (by decide) e
   have rtD:(wr.drew.alloc (.cells #[.int .i64 (-1000),.int .i64 0,.int .i64 0] 61)).ownsRow w.heap.size 59 5 (.slice (some ⟨gT,0,none⟩) S.threads.length tc0) S.threads.length (thCells S.threads cs S.threads.length):=ownsRow_same RT.out fun g hg=>hbA.block g (ownsRow_block RT.out hg).2.1
   have hfz:=rtD.frozenAt (k * 5 + 4)
   have RTD:=hid rtD
   clear rtD
   clear hbA
   refine wp_region_held_drew (S:=(fun w'=>w'.cell? ⟨cb,2,none⟩=some (.slice (some ⟨gT,0,none⟩) S.threads.length tc0))) (by kernel_rfl) ?_ (fun hHeld=>?_)
   ·exact c2
   (refine wpAnyH_take (i:=0) (v:=?_) rfl (by kernel_rfl) (by kernel_rfl) (by kernel_rfl) (fun _ _ _ h=>h) (Or.inl ⟨by rfl,?_⟩) (by assumption) ?_; rotate_left 1; (intro w hSw; (try dsimp only at hSw); go_simp); (try with_reducible rfl); (try simp only [Act.put,List.setIfInBounds_toArray,List.set_cons_zero,List.set_cons_succ]))
   (refine wpAnyH_take (i:=1) (v:=?_) rfl (by kernel_rfl) (by kernel_rfl) (by kernel_rfl) (fun _ _ _ h=>h) (Or.inl ⟨by rfl,?_⟩) (by assumption) ?_; rotate_left 1; (intro w hSw; (try dsimp only at hSw); go_simp); (try with_reducible rfl); (try simp only [Act.put,List.setIfInBounds_toArray,List.set_cons_zero,List.set_cons_succ]))
   (refine wpAnyH_take (i:=2) (v:=?_) rfl (by kernel_rfl) (by kernel_rfl) (by kernel_rfl) (fun _ _ _ h=>h) (Or.inl ⟨by rfl,?_⟩) (by assumption) ?_; rotate_left 1; (intro w hSw; (try dsimp only at hSw); go_simp); (try with_reducible rfl); (try simp only [Act.put,List.setIfInBounds_toArray,List.set_cons_zero,List.set_cons_succ]))
   (refine wpAnyH_take (i:=3) (v:=?_) rfl (by kernel_rfl) (by kernel_rfl) (by kernel_rfl) (fun _ _ _ h=>h) (Or.inl ⟨by rfl,?_⟩) (by assumption) ?_; rotate_left 1; (intro w hSw; (try dsimp only at hSw); go_simp); (try with_reducible rfl); (try simp only [Act.put,List.setIfInBounds_toArray,List.set_cons_zero,List.set_cons_succ]))
   (refine wpAnyH_take (i:=4) (v:=?_) rfl (by kernel_rfl) (by kernel_rfl) (by kernel_rfl) (fun _ _ _ h=>h) (Or.inl ⟨by rfl,?_⟩) (by assumption) ?_; rotate_left 1; (intro w hSw; (try dsimp only at hSw); go_simp); (try with_reducible rfl); (try simp only [Act.put,List.setIfInBounds_toArray,List.set_cons_zero,List.set_cons_succ]))
   (refine wpAnyH_take (i:=5) (v:=?_) rfl (by kernel_rfl) (by kernel_rfl) (by kernel_rfl) (fun _ _ _ h=>h) (Or.inl ⟨by rfl,?_⟩) (by assumption) ?_; rotate_left 1; (intro w hSw; (try dsimp only at hSw); go_simp); (try with_reducible rfl); (try simp only [Act.put,List.setIfInBounds_toArray,List.set_cons_zero,List.set_cons_succ]))
   (refine wpAnyH_take (i:=6) (v:=?_) rfl (by kernel_rfl) (by kernel_rfl) (by kernel_rfl) (fun _ _ _ h=>h) (Or.inl ⟨by rfl,?_⟩) (by assumption) ?_; rotate_left 1; (intro w hSw; (try dsimp only at hSw); go_simp); (try with_reducible rfl); (try simp only [Act.put,List.setIfInBounds_toArray,List.set_cons_zero,List.set_cons_succ]))
   (refine wpAnyH_take (i:=7) (v:=?_) rfl (by kernel_rfl) (by kernel_rfl) (by kernel_rfl) (fun _ _ _ h=>h) (Or.inl ⟨by rfl,?_⟩) (by assumption) ?_; rotate_left 1; (intro w hSw; (try dsimp only at hSw); go_simp); (try with_reducible rfl); (try simp only [Act.put,List.setIfInBounds_toArray,List.set_cons_zero,List.set_cons_succ]))
   (refine wpAnyH_take (i:=9) (v:=?_) rfl (by kernel_rfl) (by kernel_rfl) (by kernel_rfl) (fun _ _ _ h=>h) (Or.inl ⟨by rfl,?_⟩) (by assumption) ?_; rotate_left 1; (intro w hSw; (try dsimp only at hSw); go_simp); (try with_reducible rfl); (try simp only [Act.put,List.setIfInBounds_toArray,List.set_cons_zero,List.set_cons_succ]))
   refine wpAnyH_ready (rs:=[8,10]) (by kernel_rfl) (by simp) ?_
   refine AllReadyH.cons (i:=8) rfl (fun K hK=>?_) (AllReadyH.cons (i:=10) rfl (fun K hK=>?_) AllReadyH.nil)
   ·go_simp
    refine hK.out _ _ ?_ (fun hHeld=>?_)
    ·exact c2
    clear hK K
    try simp only [Act.put,List.setIfInBounds_toArray,List.set_cons_zero,List.set_cons_succ]
    refine wpAnyH_ready (rs:=[10]) (by kernel_rfl) (by simp) ?_
    refine AllReadyH.cons (i:=10) rfl (fun K hK=>?_) AllReadyH.nil
    go_simp
    refine hK.out _ _ ?_ (fun hHeld=>?_)
    ·exact ka1
    clear hK K
    try simp only [Act.put,List.setIfInBounds_toArray,List.set_cons_zero,List.set_cons_succ]
    refine wpAnyH_ready (rs:=[11]) (by kernel_rfl) (by simp) ?_
    refine AllReadyH.cons (i:=11) rfl (fun K hK=>?_) AllReadyH.nil
    refine step_append_own_at rfl (.tmp 68) (.tmp 70) 57 rfl w.heap.size 61 i4 (.agg #[.int .i64 0,.int .i64 0,.int .i64 0]) 3 24 Tryz.underlying57 HI4.out.1 HI4.out.2.1 HI4.out.2.2.1 HI4.out.2.2.2 rfl (by decide) (.slice va code.length vc) code.length (instrCells code) (by simp [Act.eval]) ROWD.out ⟨wr.heap.size,0,none⟩ 1 1 spare3 (by simp [Act.eval]) rfl (fun j u hj=>(by rw [Addr.add_lit,Nat.zero_add]; exact ((Blk.new wr.drew #[.int .i64 (-1000),.int .i64 0,.int .i64 0] 61).cell j).trans (by simpa [spare3] using hj))) (by intro u hu; simp [spare3] at hu; rcases hu with rfl | rfl <;> rfl) (by unfold maxLen; omega) (by omega) (by simp; omega) ?_; intro v' w5 hown5 hg5 hat5; obtain ⟨tv5,tc5,rfl,_,_⟩:=owns_cells hown5; have z5:w5.frozen? ⟨gT,k * 5 + 4,none⟩=false:=(by rw [World.frozen?_of_block (hg5.block gT (by simp; omega) (fun e=>HNT.out e.symm))]; exact hfz); have y5:w5.cell? ⟨gT,k * 5 + 4,none⟩=some (.slice va code.length vc):=(by rw [World.cell?_of_block (hg5.block gT (by simp; omega) (fun e=>HNT.out e.symm))]; exact ka5); have s5:w5.cell? ⟨cb,2,none⟩=some (.slice (some ⟨gT,0,none⟩) S.threads.length tc0):=(by rw [World.cell?_of_block (hg5.block cb (by simp; omega) (fun e=>HNC.out e.symm))]; exact ka1); have O5:=hid hown5; have G5:=hid hg5; have A5:=hid hat5; clear hown5 hg5 hat5
    refine hK.out _ _ ?_ (fun hHeld=>?_)
    ·exact s5
    clear hK K
    try simp only [Act.put,List.setIfInBounds_toArray,List.set_cons_zero,List.set_cons_succ]
    (refine wpAnyH_take (i:=12) (v:=?_) rfl (by kernel_rfl) (by kernel_rfl) (by kernel_rfl) (fun _ _ _ h=>h) (Or.inl ⟨by rfl,?_⟩) (by assumption) ?_; rotate_left 1; (intro w hSw; (try dsimp only at hSw); go_simp); (try with_reducible rfl); (try simp only [Act.put,List.setIfInBounds_toArray,List.set_cons_zero,List.set_cons_succ]))
    (refine wpAnyH_take (i:=13) (v:=?_) rfl (by kernel_rfl) (by kernel_rfl) (by kernel_rfl) (fun _ _ _ h=>h) (Or.inl ⟨by rfl,?_⟩) (by assumption) ?_; rotate_left 1; (intro w hSw; (try dsimp only at hSw); go_simp); (try with_reducible rfl); (try simp only [Act.put,List.setIfInBounds_toArray,List.set_cons_zero,List.set_cons_succ]))
    refine wpAnyH_ready (rs:=[14]) (by kernel_rfl) (by simp) ?_
    refine AllReadyH.cons (i:=14) rfl (fun K hK=>?_) AllReadyH.nil
    go_simp
    refine hK.out _ _ ?_ (fun hHeld=>?_)
    ·exact (World.cell?_of_block (Below.heap_setCell _ _ _ _ hct.symm)).trans s5
    clear hK K
    try simp only [Act.put,List.setIfInBounds_toArray,List.set_cons_zero,List.set_cons_succ]
    refine wpAnyH_done (by kernel_rfl) ?_ _
    have hsom:∃ g5,tv5=some ⟨g5,0,none⟩:=by
     rcases O5.out.2 with ⟨e,_⟩ | ⟨g',cap,cur',e,_,_,h4,h5,_⟩
     ·cases e
     ·cases e
      exact ⟨_,rfl⟩
    obtain ⟨g5,rfl⟩:=hsom
    have hcap:code.length + 1<=tc5:=by
     rcases O5.out.2 with ⟨e,_⟩ | ⟨g',cap,cur',e,_,_,h4,h5,_⟩
     ·cases e
     ·cases e
      exact h4
    have hcapI:(code.length:Int)<=(tc5:Int):=by omega
    have tk5:TK 61 wr w5:=TK.of_grown HBA.out G5.out (fun g hg=>.inl (row_type ROWK.out hg))
    have bb5:Below w.heap.size w w5:=ST.out.b.trans (((HBA.out.mono hwr)).grown G5.out (by simp; omega) (fun g hg=>(ownsRow_block ROWK.out hg).1))
    have st5:=ST.out.tk tk5 (by decide) bb5
    have rt5:=tk5.row RT.out (by decide)
    have tT5:TypeAt w5 gT 59:=row_type rt5 rfl
    have rc5:CodesUp w.heap.size w5 S (k + 1) (fun i=>if i=k then .slice (some ⟨g5,0,none⟩) S.threads[k].code.length tc5 else cs i):=by
     refine RC.out.step hlt HBA.out (by rw [HCS.out]; exact G5.out) ?_ ?_
     ·rw [HCO.out]
      exact O5.out
     ·rw [HCO.out,HCS.out]
      exact A5.out
    have tk6:TK 59 w5 (w5.setCell ⟨gT,k * 5 + 4,none⟩ (.slice (some ⟨g5,0,none⟩) (code.length + 1) tc5)):=TK.of_set tT5 _
    have st6:=st5.tk tk6 (by decide) (bb5.setCell (show w.heap.size<=gT from (ownsRow_block rt5 rfl).1) _)
    have rt6:=(rt5.stored (k * 5 + 4) (.slice (some ⟨g5,0,none⟩) (code.length + 1) tc5)).1
    have ST6:=hid st6
    have RT6:=hid rt6
    have RC6:=hid (rc5.same (fun g hg=>tk6 g _ hg (by decide)))
    have RM6:=hid (tk6.row (tk5.row RM.out (by decide)) (by decide))
    have RS6:=hid (tk6.row (tk5.row RS_.out (by decide)) (by decide))
    have RQ6:=hid (tk6.row (tk5.row RQ.out (by decide)) (by decide))
    have c2:=st6.c.cell 2
    simp at c2
    have t4:(w5.setCell ⟨gT,k * 5 + 4,none⟩ (.slice (some ⟨g5,0,none⟩) (code.length + 1) tc5)).cell? ⟨gT,k * 5 + 4,none⟩=some (.slice (some ⟨g5,0,none⟩) (code.length + 1) tc5):=by
     rw [rt6.cellAt _ (by omega),List.getElem?_set,if_pos rfl,if_pos (by rw [thCells_length]; omega)]
    have f4:=rt6.frozenAt (k * 5 + 4)
    clear tk5 bb5 st5 rt5 tT5 rc5 tk6 st6 rt6 ST RM RS_ RQ RT RC ROWK ROWD HBA O5 G5 A5 z5 y5 s5 ka1 ka4 ka5 RTD hfz
    generalize w5.setCell ⟨gT,k * 5 + 4,none⟩ (.slice (some ⟨g5,0,none⟩) (code.length + 1) tc5)=w6 at *
    go_upto_region 13 with fail
    go_region
    have tT6:TypeAt w6 gT 59:=row_type RT6.out rfl
    have tk7:TK 59 w6 (w6.setCell ⟨gT,k * 5 + 4,none⟩ (.slice (some ⟨g5,0,none⟩) code.length tc5)).drew:=TK.of_set tT6 _
    have b7:Below w.heap.size w (w6.setCell ⟨gT,k * 5 + 4,none⟩ (.slice (some ⟨g5,0,none⟩) code.length tc5)).drew:=(ST6.out.b.setCell (show w.heap.size<=gT from (ownsRow_block RT6.out rfl).1) _).drew
    have ST7:=hid (ST6.out.tk tk7 (by decide) b7)
    have RM7:=hid (tk7.row RM6.out (by decide))
    have RS7:=hid (tk7.row RS6.out (by decide))
    have RQ7:=hid (tk7.row RQ6.out (by decide))
    have RC7:=hid (RC6.out.same (fun g hg=>tk7 g _ hg (by decide)))
    have RT7:Hid ((w6.setCell ⟨gT,k * 5 + 4,none⟩ (.slice (some ⟨g5,0,none⟩) code.length tc5)).drew.ownsRow w.heap.size 59 5 (.slice (some ⟨gT,0,none⟩) S.threads.length tc0) S.threads.length (thCells S.threads (fun i=>if i=k then .slice (some ⟨g5,0,none⟩) S.threads[k].code.length tc5 else cs i) S.threads.length)):=by
     have h1:=(RT6.out.stored (k * 5 + 4) (.slice (some ⟨g5,0,none⟩) code.length tc5)).1
     rw [List.set_set,thCells_set _ _ _ k hlt] at h1
     rw [HCO.out]
     exact hid (ownsRow_same h1 fun _ _=>rfl)
    clear tk7 b7 tT6 RM6 RS6 RQ6 RC6 RT6 ST6 c2 t4 f4
    generalize (w6.setCell ⟨gT,k * 5 + 4,none⟩ (.slice (some ⟨g5,0,none⟩) code.length tc5)).drew=w7 at *
    go_wp2
    go_roundw
    case rel=>exact ⟨k + 1,_,by omega,by go_num,ST7.out,RM7.out,RS7.out,RQ7.out,RT7.out,RC7.out⟩
    case measure=>simp [intOf]; omega
   ·go_simp
    refine hK.out _ _ ?_ (fun hHeld=>?_)
    ·exact ka1
    clear hK K
    try simp only [Act.put,List.setIfInBounds_toArray,List.set_cons_zero,List.set_cons_succ]
    refine wpAnyH_ready (rs:=[8]) (by kernel_rfl) (by simp) ?_
    refine AllReadyH.cons (i:=8) rfl (fun K hK=>?_) AllReadyH.nil
    go_simp
    refine hK.out _ _ ?_ (fun hHeld=>?_)
    ·exact ka1
    clear hK K
    try simp only [Act.put,List.setIfInBounds_toArray,List.set_cons_zero,List.set_cons_succ]
    refine wpAnyH_ready (rs:=[11]) (by kernel_rfl) (by simp) ?_
    refine AllReadyH.cons (i:=11) rfl (fun K hK=>?_) AllReadyH.nil
    refine step_append_own_at rfl (.tmp 68) (.tmp 70) 57 rfl w.heap.size 61 i4 (.agg #[.int .i64 0,.int .i64 0,.int .i64 0]) 3 24 Tryz.underlying57 HI4.out.1 HI4.out.2.1 HI4.out.2.2.1 HI4.out.2.2.2 rfl (by decide) (.slice va code.length vc) code.length (instrCells code) (by simp [Act.eval]) ROWD.out ⟨wr.heap.size,0,none⟩ 1 1 spare3 (by simp [Act.eval]) rfl (fun j u hj=>(by rw [Addr.add_lit,Nat.zero_add]; exact ((Blk.new wr.drew #[.int .i64 (-1000),.int .i64 0,.int .i64 0] 61).cell j).trans (by simpa [spare3] using hj))) (by intro u hu; simp [spare3] at hu; rcases hu with rfl | rfl <;> rfl) (by unfold maxLen; omega) (by omega) (by simp; omega) ?_; intro v' w5 hown5 hg5 hat5; obtain ⟨tv5,tc5,rfl,_,_⟩:=owns_cells hown5; have z5:w5.frozen? ⟨gT,k * 5 + 4,none⟩=false:=(by rw [World.frozen?_of_block (hg5.block gT (by simp; omega) (fun e=>HNT.out e.symm))]; exact hfz); have y5:w5.cell? ⟨gT,k * 5 + 4,none⟩=some (.slice va code.length vc):=(by rw [World.cell?_of_block (hg5.block gT (by simp; omega) (fun e=>HNT.out e.symm))]; exact ka5); have s5:w5.cell? ⟨cb,2,none⟩=some (.slice (some ⟨gT,0,none⟩) S.threads.length tc0):=(by rw [World.cell?_of_block (hg5.block cb (by simp; omega) (fun e=>HNC.out e.symm))]; exact ka1); have O5:=hid hown5; have G5:=hid hg5; have A5:=hid hat5; clear hown5 hg5 hat5
    refine hK.out _ _ ?_ (fun hHeld=>?_)
    ·exact s5
    clear hK K
    try simp only [Act.put,List.setIfInBounds_toArray,List.set_cons_zero,List.set_cons_succ]
    (refine wpAnyH_take (i:=12) (v:=?_) rfl (by kernel_rfl) (by kernel_rfl) (by kernel_rfl) (fun _ _ _ h=>h) (Or.inl ⟨by rfl,?_⟩) (by assumption) ?_; rotate_left 1; (intro w hSw; (try dsimp only at hSw); go_simp); (try with_reducible rfl); (try simp only [Act.put,List.setIfInBounds_toArray,List.set_cons_zero,List.set_cons_succ]))
    (refine wpAnyH_take (i:=13) (v:=?_) rfl (by kernel_rfl) (by kernel_rfl) (by kernel_rfl) (fun _ _ _ h=>h) (Or.inl ⟨by rfl,?_⟩) (by assumption) ?_; rotate_left 1; (intro w hSw; (try dsimp only at hSw); go_simp); (try with_reducible rfl); (try simp only [Act.put,List.setIfInBounds_toArray,List.set_cons_zero,List.set_cons_succ]))
    refine wpAnyH_ready (rs:=[14]) (by kernel_rfl) (by simp) ?_
    refine AllReadyH.cons (i:=14) rfl (fun K hK=>?_) AllReadyH.nil
    go_simp
    refine hK.out _ _ ?_ (fun hHeld=>?_)
    ·exact (World.cell?_of_block (Below.heap_setCell _ _ _ _ hct.symm)).trans s5
    clear hK K
    try simp only [Act.put,List.setIfInBounds_toArray,List.set_cons_zero,List.set_cons_succ]
    refine wpAnyH_done (by kernel_rfl) ?_ _
    have hsom:∃ g5,tv5=some ⟨g5,0,none⟩:=by
     rcases O5.out.2 with ⟨e,_⟩ | ⟨g',cap,cur',e,_,_,h4,h5,_⟩
     ·cases e
     ·cases e
      exact ⟨_,rfl⟩
    obtain ⟨g5,rfl⟩:=hsom
    have hcap:code.length + 1<=tc5:=by
     rcases O5.out.2 with ⟨e,_⟩ | ⟨g',cap,cur',e,_,_,h4,h5,_⟩
     ·cases e
     ·cases e
      exact h4
    have hcapI:(code.length:Int)<=(tc5:Int):=by omega
    have tk5:TK 61 wr w5:=TK.of_grown HBA.out G5.out (fun g hg=>.inl (row_type ROWK.out hg))
    have bb5:Below w.heap.size w w5:=ST.out.b.trans (((HBA.out.mono hwr)).grown G5.out (by simp; omega) (fun g hg=>(ownsRow_block ROWK.out hg).1))
    have st5:=ST.out.tk tk5 (by decide) bb5
    have rt5:=tk5.row RT.out (by decide)
    have tT5:TypeAt w5 gT 59:=row_type rt5 rfl
    have rc5:CodesUp w.heap.size w5 S (k + 1) (fun i=>if i=k then .slice (some ⟨g5,0,none⟩) S.threads[k].code.length tc5 else cs i):=by
     refine RC.out.step hlt HBA.out (by rw [HCS.out]; exact G5.out) ?_ ?_
     ·rw [HCO.out]
      exact O5.out
     ·rw [HCO.out,HCS.out]
      exact A5.out
    have tk6:TK 59 w5 (w5.setCell ⟨gT,k * 5 + 4,none⟩ (.slice (some ⟨g5,0,none⟩) (code.length + 1) tc5)):=TK.of_set tT5 _
    have st6:=st5.tk tk6 (by decide) (bb5.setCell (show w.heap.size<=gT from (ownsRow_block rt5 rfl).1) _)
    have rt6:=(rt5.stored (k * 5 + 4) (.slice (some ⟨g5,0,none⟩) (code.length + 1) tc5)).1
    have ST6:=hid st6
    have RT6:=hid rt6
    have RC6:=hid (rc5.same (fun g hg=>tk6 g _ hg (by decide)))
    have RM6:=hid (tk6.row (tk5.row RM.out (by decide)) (by decide))
    have RS6:=hid (tk6.row (tk5.row RS_.out (by decide)) (by decide))
    have RQ6:=hid (tk6.row (tk5.row RQ.out (by decide)) (by decide))
    have c2:=st6.c.cell 2
    simp at c2
    have t4:(w5.setCell ⟨gT,k * 5 + 4,none⟩ (.slice (some ⟨g5,0,none⟩) (code.length + 1) tc5)).cell? ⟨gT,k * 5 + 4,none⟩=some (.slice (some ⟨g5,0,none⟩) (code.length + 1) tc5):=by
     rw [rt6.cellAt _ (by omega),List.getElem?_set,if_pos rfl,if_pos (by rw [thCells_length]; omega)]
    have f4:=rt6.frozenAt (k * 5 + 4)
    clear tk5 bb5 st5 rt5 tT5 rc5 tk6 st6 rt6 ST RM RS_ RQ RT RC ROWK ROWD HBA O5 G5 A5 z5 y5 s5 ka1 ka4 ka5 RTD hfz
    generalize w5.setCell ⟨gT,k * 5 + 4,none⟩ (.slice (some ⟨g5,0,none⟩) (code.length + 1) tc5)=w6 at *
    go_upto_region 13 with fail
    go_region
    have tT6:TypeAt w6 gT 59:=row_type RT6.out rfl
    have tk7:TK 59 w6 (w6.setCell ⟨gT,k * 5 + 4,none⟩ (.slice (some ⟨g5,0,none⟩) code.length tc5)).drew:=TK.of_set tT6 _
    have b7:Below w.heap.size w (w6.setCell ⟨gT,k * 5 + 4,none⟩ (.slice (some ⟨g5,0,none⟩) code.length tc5)).drew:=(ST6.out.b.setCell (show w.heap.size<=gT from (ownsRow_block RT6.out rfl).1) _).drew
    have ST7:=hid (ST6.out.tk tk7 (by decide) b7)
    have RM7:=hid (tk7.row RM6.out (by decide))
    have RS7:=hid (tk7.row RS6.out (by decide))
    have RQ7:=hid (tk7.row RQ6.out (by decide))
    have RC7:=hid (RC6.out.same (fun g hg=>tk7 g _ hg (by decide)))
    have RT7:Hid ((w6.setCell ⟨gT,k * 5 + 4,none⟩ (.slice (some ⟨g5,0,none⟩) code.length tc5)).drew.ownsRow w.heap.size 59 5 (.slice (some ⟨gT,0,none⟩) S.threads.length tc0) S.threads.length (thCells S.threads (fun i=>if i=k then .slice (some ⟨g5,0,none⟩) S.threads[k].code.length tc5 else cs i) S.threads.length)):=by
     have h1:=(RT6.out.stored (k * 5 + 4) (.slice (some ⟨g5,0,none⟩) code.length tc5)).1
     rw [List.set_set,thCells_set _ _ _ k hlt] at h1
     rw [HCO.out]
     exact hid (ownsRow_same h1 fun _ _=>rfl)
    clear tk7 b7 tT6 RM6 RS6 RQ6 RC6 RT6 ST6 c2 t4 f4
    generalize (w6.setCell ⟨gT,k * 5 + 4,none⟩ (.slice (some ⟨g5,0,none⟩) code.length tc5)).drew=w7 at *
    go_wp2
    go_roundw
    case rel=>exact ⟨k + 1,_,by omega,by go_num,ST7.out,RM7.out,RS7.out,RQ7.out,RT7.out,RC7.out⟩
    case measure=>simp [intOf]; omega
  ·have e:k=S.threads.length:=by omega
   subst e
   go_upto_region 15 with (at_builtin; refine wpList_append_src_at rfl (.tmp 88) (.tmp 90) 22 rfl w.heap.size 59 i5 (.agg #[.int .i64 0,.int .i64 0,.int .i64 0,.int .i64 0,.slice none 0 0]) 5 56 Tryz.underlying22 HI5.out.1 HI5.out.2.1 HI5.out.2.2.1 HI5.out.2.2.2 rfl (by decide) (.slice ta0 S.threads.length tc0) S.threads.length (thCells S.threads cs S.threads.length) rfl (RT.out.alloc _) (some ⟨wr.heap.size,0,none⟩) 1 1 spare5 rfl rfl (fun h=>(by cases h)) (fun j u hj=>⟨_,rfl,(by rw [Addr.add_lit,Nat.zero_add,(Blk.new wr #[.int .i64 (-1000),.int .i64 0,.int .i64 0,.int .i64 0,.slice none 0 0] 59).cell]; simpa [spare5] using hj)⟩) (by intro u hu; simp [spare5] at hu; rcases hu with rfl | rfl | rfl <;> rfl) (by unfold maxLen; omega) (by omega) (by simp; omega) ?_; intro vT wTa hownT hgT hatT; have tkT:TK 59 wr wTa:=TK.of_grown ((Below.refl _ _).alloc (Nat.le_refl _) _) hgT (fun g hg=>.inl (row_type RT.out hg)); have bbT:Below w.heap.size w wTa:=(ST.out.b.alloc hwr _).grown hgT (by simp; omega) (fun g hg=>(ownsRow_block RT.out hg).1); have stT:=hid (ST.out.tk tkT (by decide) bbT); have NM:=hid (tkT.row RM.out (by decide)); have NS:=hid (tkT.row RS_.out (by decide)); have NQ:=hid (tkT.row RQ.out (by decide)); have NC:=hid (RC.out.same (fun g hg=>tkT g _ hg (by decide))); obtain ⟨aT,kT,rfl,_,_⟩:=owns_cells hownT; have NW:=hid hownT; have yT:=stT.out.c.cell 2; have zT:=stT.out.c.frozen 2; simp at yT; clear hownT hgT hatT tkT bbT)
   clear c2 x2 RM RS_ RQ RT RC ST
   have hsom:∃ gT,aT=some ⟨gT,0,none⟩:=by
    rcases NW.out.2 with ⟨e,_⟩ | ⟨g',cap,cur',e,_,_,h4,h5,_⟩
    ·cases e
    ·cases e
     exact ⟨_,rfl⟩
   obtain ⟨gT,rfl⟩:=hsom
   have tks:=TK.of_set stT.out.tc (j:=2) (.slice (some ⟨gT,0,none⟩) (S.threads.length + 1) kT)
   have ST:=hid (stT.out.set 2 (.slice (some ⟨gT,0,none⟩) (S.threads.length + 1) kT) rfl)
   have RM:=hid (tks.row NM.out (by decide))
   have RS_:=hid (tks.row NS.out (by decide))
   have RQ:=hid (tks.row NQ.out (by decide))
   have RT:=hid (tks.row NW.out (by decide))
   have RC:=hid (NC.out.same (fun g hg=>tks g _ hg (by decide)))
   clear tks stT yT zT NW NC NM NS NQ
   generalize wTa.setCell ⟨cb,2,none⟩ (.slice (some ⟨gT,0,none⟩) (S.threads.length + 1) kT)=wTb at *
   have cT:=ST.out.c.cell 2
   have zT:=ST.out.c.frozen 2
   have xT:=ST.out.x.cell 2
   simp at cT xT
   have hcap:S.threads.length + 1<=kT:=by
    rcases RT.out.2 with ⟨e,_⟩ | ⟨g',cap,cur',e,_,_,h4,h5,_⟩
    ·cases e
    ·cases e
     exact h4
   have hcapI:(S.threads.length:Int)<=(kT:Int):=by omega
   go_upto_region 16 with fail
   have tks:=TK.of_set ST.out.tc (j:=2) (.slice (some ⟨gT,0,none⟩) S.threads.length kT)
   have ST2:=hid (ST.out.set 2 (.slice (some ⟨gT,0,none⟩) S.threads.length kT) rfl)
   have RM2:=hid (tks.row RM.out (by decide))
   have RS2:=hid (tks.row RS_.out (by decide))
   have RQ2:=hid (tks.row RQ.out (by decide))
   have RT2:=hid (tks.row RT.out (by decide))
   have RC2:=hid (RC.out.same (fun g hg=>tks g _ hg (by decide)))
   clear tks cT zT xT hcap hcapI ST RM RS_ RQ RT RC
   generalize wTb.setCell ⟨cb,2,none⟩ (.slice (some ⟨gT,0,none⟩) S.threads.length kT)=wZ at *
   have m0:=ST2.out.c.cell 0
   have m1:=ST2.out.c.cell 1
   have m2:=ST2.out.c.cell 2
   have m3:=ST2.out.c.cell 3
   have m4:=ST2.out.c.cell 4
   have m5:=ST2.out.c.cell 5
   have r0:=ST2.out.y.cell 0
   have r1:=ST2.out.y.cell 1
   have r2:=ST2.out.y.cell 2
   have r3:=ST2.out.y.cell 3
   have r4:=ST2.out.y.cell 4
   have r5:=ST2.out.y.cell 5
   simp at m0 m1 m2 m3 m4 m5 r0 r1 r2 r3 r4 r5
   have f0:=ST2.out.y.frozen 0
   have f1:=ST2.out.y.frozen 1
   have f2:=ST2.out.y.frozen 2
   have f3:=ST2.out.y.frozen 3
   have f4:=ST2.out.y.frozen 4
   have f5:=ST2.out.y.frozen 5
   have hyl:=ST2.out.y.lt
   go_wp2
   have hcsv:∀ i (hi:i < S.threads.length),∃ a c,cs i=.slice a S.threads[i].code.length c/\wZ.ownsRow w.heap.size 61 3 (.slice a (S.threads[i].code.length + 1) c) (S.threads[i].code.length + 1) (instrCells S.threads[i].code ++ spare3):=fun i hi=>RC2.out.up i hi hi
   let ca:Nat->Option Addr:=fun i=>match cs i with | .slice a _ _=>a | _=>none
   let cc:Nat->Nat:=fun i=>match cs i with | .slice _ _ c=>c | _=>0
   have hca:∀ i (hi:i < S.threads.length),cs i=.slice (ca i) S.threads[i].code.length (cc i):=fun i hi=>by
    obtain ⟨a,c,e,_⟩:=hcsv i hi
    show cs i=.slice (match cs i with | .slice a _ _=>a | _=>none) _ (match cs i with | .slice _ _ c=>c | _=>0)
    rw [e]
   refine bodyPost_ret (v:=.agg #[.int .i64 S.workers,.int .i64 S.start,.slice (some ⟨gT,0,none⟩) S.threads.length kT,.slice (some ⟨gM,0,none⟩) S.mutexes.length kM,.slice (some ⟨gS,0,none⟩) S.sems.length kS,.slice (some ⟨gQ,0,none⟩) S.queues.length kQ]) ?_ rfl ⟨_,_,_,_,_,_,_,_,ca,cc,rfl,?_,?_⟩
   ·simp [results,Tryz.results34,go_sem,r0,r1,r2,r3,r4,r5]
   ·generalize hw9:(((((wZ.setCell ⟨w.heap.size + 1,0,none⟩ (.int .i64 S.workers)).setCell ⟨w.heap.size + 1,1,none⟩ (.int .i64 S.start)).setCell ⟨w.heap.size + 1,2,none⟩ (.slice (some ⟨gT,0,none⟩) S.threads.length kT)).setCell ⟨w.heap.size + 1,3,none⟩ (.slice (some ⟨gM,0,none⟩) S.mutexes.length kM)).setCell ⟨w.heap.size + 1,4,none⟩ (.slice (some ⟨gS,0,none⟩) S.sems.length kS)).setCell ⟨w.heap.size + 1,5,none⟩ (.slice (some ⟨gQ,0,none⟩) S.queues.length kQ)=w9
    have tk9:TK 27 wZ w9:=fun b e hb he=>by
     rw [<- hw9]
     exact six_same _ _ _ _ _ _ _ _ _ (fun x=>hb.ne (⟨_,ST2.out.y⟩:TypeAt wZ (w.heap.size + 1) 27) he x)
    refine ⟨?_,fun i hi=>?_,fun i j hi hj hne e=>?_,tk9.row RM2.out (by decide),tk9.row RS2.out (by decide),tk9.row RQ2.out (by decide)⟩
    ·have h1:=tk9.row RT2.out (by decide)
     have h2:thCells S.threads (fun i=>.slice (ca i) (S.threads.getD i P3.none0).code.length (cc i)) S.threads.length=thCells S.threads cs S.threads.length:=thCells_congr _ _ _ _ (fun i hi=>by
      have e:S.threads.getD i P3.none0=S.threads[i]:=by simp [List.getD,hi]
      rw [e]
      exact (hca i hi).symm)
     rw [h2]
     exact h1
    ·obtain ⟨a,c,e,hr⟩:=hcsv i hi
     have e2:=hca i hi
     rw [e] at e2
     cases e2
     exact tk9.row hr (by decide)
    ·obtain ⟨a,c,e1,hr⟩:=hcsv i hi
     have h1:=hca i hi
     have h2:=hca j hj
     have hs:∃ g,(cs i).ownBlock=some g:=by
      rcases hr.2 with ⟨e',_⟩ | ⟨g',cap,cur',e',_⟩
      ·cases e'
      ·cases e'
       rw [e1]
       exact ⟨_,rfl⟩
     obtain ⟨g,hg⟩:=hs
     refine RC2.out.d i j g hi hj hne hg ?_
     rw [h2,<- e]
     rw [h1] at hg
     rw [slice_own _ _ S.threads[i].code.length _ (cc i)]
     exact hg
   ·exact six_below ST2.out.b _ (by omega) _ _ _ _ _ _
end Go.Proofs.YtbkfildnijjioaaGreat
