import Derived.Test.YtbkfildnijjioaaGreatA16
import Derived.Test.YtbkfildnijjioaaGreatA24
import Derived.ProofKit
import Derived.SizedLaws
import Derived.Deep.Slices
import Derived.Deep.Fields
import Derived.Deep.Strs
import Derived.Test.YtbkfildnijjioaaGreatA28
import Derived.Test.YtbkfildnijjioaaGreatRows
import Derived.JoinedCond
import Derived.Deep.CondSized
import Derived.Test.YtbkfildnijjioaaGreatA13
import Derived.Test.YtbkfildnijjioaaGreatA11
import Derived.Test.YtbkfildnijjioaaGreatA14
namespace Go.Proofs.YtbkfildnijjioaaGreat
open Go.ChangeShapes Go.WideShapes Go.ChangeAt Go.RowKit Go.Deep
section
variable {H:Type} {enc:TypeId × Value->H} {w:World} {held:Bool}
def Light (d:DataW H) (t:TypeId):Prop:=∀ n ∈ d.weights Tryz.prog t,n<=reachBytes
theorem open_list {α:Type} (d0:α) {t e:TypeId} {size bytes:Nat} (ht:Tryz.prog.underlying t=some (.slice e)) (hc:Tryz.prog.cellsOf e=size) (hby:Tryz.prog.bytesOf e=bytes) (hpos:0 < size)
  {R:α->List Value->DataW H->Prop} (hR:∀ n cs x,DataW.trod enc Tryz.prog w 0 (fun _=>true) held n e cs=some x->∃ a,R a cs x.1)
  {fuel:Nat} {cs:List Value} {x:DataW H × List MemPlace} (h:DataW.trod enc Tryz.prog w 0 (fun _=>true) held fuel t cs=some x) :
  ∃ (ao:Option Addr) (cap:Nat) (l:List α),cs=[.slice ao l.length cap]/\(ao=none->cap=0) /\
   (∀ i (hi:i < l.length),∃ b o cs' d,ao=some ⟨b,o,none⟩/\b < w.heap.size/\cs'.length=size/\(∀ j,j < size->w.cell? ⟨b,o + i * size + j,none⟩=cs'[j]?)/\R l[i] cs' d/\(Light x.1 t->Light d e)) /\
   (Light x.1 t->l.length * bytes<=reachBytes):=by
 subst hc; subst hby
 rcases open_slice ht h with ⟨rfl,rfl⟩ | ⟨a,len,cap,m,n,D,Pl,rfl,_,hl,_,hm,rfl,hel⟩
 ·exact ⟨none,0,[],rfl,fun _=>rfl,fun i hi=>absurd hi (Nat.not_lt_zero _),fun _=>by simp⟩
 ·simp only [if_true] at hm
  subst hm
  have hA:∀ i,i < len->∃ y:α,∀ cs',DataW.trod enc Tryz.prog w 0 (fun _=>true) held n e cs'=some (D i,Pl i)->w.cells? 0 (a.add (i * Tryz.prog.cellsOf e)) (Tryz.prog.cellsOf e)=some cs'->R y cs' (D i):=by
   intro i hi
   obtain ⟨cs',h1,h2⟩:=hel i (by omega)
   obtain ⟨y,hy⟩:=hR n cs' _ h2
   refine ⟨y,fun cs'' _ h4=>?_⟩
   rw [h1] at h4
   cases h4
   exact hy
  haveI:Inhabited α:=⟨d0⟩
  obtain ⟨A,hA⟩:=choose_lt hA
  refine ⟨some a,m,(List.range len).map A,by simp,fun hh=>(by cases hh),fun i hi=>?_,fun hw=>?_⟩
  ·have hi':i < len:=by simpa using hi
   obtain ⟨cs',h1,h2⟩:=hel i (by omega)
   obtain ⟨_,hlen,hcell⟩:=World.cells?_some h1
   have h0:=hcell 0 hpos
   rw [add_add,Nat.add_zero,List.getElem?_eq_getElem (by omega)] at h0
   have hspot:(a.add (i * Tryz.prog.cellsOf e)).spot=none:=World.cell?_spot h0
   have hlt:=World.block_lt_of_cell? _ _ h0
   obtain ⟨b,o,spot⟩:=a
   have hsp:spot=none:=by
    by_cases hz:i * Tryz.prog.cellsOf e=0
    ·rw [hz,Addr.add_zero'] at h0
     exact World.cell?_spot h0
    ·
     obtain ⟨cs0,g1,_⟩:=hel 0 (by omega)
     obtain ⟨_,gl,gc⟩:=World.cells?_some g1
     have g0:=gc 0 hpos
     rw [Nat.zero_mul,Addr.add_zero',Addr.add_zero',List.getElem?_eq_getElem (by omega)] at g0
     exact World.cell?_spot g0
   subst hsp
   refine ⟨b,o,cs',D i,rfl,by simpa [Addr.add_lit] using hlt,hlen,fun j hj=>?_,?_,fun hw=>?_⟩
   ·have:=hcell j hj
    rw [Addr.add_lit,Addr.add_lit] at this
    exact this
   ·have:=hA i hi' cs' h2 h1
    simpa using this
   ·intro q hq
    refine hw q ?_
    simp only [DataW.weights,ht]
    refine List.mem_cons_of_mem _ (List.mem_append_left _ ?_)
    have mem_all:∀ (L:List (DataW H)) (d:DataW H),d ∈ L->∀ q ∈ d.weights Tryz.prog e,q ∈ DataW.weightsAll Tryz.prog e L:=by
     intro L
     induction L with
     | nil=>intro d hd; cases hd
     | cons d0 L ih =>
      intro d hd q hq
      simp only [DataW.weightsAll,List.mem_append]
      rcases List.mem_cons.1 hd with rfl | hd
      ·exact Or.inl hq
      ·exact Or.inr (ih d hd q hq)
    exact mem_all _ (D i) (List.mem_map.2 ⟨i,List.mem_range.2 hi',rfl⟩) q hq
  ·have:=hw ((((List.range len).map D).length + ((List.range (m - len)).map fun j=>D (len + j)).length) * Tryz.prog.bytesOf e) (by simp [DataW.weights,ht])
   simp only [List.length_map,List.length_range] at this ⊢
   exact Nat.le_trans (Nat.mul_le_mul_right _ (Nat.le_add_right _ _)) this
theorem c3:Tryz.prog.cellsOf 3=1:=by kernel_rfl
theorem cMutex:Tryz.prog.cellsOf 125=2:=by kernel_rfl
theorem cSem:Tryz.prog.cellsOf 116=2:=by kernel_rfl
theorem cInstr:Tryz.prog.cellsOf 61=3:=by kernel_rfl
theorem cThread:Tryz.prog.cellsOf 59=5:=by kernel_rfl
theorem cCode:Tryz.prog.cellsOf 57=1:=by kernel_rfl
theorem cSet:Tryz.prog.cellsOf 27=6:=by kernel_rfl
theorem cThreads:Tryz.prog.cellsOf 22=1:=by kernel_rfl
theorem cMutexes:Tryz.prog.cellsOf 23=1:=by kernel_rfl
theorem cSems:Tryz.prog.cellsOf 24=1:=by kernel_rfl
theorem cInts:Tryz.prog.cellsOf 25=1:=by kernel_rfl
theorem b3:Tryz.prog.bytesOf 3=8:=by kernel_rfl
theorem bMutex:Tryz.prog.bytesOf 125=16:=by kernel_rfl
theorem bSem:Tryz.prog.bytesOf 116=16:=by kernel_rfl
theorem bInstr:Tryz.prog.bytesOf 61=24:=by kernel_rfl
theorem bThread:Tryz.prog.bytesOf 59=56:=by kernel_rfl
theorem list2 {l:List Value} (h:l.length=2):∃ a b,l=[a,b]:=by
 match l,h with
 | [a,b],_=>exact ⟨a,b,rfl⟩
theorem list3 {l:List Value} (h:l.length=3):∃ a b c,l=[a,b,c]:=by
 match l,h with
 | [a,b,c],_=>exact ⟨a,b,c,rfl⟩
theorem list5 {α:Type} {l:List α} (h:l.length=5):∃ a b c d e,l=[a,b,c,d,e]:=by
 match l,h with
 | [a,b,c,d,e],_=>exact ⟨a,b,c,d,e,rfl⟩
theorem list6 {α:Type} {l:List α} (h:l.length=6):∃ a b c d e f,l=[a,b,c,d,e,f]:=by
 match l,h with
 | [a,b,c,d,e,f],_=>exact ⟨a,b,c,d,e,f,rfl⟩
theorem open_mutex {n:Nat} {cs:List Value} {x:DataW H × List MemPlace} (h:DataW.trod enc Tryz.prog w 0 (fun _=>true) held n 125 cs=some x):∃ a:PairD,cs=[.int .i64 a.x,.int .i64 a.y]:=by
 obtain ⟨y0,y1,m,_,hl,h0,h1⟩:=trod_struct2 Tryz.underlying125 h
 rw [cMutex] at hl
 obtain ⟨a,b,rfl⟩:=list2 hl
 simp only [c3] at h0 h1
 obtain ⟨p,hp,_⟩:=DataW.trod_int Tryz.underlying3 h0
 obtain ⟨q,hq,_⟩:=DataW.trod_int Tryz.underlying3 h1
 simp at hp hq
 exact ⟨⟨p,q⟩,by simp [hp,hq]⟩
theorem open_sem {n:Nat} {cs:List Value} {x:DataW H × List MemPlace} (h:DataW.trod enc Tryz.prog w 0 (fun _=>true) held n 116 cs=some x):∃ a:PairD,cs=[.int .i64 a.x,.int .i64 a.y]:=by
 obtain ⟨y0,y1,m,_,hl,h0,h1⟩:=trod_struct2 Tryz.underlying116 h
 rw [cSem] at hl
 obtain ⟨a,b,rfl⟩:=list2 hl
 simp only [c3] at h0 h1
 obtain ⟨p,hp,_⟩:=DataW.trod_int Tryz.underlying3 h0
 obtain ⟨q,hq,_⟩:=DataW.trod_int Tryz.underlying3 h1
 simp at hp hq
 exact ⟨⟨p,q⟩,by simp [hp,hq]⟩
theorem open_instr {n:Nat} {cs:List Value} {x:DataW H × List MemPlace} (h:DataW.trod enc Tryz.prog w 0 (fun _=>true) held n 61 cs=some x):∃ a:InstrD,cs=[.int .i64 a.op,.int .i64 a.a,.int .i64 a.b]:=by
 obtain ⟨y0,y1,y2,m,_,hl,h0,h1,h2⟩:=trod_struct3 Tryz.underlying61 h
 rw [cInstr] at hl
 obtain ⟨a,b,c,rfl⟩:=list3 hl
 simp only [c3] at h0 h1 h2
 obtain ⟨p,hp,_⟩:=DataW.trod_int Tryz.underlying3 h0
 obtain ⟨q,hq,_⟩:=DataW.trod_int Tryz.underlying3 h1
 obtain ⟨r,hr,_⟩:=DataW.trod_int Tryz.underlying3 h2
 simp at hp hq hr
 exact ⟨⟨p,q,r⟩,by simp [hp,hq,hr]⟩
theorem open_code {n:Nat} {cs:List Value} {x:DataW H × List MemPlace} (h:DataW.trod enc Tryz.prog w 0 (fun _=>true) held n 57 cs=some x) :
  ∃ (ao:Option Addr) (cap:Nat) (l:List InstrD),cs=[.slice ao l.length cap]/\(ao=none->cap=0)/\InstrsIn w.heap.size w ao l/\(Light x.1 57->l.length * 24<=reachBytes):=by
 obtain ⟨ao,cap,l,h1,h2,h3,h4⟩:=open_list (α:=InstrD) ⟨0,0,0⟩ (R:=fun a cs _=>cs=[.int .i64 a.op,.int .i64 a.a,.int .i64 a.b]) Tryz.underlying57 cInstr bInstr (by decide) (fun _ _ _ hh=>open_instr hh) h
 refine ⟨ao,cap,l,h1,h2,fun i hi=>?_,h4⟩
 obtain ⟨b,o,cs',d,ha,hb,hl,hc,rfl,_⟩:=h3 i hi
 exact ⟨b,o,ha,hb,by simpa using hc 0 (by decide),by simpa using hc 1 (by decide),by simpa using hc 2 (by decide)⟩
theorem open_pairsM {n:Nat} {cs:List Value} {x:DataW H × List MemPlace} (h:DataW.trod enc Tryz.prog w 0 (fun _=>true) held n 23 cs=some x) :
  ∃ (ao:Option Addr) (cap:Nat) (l:List PairD),cs=[.slice ao l.length cap]/\(ao=none->cap=0)/\PairsIn w.heap.size w ao l/\(Light x.1 23->l.length * 16<=reachBytes):=by
 obtain ⟨ao,cap,l,h1,h2,h3,h4⟩:=open_list (α:=PairD) ⟨0,0⟩ (R:=fun a cs _=>cs=[.int .i64 a.x,.int .i64 a.y]) Tryz.underlying23 cMutex bMutex (by decide) (fun _ _ _ hh=>open_mutex hh) h
 refine ⟨ao,cap,l,h1,h2,fun i hi=>?_,h4⟩
 obtain ⟨b,o,cs',d,ha,hb,hl,hc,rfl,_⟩:=h3 i hi
 exact ⟨b,o,ha,hb,by simpa using hc 0 (by decide),by simpa using hc 1 (by decide)⟩
theorem open_pairsS {n:Nat} {cs:List Value} {x:DataW H × List MemPlace} (h:DataW.trod enc Tryz.prog w 0 (fun _=>true) held n 24 cs=some x) :
  ∃ (ao:Option Addr) (cap:Nat) (l:List PairD),cs=[.slice ao l.length cap]/\(ao=none->cap=0)/\PairsIn w.heap.size w ao l/\(Light x.1 24->l.length * 16<=reachBytes):=by
 obtain ⟨ao,cap,l,h1,h2,h3,h4⟩:=open_list (α:=PairD) ⟨0,0⟩ (R:=fun a cs _=>cs=[.int .i64 a.x,.int .i64 a.y]) Tryz.underlying24 cSem bSem (by decide) (fun _ _ _ hh=>open_sem hh) h
 refine ⟨ao,cap,l,h1,h2,fun i hi=>?_,h4⟩
 obtain ⟨b,o,cs',d,ha,hb,hl,hc,rfl,_⟩:=h3 i hi
 exact ⟨b,o,ha,hb,by simpa using hc 0 (by decide),by simpa using hc 1 (by decide)⟩
theorem open_numbers {n:Nat} {cs:List Value} {x:DataW H × List MemPlace} (h:DataW.trod enc Tryz.prog w 0 (fun _=>true) held n 25 cs=some x) :
  ∃ (ao:Option Addr) (cap:Nat) (l:List Int),cs=[.slice ao l.length cap]/\(ao=none->cap=0)/\IntsIn w.heap.size w ao l/\(Light x.1 25->l.length * 8<=reachBytes):=by
 obtain ⟨ao,cap,l,h1,h2,h3,h4⟩:=open_list (α:=Int) 0 (R:=fun a cs _=>cs=[.int .i64 a]) Tryz.underlying25 c3 b3 (by decide) (fun _ _ _ hh=>by obtain ⟨z,hz,_⟩:=DataW.trod_int Tryz.underlying3 hh; exact ⟨z,hz⟩) h
 refine ⟨ao,cap,l,h1,h2,fun i hi=>?_,h4⟩
 obtain ⟨b,o,cs',d,ha,hb,hl,hc,rfl,_⟩:=h3 i hi
 exact ⟨b,o,ha,hb,by simpa using hc 0 (by decide)⟩
theorem trod_struct5 {t:TypeId} {f0 f1 f2 f3 f4:Field} {fuel:Nat} {cs:List Value} {x:DataW H × List MemPlace} (ht:Tryz.prog.underlying t=some (.struct #[f0,f1,f2,f3,f4])) (h:DataW.trod enc Tryz.prog w 0 (fun _=>true) held fuel t cs=some x) :
  ∃ y0 y1 y2 y3 y4 n,x.1=.agg [y0.1,y1.1,y2.1,y3.1,y4.1]/\cs.length=Tryz.prog.cellsOf t/\DataW.trod enc Tryz.prog w 0 (fun _=>true) held n f0.type ((cs.drop f0.offset).take (Tryz.prog.cellsOf f0.type))=some y0 /\
   DataW.trod enc Tryz.prog w 0 (fun _=>true) held n f1.type ((cs.drop f1.offset).take (Tryz.prog.cellsOf f1.type))=some y1/\DataW.trod enc Tryz.prog w 0 (fun _=>true) held n f2.type ((cs.drop f2.offset).take (Tryz.prog.cellsOf f2.type))=some y2 /\
   DataW.trod enc Tryz.prog w 0 (fun _=>true) held n f3.type ((cs.drop f3.offset).take (Tryz.prog.cellsOf f3.type))=some y3/\DataW.trod enc Tryz.prog w 0 (fun _=>true) held n f4.type ((cs.drop f4.offset).take (Tryz.prog.cellsOf f4.type))=some y4:=by
 obtain ⟨xs,n,_,rfl,hl,hlen,hf⟩:=DataW.trod_struct ht h
 obtain ⟨y0,y1,y2,y3,y4,rfl⟩:=list5 (hlen.trans rfl)
 exact ⟨y0,y1,y2,y3,y4,n,by simp,hl,by simpa using hf 0 f0 rfl,by simpa using hf 1 f1 rfl,by simpa using hf 2 f2 rfl,by simpa using hf 3 f3 rfl,by simpa using hf 4 f4 rfl⟩
theorem trod_struct6 {t:TypeId} {f0 f1 f2 f3 f4 f5:Field} {fuel:Nat} {cs:List Value} {x:DataW H × List MemPlace} (ht:Tryz.prog.underlying t=some (.struct #[f0,f1,f2,f3,f4,f5])) (h:DataW.trod enc Tryz.prog w 0 (fun _=>true) held fuel t cs=some x) :
  ∃ y0 y1 y2 y3 y4 y5 n,x.1=.agg [y0.1,y1.1,y2.1,y3.1,y4.1,y5.1]/\cs.length=Tryz.prog.cellsOf t/\DataW.trod enc Tryz.prog w 0 (fun _=>true) held n f0.type ((cs.drop f0.offset).take (Tryz.prog.cellsOf f0.type))=some y0 /\
   DataW.trod enc Tryz.prog w 0 (fun _=>true) held n f1.type ((cs.drop f1.offset).take (Tryz.prog.cellsOf f1.type))=some y1/\DataW.trod enc Tryz.prog w 0 (fun _=>true) held n f2.type ((cs.drop f2.offset).take (Tryz.prog.cellsOf f2.type))=some y2 /\
   DataW.trod enc Tryz.prog w 0 (fun _=>true) held n f3.type ((cs.drop f3.offset).take (Tryz.prog.cellsOf f3.type))=some y3/\DataW.trod enc Tryz.prog w 0 (fun _=>true) held n f4.type ((cs.drop f4.offset).take (Tryz.prog.cellsOf f4.type))=some y4 /\
   DataW.trod enc Tryz.prog w 0 (fun _=>true) held n f5.type ((cs.drop f5.offset).take (Tryz.prog.cellsOf f5.type))=some y5:=by
 obtain ⟨xs,n,_,rfl,hl,hlen,hf⟩:=DataW.trod_struct ht h
 obtain ⟨y0,y1,y2,y3,y4,y5,rfl⟩:=list6 (hlen.trans rfl)
 exact ⟨y0,y1,y2,y3,y4,y5,n,by simp,hl,by simpa using hf 0 f0 rfl,by simpa using hf 1 f1 rfl,by simpa using hf 2 f2 rfl,by simpa using hf 3 f3 rfl,by simpa using hf 4 f4 rfl,by simpa using hf 5 f5 rfl⟩
theorem open_thread {n:Nat} {cs:List Value} {x:DataW H × List MemPlace} (h:DataW.trod enc Tryz.prog w 0 (fun _=>true) held n 59 cs=some x) :
  ∃ a:ThreadD,∃ cv cc,cs=[.int .i64 a.base,.int .i64 a.offset,.int .i64 a.period,.int .i64 a.deadline,.slice cv a.code.length cc]/\(cv=none->cc=0)/\InstrsIn w.heap.size w cv a.code/\(Light x.1 59->a.code.length * 24<=reachBytes):=by
 obtain ⟨y0,y1,y2,y3,y4,m,hx,hl,h0,h1,h2,h3,h4⟩:=trod_struct5 Tryz.underlying59 h
 rw [cThread] at hl
 obtain ⟨a,b,c,d,e,rfl⟩:=list5 hl
 simp only [c3,cCode] at h0 h1 h2 h3 h4
 obtain ⟨p0,e0,_⟩:=DataW.trod_int Tryz.underlying3 h0
 obtain ⟨p1,e1,_⟩:=DataW.trod_int Tryz.underlying3 h1
 obtain ⟨p2,e2,_⟩:=DataW.trod_int Tryz.underlying3 h2
 obtain ⟨p3,e3,_⟩:=DataW.trod_int Tryz.underlying3 h3
 obtain ⟨cv,cc,l,e4,hn,hin,hw⟩:=open_code h4
 simp at e0 e1 e2 e3 e4
 refine ⟨⟨p0,p1,p2,p3,l⟩,cv,cc,by simp [e0,e1,e2,e3,e4],hn,hin,fun hlight=>hw ?_⟩
 intro q hq
 refine hlight q ?_
 rw [hx]
 simp only [DataW.weights,Tryz.underlying59]
 exact DataW.weights_mem_each (j:=4) rfl rfl q hq
theorem open_threads {n:Nat} {cs:List Value} {x:DataW H × List MemPlace} (h:DataW.trod enc Tryz.prog w 0 (fun _=>true) held n 22 cs=some x) :
  ∃ (ao:Option Addr) (cap:Nat) (l:List ThreadD),cs=[.slice ao l.length cap]/\(ao=none->cap=0)/\ThreadsIn w.heap.size w ao l/\(Light x.1 22->l.length * 56<=reachBytes/\∀ j (hj:j < l.length),l[j].code.length * 24<=reachBytes):=by
 obtain ⟨ao,cap,l,h1,h2,h3,h4⟩:=open_list (α:=ThreadD) P3.none0 (R:=fun a cs d=>∃ cv cc,cs=[.int .i64 a.base,.int .i64 a.offset,.int .i64 a.period,.int .i64 a.deadline,.slice cv a.code.length cc]/\(cv=none->cc=0)/\InstrsIn w.heap.size w cv a.code/\(Light d 59->a.code.length * 24<=reachBytes)) Tryz.underlying22 cThread bThread (by decide) (fun _ _ _ hh=>open_thread hh) h
 refine ⟨ao,cap,l,h1,h2,fun i hi=>?_,fun hw=>⟨h4 hw,fun j hj=>?_⟩⟩
 ·obtain ⟨b,o,cs',d,ha,hb,hl,hc,⟨cv,cc,rfl,hn,hin,_⟩,_⟩:=h3 i hi
  exact ⟨b,o,cv,cc,ha,hb,by simpa using hc 0 (by decide),by simpa using hc 1 (by decide),by simpa using hc 2 (by decide),by simpa using hc 3 (by decide),by simpa using hc 4 (by decide),hin,hn⟩
 ·obtain ⟨b,o,cs',d,ha,hb,hl,hc,⟨cv,cc,rfl,hn,hin,hlight⟩,hd⟩:=h3 j hj
  exact hlight (hd hw)
end
end Go.Proofs.YtbkfildnijjioaaGreat

namespace Go.Proofs.YtbkfildnijjioaaGreat
open Go.ChangeShapes Go.WideShapes Go.ChangeAt Go.RowKit Go.Deep
theorem bulk_append {H:Type} (l r:List (DataW H)):Rows.uptoBulkAll (l ++ r)=Rows.uptoBulkAll l + Rows.uptoBulkAll r:=by
 induction l with
 | nil=>simp [Rows.uptoBulkAll]
 | cons x l ih=>simp only [List.cons_append,Rows.uptoBulkAll,ih]; omega
theorem bulk_one {H:Type} (d:DataW H):1<=Rows.uptoBulk d:=by
 cases d with
 | lit l=>cases l <;> simp [Rows.uptoBulk]
 | nil=>simp [Rows.uptoBulk]
 | ptr d=>simp [Rows.uptoBulk]
 | slice elems spare=>simp [Rows.uptoBulk]
 | agg parts=>simp [Rows.uptoBulk]
 | iface t d=>simp [Rows.uptoBulk]
 | map entries=>simp [Rows.uptoBulk]
 | held h=>simp [Rows.uptoBulk]
section
variable {H:Type} {enc:TypeId × Value->H} {w:World} {held:Bool}
theorem open_listB {α:Type} (d0:α) {t e:TypeId} {size bytes:Nat} (ht:Tryz.prog.underlying t=some (.slice e)) (hc:Tryz.prog.cellsOf e=size) (hby:Tryz.prog.bytesOf e=bytes) (hpos:0 < size)
  {R:α->List Value->DataW H->Prop} (hR:∀ n cs x,DataW.trod enc Tryz.prog w 0 (fun _=>true) held n e cs=some x->∃ a,R a cs x.1)
  {fuel:Nat} {cs:List Value} {x:DataW H × List MemPlace} (h:DataW.trod enc Tryz.prog w 0 (fun _=>true) held fuel t cs=some x) :
  ∃ (ao:Option Addr) (cap:Nat) (l:List α),cs=[.slice ao l.length cap]/\(ao=none->cap=0) /\
   (∀ i (hi:i < l.length),∃ b o cs' d,ao=some ⟨b,o,none⟩/\b < w.heap.size/\cs'.length=size/\(∀ j,j < size->w.cell? ⟨b,o + i * size + j,none⟩=cs'[j]?)/\R l[i] cs' d/\(Light x.1 t->Light d e)) /\
   (Light x.1 t->l.length * bytes<=reachBytes)/\(∀ f:α->Nat,(∀ a cs d,R a cs d->f a<=Rows.uptoBulk d)->(l.map f).sum<=Rows.uptoBulk x.1):=by
 subst hc; subst hby
 rcases open_slice ht h with ⟨rfl,rfl⟩ | ⟨a,len,cap,m,n,D,Pl,rfl,_,hl,_,hm,rfl,hel⟩
 ·exact ⟨none,0,[],rfl,fun _=>rfl,fun i hi=>absurd hi (Nat.not_lt_zero _),fun _=>by simp,fun _ _=>by simp⟩
 ·simp only [if_true] at hm
  subst hm
  have hA:∀ i,i < len->∃ y:α,∀ cs',DataW.trod enc Tryz.prog w 0 (fun _=>true) held n e cs'=some (D i,Pl i)->w.cells? 0 (a.add (i * Tryz.prog.cellsOf e)) (Tryz.prog.cellsOf e)=some cs'->R y cs' (D i):=by
   intro i hi
   obtain ⟨cs',h1,h2⟩:=hel i (by omega)
   obtain ⟨y,hy⟩:=hR n cs' _ h2
   refine ⟨y,fun cs'' _ h4=>?_⟩
   rw [h1] at h4
   cases h4
   exact hy
  haveI:Inhabited α:=⟨d0⟩
  obtain ⟨A,hA⟩:=choose_lt hA
  refine ⟨some a,m,(List.range len).map A,by simp,fun hh=>(by cases hh),fun i hi=>?_,fun hw=>?_,fun f hf=>?_⟩
  ·have hi':i < len:=by simpa using hi
   obtain ⟨cs',h1,h2⟩:=hel i (by omega)
   obtain ⟨_,hlen,hcell⟩:=World.cells?_some h1
   have h0:=hcell 0 hpos
   rw [add_add,Nat.add_zero,List.getElem?_eq_getElem (by omega)] at h0
   have hspot:(a.add (i * Tryz.prog.cellsOf e)).spot=none:=World.cell?_spot h0
   have hlt:=World.block_lt_of_cell? _ _ h0
   obtain ⟨b,o,spot⟩:=a
   have hsp:spot=none:=by
    by_cases hz:i * Tryz.prog.cellsOf e=0
    ·rw [hz,Addr.add_zero'] at h0
     exact World.cell?_spot h0
    ·
     obtain ⟨cs0,g1,_⟩:=hel 0 (by omega)
     obtain ⟨_,gl,gc⟩:=World.cells?_some g1
     have g0:=gc 0 hpos
     rw [Nat.zero_mul,Addr.add_zero',Addr.add_zero',List.getElem?_eq_getElem (by omega)] at g0
     exact World.cell?_spot g0
   subst hsp
   refine ⟨b,o,cs',D i,rfl,by simpa [Addr.add_lit] using hlt,hlen,fun j hj=>?_,?_,fun hw=>?_⟩
   ·have:=hcell j hj
    rw [Addr.add_lit,Addr.add_lit] at this
    exact this
   ·have:=hA i hi' cs' h2 h1
    simpa using this
   ·intro q hq
    refine hw q ?_
    simp only [DataW.weights,ht]
    refine List.mem_cons_of_mem _ (List.mem_append_left _ ?_)
    have mem_all:∀ (L:List (DataW H)) (d:DataW H),d ∈ L->∀ q ∈ d.weights Tryz.prog e,q ∈ DataW.weightsAll Tryz.prog e L:=by
     intro L
     induction L with
     | nil=>intro d hd; cases hd
     | cons d0 L ih =>
      intro d hd q hq
      simp only [DataW.weightsAll,List.mem_append]
      rcases List.mem_cons.1 hd with rfl | hd
      ·exact Or.inl hq
      ·exact Or.inr (ih d hd q hq)
    exact mem_all _ (D i) (List.mem_map.2 ⟨i,List.mem_range.2 hi',rfl⟩) q hq
  ·have:=hw ((((List.range len).map D).length + ((List.range (m - len)).map fun j=>D (len + j)).length) * Tryz.prog.bytesOf e) (by simp [DataW.weights,ht])
   simp only [List.length_map,List.length_range] at this ⊢
   exact Nat.le_trans (Nat.mul_le_mul_right _ (Nat.le_add_right _ _)) this
  ·simp only [Rows.uptoBulk]
   have hsum:∀ n,n<=len->(((List.range n).map A).map f).sum<=Rows.uptoBulkAll ((List.range n).map D):=by
    intro n
    induction n with
    | zero=>intro _; simp
    | succ n ih =>
     intro hn
     have h1:=ih (by omega)
     obtain ⟨cs',q1,q2⟩:=hel n (by omega)
     have h2:=hf _ _ _ (hA n (by omega) cs' q2 q1)
     rw [List.range_succ,List.map_append,List.map_append,List.sum_append,List.map_append,bulk_append]
     simp only [List.map_cons,List.map_nil,List.sum_cons,List.sum_nil,Rows.uptoBulkAll]
     omega
   have:=hsum len (Nat.le_refl _)
   omega
theorem cOp:Tryz.prog.cellsOf 48=5:=by kernel_rfl
theorem bOp:Tryz.prog.bytesOf 48=56:=by kernel_rfl
theorem bSet:Tryz.prog.bytesOf 27=112:=by kernel_rfl
theorem wf_range {x:Int} (h:(Lit.int .i64 x).wf=true):i64r x:=by
 simp [Lit.wf] at h
 have e:IntKind.i64.min=-9223372036854775808:=by decide
 rw [e] at h
 exact h
theorem sum_ones (l:List Int):(l.map fun _=>1).sum=l.length:=by
 induction l with
 | nil=>rfl
 | cons x l ih=>simp only [List.map_cons,List.sum_cons,List.length_cons,ih]; omega
theorem open_numbersB {n:Nat} {cs:List Value} {x:DataW H × List MemPlace} (h:DataW.trod enc Tryz.prog w 0 (fun _=>true) held n 25 cs=some x) :
  ∃ (ao:Option Addr) (cap:Nat) (l:List Int),cs=[.slice ao l.length cap]/\(ao=none->cap=0)/\IntsIn w.heap.size w ao l/\l.length<=Rows.uptoBulk x.1:=by
 obtain ⟨ao,cap,l,h1,h2,h3,_,h5⟩:=open_listB (α:=Int) 0 (R:=fun a cs _=>cs=[.int .i64 a]) Tryz.underlying25 c3 b3 (by decide) (fun _ _ _ hh=>by obtain ⟨z,hz,_⟩:=DataW.trod_int Tryz.underlying3 hh; exact ⟨z,hz⟩) h
 refine ⟨ao,cap,l,h1,h2,fun i hi=>?_,?_⟩
 ·obtain ⟨b,o,cs',d,ha,hb,hl,hc,rfl,_⟩:=h3 i hi
  exact ⟨b,o,ha,hb,by simpa using hc 0 (by decide)⟩
 ·have:=h5 (fun _=>1) (fun _ _ d _=>bulk_one d)
  rw [sum_ones] at this
  exact this
def OpR (w:World) (a:OpD) (cs:List Value) (d:DataW H):Prop:=∃ ov oc,cs=[.int .i64 a.kd,.int .i64 a.k,.int .i64 a.a,.int .i64 a.b,.slice ov a.l.length oc]/\IntsIn w.heap.size w ov a.l/\(ov=none->oc=0)/\i64r a.k/\i64r a.a/\1 + a.l.length<=Rows.uptoBulk d
theorem open_op {n:Nat} {cs:List Value} {x:DataW H × List MemPlace} (h:DataW.trod enc Tryz.prog w 0 (fun _=>true) held n 48 cs=some x):∃ a:OpD,OpR w a cs x.1:=by
 obtain ⟨y0,y1,y2,y3,y4,m,hx,hl,h0,h1,h2,h3,h4⟩:=trod_struct5 Tryz.underlying48 h
 rw [cOp] at hl
 obtain ⟨a,b,c,d,e,rfl⟩:=list5 hl
 simp only [c3,cInts] at h0 h1 h2 h3 h4
 obtain ⟨p0,e0,_⟩:=DataW.trod_int Tryz.underlying3 h0
 obtain ⟨p1,e1,_,r1⟩:=DataW.trod_int Tryz.underlying3 h1
 obtain ⟨p2,e2,_,r2⟩:=DataW.trod_int Tryz.underlying3 h2
 obtain ⟨p3,e3,_⟩:=DataW.trod_int Tryz.underlying3 h3
 obtain ⟨cv,cc,l,e4,hn,hin,hw⟩:=open_numbersB h4
 simp at e0 e1 e2 e3 e4
 refine ⟨⟨p0,p1,p2,p3,l⟩,cv,cc,by simp [e0,e1,e2,e3,e4],hin,hn,wf_range r1,wf_range r2,?_⟩
 rw [hx]
 simp only [Rows.uptoBulk,Rows.uptoBulkAll]
 omega
def SetR (w:World) (S:SetD) (cs:List Value) (d:DataW H):Prop:=∃ tv mv sv qv tc mc sc qc,cs=[.int .i64 S.workers,.int .i64 S.start,.slice tv S.threads.length tc,.slice mv S.mutexes.length mc,.slice sv S.sems.length sc,.slice qv S.queues.length qc]/\SetIn w.heap.size w tv mv sv qv S/\((tv=none->tc=0)/\(mv=none->mc=0)/\(sv=none->sc=0)/\(qv=none->qc=0))/\(Light d 27->Fits S)
theorem open_setC {n:Nat} {cs:List Value} {x:DataW H × List MemPlace} (h:DataW.trod enc Tryz.prog w 0 (fun _=>true) held n 27 cs=some x):∃ S:SetD,SetR w S cs x.1:=by
 obtain ⟨y0,y1,y2,y3,y4,y5,m,hx,hl,h0,h1,h2,h3,h4,h5⟩:=trod_struct6 Tryz.underlying27 h
 rw [cSet] at hl
 obtain ⟨a,b,c,dd,e,f,rfl⟩:=list6 hl
 simp only [c3,cThreads,cMutexes,cSems,cInts] at h0 h1 h2 h3 h4 h5
 simp at h0 h1 h2 h3 h4 h5
 obtain ⟨p0,e0,_⟩:=DataW.trod_int Tryz.underlying3 h0
 obtain ⟨p1,e1,_⟩:=DataW.trod_int Tryz.underlying3 h1
 obtain ⟨tv,tc,ts,e2,n2,i2,w2⟩:=open_threads h2
 obtain ⟨mv,mc,ms,e3,n3,i3,w3⟩:=open_pairsM h3
 obtain ⟨sv,sc,ss,e4,n4,i4,w4⟩:=open_pairsS h4
 obtain ⟨qv,qc,qs,e5,n5,i5,w5⟩:=open_numbers h5
 simp at e0 e1 e2 e3 e4 e5
 subst e0 e1 e2 e3 e4 e5
 refine ⟨⟨p0,p1,ts,ms,ss,qs⟩,tv,mv,sv,qv,tc,mc,sc,qc,rfl,⟨i2,i3,i4,i5⟩,⟨n2,n3,n4,n5⟩,fun hw=>?_⟩
 have part:∀ (j:Nat) (t:TypeId) (y:DataW H),[(3:TypeId),3,22,23,24,25][j]?=some t->[y0.1,y1.1,y2.1,y3.1,y4.1,y5.1][j]?=some y->Light y t:=by
  intro j t y hj hy q hq
  refine hw q ?_
  rw [hx]
  simp only [DataW.weights,Tryz.underlying27]
  exact DataW.weights_mem_each hj hy q hq
 have l2:=w2 (part 2 _ _ rfl rfl)
 have l3:=w3 (part 3 _ _ rfl rfl)
 have l4:=w4 (part 4 _ _ rfl rfl)
 have l5:=w5 (part 5 _ _ rfl rfl)
 exact ⟨l2.1,l3,l4,l5,l2.2⟩
theorem sum_ge {α:Type} (l:List α) (f:α->Nat) (hf:∀ a,1<=f a):l.length<=(l.map f).sum:=by
 induction l with
 | nil=>simp
 | cons x l ih =>
  have:=hf x
  simp only [List.map_cons,List.sum_cons,List.length_cons]
  omega
set_option maxRecDepth 100000 in
theorem open_sets {r:Reach} {b0:Nat} {v:Value} {d:DataW H} {p:List MemPlace} (hv:Value.okWide Tryz.prog w r b0 38 v) (h:DataW.Trod enc Tryz.prog w 0 (fun _=>true) held 38 v d p) (hw:Light d 38) (hb:Rows.uptoBulk d<=1048576) :
  ∃ (sa:Option Addr) (cap:Nat) (Ss:List SetD),v=.slice sa Ss.length cap/\SetsIn w.heap.size w sa Ss/\(∀ S,S ∈ Ss->Fits S)/\Ss.length<=100000000:=by
 obtain ⟨ao',n,c,rfl⟩:=okWide_slice Tryz.underlying38 hv
 obtain ⟨fuel,hf⟩:=h
 obtain ⟨ao,cap,l,h1,h2,h3,_,h5⟩:=open_listB (α:=SetD) ⟨0,0,[],[],[],[]⟩ (R:=SetR w) Tryz.underlying38 cSet bSet (by decide) (fun _ _ _ hh=>open_setC hh) hf
 simp [Value.cells] at h1
 obtain ⟨rfl,rfl,rfl⟩:=h1
 have hlen:=h5 (fun _=>1) (fun _ _ d _=>bulk_one d)
 have hge:=sum_ge l (fun _=>1) (fun _=>Nat.le_refl _)
 refine ⟨_,_,l,rfl,fun i hi=>?_,fun S hS=>?_,by simp only at hlen; omega⟩
 ·obtain ⟨b,o,cs',d',ha,hlt,hl,hc,⟨tv,mv,sv,qv,tc,mc,sc,qc,rfl,hin,hnil,_⟩,_⟩:=h3 i hi
  exact ⟨b,o,tv,mv,sv,qv,tc,mc,sc,qc,ha,hlt,by simpa using hc 0 (by decide),by simpa using hc 1 (by decide),by simpa using hc 2 (by decide),by simpa using hc 3 (by decide),by simpa using hc 4 (by decide),by simpa using hc 5 (by decide),hin,hnil⟩
 ·obtain ⟨i,hi,rfl⟩:=List.getElem_of_mem hS
  obtain ⟨b,o,cs',d',ha,hlt,hl,hc,⟨tv,mv,sv,qv,tc,mc,sc,qc,rfl,hin,hnil,hfit⟩,hd⟩:=h3 i hi
  exact hfit (hd hw)
set_option maxRecDepth 100000 in
theorem open_ops {r:Reach} {b0:Nat} {v:Value} {d:DataW H} {p:List MemPlace} (hv:Value.okWide Tryz.prog w r b0 39 v) (h:DataW.Trod enc Tryz.prog w 0 (fun _=>true) held 39 v d p) (hb:Rows.uptoBulk d<=1048576) :
  ∃ (oa:Option Addr) (cap:Nat) (ops:List OpD),v=.slice oa ops.length cap/\OpsIn w.heap.size w oa ops/\made ops ops.length<=2000000:=by
 obtain ⟨ao',n,c,rfl⟩:=okWide_slice Tryz.underlying39 hv
 obtain ⟨fuel,hf⟩:=h
 obtain ⟨ao,cap,l,h1,h2,h3,_,h5⟩:=open_listB (α:=OpD) ⟨0,0,0,0,[]⟩ (R:=OpR w) Tryz.underlying39 cOp bOp (by decide) (fun _ _ _ hh=>open_op hh) hf
 simp [Value.cells] at h1
 obtain ⟨rfl,rfl,rfl⟩:=h1
 have hsum:=h5 (fun o=>1 + o.l.length) (fun a cs d hh=>by
  obtain ⟨_,_,_,_,_,_,_,hle⟩:=hh
  exact hle)
 refine ⟨_,_,l,rfl,fun i hi=>?_,?_⟩
 ·obtain ⟨b,o,cs',d',ha,hlt,hl,hc,⟨ov,oc,rfl,hin,hnil,r1,r2,_⟩,_⟩:=h3 i hi
  exact ⟨b,o,ov,oc,ha,hlt,by simpa using hc 0 (by decide),by simpa using hc 1 (by decide),by simpa using hc 2 (by decide),by simpa using hc 3 (by decide),by simpa using hc 4 (by decide),hin,hnil,r1,r2⟩
 ·unfold made
  rw [List.take_length]
  simp only at hsum
  omega
end
theorem Tryz.ownA:ownKnob Tryz.prog.godebug=none:=by kernel_rfl
theorem Tryz.laidA:laidOutB Tryz.prog=true:=by kernel_rfl
set_option maxRecDepth 100000 in
theorem all_lifted {PK:KP} (C:CAll PK) (cn:CNew PK (fun _=>True)) (cr:CRun) (os:Os) (started:os.Started) (H:Type) (enc:TypeId × Value->H) (F:Stop.Interp) :
  ReturnsInHanded {} Tryz.checked os 12 .any ((Rows.OpenSpec.upto Rows.allSpec).pre6 enc Tryz.prog Tryz.f12 Rows.allUptoRow.domain false) (((Rows.OpenSpec.upto Rows.allSpec).at F).post enc Tryz.prog Tryz.f12 false true false false):=by
 refine returnsInHanded_of_cond_sized (C:=Tryz.checked) (s:=Rows.OpenSpec.upto Rows.allSpec) (k:=Rows.uptoSmall) rfl Tryz.ownA started (by kernel_rfl) Tryz.func12
  (OpenSpec.witness (enc:=enc) (C:=Tryz.checked) (s:=Rows.OpenSpec.upto Rows.allSpec) (k:=Rows.uptoSmall) rfl false ⟨#[],#[.slice none 0 0,.slice none 0 0],[]⟩ 8 (by kernel_rfl) (by kernel_rfl) (by kernel_rfl)
   (x:=([.nil,.nil],[],[])) (by kernel_rfl) rfl (by kernel_rfl)) ?_
 intro W base args ds gs before hval0 hW _ hk hsz0 _
 have hval:∀ (j:Nat) t v,Tryz.f12.params[j]?=some t->args[j]?=some v->Value.okWide Tryz.prog W .any base t v:=hval0
 have hsz:(DataW.weightsEach Tryz.prog (Tryz.f12.params.toList ++ Rows.allSpec.plain.varTypes Tryz.prog) (ds ++ gs)).all (·<=reachBytes)=true:=hsz0
 have hW':=hW
 obtain ⟨p,q,hA0,hV,rfl,hfz,hnd⟩:=hW
 have hA:DataW.TrodAll enc Tryz.prog W 0 (fun _=>true) true Tryz.f12.params.toList args.toList ds p:=hA0
 rw [Tryz.params12] at hA hval hsz
 obtain ⟨v0,v1,d0,d1,p0,p1,rfl,rfl,rfl,h0,h1⟩:=trodAll_two hA
 obtain ⟨rfl,rfl⟩:=trodVars_none hV
 clear hA0 hval0 hsz0
 have hlight:Light d0 38:=by
  intro n hn
  have:=List.all_eq_true.1 hsz n (DataW.weights_mem_each (j:=0) rfl rfl n hn)
  simpa using this
 have hbk:Rows.uptoBulkAll ([d0,d1] ++ [])<=1048576:=of_decide_eq_true hk
 simp only [List.append_nil,Rows.uptoBulkAll] at hbk
 obtain ⟨sa,scap,Ss,hv,hSs,hFs,hn⟩:=open_sets (hval 0 38 v0 rfl rfl) h0 hlight (by omega)
 subst hv
 obtain ⟨oa,ocap,ops,hv,hos,hops⟩:=open_ops (hval 1 39 v1 rfl rfl) h1 (by omega)
 subst hv
 simp only [List.append_nil] at hW'
 refine (all_any C cn cr W sa scap Ss hSs hFs hn oa ocap ops hos hops).mono fun e W' ⟨he,hb⟩=>?_
 subst he
 refine ⟨_,rfl,_,_,_,[],p0 ++ p1,[],hW',?_,?_,rfl,hb.frame _,fun h=>by cases h⟩
 ·exact trodAll_mk1 (shut_bool Tryz.underlying4 _)
 ·exact trodAll_mk2 (Below.trod Tryz.laidA (by kernel_rfl) (of_decide_eq_true (by kernel_rfl)) h0 hb (fun x hx=>hW'.lt x (by simp; exact .inl hx))) (Below.trod Tryz.laidA (by kernel_rfl) (of_decide_eq_true (by kernel_rfl)) h1 hb (fun x hx=>hW'.lt x (by simp; exact .inr hx)))
theorem all_of {PK:KP} (C:CAll PK) (cn:CNew PK (fun _=>True)) (cr:CRun):Rows.AllUptoSaid :=
 OpenClaim.holds_of_cond 12 Tryz.f12 rfl rfl rfl rfl rfl rfl rfl ⟨rfl,rfl,rfl,rfl,rfl⟩ rfl rfl rfl rfl rfl (by kernel_rfl) Tryz.func12 (by kernel_rfl)
  (of_decide_eq_true (by kernel_rfl)) (by unfold Func.isWrapper; first | (rw [if_pos (by decide +kernel)]; kernel_rfl) | (rw [if_neg (by decide +kernel)]; exact ⟨rfl,rfl⟩))
  (fun os started H enc _ F=>all_lifted C cn cr os started H enc F)
end Go.Proofs.YtbkfildnijjioaaGreat

namespace Go.Proofs.YtbkfildnijjioaaGreat
theorem all_holds:Rows.AllUptoSaid:=all_of ⟨kframe,cNow,cMisses,cRunning,cLook,cOwner,cWaiting,cCount,cMessages,cPick,cTick⟩ cNew kRun_any
end Go.Proofs.YtbkfildnijjioaaGreat
