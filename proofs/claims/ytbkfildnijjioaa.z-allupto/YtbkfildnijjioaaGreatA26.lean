import Derived.Test.YtbkfildnijjioaaGreatA22
import Derived.Test.YtbkfildnijjioaaGreatA02
import Derived.Test.YtbkfildnijjioaaGreatA24
import Derived.Test.YtbkfildnijjioaaGreatA16
import Derived.Deep.RegionHeld3
namespace Go.Proofs.YtbkfildnijjioaaGreat
open Go.RowKit
theorem pairCells_snoc (l:List PairD) (x:PairD):pairCells (l ++ [x])=pairCells l ++ [.int .i64 x.x,.int .i64 x.y]:=by simp [pairCells]
theorem instrCells_snoc (l:List InstrD) (x:InstrD):instrCells (l ++ [x])=instrCells l ++ [.int .i64 x.op,.int .i64 x.a,.int .i64 x.b]:=by simp [instrCells]
theorem Tryz.eqNilCode (w:World):Sem.run Tryz.prog (binOp .eql 57 (.slice none 0 0) (.slice none 0 0)) w=.ok (.bool true) w:=by kernel_rfl
def farP:PairD:=⟨-1000,0⟩
def farI:InstrD:=⟨-1000,0,0⟩
theorem slice_parts {ao:Option Addr} {n cap:Nat} {w:World} {B:Nat} {e:TypeId} {size:Nat} {xs:List Value} (h:w.ownsRow B e size (.slice ao (n + 1) cap) (n + 1) xs):∃ g,ao=some ⟨g,0,none⟩/\n + 1<=cap/\cap<=maxLen/\g < w.heap.size/\B<=g:=by
 rcases h.2 with ⟨e,_⟩ | ⟨g',cap,cur',e,hb,hg,h4,h5,_⟩
 ·cases e
 ·cases e
  exact ⟨_,rfl,h4,h5,(ownsRow_block h rfl).2.1,hb⟩
structure RoomyIn (w:World) (ta ma sa qa:Option Addr) (tc mc sc qc:Nat) (S:SetD):Prop where
 m:PairsIn w.heap.size w ma (S.mutexes ++ [farP])
 mc:S.mutexes.length + 1<=mc
 s:PairsIn w.heap.size w sa (S.sems ++ [farP])
 sc:S.sems.length + 1<=sc
 q:IntsIn w.heap.size w qa (S.queues ++ [-1000])
 qc:S.queues.length + 1<=qc
 tc:S.threads.length + 1<=tc
 t:∃ g,ta=some ⟨g,0,none⟩/\g < w.heap.size /\
  (∀ i (h:i < S.threads.length),∃ ca cc,w.cell? ⟨g,i * 5,none⟩=some (.int .i64 S.threads[i].base)/\w.cell? ⟨g,i * 5 + 1,none⟩=some (.int .i64 S.threads[i].offset)/\w.cell? ⟨g,i * 5 + 2,none⟩=some (.int .i64 S.threads[i].period)/\w.cell? ⟨g,i * 5 + 3,none⟩=some (.int .i64 S.threads[i].deadline) /\
   w.cell? ⟨g,i * 5 + 4,none⟩=some (.slice ca S.threads[i].code.length cc)/\InstrsIn w.heap.size w ca (S.threads[i].code ++ [farI])/\S.threads[i].code.length + 1<=cc) /\
  w.cell? ⟨g,S.threads.length * 5,none⟩=some (.int .i64 (-1000))/\w.cell? ⟨g,S.threads.length * 5 + 1,none⟩=some (.int .i64 0)/\w.cell? ⟨g,S.threads.length * 5 + 2,none⟩=some (.int .i64 0)/\w.cell? ⟨g,S.threads.length * 5 + 3,none⟩=some (.int .i64 0)/\w.cell? ⟨g,S.threads.length * 5 + 4,none⟩=some (.slice none 0 0)
theorem RoomySet.toRead {B:Nat} {w:World} {ta ma sa qa:Option Addr} {tc mc sc qc:Nat} {S:SetD} {ca:Nat->Option Addr} {cc:Nat->Nat} (h:RoomySet B w ta ma sa qa tc mc sc qc S ca cc):RoomyIn w ta ma sa qa tc mc sc qc S:=by
 obtain ⟨gm,em,hm1,_,_,_⟩:=slice_parts h.m
 obtain ⟨gs,es,hs1,_,_,_⟩:=slice_parts h.s
 obtain ⟨gq,eq,hq1,_,_,_⟩:=slice_parts h.q
 obtain ⟨gt,et,ht1,_,htl,_⟩:=slice_parts h.t
 have cell:∀ j,j < (S.threads.length + 1) * 5->w.cell? ⟨gt,j,none⟩=(thCells S.threads (fun i=>.slice (ca i) (S.threads.getD i P3.none0).code.length (cc i)) S.threads.length ++ spare5)[j]?:=fun j hj=>by
  have hr:=h.t
  rw [et] at hr
  exact hr.cellAt j hj
 refine ⟨?_,hm1,?_,hs1,?_,hq1,ht1,gt,et,htl,fun i hi=>?_,?_,?_,?_,?_,?_⟩
 ·have hr:w.ownsRow B 125 2 (.slice ma (S.mutexes ++ [farP]).length mc) (S.mutexes ++ [farP]).length (pairCells (S.mutexes ++ [farP])):=by
   rw [pairCells_snoc,List.length_append]
   exact h.m
  obtain ⟨ao,cap,e,_,hp,_⟩:=PairsIn.of_owns hr
  cases e
  exact hp
 ·have hr:w.ownsRow B 116 2 (.slice sa (S.sems ++ [farP]).length sc) (S.sems ++ [farP]).length (pairCells (S.sems ++ [farP])):=by
   rw [pairCells_snoc,List.length_append]
   exact h.s
  obtain ⟨ao,cap,e,_,hp,_⟩:=PairsIn.of_owns hr
  cases e
  exact hp
 ·have hr:w.ownsRow B 3 1 (.slice qa (S.queues ++ [-1000]).length qc) (S.queues ++ [-1000]).length (intCells (S.queues ++ [-1000])):=by
   rw [intCells_append,List.length_append]
   exact h.q
  obtain ⟨ao,cap,e,_,hp,_⟩:=IntsIn.of_owns hr
  cases e
  exact hp
 ·have e:S.threads.getD i P3.none0=S.threads[i]:=by simp [List.getD,hi]
  have at_:∀ j,j < 5->w.cell? ⟨gt,i * 5 + j,none⟩=[Value.int .i64 S.threads[i].base,.int .i64 S.threads[i].offset,.int .i64 S.threads[i].period,.int .i64 S.threads[i].deadline,.slice (ca i) S.threads[i].code.length (cc i)][j]?:=fun j hj=>by
   rw [cell _ (by omega),List.getElem?_append_left (by rw [thCells_length]; omega),thCells_at _ _ _ i j hi hj,e]
  have hr:w.ownsRow B 61 3 (.slice (ca i) (S.threads[i].code ++ [farI]).length (cc i)) (S.threads[i].code ++ [farI]).length (instrCells (S.threads[i].code ++ [farI])):=by
   rw [instrCells_snoc,List.length_append]
   exact h.c i hi
  obtain ⟨gc,ec,hc1,_,_,_⟩:=slice_parts (h.c i hi)
  obtain ⟨ao,cap,e2,_,hp,_⟩:=InstrsIn.of_owns hr
  cases e2
  exact ⟨ca i,cc i,at_ 0 (by omega),at_ 1 (by omega),at_ 2 (by omega),at_ 3 (by omega),at_ 4 (by omega),hp,hc1⟩
 all_goals
  rw [cell _ (by omega),List.getElem?_append_right (by rw [thCells_length]; omega),thCells_length]
  simp [spare5]
theorem RoomySet.toIn {B:Nat} {w:World} {ta ma sa qa:Option Addr} {tc mc sc qc:Nat} {S:SetD} {ca:Nat->Option Addr} {cc:Nat->Nat} (h:RoomySet B w ta ma sa qa tc mc sc qc S ca cc):SetIn w.heap.size w ta ma sa qa S/\(ta=none->tc=0)/\(ma=none->mc=0)/\(sa=none->sc=0)/\(qa=none->qc=0):=by
 have r:=h.toRead
 obtain ⟨gm,em,_⟩:=slice_parts h.m
 obtain ⟨gs,es,_⟩:=slice_parts h.s
 obtain ⟨gq,eq,_⟩:=slice_parts h.q
 obtain ⟨gt,et,htl,ht,_⟩:=r.t
 refine ⟨⟨fun i hi=>?_,fun i hi=>?_,fun i hi=>?_,fun i hi=>?_⟩,fun e=>(by rw [et] at e; cases e),fun e=>(by rw [em] at e; cases e),fun e=>(by rw [es] at e; cases e),fun e=>(by rw [eq] at e; cases e)⟩
 ·obtain ⟨ca,cc,c0,c1,c2,c3,c4,hc,hcc⟩:=ht i hi
  refine ⟨gt,0,ca,cc,et,htl,by rw [Nat.zero_add]; exact c0,by rw [Nat.zero_add]; exact c1,by rw [Nat.zero_add]; exact c2,by rw [Nat.zero_add]; exact c3,by rw [Nat.zero_add]; exact c4,fun j hj=>?_,fun e=>?_⟩
  ·have:=hc j (by simp; omega)
   simpa [List.getElem_append_left hj] using this
  ·subst e
   obtain ⟨b,o,e',_⟩:=hc 0 (by simp)
   cases e'
 ·have:=r.m i (by simp; omega)
  simpa [List.getElem_append_left hi] using this
 ·have:=r.s i (by simp; omega)
  simpa [List.getElem_append_left hi] using this
 ·have:=r.q i (by simp; omega)
  simpa [List.getElem_append_left hi] using this
set_option maxRecDepth 100000 in
set_option maxHeartbeats 2000000 in
theorem codeKept_any (w:World) (ca cv:Option Addr) (cc cvc:Nat) (l:List InstrD) (hl:InstrsIn w.heap.size w cv l) (hc:InstrsIn w.heap.size w ca (l ++ [farI])) (hcc:l.length + 1<=cc) (hll:l.length<=1000000000000000) :
  Calls Tryz.prog 120 #[.slice ca l.length cc,.slice cv l.length cvc] w fun e w'=>e=.returned (.bool true)/\∃ n,w'=w.drewN n:=by
 obtain ⟨g,o,rfl,_,z0,z1,z2⟩:=hc l.length (by simp)
 simp [farI] at z0 z1 z2
 have HL:=hid hl
 have HC:Hid (∀ i (hi:i < l.length),w.cell? ⟨g,o + i * 3,none⟩=some (.int .i64 l[i].op)/\w.cell? ⟨g,o + i * 3 + 1,none⟩=some (.int .i64 l[i].a)/\w.cell? ⟨g,o + i * 3 + 2,none⟩=some (.int .i64 l[i].b)):=fun i hi=>by
  obtain ⟨g',o',e,_,h0,h1,h2⟩:=hc i (by simp; omega)
  cases e
  rw [List.getElem_append_left hi] at h0 h1 h2
  exact ⟨h0,h1,h2⟩
 clear hl hc
 have hccI:(l.length:Int) + 1<=(cc:Int):=by omega
 go_enter Tryz.func120,Tryz.ntmps120
 go_wp2
 go_loopw [6] (fun i wr=>∃ k:Nat,k<=l.length/\i=.int .i64 k/\∃ n,wr=w.drewN n) (fun i _=>l.length - (intOf i).toNat)
 case atStart=>exact ⟨0,Nat.zero_le _,rfl,0,rfl⟩
 case round =>
  obtain ⟨k,hk,rfl,n,rfl⟩:=hrel
  by_cases hlt:k < l.length
  ·obtain ⟨b2,o2,rfl,_,x2,y2,w2⟩:=HL.out k hlt
   obtain ⟨x1,y1,w1⟩:=HC.out k hlt
   have hkI:(k:Int) < (l.length:Int):=by omega
   have hkI1:(k:Int) < (l.length:Int) + 1:=by omega
   generalize l[k]=m at *
   go_wp2_with fail
   go_quiet (fail)
   go_wp2
   go_roundw
   case rel=>exact ⟨k + 1,by omega,by go_num,_,rfl⟩
   case measure=>simp [intOf]; omega
  ·have e:k=l.length:=by omega
   subst e
   have hkI1:(l.length:Int) < (l.length:Int) + 1:=by omega
   go_wp2
   go_ret
   exact ⟨rfl,_,rfl⟩
set_option maxRecDepth 100000 in
set_option maxHeartbeats 4000000 in
theorem threadsKept_any (w:World) (tv:Option Addr) (tvc:Nat) (l:List ThreadD) (hl:ThreadsIn w.heap.size w tv l) (g tc:Nat) (htc:l.length + 1<=tc) (hll:l.length<=1000000000000000) (hcl:∀ i (h:i < l.length),l[i].code.length<=1000000000000000)
  (ht:∀ i (h:i < l.length),∃ ca cc,w.cell? ⟨g,i * 5,none⟩=some (.int .i64 l[i].base)/\w.cell? ⟨g,i * 5 + 1,none⟩=some (.int .i64 l[i].offset)/\w.cell? ⟨g,i * 5 + 2,none⟩=some (.int .i64 l[i].period)/\w.cell? ⟨g,i * 5 + 3,none⟩=some (.int .i64 l[i].deadline)/\w.cell? ⟨g,i * 5 + 4,none⟩=some (.slice ca l[i].code.length cc)/\InstrsIn w.heap.size w ca (l[i].code ++ [farI])/\l[i].code.length + 1<=cc)
  (z0:w.cell? ⟨g,l.length * 5,none⟩=some (.int .i64 (-1000))) (z1:w.cell? ⟨g,l.length * 5 + 1,none⟩=some (.int .i64 0)) (z2:w.cell? ⟨g,l.length * 5 + 2,none⟩=some (.int .i64 0)) (z3:w.cell? ⟨g,l.length * 5 + 3,none⟩=some (.int .i64 0)) (z4:w.cell? ⟨g,l.length * 5 + 4,none⟩=some (.slice none 0 0)) :
  Calls Tryz.prog 80 #[.slice (some ⟨g,0,none⟩) l.length tc,.slice tv l.length tvc] w fun e w'=>e=.returned (.bool true)/\Below w.heap.size w w':=by
 have HL:=hid hl
 have HT:=hid ht
 have HCL:=hid hcl
 clear hl ht hcl
 have htcI:(l.length:Int) + 1<=(tc:Int):=by omega
 go_enter Tryz.func80,Tryz.ntmps80
 go_wp2
 go_loopw [6] (fun i wr=>∃ k:Nat,k<=l.length/\i=.int .i64 k/\∃ n,wr=w.drewN n) (fun i _=>l.length - (intOf i).toNat)
 case atStart=>exact ⟨0,Nat.zero_le _,rfl,0,rfl⟩
 case round =>
  obtain ⟨k,hk,rfl,n,rfl⟩:=hrel
  by_cases hlt:k < l.length
  ·obtain ⟨b,o,cv,cvc,rfl,_,a0,a1,a2,a3,a4,hcode,_⟩:=HL.out k hlt
   obtain ⟨ca,cc,c0,c1,c2,c3,c4,hcin,hcc⟩:=HT.out k hlt
   have hkI:(k:Int) < (l.length:Int):=by omega
   have hkI1:(k:Int) < (l.length:Int) + 1:=by omega
   have CK:Hid (∀ nd,Calls Tryz.prog 120 #[.slice ca l[k].code.length cc,.slice cv l[k].code.length cvc] (w.drewN nd) fun e w'=>e=.returned (.bool true)/\∃ n,w'=(w.drewN nd).drewN n):=fun nd=>codeKept_any (w.drewN nd) ca cv cc cvc l[k].code hcode hcin hcc (HCL.out k hlt)
   clear hcode hcin
   generalize l[k]=m at *
   have CK2:Hid (Calls Tryz.prog 120 #[.slice ca m.code.length cc,.slice cv m.code.length cvc] (w.drewN n).drew fun e w'=>e=.returned (.bool true)/\∃ n',w'=(w.drewN (n + 1)).drewN n'):=CK.out (n + 1)
   clear CK
   go_wp2_with fail
   go_region_held3 (fun w'=>w'.cell? ⟨g,k * 5 + 4,none⟩=some (.slice ca m.code.length cc)/\w'.cell? ⟨b,o + k * 5 + 4,none⟩=some (.slice cv m.code.length cvc)) (simp [*])
    (first
     | (go_at_call 120; refine CK2.out.mono ?_; rintro e w3 ⟨rfl,n',rfl⟩))
   go_wp2_with fail
   go_quiet (fail)
   go_wp2
   go_roundw
   case rel=>exact ⟨k + 1,by omega,by go_num,_,rfl⟩
   case measure=>simp [intOf]; omega
  ·have e:k=l.length:=by omega
   subst e
   have hkI1:(l.length:Int) < (l.length:Int) + 1:=by omega
   have y0:(w.drewN n).cell? ⟨g,l.length * 5,none⟩=some (.int .i64 (-1000)):=z0
   have y1:(w.drewN n).cell? ⟨g,l.length * 5 + 1,none⟩=some (.int .i64 0):=z1
   have y2:(w.drewN n).cell? ⟨g,l.length * 5 + 2,none⟩=some (.int .i64 0):=z2
   have y3:(w.drewN n).cell? ⟨g,l.length * 5 + 3,none⟩=some (.int .i64 0):=z3
   have y4:(w.drewN n).cell? ⟨g,l.length * 5 + 4,none⟩=some (.slice none 0 0):=z4
   have HBD:Hid (Below w.heap.size w (w.drewN n)):=bdrewN (Below.refl _ _) n
   clear z0 z1 z2 z3 z4 HL HT
   generalize w.drewN n=wd at *
   have XZ:=Blk.new wd #[.int .i64 (-1000),.int .i64 0,.int .i64 0,.int .i64 0,.slice none 0 0] 59
   have HBZ:Hid (Below w.heap.size w (wd.alloc (.cells #[.int .i64 (-1000),.int .i64 0,.int .i64 0,.int .i64 0,.slice none 0 0] 59))):=HBD.out.alloc HBD.out.size _
   go_upto_region 9 with fail
   generalize wd.alloc (.cells #[.int .i64 (-1000),.int .i64 0,.int .i64 0,.int .i64 0,.slice none 0 0] 59)=wz at *
   have p0:=XZ.cell 0
   have p1:=XZ.cell 1
   have p2:=XZ.cell 2
   have p3:=XZ.cell 3
   have p4:=XZ.cell 4
   simp at p0 p1 p2 p3 p4
   have hnl:=Tryz.eqNilCode wz
   go_wp2
   go_ret
   exact ⟨by simp,HBZ.out⟩
end Go.Proofs.YtbkfildnijjioaaGreat

namespace Go.Proofs.YtbkfildnijjioaaGreat
open Go.RowKit
set_option maxRecDepth 100000 in
set_option maxHeartbeats 4000000 in
theorem kept_any (tv mv sv qv:Option Addr) (tc mc sc qc:Nat) (S:SetD) (w:World) (hS:SetIn w.heap.size w tv mv sv qv S) (hF:Fits S) (ta ma sa qa:Option Addr) (tc' mc' sc' qc':Nat) (hR:RoomyIn w ta ma sa qa tc' mc' sc' qc' S) :
  Calls Tryz.prog 38 #[.agg #[.int .i64 S.workers,.int .i64 S.start,.slice ta S.threads.length tc',.slice ma S.mutexes.length mc',.slice sa S.sems.length sc',.slice qa S.queues.length qc'],.agg #[.int .i64 S.workers,.int .i64 S.start,.slice tv S.threads.length tc,.slice mv S.mutexes.length mc,.slice sv S.sems.length sc,.slice qv S.queues.length qc]] w fun e w'=>e=.returned (.bool true)/\Below w.heap.size w w':=by
 obtain ⟨gt,rfl,htl,ht,t0,t1,t2,t3,t4⟩:=hR.t
 obtain ⟨gm,om,rfl,hml,m0,m1⟩:=hR.m S.mutexes.length (by simp)
 obtain ⟨gs,os,rfl,hsl,s0,s1⟩:=hR.s S.sems.length (by simp)
 obtain ⟨gq,oq,rfl,hql,q0⟩:=hR.q S.queues.length (by simp)
 simp [farP] at m0 m1 s0 s1 q0
 have hmc:=hR.mc
 have hsc:=hR.sc
 have hqc:=hR.qc
 have htc:=hR.tc
 have fm:=hF.mutexes
 have fs:=hF.sems
 have fq:=hF.queues
 have ft:=hF.threads
 have FC:Hid (∀ k (hk:k < S.threads.length),S.threads[k].code.length * 24<=140737488351232):=hF.codes
 have CM:Hid (∀ i (hi:i < S.mutexes.length),w.cell? ⟨gm,om + i * 2,none⟩=some (.int .i64 S.mutexes[i].x)/\w.cell? ⟨gm,om + i * 2 + 1,none⟩=some (.int .i64 S.mutexes[i].y)):=fun i hi=>by
  obtain ⟨g',o',e,_,h0,h1⟩:=hR.m i (by simp; omega)
  cases e
  rw [List.getElem_append_left hi] at h0 h1
  exact ⟨h0,h1⟩
 have CS:Hid (∀ i (hi:i < S.sems.length),w.cell? ⟨gs,os + i * 2,none⟩=some (.int .i64 S.sems[i].x)/\w.cell? ⟨gs,os + i * 2 + 1,none⟩=some (.int .i64 S.sems[i].y)):=fun i hi=>by
  obtain ⟨g',o',e,_,h0,h1⟩:=hR.s i (by simp; omega)
  cases e
  rw [List.getElem_append_left hi] at h0 h1
  exact ⟨h0,h1⟩
 have CQ:Hid (∀ i (hi:i < S.queues.length),w.cell? ⟨gq,oq + i,none⟩=some (.int .i64 S.queues[i])):=fun i hi=>by
  obtain ⟨g',o',e,_,h0⟩:=hR.q i (by simp; omega)
  cases e
  rw [List.getElem_append_left hi] at h0
  exact h0
 have HS:=hid hS
 have HT:=hid ht
 have ZT:=hid (And.intro t0 (And.intro t1 (And.intro t2 (And.intro t3 t4))))
 clear hS hF hR ht t0 t1 t2 t3 t4
 have hb2:Below w.heap.size w ((w.alloc (.cells #[.int .i64 S.workers,.int .i64 S.start,.slice (some ⟨gt,0,none⟩) S.threads.length tc',.slice (some ⟨gm,om,none⟩) S.mutexes.length mc',.slice (some ⟨gs,os,none⟩) S.sems.length sc',.slice (some ⟨gq,oq,none⟩) S.queues.length qc'] 27)).alloc (.cells #[.int .i64 S.workers,.int .i64 S.start,.slice tv S.threads.length tc,.slice mv S.mutexes.length mc,.slice sv S.sems.length sc,.slice qv S.queues.length qc] 27)):=((Below.refl _ _).alloc (Nat.le_refl _) _).alloc (by simp) _
 have X2:Blk ((w.alloc (.cells #[.int .i64 S.workers,.int .i64 S.start,.slice (some ⟨gt,0,none⟩) S.threads.length tc',.slice (some ⟨gm,om,none⟩) S.mutexes.length mc',.slice (some ⟨gs,os,none⟩) S.sems.length sc',.slice (some ⟨gq,oq,none⟩) S.queues.length qc'] 27)).alloc (.cells #[.int .i64 S.workers,.int .i64 S.start,.slice tv S.threads.length tc,.slice mv S.mutexes.length mc,.slice sv S.sems.length sc,.slice qv S.queues.length qc] 27)) w.heap.size #[.int .i64 S.workers,.int .i64 S.start,.slice (some ⟨gt,0,none⟩) S.threads.length tc',.slice (some ⟨gm,om,none⟩) S.mutexes.length mc',.slice (some ⟨gs,os,none⟩) S.sems.length sc',.slice (some ⟨gq,oq,none⟩) S.queues.length qc'] 27:=(Blk.new w #[.int .i64 S.workers,.int .i64 S.start,.slice (some ⟨gt,0,none⟩) S.threads.length tc',.slice (some ⟨gm,om,none⟩) S.mutexes.length mc',.slice (some ⟨gs,os,none⟩) S.sems.length sc',.slice (some ⟨gq,oq,none⟩) S.queues.length qc'] 27).alloc _
 have Y2:Blk ((w.alloc (.cells #[.int .i64 S.workers,.int .i64 S.start,.slice (some ⟨gt,0,none⟩) S.threads.length tc',.slice (some ⟨gm,om,none⟩) S.mutexes.length mc',.slice (some ⟨gs,os,none⟩) S.sems.length sc',.slice (some ⟨gq,oq,none⟩) S.queues.length qc'] 27)).alloc (.cells #[.int .i64 S.workers,.int .i64 S.start,.slice tv S.threads.length tc,.slice mv S.mutexes.length mc,.slice sv S.sems.length sc,.slice qv S.queues.length qc] 27)) (w.heap.size + 1) #[.int .i64 S.workers,.int .i64 S.start,.slice tv S.threads.length tc,.slice mv S.mutexes.length mc,.slice sv S.sems.length sc,.slice qv S.queues.length qc] 27:=by
  have:=Blk.new (w.alloc (.cells #[.int .i64 S.workers,.int .i64 S.start,.slice (some ⟨gt,0,none⟩) S.threads.length tc',.slice (some ⟨gm,om,none⟩) S.mutexes.length mc',.slice (some ⟨gs,os,none⟩) S.sems.length sc',.slice (some ⟨gq,oq,none⟩) S.queues.length qc'] 27)) #[.int .i64 S.workers,.int .i64 S.start,.slice tv S.threads.length tc,.slice mv S.mutexes.length mc,.slice sv S.sems.length sc,.slice qv S.queues.length qc] 27
  simpa using this
 have TK3:=hid (fun wx (hx:Below w.heap.size w wx)=>threadsKept_any wx tv tc S.threads (HS.out.later hx).threads gt tc' htc (by omega) (fun i hi=>by have:=FC.out i hi; omega) (fun i hi=>by
  obtain ⟨ca,cc,c0,c1,c2,c3,c4,hc,hcc⟩:=HT.out i hi
  refine ⟨ca,cc,(hx.cell (p:=⟨gt,i * 5,none⟩) htl).trans c0,(hx.cell (p:=⟨gt,i * 5 + 1,none⟩) htl).trans c1,(hx.cell (p:=⟨gt,i * 5 + 2,none⟩) htl).trans c2,(hx.cell (p:=⟨gt,i * 5 + 3,none⟩) htl).trans c3,(hx.cell (p:=⟨gt,i * 5 + 4,none⟩) htl).trans c4,fun j hj=>?_,hcc⟩
  obtain ⟨b,o,e,hb,h0,h1,h2⟩:=hc j hj
  exact ⟨b,o,e,Nat.lt_of_lt_of_le hb hx.size,(hx.cell (p:=⟨b,o + j * 3,none⟩) hb).trans h0,(hx.cell (p:=⟨b,o + j * 3 + 1,none⟩) hb).trans h1,(hx.cell (p:=⟨b,o + j * 3 + 2,none⟩) hb).trans h2⟩) ((hx.cell (p:=⟨gt,S.threads.length * 5,none⟩) htl).trans ZT.out.1) ((hx.cell (p:=⟨gt,S.threads.length * 5 + 1,none⟩) htl).trans ZT.out.2.1) ((hx.cell (p:=⟨gt,S.threads.length * 5 + 2,none⟩) htl).trans ZT.out.2.2.1) ((hx.cell (p:=⟨gt,S.threads.length * 5 + 3,none⟩) htl).trans ZT.out.2.2.2.1) ((hx.cell (p:=⟨gt,S.threads.length * 5 + 4,none⟩) htl).trans ZT.out.2.2.2.2))
 go_enter Tryz.func38,Tryz.ntmps38
 go_upto_region 1 with fail
 have M0:=(hb2.cell (p:=⟨gm,om + S.mutexes.length * 2,none⟩) hml).trans m0
 have M1:=(hb2.cell (p:=⟨gm,om + S.mutexes.length * 2 + 1,none⟩) hml).trans m1
 have S0:=(hb2.cell (p:=⟨gs,os + S.sems.length * 2,none⟩) hsl).trans s0
 have S1:=(hb2.cell (p:=⟨gs,os + S.sems.length * 2 + 1,none⟩) hsl).trans s1
 have Q0:=(hb2.cell (p:=⟨gq,oq + S.queues.length,none⟩) hql).trans q0
 have CM2:Hid (∀ i (hi:i < S.mutexes.length),((w.alloc (.cells #[.int .i64 S.workers,.int .i64 S.start,.slice (some ⟨gt,0,none⟩) S.threads.length tc',.slice (some ⟨gm,om,none⟩) S.mutexes.length mc',.slice (some ⟨gs,os,none⟩) S.sems.length sc',.slice (some ⟨gq,oq,none⟩) S.queues.length qc'] 27)).alloc (.cells #[.int .i64 S.workers,.int .i64 S.start,.slice tv S.threads.length tc,.slice mv S.mutexes.length mc,.slice sv S.sems.length sc,.slice qv S.queues.length qc] 27)).cell? ⟨gm,om + i * 2,none⟩=some (.int .i64 S.mutexes[i].x)/\((w.alloc (.cells #[.int .i64 S.workers,.int .i64 S.start,.slice (some ⟨gt,0,none⟩) S.threads.length tc',.slice (some ⟨gm,om,none⟩) S.mutexes.length mc',.slice (some ⟨gs,os,none⟩) S.sems.length sc',.slice (some ⟨gq,oq,none⟩) S.queues.length qc'] 27)).alloc (.cells #[.int .i64 S.workers,.int .i64 S.start,.slice tv S.threads.length tc,.slice mv S.mutexes.length mc,.slice sv S.sems.length sc,.slice qv S.queues.length qc] 27)).cell? ⟨gm,om + i * 2 + 1,none⟩=some (.int .i64 S.mutexes[i].y)):=fun i hi=>⟨(hb2.cell (p:=⟨gm,om + i * 2,none⟩) hml).trans (CM.out i hi).1,(hb2.cell (p:=⟨gm,om + i * 2 + 1,none⟩) hml).trans (CM.out i hi).2⟩
 have CS2:Hid (∀ i (hi:i < S.sems.length),((w.alloc (.cells #[.int .i64 S.workers,.int .i64 S.start,.slice (some ⟨gt,0,none⟩) S.threads.length tc',.slice (some ⟨gm,om,none⟩) S.mutexes.length mc',.slice (some ⟨gs,os,none⟩) S.sems.length sc',.slice (some ⟨gq,oq,none⟩) S.queues.length qc'] 27)).alloc (.cells #[.int .i64 S.workers,.int .i64 S.start,.slice tv S.threads.length tc,.slice mv S.mutexes.length mc,.slice sv S.sems.length sc,.slice qv S.queues.length qc] 27)).cell? ⟨gs,os + i * 2,none⟩=some (.int .i64 S.sems[i].x)/\((w.alloc (.cells #[.int .i64 S.workers,.int .i64 S.start,.slice (some ⟨gt,0,none⟩) S.threads.length tc',.slice (some ⟨gm,om,none⟩) S.mutexes.length mc',.slice (some ⟨gs,os,none⟩) S.sems.length sc',.slice (some ⟨gq,oq,none⟩) S.queues.length qc'] 27)).alloc (.cells #[.int .i64 S.workers,.int .i64 S.start,.slice tv S.threads.length tc,.slice mv S.mutexes.length mc,.slice sv S.sems.length sc,.slice qv S.queues.length qc] 27)).cell? ⟨gs,os + i * 2 + 1,none⟩=some (.int .i64 S.sems[i].y)):=fun i hi=>⟨(hb2.cell (p:=⟨gs,os + i * 2,none⟩) hsl).trans (CS.out i hi).1,(hb2.cell (p:=⟨gs,os + i * 2 + 1,none⟩) hsl).trans (CS.out i hi).2⟩
 have CQ2:Hid (∀ i (hi:i < S.queues.length),((w.alloc (.cells #[.int .i64 S.workers,.int .i64 S.start,.slice (some ⟨gt,0,none⟩) S.threads.length tc',.slice (some ⟨gm,om,none⟩) S.mutexes.length mc',.slice (some ⟨gs,os,none⟩) S.sems.length sc',.slice (some ⟨gq,oq,none⟩) S.queues.length qc'] 27)).alloc (.cells #[.int .i64 S.workers,.int .i64 S.start,.slice tv S.threads.length tc,.slice mv S.mutexes.length mc,.slice sv S.sems.length sc,.slice qv S.queues.length qc] 27)).cell? ⟨gq,oq + i,none⟩=some (.int .i64 S.queues[i])):=fun i hi=>(hb2.cell (p:=⟨gq,oq + i,none⟩) hql).trans (CQ.out i hi)
 have HS2:=hid (HS.out.later hb2)
 clear m0 m1 s0 s1 q0 CM CS CQ
 generalize (w.alloc (.cells #[.int .i64 S.workers,.int .i64 S.start,.slice (some ⟨gt,0,none⟩) S.threads.length tc',.slice (some ⟨gm,om,none⟩) S.mutexes.length mc',.slice (some ⟨gs,os,none⟩) S.sems.length sc',.slice (some ⟨gq,oq,none⟩) S.queues.length qc'] 27)).alloc (.cells #[.int .i64 S.workers,.int .i64 S.start,.slice tv S.threads.length tc,.slice mv S.mutexes.length mc,.slice sv S.sems.length sc,.slice qv S.queues.length qc] 27)=w2 at *
 have HB2:=hid hb2
 have x2:=X2.cell 2
 have x3:=X2.cell 3
 have x4:=X2.cell 4
 have x5:=X2.cell 5
 have y2:=Y2.cell 2
 have y3:=Y2.cell 3
 have y4:=Y2.cell 4
 have y5:=Y2.cell 5
 simp at x2 x3 x4 x5 y2 y3 y4 y5
 have hl1:=X2.lt
 have hl2:=Y2.lt
 have hmI:(S.mutexes.length:Int) + 1<=(mc':Int):=by omega
 have hsI:(S.sems.length:Int) + 1<=(sc':Int):=by omega
 have hqI:(S.queues.length:Int) + 1<=(qc':Int):=by omega
 clear hb2 X2 Y2 HT ZT HS
 go_wp2
 go_loopw [6] (fun i wr=>∃ k:Nat,k<=S.mutexes.length/\i=.int .i64 k/\∃ n,wr=w2.drewN n) (fun i _=>S.mutexes.length - (intOf i).toNat)
 case atStart=>exact ⟨0,Nat.zero_le _,rfl,0,rfl⟩
 case round =>
  obtain ⟨k,hk,rfl,n,rfl⟩:=hrel
  by_cases hlt:k < S.mutexes.length
  ·obtain ⟨b2,o2,rfl,_,p0,p1⟩:=HS2.out.mutexes k hlt
   obtain ⟨r0,r1⟩:=CM2.out k hlt
   have hkI:(k:Int) < (S.mutexes.length:Int):=by omega
   have hkI1:(k:Int) < (S.mutexes.length:Int) + 1:=by omega
   generalize S.mutexes[k]=m at *
   go_wp2_with fail
   go_quiet (fail)
   go_wp2
   go_roundw
   case rel=>exact ⟨k + 1,by omega,by go_num,_,rfl⟩
   case measure=>simp [intOf]; omega
  ·have e:k=S.mutexes.length:=by omega
   subst e
   clear hk hlt
   go_wp2
   go_loopw [8] (fun i wr=>∃ k:Nat,k<=S.sems.length/\i=.int .i64 k/\∃ n,wr=w2.drewN n) (fun i _=>S.sems.length - (intOf i).toNat)
   case atStart=>exact ⟨0,Nat.zero_le _,rfl,n,rfl⟩
   case round =>
    obtain ⟨k,hk,rfl,n,rfl⟩:=hrel
    by_cases hlt:k < S.sems.length
    ·obtain ⟨b2,o2,rfl,_,p0,p1⟩:=HS2.out.sems k hlt
     obtain ⟨r0,r1⟩:=CS2.out k hlt
     have hkI:(k:Int) < (S.sems.length:Int):=by omega
     have hkI1:(k:Int) < (S.sems.length:Int) + 1:=by omega
     generalize S.sems[k]=m at *
     go_wp2_with fail
     go_quiet (fail)
     go_wp2
     go_roundw
     case rel=>exact ⟨k + 1,by omega,by go_num,_,rfl⟩
     case measure=>simp [intOf]; omega
    ·have e:k=S.sems.length:=by omega
     subst e
     clear hk hlt
     go_wp2
     go_loopw [10] (fun i wr=>∃ k:Nat,k<=S.queues.length/\i=.int .i64 k/\∃ n,wr=w2.drewN n) (fun i _=>S.queues.length - (intOf i).toNat)
     case atStart=>exact ⟨0,Nat.zero_le _,rfl,n,rfl⟩
     case round =>
      obtain ⟨k,hk,rfl,n,rfl⟩:=hrel
      by_cases hlt:k < S.queues.length
      ·obtain ⟨b2,o2,rfl,_,p0⟩:=HS2.out.queues k hlt
       have r0:=CQ2.out k hlt
       have hkI:(k:Int) < (S.queues.length:Int):=by omega
       have hkI1:(k:Int) < (S.queues.length:Int) + 1:=by omega
       generalize S.queues[k]=m at *
       go_wp2_with fail
       go_quiet (fail)
       go_wp2
       go_roundw
       case rel=>exact ⟨k + 1,by omega,by go_num,_,rfl⟩
       case measure=>simp [intOf]; omega
      ·have e:k=S.queues.length:=by omega
       subst e
       clear hk hlt
       have hbn:Below w.heap.size w (w2.drewN n):=bdrewN HB2.out n
       have TKN:=hid (TK3.out (w2.drewN n) hbn)
       go_wp2_with fail
       refine TKN.out.mono ?_
       rintro e w3 ⟨rfl,hb3⟩
       have cellK:∀ p:Addr,p.block < w2.heap.size->w3.cell? p=w2.cell? p:=fun p hp=>hb3.cell (p:=p) hp
       have M0':=(cellK ⟨gm,om + S.mutexes.length * 2,none⟩ (Nat.lt_of_lt_of_le hml HB2.out.size)).trans M0
       have M1':=(cellK ⟨gm,om + S.mutexes.length * 2 + 1,none⟩ (Nat.lt_of_lt_of_le hml HB2.out.size)).trans M1
       have S0':=(cellK ⟨gs,os + S.sems.length * 2,none⟩ (Nat.lt_of_lt_of_le hsl HB2.out.size)).trans S0
       have S1':=(cellK ⟨gs,os + S.sems.length * 2 + 1,none⟩ (Nat.lt_of_lt_of_le hsl HB2.out.size)).trans S1
       have Q0':=(cellK ⟨gq,oq + S.queues.length,none⟩ (Nat.lt_of_lt_of_le hql HB2.out.size)).trans Q0
       have y3':=(cellK ⟨w.heap.size + 1,3,none⟩ hl2).trans y3
       have y4':=(cellK ⟨w.heap.size + 1,4,none⟩ hl2).trans y4
       have y5':=(cellK ⟨w.heap.size + 1,5,none⟩ hl2).trans y5
       have HB3:=hid (via hbn hbn.size hb3)
       have i1:(S.mutexes.length:Int) < (S.mutexes.length:Int) + 1:=by omega
       have i2:(S.sems.length:Int) < (S.sems.length:Int) + 1:=by omega
       have i3:(S.queues.length:Int) < (S.queues.length:Int) + 1:=by omega
       clear cellK hb3 hbn TKN
       go_wp2
       go_ret
       exact ⟨by simp,HB3.out⟩
end Go.Proofs.YtbkfildnijjioaaGreat

namespace Go.Proofs.YtbkfildnijjioaaGreat
open Go.RowKit
theorem own_prefix {w:World} {B:Nat} {e:TypeId} {size n cap:Nat} {ao:Option Addr} {xs:List Value} (h:w.ownsRow B e size (.slice ao (n + 1) cap) (n + 1) xs):∃ ys,w.ownsRow B e size (.slice ao n cap) n ys/\ys=xs.take (n * size):=by
 refine ⟨xs.take (n * size),⟨?_,?_⟩,rfl⟩
 ·have h1:=h.1
  rw [List.length_take,h1,Nat.succ_mul]
  omega
 ·rcases h.2 with ⟨e,_⟩ | ⟨g',cap',cur',e,hb,hg,h4,h5,h6,h7⟩
  ·cases e
  ·cases e
   refine .inr ⟨g',cap,cur',rfl,hb,hg,by omega,h5,h6,?_⟩
   rw [<- h7,List.take_take,Nat.succ_mul]
   congr 1
   omega
theorem own_set {w:World} {B:Nat} {e:TypeId} {size n:Nat} {v:Value} (h:∃ xs,w.ownsRow B e size v n xs) (g j:Nat) (u:Value):∃ xs,(w.setCell ⟨g,j,none⟩ u).ownsRow B e size v n xs:=by
 obtain ⟨xs,hr⟩:=h
 rcases hr.2 with ⟨rfl,rfl⟩ | ⟨g',cap',cur',rfl,_⟩
 ·exact ⟨xs,hr.1,.inl ⟨rfl,rfl⟩⟩
 ·by_cases e:g=g'
  ·subst e
   exact ⟨_,(hr.stored j u).1⟩
  ·exact ⟨xs,ownsRow_same hr fun b hb=>by
    cases hb
    exact Below.heap_setCell _ _ _ _ (Ne.symm e)⟩
structure Spoils (Q:Nat->Prop) (B:Nat) (w0 wr:World) (nt:Nat) (vm vs vq vt:Value) (nm ns nq:Nat) (cv:Nat->Value) (cn:Nat->Nat) (k:Nat):Prop where
 m:∃ xs,wr.ownsRow B 125 2 vm nm xs
 s:∃ xs,wr.ownsRow B 116 2 vs ns xs
 q:∃ xs,wr.ownsRow B 3 1 vq nq xs
 t:∃ C,wr.ownsRow B 59 5 vt nt C/\∀ i,i < nt->k<=i->C[i * 5 + 4]?=some (cv i)
 c:∀ i,i < nt->∃ xs,wr.ownsRow B 61 3 (cv i) (cn i) xs
 b:Turns Q w0 wr
 hm:∀ g,vm.ownBlock=some g->Q g
 hs:∀ g,vs.ownBlock=some g->Q g
 hq:∀ g,vq.ownBlock=some g->Q g
 ht:∀ g,vt.ownBlock=some g->Q g
 hc:∀ i,i < nt->∀ g,(cv i).ownBlock=some g->Q g
theorem Turns.setCell {Q:Nat->Prop} {w0 wr:World} (h:Turns Q w0 wr) {g j:Nat} (hg:Q g) (u:Value):Turns Q w0 (wr.setCell ⟨g,j,none⟩ u):=by
 have h1:Below g wr (wr.setCell ⟨g,j,none⟩ u):=(Below.refl g wr).setCell (p:=⟨g,j,none⟩) (Nat.le_refl g) u
 refine ⟨h1.os.trans h.os,h1.tape.trans h.tape,h1.output.trans h.output,Nat.le_trans h.size h1.size,fun k hk hn=>?_⟩
 rw [Below.heap_setCell _ _ _ _ (fun e=>hn (by rw [e]; exact hg))]
 exact h.block k hk hn
section
variable {Q:Nat->Prop} {B:Nat} {w0 wr:World} {nt:Nat} {vm vs vq vt:Value} {nm ns nq:Nat} {cv:Nat->Value} {cn:Nat->Nat} {k:Nat}
theorem Spoils.set (h:Spoils Q B w0 wr nt vm vs vq vt nm ns nq cv cn k) (g j:Nat) (u:Value) {e:TypeId} (hg:TypeAt wr g e) (he:e ≠ 59) (hB:Q g):Spoils Q B w0 (wr.setCell ⟨g,j,none⟩ u) nt vm vs vq vt nm ns nq cv cn k:=by
 obtain ⟨C,hr,hc⟩:=h.t
 exact ⟨own_set h.m g j u,own_set h.s g j u,own_set h.q g j u,⟨C,(TK.of_set hg u).row hr (Ne.symm he),hc⟩,fun i hi=>own_set (h.c i hi) g j u,h.b.setCell hB _,h.hm,h.hs,h.hq,h.ht,h.hc⟩
end
theorem typeAt_set {w:World} {b g j:Nat} {e:TypeId} (h:TypeAt w b e) (u:Value):TypeAt (w.setCell ⟨g,j,none⟩ u) b e:=by
 obtain ⟨c,hc⟩:=h
 by_cases e1:b=g
 ·subst e1
  have:Blk w b c e:=hc
  exact ⟨_,this.set j u⟩
 ·refine ⟨c,?_⟩
  rw [Below.heap_setCell _ _ _ _ e1]
  exact hc
set_option maxRecDepth 100000 in
set_option maxHeartbeats 4000000 in
theorem spoil_any (Q:Nat->Prop) (B:Nat) (w:World) (a0 a1:Int) (ta ma sa qa:Option Addr) (tc mc sc qc nt nm ns nq:Nat) (ca:Nat->Option Addr) (cn cc:Nat->Nat) (hnt:nt<=1000000000000000) (hnm:nm<=1000000000000000) (hns:ns<=1000000000000000) (hnq:nq<=1000000000000000) (hcn:∀ i,i < nt->cn i<=1000000000000000)
  (h:Spoils Q B w w nt (.slice ma nm mc) (.slice sa ns sc) (.slice qa nq qc) (.slice ta nt tc) nm ns nq (fun i=>.slice (ca i) (cn i) (cc i)) cn 0) :
  Calls Tryz.prog 39 #[.agg #[.int .i64 a0,.int .i64 a1,.slice ta nt tc,.slice ma nm mc,.slice sa ns sc,.slice qa nq qc]] w fun e w'=>e=.returned (.tuple #[])/\Turns Q w w':=by
 have hbw:Below w.heap.size w (w.alloc (.cells #[.int .i64 a0,.int .i64 a1,.slice ta nt tc,.slice ma nm mc,.slice sa ns sc,.slice qa nq qc] 27)):=(Below.refl _ _).alloc (Nat.le_refl _) _
 have X1:=Blk.new w #[.int .i64 a0,.int .i64 a1,.slice ta nt tc,.slice ma nm mc,.slice sa ns sc,.slice qa nq qc] 27
 have SP1:Spoils Q B w (w.alloc (.cells #[.int .i64 a0,.int .i64 a1,.slice ta nt tc,.slice ma nm mc,.slice sa ns sc,.slice qa nq qc] 27)) nt (.slice ma nm mc) (.slice sa ns sc) (.slice qa nq qc) (.slice ta nt tc) nm ns nq (fun i=>.slice (ca i) (cn i) (cc i)) cn 0:=by
  have keep:∀ {e:TypeId} {size n:Nat} {v:Value} {xs:List Value},w.ownsRow B e size v n xs->(w.alloc (.cells #[.int .i64 a0,.int .i64 a1,.slice ta nt tc,.slice ma nm mc,.slice sa ns sc,.slice qa nq qc] 27)).ownsRow B e size v n xs:=fun hr=>ownsRow_same hr fun g hg=>hbw.block g (ownsRow_block hr hg).2.1
  obtain ⟨x1,h1⟩:=h.m
  obtain ⟨x2,h2⟩:=h.s
  obtain ⟨x3,h3⟩:=h.q
  obtain ⟨x4,h4,h4c⟩:=h.t
  refine ⟨⟨_,keep h1⟩,⟨_,keep h2⟩,⟨_,keep h3⟩,⟨_,keep h4,h4c⟩,fun i hi=>?_,Turns.of_below hbw,h.hm,h.hs,h.hq,h.ht,h.hc⟩
  obtain ⟨x5,h5⟩:=h.c i hi
  exact ⟨_,keep h5⟩
 have HCN:=hid hcn
 clear h hbw hcn
 go_enter Tryz.func39,Tryz.ntmps39
 go_upto_region 1 with fail
 generalize w.alloc (.cells #[.int .i64 a0,.int .i64 a1,.slice ta nt tc,.slice ma nm mc,.slice sa ns sc,.slice qa nq qc] 27)=w1 at *
 have XX:=hid X1
 have SP:=hid SP1
 clear X1 SP1
 go_wp2
 go_loopw [2] (fun i wr=>∃ k:Nat,k<=nm/\i=.int .i64 k/\Blk wr w.heap.size #[.int .i64 a0,.int .i64 a1,.slice ta nt tc,.slice ma nm mc,.slice sa ns sc,.slice qa nq qc] 27/\Spoils Q B w wr nt (.slice ma nm mc) (.slice sa ns sc) (.slice qa nq qc) (.slice ta nt tc) nm ns nq (fun i=>.slice (ca i) (cn i) (cc i)) cn 0) (fun i _=>nm - (intOf i).toNat)
 case atStart=>exact ⟨0,Nat.zero_le _,rfl,XX.out,SP.out⟩
 case round =>
  obtain ⟨k,hk,rfl,hx,hsp⟩:=hrel
  have y3:=hx.cell 3
  have y4:=hx.cell 4
  have y5:=hx.cell 5
  have y2:=hx.cell 2
  simp at y2 y3 y4 y5
  have hxl:=hx.lt
  have HX:=hid hx
  have HSP:=hid hsp
  clear hx hsp
  by_cases hlt:k < nm
  ·have hkI:(k:Int) < (nm:Int):=by omega
   obtain ⟨xs,hr⟩:=HSP.out.m
   have hsom:∃ g,ma=some ⟨g,0,none⟩:=by
    rcases hr.2 with ⟨e,h0⟩ | ⟨g',cap,cur',e,_⟩
    ·omega
    ·cases e
     exact ⟨_,rfl⟩
   obtain ⟨g,rfl⟩:=hsom
   have hxs:xs.length=nm * 2:=hr.1
   have d0:wr.cell? ⟨g,k * 2,none⟩=some (xs[k * 2]'(by omega)):=by rw [hr.cellAt _ (by omega)]; exact List.getElem?_eq_getElem _
   have d1:wr.cell? ⟨g,k * 2 + 1,none⟩=some (xs[k * 2 + 1]'(by omega)):=by rw [hr.cellAt _ (by omega)]; exact List.getElem?_eq_getElem _
   have e0:=hr.frozenAt (k * 2)
   have e1:=hr.frozenAt (k * 2 + 1)
   have tg:TypeAt wr g 125:=row_type hr rfl
   have hBg:Q g:=HSP.out.hm g rfl
   have SP2:=hid ((HSP.out.set g (k * 2) (.int .i64 (-1000)) tg (by decide) hBg).set g (k * 2 + 1) (.int .i64 (-1000)) (typeAt_set tg _) (by decide) hBg)
   have hne:w.heap.size ≠ g:=fun e=>TypeAt.ne (⟨_,HX.out⟩:TypeAt wr w.heap.size 27) tg (by decide) e
   have X2:=hid ((HX.out.other (p:=⟨g,k * 2,none⟩) hne (.int .i64 (-1000))).other (p:=⟨g,k * 2 + 1,none⟩) hne (.int .i64 (-1000)))
   clear hr tg HSP HX
   generalize xs[k * 2]'(by omega)=o0 at *
   generalize xs[k * 2 + 1]'(by omega)=o1 at *
   go_wp2
   go_roundw
   case rel=>exact ⟨k + 1,by omega,by go_num,X2.out,SP2.out⟩
   case measure=>simp [intOf]; omega
  ·have hkn:(nm:Int)<=(k:Int):=by omega
   clear hk hlt
   go_wp2
   go_loopw [3] (fun i wr=>∃ k:Nat,k<=ns/\i=.int .i64 k/\Blk wr w.heap.size #[.int .i64 a0,.int .i64 a1,.slice ta nt tc,.slice ma nm mc,.slice sa ns sc,.slice qa nq qc] 27/\Spoils Q B w wr nt (.slice ma nm mc) (.slice sa ns sc) (.slice qa nq qc) (.slice ta nt tc) nm ns nq (fun i=>.slice (ca i) (cn i) (cc i)) cn 0) (fun i _=>ns - (intOf i).toNat)
   case atStart=>exact ⟨0,Nat.zero_le _,rfl,HX.out,HSP.out⟩
   case round =>
    obtain ⟨k,hk,rfl,hx,hsp⟩:=hrel
    clear HX HSP y2 y3 y4 y5
    have y3:=hx.cell 3
    have y4:=hx.cell 4
    have y5:=hx.cell 5
    have y2:=hx.cell 2
    simp at y2 y3 y4 y5
    have hxl:=hx.lt
    have HX:=hid hx
    have HSP:=hid hsp
    clear hx hsp
    by_cases hlt:k < ns
    ·have hkI:(k:Int) < (ns:Int):=by omega
     obtain ⟨xs,hr⟩:=HSP.out.s
     have hsom:∃ g,sa=some ⟨g,0,none⟩:=by
      rcases hr.2 with ⟨e,h0⟩ | ⟨g',cap,cur',e,_⟩
      ·omega
      ·cases e
       exact ⟨_,rfl⟩
     obtain ⟨g,rfl⟩:=hsom
     have hxs:xs.length=ns * 2:=hr.1
     have d0:wr.cell? ⟨g,k * 2,none⟩=some (xs[k * 2]'(by omega)):=by rw [hr.cellAt _ (by omega)]; exact List.getElem?_eq_getElem _
     have d1:wr.cell? ⟨g,k * 2 + 1,none⟩=some (xs[k * 2 + 1]'(by omega)):=by rw [hr.cellAt _ (by omega)]; exact List.getElem?_eq_getElem _
     have e0:=hr.frozenAt (k * 2)
     have e1:=hr.frozenAt (k * 2 + 1)
     have tg:TypeAt wr g 116:=row_type hr rfl
     have hBg:Q g:=HSP.out.hs g rfl
     have SP2:=hid ((HSP.out.set g (k * 2) (.int .i64 (-1000)) tg (by decide) hBg).set g (k * 2 + 1) (.int .i64 (-1000)) (typeAt_set tg _) (by decide) hBg)
     have hne:w.heap.size ≠ g:=fun e=>TypeAt.ne (⟨_,HX.out⟩:TypeAt wr w.heap.size 27) tg (by decide) e
     have X2:=hid ((HX.out.other (p:=⟨g,k * 2,none⟩) hne (.int .i64 (-1000))).other (p:=⟨g,k * 2 + 1,none⟩) hne (.int .i64 (-1000)))
     clear hr tg HSP HX
     generalize xs[k * 2]'(by omega)=o0 at *
     generalize xs[k * 2 + 1]'(by omega)=o1 at *
     go_wp2
     go_roundw
     case rel=>exact ⟨k + 1,by omega,by go_num,X2.out,SP2.out⟩
     case measure=>simp [intOf]; omega
    ·have hkn:(ns:Int)<=(k:Int):=by omega
     clear hk hlt
     go_wp2
     go_loopw [4] (fun i wr=>∃ k:Nat,k<=nq/\i=.int .i64 k/\Blk wr w.heap.size #[.int .i64 a0,.int .i64 a1,.slice ta nt tc,.slice ma nm mc,.slice sa ns sc,.slice qa nq qc] 27/\Spoils Q B w wr nt (.slice ma nm mc) (.slice sa ns sc) (.slice qa nq qc) (.slice ta nt tc) nm ns nq (fun i=>.slice (ca i) (cn i) (cc i)) cn 0) (fun i _=>nq - (intOf i).toNat)
     case atStart=>exact ⟨0,Nat.zero_le _,rfl,HX.out,HSP.out⟩
     case round =>
      obtain ⟨k,hk,rfl,hx,hsp⟩:=hrel
      clear HX HSP y2 y3 y4 y5
      have y3:=hx.cell 3
      have y4:=hx.cell 4
      have y5:=hx.cell 5
      have y2:=hx.cell 2
      simp at y2 y3 y4 y5
      have hxl:=hx.lt
      have HX:=hid hx
      have HSP:=hid hsp
      clear hx hsp
      by_cases hlt:k < nq
      ·have hkI:(k:Int) < (nq:Int):=by omega
       obtain ⟨xs,hr⟩:=HSP.out.q
       have hsom:∃ g,qa=some ⟨g,0,none⟩:=by
        rcases hr.2 with ⟨e,h0⟩ | ⟨g',cap,cur',e,_⟩
        ·omega
        ·cases e
         exact ⟨_,rfl⟩
       obtain ⟨g,rfl⟩:=hsom
       have hxs:xs.length=nq * 1:=hr.1
       have d0:wr.cell? ⟨g,k,none⟩=some (xs[k]'(by omega)):=by rw [hr.cellAt _ (by omega)]; exact List.getElem?_eq_getElem _
       have e0:=hr.frozenAt k
       have tg:TypeAt wr g 3:=row_type hr rfl
       have hBg:Q g:=HSP.out.hq g rfl
       have SP2:=hid (HSP.out.set g k (.int .i64 (-1000)) tg (by decide) hBg)
       have hne:w.heap.size ≠ g:=fun e=>TypeAt.ne (⟨_,HX.out⟩:TypeAt wr w.heap.size 27) tg (by decide) e
       have X2:=hid (HX.out.other (p:=⟨g,k,none⟩) hne (.int .i64 (-1000)))
       clear hr tg HSP HX
       generalize xs[k]'(by omega)=o0 at *
       go_wp2
       go_roundw
       case rel=>exact ⟨k + 1,by omega,by go_num,X2.out,SP2.out⟩
       case measure=>simp [intOf]; omega
      ·have hkn:(nq:Int)<=(k:Int):=by omega
       clear hk hlt
       go_wp2
       go_loopw [5] (fun i wr=>∃ k:Nat,k<=nt/\i=.int .i64 k/\Blk wr w.heap.size #[.int .i64 a0,.int .i64 a1,.slice ta nt tc,.slice ma nm mc,.slice sa ns sc,.slice qa nq qc] 27/\Spoils Q B w wr nt (.slice ma nm mc) (.slice sa ns sc) (.slice qa nq qc) (.slice ta nt tc) nm ns nq (fun i=>.slice (ca i) (cn i) (cc i)) cn k) (fun i _=>nt - (intOf i).toNat)
       case atStart=>exact ⟨0,Nat.zero_le _,rfl,HX.out,HSP.out⟩
       case round =>
        obtain ⟨k,hk,rfl,hx,hsp⟩:=hrel
        clear HX HSP y2 y3 y4 y5
        have y2:=hx.cell 2
        simp at y2
        have hxl:=hx.lt
        have HX:=hid hx
        have HSP:=hid hsp
        clear hx hsp
        by_cases hlt:k < nt
        ·have hkI:(k:Int) < (nt:Int):=by omega
         obtain ⟨C,hr,hC⟩:=HSP.out.t
         have hsom:∃ g,ta=some ⟨g,0,none⟩:=by
          rcases hr.2 with ⟨e,h0⟩ | ⟨g',cap,cur',e,_⟩
          ·omega
          ·cases e
           exact ⟨_,rfl⟩
         obtain ⟨g,rfl⟩:=hsom
         have hxs:C.length=nt * 5:=hr.1
         have d4:wr.cell? ⟨g,k * 5 + 4,none⟩=some (.slice (ca k) (cn k) (cc k)):=by rw [hr.cellAt _ (by omega)]; exact hC k hlt (Nat.le_refl _)
         have hck:=HCN.out k hlt
         clear hr hC C hxs
         go_wp2
         go_loopw [7] (fun i wr=>∃ j:Nat,j<=cn k/\i=.int .i64 j/\Blk wr w.heap.size #[.int .i64 a0,.int .i64 a1,.slice (some ⟨g,0,none⟩) nt tc,.slice ma nm mc,.slice sa ns sc,.slice qa nq qc] 27/\Spoils Q B w wr nt (.slice ma nm mc) (.slice sa ns sc) (.slice qa nq qc) (.slice (some ⟨g,0,none⟩) nt tc) nm ns nq (fun i=>.slice (ca i) (cn i) (cc i)) cn k) (fun i _=>cn k - (intOf i).toNat)
         case atStart=>exact ⟨0,Nat.zero_le _,rfl,HX.out,HSP.out⟩
         case round =>
          obtain ⟨j,hj,rfl,hx,hsp⟩:=hrel
          clear HX HSP y2 d4
          have HX:=hid hx
          have HSP:=hid hsp
          have y2:=hx.cell 2
          simp at y2
          have hxl:=hx.lt
          clear hx hsp
          by_cases hjl:j < cn k
          ·have hjI:(j:Int) < (cn k:Int):=by omega
           obtain ⟨xs,hr⟩:=HSP.out.c k hlt
           have hsom:∃ b,ca k=some ⟨b,0,none⟩:=by
            rcases hr.2 with ⟨e,h0⟩ | ⟨g',cap,cur',e,_⟩
            ·omega
            ·simp only [Value.slice.injEq] at e
             exact ⟨_,e.1⟩
           obtain ⟨b,hb⟩:=hsom
           rw [hb] at hr ⊢
           have hxs:xs.length=cn k * 3:=hr.1
           have d0:wr.cell? ⟨b,j * 3,none⟩=some (xs[j * 3]'(by omega)):=by rw [hr.cellAt _ (by omega)]; exact List.getElem?_eq_getElem _
           have d1:wr.cell? ⟨b,j * 3 + 1,none⟩=some (xs[j * 3 + 1]'(by omega)):=by rw [hr.cellAt _ (by omega)]; exact List.getElem?_eq_getElem _
           have d2:wr.cell? ⟨b,j * 3 + 2,none⟩=some (xs[j * 3 + 2]'(by omega)):=by rw [hr.cellAt _ (by omega)]; exact List.getElem?_eq_getElem _
           have e0:=hr.frozenAt (j * 3)
           have e1:=hr.frozenAt (j * 3 + 1)
           have e2:=hr.frozenAt (j * 3 + 2)
           have tg:TypeAt wr b 61:=row_type hr rfl
           have hBg:Q b:=HSP.out.hc k hlt b (by rw [hb]; rfl)
           have SP2:=hid (((HSP.out.set b (j * 3) (.int .i64 (-1000)) tg (by decide) hBg).set b (j * 3 + 1) (.int .i64 (-1000)) (typeAt_set tg _) (by decide) hBg).set b (j * 3 + 2) (.int .i64 (-1000)) (typeAt_set (typeAt_set tg _) _) (by decide) hBg)
           have hne:w.heap.size ≠ b:=fun e=>TypeAt.ne (⟨_,HX.out⟩:TypeAt wr w.heap.size 27) tg (by decide) e
           have X2:=hid (((HX.out.other (p:=⟨b,j * 3,none⟩) hne (.int .i64 (-1000))).other (p:=⟨b,j * 3 + 1,none⟩) hne (.int .i64 (-1000))).other (p:=⟨b,j * 3 + 2,none⟩) hne (.int .i64 (-1000)))
           clear hr tg HSP HX
           generalize xs[j * 3]'(by omega)=o0 at *
           generalize xs[j * 3 + 1]'(by omega)=o1 at *
           generalize xs[j * 3 + 2]'(by omega)=o2 at *
           go_wp2
           go_roundw
           case rel=>exact ⟨j + 1,by omega,by go_num,X2.out,SP2.out⟩
           case measure=>simp [intOf]; omega
          ·have hjn:(cn k:Int)<=(j:Int):=by omega
           obtain ⟨C,hr,hC⟩:=HSP.out.t
           have hxs:C.length=nt * 5:=hr.1
           have d0:wr.cell? ⟨g,k * 5,none⟩=some (C[k * 5]'(by omega)):=by rw [hr.cellAt _ (by omega)]; exact List.getElem?_eq_getElem _
           have d1:wr.cell? ⟨g,k * 5 + 1,none⟩=some (C[k * 5 + 1]'(by omega)):=by rw [hr.cellAt _ (by omega)]; exact List.getElem?_eq_getElem _
           have d2:wr.cell? ⟨g,k * 5 + 2,none⟩=some (C[k * 5 + 2]'(by omega)):=by rw [hr.cellAt _ (by omega)]; exact List.getElem?_eq_getElem _
           have d3:wr.cell? ⟨g,k * 5 + 3,none⟩=some (C[k * 5 + 3]'(by omega)):=by rw [hr.cellAt _ (by omega)]; exact List.getElem?_eq_getElem _
           have d4:wr.cell? ⟨g,k * 5 + 4,none⟩=some (C[k * 5 + 4]'(by omega)):=by rw [hr.cellAt _ (by omega)]; exact List.getElem?_eq_getElem _
           have e0:=hr.frozenAt (k * 5)
           have e1:=hr.frozenAt (k * 5 + 1)
           have e2:=hr.frozenAt (k * 5 + 2)
           have e3:=hr.frozenAt (k * 5 + 3)
           have e4:=hr.frozenAt (k * 5 + 4)
           have hBg:Q g:=HSP.out.ht g rfl
           have tg:TypeAt wr g 59:=row_type hr rfl
           have rAll:=(((((hr.stored (k * 5) (.int .i64 (-1000))).1.stored (k * 5 + 1) (.int .i64 (-1000))).1.stored (k * 5 + 2) (.int .i64 (-1000))).1.stored (k * 5 + 3) (.int .i64 (-1000))).1.stored (k * 5 + 4) (.slice none 0 0)).1
           have hne:w.heap.size ≠ g:=fun e=>TypeAt.ne (⟨_,HX.out⟩:TypeAt wr w.heap.size 27) tg (by decide) e
           have X2:=hid (((((HX.out.other (p:=⟨g,k * 5,none⟩) hne (.int .i64 (-1000))).other (p:=⟨g,k * 5 + 1,none⟩) hne (.int .i64 (-1000))).other (p:=⟨g,k * 5 + 2,none⟩) hne (.int .i64 (-1000))).other (p:=⟨g,k * 5 + 3,none⟩) hne (.int .i64 (-1000))).other (p:=⟨g,k * 5 + 4,none⟩) hne (.slice none 0 0))
           have SP2:Hid (Spoils Q B w (((((wr.setCell ⟨g,k * 5,none⟩ (.int .i64 (-1000))).setCell ⟨g,k * 5 + 1,none⟩ (.int .i64 (-1000))).setCell ⟨g,k * 5 + 2,none⟩ (.int .i64 (-1000))).setCell ⟨g,k * 5 + 3,none⟩ (.int .i64 (-1000))).setCell ⟨g,k * 5 + 4,none⟩ (.slice none 0 0)) nt (.slice ma nm mc) (.slice sa ns sc) (.slice qa nq qc) (.slice (some ⟨g,0,none⟩) nt tc) nm ns nq (fun i=>.slice (ca i) (cn i) (cc i)) cn (k + 1)):=by
            refine ⟨own_set (own_set (own_set (own_set (own_set HSP.out.m _ _ _) _ _ _) _ _ _) _ _ _) _ _ _,own_set (own_set (own_set (own_set (own_set HSP.out.s _ _ _) _ _ _) _ _ _) _ _ _) _ _ _,own_set (own_set (own_set (own_set (own_set HSP.out.q _ _ _) _ _ _) _ _ _) _ _ _) _ _ _,⟨_,rAll,fun i hi hki=>?_⟩,fun i hi=>own_set (own_set (own_set (own_set (own_set (HSP.out.c i hi) _ _ _) _ _ _) _ _ _) _ _ _) _ _ _,((((HSP.out.b.setCell hBg _).setCell hBg _).setCell hBg _).setCell hBg _).setCell hBg _,HSP.out.hm,HSP.out.hs,HSP.out.hq,HSP.out.ht,HSP.out.hc⟩
            have h0:=hC i hi (by omega)
            have n0:k * 5 ≠ i * 5 + 4:=by omega
            have n1:k * 5 + 1 ≠ i * 5 + 4:=by omega
            have n2:k * 5 + 2 ≠ i * 5 + 4:=by omega
            have n3:k * 5 + 3 ≠ i * 5 + 4:=by omega
            have n4:k * 5 + 4 ≠ i * 5 + 4:=by omega
            rw [List.getElem?_set_ne n4,List.getElem?_set_ne n3,List.getElem?_set_ne n2,List.getElem?_set_ne n1,List.getElem?_set_ne n0]
            exact h0
           clear hr hC tg HSP HX rAll
           generalize C[k * 5]'(by omega)=o0 at *
           generalize C[k * 5 + 1]'(by omega)=o1 at *
           generalize C[k * 5 + 2]'(by omega)=o2 at *
           generalize C[k * 5 + 3]'(by omega)=o3 at *
           generalize C[k * 5 + 4]'(by omega)=o4 at *
           go_wp2
           go_roundw
           case rel=>exact ⟨k + 1,by omega,by go_num,X2.out,SP2.out⟩
           case measure=>simp [intOf]; omega
        ·have hkn2:(nt:Int)<=(k:Int):=by omega
         go_wp2
         go_end0
         exact ⟨rfl,HSP.out.b⟩
end Go.Proofs.YtbkfildnijjioaaGreat

namespace Go.Proofs.YtbkfildnijjioaaGreat
open Go.RowKit
def lineV (x:LineD) (ra:Option Addr) (rc:Nat) (ma:Option Addr) (mc:Nat):Value:=.agg #[.int .i64 x.th,.int .i64 x.at_,.int .i64 x.cd,.int .i64 x.er,.int .i64 x.now,.slice ra x.run.length rc,.slice ma x.mis.length mc]
def LinesAt (w:World) (ao:Option Addr) (L:List LineD):Prop :=
 ∀ i (hi:i < L.length),∃ b o ra rc ma mc,ao=some ⟨b,o,none⟩/\b < w.heap.size/\(∀ j,j < 7->w.cell? ⟨b,o + i * 7 + j,none⟩=(lineCells L[i] (.slice ra (L[i]).run.length rc) (.slice ma (L[i]).mis.length mc))[j]?)/\IntsIn w.heap.size w ra (L[i]).run/\MissesIn w.heap.size w ma (L[i]).mis
theorem LinesAt.of_row {B:Nat} {w:World} {v:Value} {C:List Value} {L:List LineD} {Q:Nat->Prop} (hr:w.ownsRow B 75 7 v L.length C) (hl:LRow B w Q C L):∃ ao ca,v=.slice ao L.length ca/\(ao=none->ca=0)/\LinesAt w ao L:=by
 obtain ⟨ao,ca,rfl,hn,ha⟩:=owns_cells hr
 refine ⟨ao,ca,rfl,fun hh=>(hn hh).2,fun i hi=>?_⟩
 cases ao with
 | none=>have:=(hn rfl).1; omega
 | some a =>
  obtain ⟨g,rfl,_,hlt,_,hc⟩:=ha a rfl
  obtain ⟨rv,mv,lm,hcell⟩:=hl.cells i hi
  obtain ⟨ra,rc,rfl,_,hri,_⟩:=IntsIn.of_owns lm.run
  obtain ⟨ma,mc,rfl,_,hmi⟩:=MissesIn.of_owns lm.mis
  refine ⟨g,0,ra,rc,ma,mc,rfl,hlt,fun j hj=>?_,hri,hmi⟩
  rw [Nat.zero_add,hc _ (by have:=hr.1; omega)]
  exact hcell j hj
theorem LinesAt.on {w w':World} {ao:Option Addr} {L:List LineD} (h:LinesAt w ao L) (hb:Below w.heap.size w w'):LinesAt w' ao L:=by
 intro i hi
 obtain ⟨b,o,ra,rc,ma,mc,e,hl,hc,h1,h2⟩:=h i hi
 exact ⟨b,o,ra,rc,ma,mc,e,Nat.lt_of_lt_of_le hl hb.size,fun j hj=>(hb.cell (p:=⟨b,o + i * 7 + j,none⟩) hl).trans (hc j hj),h1.on hb,h2.on hb⟩
set_option maxRecDepth 100000 in
set_option maxHeartbeats 2000000 in
theorem sameLine_eq (w:World) (x:LineD) (ra:Option Addr) (rc:Nat) (ma:Option Addr) (mc:Nat) (ra':Option Addr) (rc':Nat) (ma':Option Addr) (mc':Nat)
  (h1:IntsIn w.heap.size w ra x.run) (h2:MissesIn w.heap.size w ma x.mis) (h3:IntsIn w.heap.size w ra' x.run) (h4:MissesIn w.heap.size w ma' x.mis) (hr:x.run.length<=1099511627776) (hm:x.mis.length<=1099511627776) :
  Calls Tryz.prog 32 #[lineV x ra rc ma mc,lineV x ra' rc' ma' mc'] w fun e w'=>e=.returned (.bool true)/\Below w.heap.size w w':=by
 unfold lineV
 have H1:=hid h1
 have H2:=hid h2
 have H3:=hid h3
 have H4:=hid h4
 clear h1 h2 h3 h4
 obtain ⟨tt,aa,cc,ee,nn,rr,mm⟩:=x
 dsimp only at *
 have hb1:Below w.heap.size w (w.alloc (.cells #[.int .i64 tt,.int .i64 aa,.int .i64 cc,.int .i64 ee,.int .i64 nn,.slice ra rr.length rc,.slice ma mm.length mc] 75)):=(Below.refl _ _).alloc (Nat.le_refl _) _
 have X1:=Blk.new w #[.int .i64 tt,.int .i64 aa,.int .i64 cc,.int .i64 ee,.int .i64 nn,.slice ra rr.length rc,.slice ma mm.length mc] 75
 have hb2:Below (w.heap.size + 1) (w.alloc (.cells #[.int .i64 tt,.int .i64 aa,.int .i64 cc,.int .i64 ee,.int .i64 nn,.slice ra rr.length rc,.slice ma mm.length mc] 75)) ((w.alloc (.cells #[.int .i64 tt,.int .i64 aa,.int .i64 cc,.int .i64 ee,.int .i64 nn,.slice ra rr.length rc,.slice ma mm.length mc] 75)).alloc (.cells #[.int .i64 tt,.int .i64 aa,.int .i64 cc,.int .i64 ee,.int .i64 nn,.slice ra' rr.length rc',.slice ma' mm.length mc'] 75)):=(Below.refl _ _).alloc (by simp) _
 have X2:=Blk.new (w.alloc (.cells #[.int .i64 tt,.int .i64 aa,.int .i64 cc,.int .i64 ee,.int .i64 nn,.slice ra rr.length rc,.slice ma mm.length mc] 75)) #[.int .i64 tt,.int .i64 aa,.int .i64 cc,.int .i64 ee,.int .i64 nn,.slice ra' rr.length rc',.slice ma' mm.length mc'] 75
 have hsz1:(w.alloc (.cells #[.int .i64 tt,.int .i64 aa,.int .i64 cc,.int .i64 ee,.int .i64 nn,.slice ra rr.length rc,.slice ma mm.length mc] 75)).heap.size=w.heap.size + 1:=by simp
 go_enter Tryz.func32,Tryz.ntmps32
 go_upto_region 1 with fail
 have hb3:Below w.heap.size w ((w.alloc (.cells #[.int .i64 tt,.int .i64 aa,.int .i64 cc,.int .i64 ee,.int .i64 nn,.slice ra rr.length rc,.slice ma mm.length mc] 75)).alloc (.cells #[.int .i64 tt,.int .i64 aa,.int .i64 cc,.int .i64 ee,.int .i64 nn,.slice ra' rr.length rc',.slice ma' mm.length mc'] 75)):=hb1.trans (hb2.mono (by omega))
 have Y1:Blk ((w.alloc (.cells #[.int .i64 tt,.int .i64 aa,.int .i64 cc,.int .i64 ee,.int .i64 nn,.slice ra rr.length rc,.slice ma mm.length mc] 75)).alloc (.cells #[.int .i64 tt,.int .i64 aa,.int .i64 cc,.int .i64 ee,.int .i64 nn,.slice ra' rr.length rc',.slice ma' mm.length mc'] 75)) w.heap.size #[.int .i64 tt,.int .i64 aa,.int .i64 cc,.int .i64 ee,.int .i64 nn,.slice ra rr.length rc,.slice ma mm.length mc] 75:=by
  have h:=X1
  unfold Blk at h ⊢
  rw [hb2.block _ (by omega)]
  exact h
 rw [hsz1] at X2
 clear hb1 X1 hb2
 generalize (w.alloc (.cells #[.int .i64 tt,.int .i64 aa,.int .i64 cc,.int .i64 ee,.int .i64 nn,.slice ra rr.length rc,.slice ma mm.length mc] 75)).alloc (.cells #[.int .i64 tt,.int .i64 aa,.int .i64 cc,.int .i64 ee,.int .i64 nn,.slice ra' rr.length rc',.slice ma' mm.length mc'] 75)=w2 at *
 clear hsz1
 have YY:=hid (And.intro Y1 X2)
 have HB3:=hid hb3
 have p0:=Y1.cell 0
 have p1:=Y1.cell 1
 have p2:=Y1.cell 2
 have r0:=X2.cell 0
 have r1:=X2.cell 1
 have r2:=X2.cell 2
 simp at p0 p1 p2 r0 r1 r2
 have hl1:=Y1.lt
 have hl2:=X2.lt
 clear Y1 X2 hb3
 go_wp2_with fail
 refine (sameReport_eq w2 tt aa cc).mono ?_
 rintro e w3 ⟨rfl,hb3⟩
 have Y3:=YY.out.1.onto hb3
 have Z3:=YY.out.2.onto hb3
 have HB4:=hid (via HB3.out HB3.out.size hb3)
 clear p0 p1 p2 r0 r1 r2 hl1 hl2 YY HB3 hb3
 have p5:=Y3.cell 5
 have r5:=Z3.cell 5
 have p6:=Y3.cell 6
 have r6:=Z3.cell 6
 have p3:=Y3.cell 3
 have r3:=Z3.cell 3
 have p4:=Y3.cell 4
 have r4:=Z3.cell 4
 simp at p3 r3 p4 r4 p5 r5 p6 r6
 have hl1:=Y3.lt
 have hl2:=Z3.lt
 clear Y3 Z3
 go_wp2_with fail
 refine (sameInts_eq w3 ra ra' rc rc' rr (H1.out.on HB4.out) (H3.out.on HB4.out) hr).mono ?_
 rintro e w4 ⟨rfl,n,rfl⟩
 have HB5:=hid (bdrewN HB4.out n)
 have hm2:=hid (H2.out.on HB5.out)
 have hm4:=hid (H4.out.on HB5.out)
 go_wp2_with fail
 refine (sameMisses_eq (w3.drewN n) ma ma' mc mc' mm hm2.out hm4.out hm).mono ?_
 rintro e w5 ⟨rfl,n',rfl⟩
 go_wp2
 go_ret
 refine ⟨by simp,?_⟩
 have:=bdrewN HB4.out (n + n')
 exact this
set_option maxRecDepth 100000 in
set_option maxHeartbeats 2000000 in
theorem sameLines_eq (w:World) (ao bo:Option Addr) (ca cb:Nat) (L:List LineD) (ha:LinesAt w ao L) (hb:LinesAt w bo L) (hl:L.length<=1000) (hx:∀ x ∈ L,x.run.length<=1099511627776/\x.mis.length<=1099511627776) :
  Calls Tryz.prog 18 #[.slice ao L.length ca,.slice bo L.length cb] w fun e w'=>e=.returned (.bool true)/\Below w.heap.size w w':=by
 have HA:=hid ha
 have HB:=hid hb
 have HX:=hid hx
 clear ha hb hx
 go_enter Tryz.func18,Tryz.ntmps18
 go_wp2
 go_loopw [5] (fun i wr=>∃ k:Nat,k<=L.length/\i=.int .i64 k/\Below w.heap.size w wr) (fun i _=>L.length - (intOf i).toNat)
 case atStart=>exact ⟨0,Nat.zero_le _,rfl,Below.refl _ _⟩
 case round =>
  obtain ⟨k,hk,rfl,hb⟩:=hrel
  have HBW:=hid hb
  clear hb
  by_cases hlt:k < L.length
  ·obtain ⟨b1,o1,ra,rc,ma,mc,rfl,hb1,c1,i1,m1⟩:=(HA.out.on HBW.out) k hlt
   obtain ⟨b2,o2,ra',rc',ma',mc',rfl,hb2,c2,i2,m2⟩:=(HB.out.on HBW.out) k hlt
   obtain ⟨hxr,hxm⟩:=HX.out L[k] (List.getElem_mem hlt)
   have hkI:(k:Int) < (L.length:Int):=by omega
   have SL:=hid (fun wx (hbx:Below wr.heap.size wr wx)=>sameLine_eq wx L[k] ra rc ma mc ra' rc' ma' mc' (i1.on hbx) (m1.on hbx) (i2.on hbx) (m2.on hbx) hxr hxm)
   unfold lineV at SL
   have p0:=c1 0 (by omega)
   have p1:=c1 1 (by omega)
   have p2:=c1 2 (by omega)
   have p3:=c1 3 (by omega)
   have p4:=c1 4 (by omega)
   have p5:=c1 5 (by omega)
   have p6:=c1 6 (by omega)
   have r0:=c2 0 (by omega)
   have r1:=c2 1 (by omega)
   have r2:=c2 2 (by omega)
   have r3:=c2 3 (by omega)
   have r4:=c2 4 (by omega)
   have r5:=c2 5 (by omega)
   have r6:=c2 6 (by omega)
   simp [lineCells] at p0 p1 p2 p3 p4 p5 p6 r0 r1 r2 r3 r4 r5 r6
   clear i1 m1 i2 m2 c1 c2 hxr hxm
   generalize L[k]=x at *
   have SL2:=hid (SL.out wr.drew (Below.refl _ _).drew)
   clear SL
   go_wp2_with fail
   go_region_held3 (fun w'=>w'.cell? ⟨b1,o1 + k * 7,none⟩=some (.int .i64 x.th)/\w'.cell? ⟨b1,o1 + k * 7 + 1,none⟩=some (.int .i64 x.at_)/\w'.cell? ⟨b1,o1 + k * 7 + 2,none⟩=some (.int .i64 x.cd)/\w'.cell? ⟨b1,o1 + k * 7 + 3,none⟩=some (.int .i64 x.er)/\w'.cell? ⟨b1,o1 + k * 7 + 4,none⟩=some (.int .i64 x.now)/\w'.cell? ⟨b1,o1 + k * 7 + 5,none⟩=some (.slice ra x.run.length rc)/\w'.cell? ⟨b1,o1 + k * 7 + 6,none⟩=some (.slice ma x.mis.length mc)/\w'.cell? ⟨b2,o2 + k * 7,none⟩=some (.int .i64 x.th)/\w'.cell? ⟨b2,o2 + k * 7 + 1,none⟩=some (.int .i64 x.at_)/\w'.cell? ⟨b2,o2 + k * 7 + 2,none⟩=some (.int .i64 x.cd)/\w'.cell? ⟨b2,o2 + k * 7 + 3,none⟩=some (.int .i64 x.er)/\w'.cell? ⟨b2,o2 + k * 7 + 4,none⟩=some (.int .i64 x.now)/\w'.cell? ⟨b2,o2 + k * 7 + 5,none⟩=some (.slice ra' x.run.length rc')/\w'.cell? ⟨b2,o2 + k * 7 + 6,none⟩=some (.slice ma' x.mis.length mc')) (simp [*])
    (first
     | (go_at_call 32; refine SL2.out.mono ?_; rintro e w3 ⟨rfl,hb3⟩; have d0:=cell_later hb3 p0; have d1:=cell_later hb3 p1; have d2:=cell_later hb3 p2; have d3:=cell_later hb3 p3; have d4:=cell_later hb3 p4; have d5:=cell_later hb3 p5; have d6:=cell_later hb3 p6; have g0:=cell_later hb3 r0; have g1:=cell_later hb3 r1; have g2:=cell_later hb3 r2; have g3:=cell_later hb3 r3; have g4:=cell_later hb3 r4; have g5:=cell_later hb3 r5; have g6:=cell_later hb3 r6; have HB3:=hid (via HBW.out.drew (by have:=HBW.out.size; simpa using this) hb3); clear hb3))
   go_wp2
   go_roundw
   case rel=>exact ⟨k + 1,by omega,by go_num,HB3.out⟩
   case measure=>simp [intOf]; omega
  ·go_wp2
   go_ret
   exact ⟨rfl,HBW.out⟩
theorem lineOf_small (s:RS) (n:Int) (h:RInv s) (h':RInv (R.entry s n)):(R.lineOf s n).run.length<=8/\(R.lineOf s n).mis.length<=16:=by
 have e1:(R.lineOf s n).run=R.running (R.entry s n):=by
  unfold R.lineOf R.entry
  split <;> rfl
 have hw:=h'.good.wk1
 refine ⟨by rw [e1,running_len]; omega,?_⟩
 unfold R.lineOf
 split
 ·exact tickL_len s h.good.few
 ·simp
theorem runL_small (S:SetD) (l:List Int):∀ x ∈ R.runL S l,x.run.length<=1099511627776/\x.mis.length<=1099511627776:=by
 intro x hx
 by_cases h1:1000 < l.length
 ·rw [(runL_long h1).1] at hx
  cases hx
 ·by_cases h2:P3.err S=0
  ·rw [(runL_ok h1 h2).1] at hx
   have hthr:S.threads.length<=16:=by
    have:=(good_bare h2).few
    simpa [R.bare] using this
   have hnext:=new_next S hthr
   have inv:=fun j (hj:j<=1000)=>stTo_inv (inv_new h2) l j (by omega)
   have all:∀ k,k<=l.length->∀ x ∈ R.linesTo (R.new S) l k,x.run.length<=8/\x.mis.length<=16:=by
    intro k
    induction k with
    | zero=>intro _ x hx; cases hx
    | succ k ih =>
     intro hk x hx
     rcases List.mem_append.1 hx with h | h
     ·exact ih (by omega) x h
     ·simp at h
      subst h
      exact lineOf_small _ _ (inv k (by omega)).1 (inv (k + 1) (by omega)).1
   have:=all l.length (Nat.le_refl _) x hx
   omega
  ·rw [(runL_bad h1 h2).1] at hx
   cases hx
theorem runL_len (S:SetD) (l:List Int):(R.runL S l).length<=1000:=by
 unfold R.runL
 split
 ·simp
 ·split
  ·simp
  ·rw [R.linesTo_length]
   omega
end Go.Proofs.YtbkfildnijjioaaGreat
