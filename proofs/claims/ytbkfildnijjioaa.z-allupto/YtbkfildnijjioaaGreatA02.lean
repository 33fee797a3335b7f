import Derived.Test.YtbkfildnijjioaaGreatA01
import Derived.Maps.AppendAt
namespace Go.Proofs.YtbkfildnijjioaaGreat
structure RT where
 base:Int
 at_:Int
 last:Int
 got:Int
 rel:Int
 ended:Int
 awake:Bool
 tick:Int
 wkr:Int
 for_:Int
 of_:Int
 until_:Int
 since:Int
structure MissD where
 thread:Int
 job:Int
 time:Int
structure RS where
 set:SetD
 now:Int
 next:Int
 T:List RT
 owner:List Int
 count:List Int
 box:List (List Int)
 missed:List MissD
namespace R
def rt0:RT:=⟨0,0,0,0,0,0,false,0,0,0,0,0,0⟩
def pair0:PairD:=⟨0,0⟩
def th (T:List RT) (t:Nat):RT:=T.getD t rt0
def number (period gone:Int):Int :=
 if gone < 0 then -1 else if period=0 then (if gone=0 then 0 else -1) else if gone % period ≠ 0 then -1 else gone / period
def on (T:List RT) (w:Int):Int:=P3.badOr (fun x:RT=>x.wkr != w) T
def free (T:List RT) (n:Nat):Nat:=P3.bad (fun w:Nat=>decide (0<=on T w)) (List.range n)
def ahead (l:List Int) (T:List RT) (t u:Nat):Bool :=
 (th T u).awake && (decide (l.getD t 0 < l.getD u 0) || (decide (l.getD u 0=l.getD t 0) && decide ((th T u).tick < (th T t).tick)))
def rankTo (l:List Int) (T:List RT) (t:Nat) (k:Nat):Nat:=(List.range k).countP (ahead l T t)
def rank (l:List Int) (T:List RT) (t:Nat):Nat:=rankTo l T t T.length
theorem rankTo_succ (l:List Int) (T:List RT) (t k:Nat):rankTo l T t (k + 1)=rankTo l T t k + if ahead l T t k=true then 1 else 0:=by
 unfold rankTo
 rw [List.range_succ,List.countP_append]
 by_cases h:ahead l T t k=true <;> simp [h]
theorem rankTo_le (l:List Int) (T:List RT) (t k:Nat):rankTo l T t k<=k:=by
 have:=List.countP_le_length (p:=ahead l T t) (l:=List.range k)
 simpa [rankTo] using this
def maxI (a b:Int):Int:=if a < b then b else a
def innerTo (T:List RT) (f:Nat->Int) (m:Nat) (v:Int):Nat->Int
 | 0=>v
 | k + 1=>if (th T k).for_=1/\(th T k).of_=(m:Int) then maxI (innerTo T f m v k) (f k) else innerTo T f m v k
def outerTo (s:RS) (f:Nat->Int) (pos:Bool) (t:Nat):Nat->Int
 | 0=>(th s.T t).base
 | k + 1=>if s.owner.getD k 0 ≠ (t:Int) then outerTo s f pos t k
  else if (s.set.mutexes.getD k pair0).x=1 then maxI (outerTo s f pos t k) (s.set.mutexes.getD k pair0).y
  else if pos=true then innerTo s.T f k (outerTo s f pos t k) s.T.length else outerTo s f pos t k
def level (s:RS):Nat->Nat->Int
 | 0,t=>outerTo s (fun _=>0) false t s.owner.length
 | d + 1,t=>outerTo s (level s d) true t s.owner.length
def Level (s:RS) (t:Nat):Int:=level s s.T.length t
def levels (s:RS):List Int:=(List.range s.T.length).map (Level s)
def setW (T:List RT) (k:Nat) (w:Int):List RT:=T.modify k (fun x=>{ x with wkr:=w })
def place (l:List Int) (T:List RT) (n:Int) (t:Nat):Int :=
 if (th T t).awake=true then (if (rank l T t:Int) < n then (rank l T t:Int) else n) else n
def clearTo (at_:Nat->Int) (n:Int) (T:List RT):Nat->List RT
 | 0=>T
 | k + 1=>if at_ k=n then setW (clearTo at_ n T k) k (-1) else clearTo at_ n T k
def seatIn (at_:Nat->Int) (n:Nat) (r:Nat) (T:List RT):Nat->List RT
 | 0=>T
 | k + 1=>if at_ k=(r:Int)/\(th (seatIn at_ n r T k) k).wkr < 0 then setW (seatIn at_ n r T k) k (free (seatIn at_ n r T k) n) else seatIn at_ n r T k
def seatTo (at_:Nat->Int) (n:Nat) (T:List RT):Nat->List RT
 | 0=>T
 | r + 1=>seatIn at_ n r (seatTo at_ n T r) T.length
def settleT (l:List Int) (T:List RT) (n:Nat):List RT :=
 seatTo (place l T n) n (clearTo (place l T n) n T T.length) n
def settle (s:RS):RS:={ s with T:=settleT (levels s) s.T s.set.workers.toNat }
def running (s:RS):List Int:=(List.range s.set.workers.toNat).map fun (w:Nat)=>on s.T (w:Int)
def wake (s:RS) (t:Nat):RS:={ s with next:=s.next + 1,T:=s.T.modify t (fun x=>{ x with awake:=true,tick:=s.next + 1 }) }
def numberAt (s:RS) (t:Nat) (behind:Int):Int :=
 number (s.set.threads.getD t P3.none0).period (s.now - s.set.start - (s.set.threads.getD t P3.none0).offset - behind)
def releaseOne (s:RS) (t:Nat):RS :=
 if 0<=numberAt s t 0 then
  if (th s.T t).rel=(th s.T t).ended then wake { s with T:=s.T.modify t (fun x=>{ x with rel:=numberAt s t 0 + 1 }) } t
  else { s with T:=s.T.modify t (fun x=>{ x with rel:=numberAt s t 0 + 1 }) }
 else s
def releaseTo (s:RS):Nat->RS
 | 0=>s
 | k + 1=>releaseOne (releaseTo s k) k
def release (s:RS):RS:=releaseTo s s.T.length
def bare (S:SetD):RS :=
 { set:=S,now:=S.start,next:=0,T:=S.threads.map fun t=>{ rt0 with base:=t.base,wkr:=-1 },owner:=S.mutexes.map fun _=>-1,count:=S.sems.map fun m=>m.x,box:=S.queues.map fun _=>[],missed:=[] }
def new (S:SetD):RS:=settle (release (bare S))
theorem setW_length (T:List RT) (k:Nat) (w:Int):(setW T k w).length=T.length:=by simp [setW]
theorem clearTo_length (at_:Nat->Int) (n:Int) (T:List RT) (k:Nat):(clearTo at_ n T k).length=T.length:=by
 induction k with
 | zero=>rfl
 | succ k ih=>unfold clearTo; split <;> simp [setW_length,ih]
theorem seatIn_length (at_:Nat->Int) (n r:Nat) (T:List RT) (k:Nat):(seatIn at_ n r T k).length=T.length:=by
 induction k with
 | zero=>rfl
 | succ k ih=>unfold seatIn; split <;> simp [setW_length,ih]
theorem seatTo_length (at_:Nat->Int) (n:Nat) (T:List RT) (r:Nat):(seatTo at_ n T r).length=T.length:=by
 induction r with
 | zero=>rfl
 | succ r ih=>unfold seatTo; rw [seatIn_length,ih]
theorem settleT_length (l:List Int) (T:List RT) (n:Nat):(settleT l T n).length=T.length:=by
 unfold settleT; rw [seatTo_length,clearTo_length]
theorem th_setW (T:List RT) (k:Nat) (w:Int) (t:Nat):th (setW T k w) t=if t=k/\k < T.length then { th T t with wkr:=w } else th T t:=by
 unfold th setW
 by_cases h:t < T.length
 ·simp only [List.getD_eq_getElem?_getD,List.getElem?_modify]
  by_cases e:k=t
  ·subst e; simp [h]
  ·have e':¬ t=k:=fun x=>e x.symm
   simp [e,e',h]
 ·have h2:¬ (t=k/\k < T.length):=by omega
  simp [List.getD_eq_getElem?_getD,h,h2]
theorem releaseOne_set (s:RS) (t:Nat):(releaseOne s t).set=s.set:=by unfold releaseOne wake; split <;> (try split) <;> rfl
theorem releaseOne_now (s:RS) (t:Nat):(releaseOne s t).now=s.now:=by unfold releaseOne wake; split <;> (try split) <;> rfl
theorem releaseOne_len (s:RS) (t:Nat):(releaseOne s t).T.length=s.T.length:=by unfold releaseOne wake; split <;> (try split) <;> simp
theorem releaseOne_next (s:RS) (t:Nat):s.next<=(releaseOne s t).next/\(releaseOne s t).next<=s.next + 1:=by unfold releaseOne wake; split <;> (try split) <;> simp <;> omega
theorem releaseTo_set (s:RS) (k:Nat):(releaseTo s k).set=s.set:=by
 induction k with
 | zero=>rfl
 | succ k ih=>unfold releaseTo; rw [releaseOne_set,ih]
theorem releaseTo_now (s:RS) (k:Nat):(releaseTo s k).now=s.now:=by
 induction k with
 | zero=>rfl
 | succ k ih=>unfold releaseTo; rw [releaseOne_now,ih]
theorem releaseTo_len (s:RS) (k:Nat):(releaseTo s k).T.length=s.T.length:=by
 induction k with
 | zero=>rfl
 | succ k ih=>unfold releaseTo; rw [releaseOne_len,ih]
theorem releaseTo_next (s:RS) (k:Nat):s.next<=(releaseTo s k).next/\(releaseTo s k).next<=s.next + k:=by
 induction k with
 | zero=>simp [releaseTo]
 | succ k ih=>unfold releaseTo; have:=releaseOne_next (releaseTo s k) k; omega
theorem number_bd (period gone:Int) (hp:0<=period) (hg:gone<=1000000000):-1<=number period gone/\number period gone<=1000000000:=by
 unfold number
 split
 ·omega
 ·split
  ·split <;> omega
  ·split
   ·omega
   ·rename_i h1 h2 _
    have:=Int.ediv_le_self (a:=gone) period (by omega)
    have:=Int.ediv_nonneg (a:=gone) (b:=period) (by omega) hp
    omega
theorem free_at (T:List RT) (n k:Nat) (hk:k < n) (hb:∀ j,j < k->0<=on T (j:Int)) (h:on T (k:Int) < 0):free T n=k:=by
 unfold free
 refine P3.bad_eq _ _ k (by simpa using hk) (by simp; omega) (fun j hj=>by simp; exact hb j hj)
theorem free_none (T:List RT) (n:Nat) (hb:∀ j,j < n->0<=on T (j:Int)):free T n=n:=by
 unfold free
 rw [P3.bad_all _ _ (fun j hj=>by simp; exact hb j (by simpa using hj))]
 simp
theorem free_le (T:List RT) (n:Nat):free T n<=n:=by
 have:=P3.bad_le (fun w:Nat=>decide (0<=on T w)) (List.range n)
 simpa [free] using this
theorem th_clearTo (at_:Nat->Int) (n:Int) (T:List RT) (k t:Nat):(th (clearTo at_ n T k) t).awake=(th T t).awake/\(th (clearTo at_ n T k) t).tick=(th T t).tick:=by
 induction k with
 | zero=>exact ⟨rfl,rfl⟩
 | succ k ih =>
  unfold clearTo
  split
  ·rw [th_setW]
   split <;> exact ih
  ·exact ih
theorem rank_clearTo (l:List Int) (at_:Nat->Int) (n:Int) (T:List RT) (k t:Nat):rank l (clearTo at_ n T k) t=rank l T t:=by
 unfold rank rankTo
 rw [clearTo_length]
 refine List.countP_congr fun u _=>?_
 unfold ahead
 rw [(th_clearTo at_ n T k u).1,(th_clearTo at_ n T k u).2,(th_clearTo at_ n T k t).2]
def atTo (p:Nat->Int) (n k:Nat):List Int:=(List.range n).map fun i=>if i < k then p i else 0
theorem atTo_length (p:Nat->Int) (n k:Nat):(atTo p n k).length=n:=by simp [atTo]
theorem atTo_zero (p:Nat->Int) (n:Nat):atTo p n 0=List.replicate n 0:=by
 apply List.ext_getElem <;> simp [atTo]
theorem atTo_set (p:Nat->Int) (n k:Nat) (_hk:k < n) (x:Int):((atTo p n k).set k x).set k (p k)=atTo p n (k + 1):=by
 rw [List.set_set]
 apply List.ext_getElem
 ·simp [atTo]
 ·intro i h1 h2
  simp only [List.getElem_set,atTo,List.getElem_map,List.getElem_range]
  by_cases e:k=i
  ·subst e; simp
  ·by_cases e2:i < k
   ·simp [e,e2,show i < k + 1 by omega]
   ·simp [e,e2,show ¬ i < k + 1 by omega]
theorem atTo_set1 (p:Nat->Int) (n k:Nat) (hk:k < n):(atTo p n k).set k (p k)=atTo p n (k + 1):=by
 have:=atTo_set p n k hk 0
 rwa [List.set_set] at this
theorem atTo_get (p:Nat->Int) (n i:Nat) (hi:i < n):(atTo p n n)[i]?=some (p i):=by
 simp [atTo,hi]
def beginW (s:RS) (t:Nat) (what of_ n:Int):RS :=
 { s with next:=s.next + 1,T:=s.T.modify t (fun x=>{ x with awake:=false,wkr:=-1,for_:=what,of_:=of_,until_:=if 0<=n then s.now + n else -1,since:=s.next + 1 }) }
def endW (s:RS) (t:Nat) (c:Int):RS:=wake { s with T:=s.T.modify t (fun x=>{ x with for_:=0,of_:=0,until_:=0,last:=c }) } t
def dueTo (T:List RT) (now:Int):Nat->Int
 | 0=>-1
 | k + 1=>if (th T k).for_ ≠ 0/\(th T k).until_=now/\(dueTo T now k < 0\/(th T k).since < (th T (dueTo T now k).toNat).since) then (k:Int) else dueTo T now k
def due (s:RS):Int:=dueTo s.T s.now s.T.length
theorem dueTo_bd (T:List RT) (now:Int) (k:Nat):-1<=dueTo T now k/\dueTo T now k < k:=by
 induction k with
 | zero=>simp [dueTo]
 | succ k ih=>unfold dueTo; split <;> omega
def lateTo (s:RS):Nat->List MissD
 | 0=>[]
 | k + 1=>if (s.set.threads.getD k P3.none0).deadline=0 then lateTo s k
  else if 0<=numberAt s k (s.set.threads.getD k P3.none0).deadline/\(th s.T k).ended<=numberAt s k (s.set.threads.getD k P3.none0).deadline then lateTo s k ++ [⟨(k:Int),numberAt s k (s.set.threads.getD k P3.none0).deadline,s.now⟩]
  else lateTo s k
def late (s:RS):List MissD:=lateTo s s.T.length
theorem lateTo_len (s:RS) (k:Nat):(lateTo s k).length<=k:=by
 induction k with
 | zero=>simp [lateTo]
 | succ k ih =>
  unfold lateTo
  split
  ·omega
  ·split
   ·simp; omega
   ·omega
def endOne (s:RS):RS:=if due s < 0 then s else endW s (due s).toNat (if (th s.T (due s).toNat).for_=4 then 0 else 2)
def endsTo (s:RS):Nat->RS
 | 0=>s
 | k + 1=>endOne (endsTo s k)
def ends (s:RS):RS:=endsTo s s.T.length
def ticked (s:RS):RS:={ s with now:=s.now + 1 }
def missing (s:RS):RS:={ ticked s with missed:=s.missed ++ late (ticked s) }
def tick (s:RS):RS:=settle (release (ends (missing s)))
theorem endsTo_stop (s:RS) (k:Nat) (h:due (endsTo s k) < 0) (j:Nat):endsTo s (k + j)=endsTo s k:=by
 induction j with
 | zero=>rfl
 | succ j ih =>
  show endOne (endsTo s (k + j))=_
  rw [ih]
  unfold endOne
  rw [if_pos h]
theorem endOne_set (s:RS):(endOne s).set=s.set/\(endOne s).now=s.now/\(endOne s).owner=s.owner/\(endOne s).T.length=s.T.length/\s.next<=(endOne s).next/\(endOne s).next<=s.next + 1:=by
 unfold endOne endW wake
 split
 ·exact ⟨rfl,rfl,rfl,rfl,Int.le_refl _,by omega⟩
 ·refine ⟨rfl,rfl,rfl,by simp,?_,?_⟩ <;> simp <;> omega
theorem endsTo_set (s:RS) (k:Nat):(endsTo s k).set=s.set/\(endsTo s k).now=s.now/\(endsTo s k).owner=s.owner/\(endsTo s k).T.length=s.T.length/\s.next<=(endsTo s k).next/\(endsTo s k).next<=s.next + k:=by
 induction k with
 | zero=>exact ⟨rfl,rfl,rfl,rfl,Int.le_refl _,by simp [endsTo]⟩
 | succ k ih =>
  obtain ⟨a,b,c,d,e,f⟩:=endOne_set (endsTo s k)
  unfold endsTo
  exact ⟨a.trans ih.1,b.trans ih.2.1,c.trans ih.2.2.1,d.trans ih.2.2.2.1,by omega,by omega⟩
end R
end Go.Proofs.YtbkfildnijjioaaGreat

namespace Go.Proofs.YtbkfildnijjioaaGreat
open Go.RowKit
def rtCells (x:RT):List Value :=
 [.int .i64 x.base,.int .i64 x.at_,.int .i64 x.last,.int .i64 x.got,.int .i64 x.rel,.int .i64 x.ended,.bool x.awake,.int .i64 x.tick,.int .i64 x.wkr,.int .i64 x.for_,.int .i64 x.of_,.int .i64 x.until_,.int .i64 x.since]
def rtAll (T:List RT):List Value:=T.flatMap rtCells
theorem rtAll_get (T:List RT) (i j:Nat) (hi:i < T.length) (hj:j < 13):(rtAll T)[i * 13 + j]?=(rtCells T[i])[j]?:=by
 induction T generalizing i with
 | nil=>simp at hi
 | cons x T ih =>
  have hx:(rtCells x).length=13:=rfl
  cases i with
  | zero =>
   simp only [rtAll,List.flatMap_cons,Nat.zero_mul,Nat.zero_add,List.getElem_cons_zero]
   rw [List.getElem?_append_left (by omega)]
  | succ i =>
   have:=ih i (by simpa using hi)
   simp only [rtAll,List.flatMap_cons,List.getElem_cons_succ] at this ⊢
   rw [List.getElem?_append_right (by omega),hx,show (i + 1) * 13 + j - 13=i * 13 + j by omega]
   exact this
theorem rtAll_set (T:List RT) (i j:Nat) (hi:i < T.length) (hj:j < 13) (v:Value) (f:RT->RT) (hf:rtCells (f T[i])=(rtCells T[i]).set j v):(rtAll T).set (i * 13 + j) v=rtAll (T.modify i f):=by
 induction T generalizing i with
 | nil=>simp at hi
 | cons x T ih =>
  have hx:(rtCells x).length=13:=rfl
  cases i with
  | zero =>
   simp only [List.getElem_cons_zero] at hf
   simp only [rtAll,List.flatMap_cons,Nat.zero_mul,Nat.zero_add,List.modify_zero_cons]
   rw [List.set_append_left _ _ (by omega),hf]
  | succ i =>
   have:=ih i (by simpa using hi) (by simpa using hf)
   simp only [rtAll,List.flatMap_cons,List.modify_succ_cons] at this ⊢
   rw [List.set_append_right _ _ (by omega),hx,show (i + 1) * 13 + j - 13=i * 13 + j by omega,this]
def missCells (l:List MissD):List Value:=l.flatMap fun m=>[.int .i64 m.thread,.int .i64 m.job,.int .i64 m.time]
theorem intCells_set (l:List Int) (i:Nat) (x:Int):(intCells l).set i (.int .i64 x)=intCells (l.set i x):=by simp [intCells,List.map_set]
structure RGood (s:RS):Prop where
 len:s.T.length=s.set.threads.length
 pos:1<=s.T.length
 few:s.T.length<=16
 wk0:1<=s.set.workers
 wk1:s.set.workers<=8
 own:s.owner.length=s.set.mutexes.length
 mfew:s.set.mutexes.length<=8
 now0:0<=s.set.start
 now1:s.set.start<=s.now
 now2:s.now<=1000000000
 nxt0:0<=s.next
 nxt1:s.next<=4611686018427387904
 off:∀ t ∈ s.set.threads,0<=t.offset/\t.offset<=1000/\0<=t.period/\t.period<=1000/\0<=t.deadline/\t.deadline<=1000
theorem blk_type {w:World} {b:Nat} {cs cs':Array Value} {e e':TypeId} (h:Blk w b cs e) (h':w.heap[b]?=some (.cells cs' e' (0,0))):e=e':=by
 unfold Blk at h
 rw [h] at h'
 cases h'
 rfl
section
variable {F:Nat->Prop} {w w':World} {sb:Nat} {s:RS}
end
section
variable {F:Nat->Prop} {w w':World} {sb:Nat} {s:RS}
end
end Go.Proofs.YtbkfildnijjioaaGreat

namespace Go.Proofs.YtbkfildnijjioaaGreat
open Go.RowKit
theorem wpList_append_src_at {P:Program} {w:World} {ops:Array Oper} {rest:List Oper} {o:Oper} {a:Act} {Q:Exit->Act->World->Prop} (hgd:o.guard=none) (s x:Operand) (t:TypeId)
  (ho:o.op=.call { callee:=.builtin .append,args:=#[s,x],argTypes:=#[t,t] })
  (base:Nat) (e:TypeId) (i:TypeInfo) (z:Value) (size bytes:Nat) (ht:P.underlying t=some (.slice e)) (hi:P.info? e=some i) (hz:i.zero=some z)
  (hsize:i.size=size) (hby:i.bytes=bytes) (hzs:z.cells.size=size) (hsz:0 < size)
  (v:Value) (n:Nat) (xs:List Value) (hs:a.eval s=v) (hown:w.ownsRow base e size v n xs)
  (ao:Option Addr) (m c:Nat) (news:List Value) (hx:a.eval x=.slice ao m c) (hl:news.length=m * size) (hnil:ao=none->c=0)
  (hnews:∀ j u,news[j]?=some u->∃ ad,ao=some ad/\w.cell? (ad.add j)=some u) (h1:∀ u ∈ news,u.oneCell'=true)
  (h63:n + m<=maxLen) (hbytes:(n + m) * bytes<=140737488355328) (hbase:base<=w.heap.size)
  (h:∀ v' w',w'.ownsRow base e size v' (n + m) (xs ++ news)->w.grownBy w' v.ownBlock->(v'.ownBlock=v.ownBlock\/v'.ownBlock=some w.heap.size)->wpList P ops Q rest (a.put o.dst v') w'):wpList P ops Q (o :: rest) a w:=by
 cases ao with
 | none =>
  have hm:m=0:=by
   cases m with
   | zero=>rfl
   | succ k =>
    have hpos:0 < news.length:=by rw [hl]; exact Nat.mul_pos (Nat.succ_pos _) hsz
    obtain ⟨ad,hh,_⟩:=hnews 0 news[0] (List.getElem?_eq_getElem hpos)
    cases hh
  subst hm
  have hc:=hnil rfl
  subst hc
  have hn:news=[]:=by
   apply List.eq_nil_of_length_eq_zero
   rw [hl,Nat.zero_mul]
  subst hn
  refine wpList_append_own_none hgd s x t ho base e i size ht hi v n xs hs hown hx (h v w (by simpa using hown) ⟨rfl,rfl,rfl,Nat.le_refl _,fun _ _ _=>rfl⟩ (Or.inl rfl))
 | some ad =>
  refine wpList_append_own_at w hgd s x t ho base e i z size bytes ht hi hz hsize hby hzs hsz v n xs hs hown ad m c news hx hl (fun j u hj=>?_) h1 h63 hbytes hbase (fun v' w' h2 h3 _ h5=>h v' w' h2 h3 h5)
  obtain ⟨ad',hh,hcell⟩:=hnews j u hj
  cases hh
  exact hcell
structure Turns (Q:Nat->Prop) (w w':World):Prop where
 os:w'.os=w.os
 tape:w'.tape=w.tape
 output:w'.output=w.output
 size:w.heap.size<=w'.heap.size
 block:∀ k,k < w.heap.size->¬ Q k->w'.heap[k]?=w.heap[k]?
theorem Turns.refl (Q:Nat->Prop) (w:World):Turns Q w w:=⟨rfl,rfl,rfl,Nat.le_refl _,fun _ _ _=>rfl⟩
theorem Turns.of_only {Q:Nat->Prop} {L:List Nat} {w w':World} (h:Only L w w') (hq:∀ b,b ∈ L->Q b):Turns Q w w':=⟨h.os,h.tape,h.output,h.size,fun k hk hn=>h.block k hk (fun e=>hn (hq k e))⟩
theorem Turns.of_below {Q:Nat->Prop} {w w':World} (h:Below w.heap.size w w'):Turns Q w w':=⟨h.os,h.tape,h.output,h.size,fun k hk _=>h.block k hk⟩
theorem Turns.trans {Q Q':Nat->Prop} {w0 w1 w2:World} (h:Turns Q w0 w1) (k:Turns Q' w1 w2) (hq:∀ b,Q' b->Q b\/w0.heap.size<=b):Turns Q w0 w2 :=
 ⟨k.os.trans h.os,k.tape.trans h.tape,k.output.trans h.output,Nat.le_trans h.size k.size,fun i hi hn=>(k.block i (Nat.lt_of_lt_of_le hi h.size) (fun e=>(hq i e).elim hn (fun h1=>by omega))).trans (h.block i hi hn)⟩
end Go.Proofs.YtbkfildnijjioaaGreat

namespace Go.Proofs.YtbkfildnijjioaaGreat
namespace Ln
def ins (ah:Nat->Nat->Bool) (t:Nat):List Nat->List Nat
 | []=>[t]
 | x :: r=>if ah t x=true then x :: ins ah t r else t :: x :: r
def back (ah:Nat->Nat->Bool) (aw:Nat->Bool):Nat->List Nat
 | 0=>[]
 | k + 1=>if aw k=true then ins ah k (back ah aw k) else back ah aw k
def line (ah:Nat->Nat->Bool) (aw:Nat->Bool) (n:Nat):List Nat:=(back ah aw n).reverse
theorem ins_perm (ah:Nat->Nat->Bool) (t:Nat) (l:List Nat):(ins ah t l).Perm (t :: l):=by
 induction l with
 | nil=>exact List.Perm.refl _
 | cons x r ih =>
  unfold ins
  split
  ·exact (ih.cons x).trans (List.Perm.swap t x r)
  ·exact List.Perm.refl _
theorem back_perm (ah:Nat->Nat->Bool) (aw:Nat->Bool) (n:Nat):(back ah aw n).Perm ((List.range n).filter aw):=by
 induction n with
 | zero=>exact List.Perm.refl _
 | succ k ih =>
  rw [List.range_succ,List.filter_append]
  unfold back
  by_cases h:aw k=true
  ·rw [if_pos h]
   have e:[k].filter aw=[k]:=by simp [h]
   rw [e]
   exact (ins_perm ah k _).trans ((ih.cons k).trans (List.perm_append_singleton k _).symm)
  ·rw [if_neg h]
   have e:[k].filter aw=[]:=by simp [h]
   rw [e,List.append_nil]
   exact ih
theorem line_perm (ah:Nat->Nat->Bool) (aw:Nat->Bool) (n:Nat):(line ah aw n).Perm ((List.range n).filter aw):=(List.reverse_perm _).trans (back_perm ah aw n)
theorem line_mem {ah:Nat->Nat->Bool} {aw:Nat->Bool} {n t:Nat}:t ∈ line ah aw n ↔ t < n/\aw t=true:=by
 rw [(line_perm ah aw n).mem_iff]
 simp
structure Strict (ah:Nat->Nat->Bool) (n:Nat):Prop where
 asym:∀ a b,a < n->b < n->ah a b=true->ah b a=false
 trans:∀ a b c,a < n->b < n->c < n->ah a b=true->ah b c=true->ah a c=true
 total:∀ a b,a < n->b < n->a ≠ b->ah a b=true\/ah b a=true
theorem ins_sorted {ah:Nat->Nat->Bool} {n:Nat} (st:Strict ah n) {t:Nat} (ht:t < n) {l:List Nat} (hl:∀ x ∈ l,x < n/\x ≠ t) (hs:l.Pairwise (fun a b=>ah b a=true)):(ins ah t l).Pairwise (fun a b=>ah b a=true):=by
 induction l with
 | nil=>simp [ins]
 | cons x r ih =>
  have hx:=hl x (by simp)
  obtain ⟨h1,h2⟩:=List.pairwise_cons.1 hs
  unfold ins
  split
  ·rename_i h
   refine List.pairwise_cons.2 ⟨fun b hb=>?_,ih (fun y hy=>hl y (by simp [hy])) h2⟩
   rcases List.mem_cons.1 ((ins_perm ah t r).mem_iff.1 hb) with rfl | hb
   ·exact h
   ·exact h1 b hb
  ·rename_i h
   have h':ah x t=true:=by
    rcases st.total t x ht hx.1 (Ne.symm hx.2) with h3 | h3
    ·exact absurd h3 h
    ·exact h3
   refine List.pairwise_cons.2 ⟨fun b hb=>?_,hs⟩
   rcases List.mem_cons.1 hb with rfl | hb
   ·exact h'
   ·exact st.trans b x t (hl b (by simp [hb])).1 hx.1 ht (h1 b hb) h'
theorem back_sorted {ah:Nat->Nat->Bool} {aw:Nat->Bool} {n:Nat} (st:Strict ah n) (k:Nat) (hk:k<=n):(back ah aw k).Pairwise (fun a b=>ah b a=true):=by
 induction k with
 | zero=>simp [back]
 | succ k ih =>
  unfold back
  split
  ·refine ins_sorted st (by omega) (fun x hx=>?_) (ih (by omega))
   have:=(back_perm ah aw k).mem_iff.1 hx
   simp at this
   omega
  ·exact ih (by omega)
theorem line_sorted {ah:Nat->Nat->Bool} {aw:Nat->Bool} {n:Nat} (st:Strict ah n):(line ah aw n).Pairwise (fun a b=>ah a b=true):=by
 unfold line
 rw [List.pairwise_reverse]
 exact back_sorted st n (Nat.le_refl _)
theorem count_ahead {ah:Nat->Nat->Bool} {n:Nat} (st:Strict ah n) (irr:∀ a,ah a a=false) {l:List Nat} (hl:∀ x ∈ l,x < n) (hs:l.Pairwise (fun a b=>ah a b=true)) (i:Nat) (hi:i < l.length):l.countP (fun u=>ah u l[i])=i:=by
 induction l generalizing i with
 | nil=>simp at hi
 | cons x r ih =>
  obtain ⟨h1,h2⟩:=List.pairwise_cons.1 hs
  have hx:=hl x (by simp)
  cases i with
  | zero =>
   simp only [List.getElem_cons_zero]
   rw [List.countP_eq_zero.2]
   intro u hu
   rcases List.mem_cons.1 hu with rfl | hu
   ·simp [irr]
   ·have:=st.asym x u hx (hl u (by simp [hu])) (h1 u hu)
    simp [this]
  | succ i =>
   have hi':i < r.length:=by simpa using hi
   simp only [List.getElem_cons_succ]
   rw [List.countP_cons,ih (fun y hy=>hl y (by simp [hy])) h2 i hi']
   have:=h1 r[i] (List.getElem_mem hi')
   simp [this]
theorem rank_line {ah:Nat->Nat->Bool} {aw:Nat->Bool} {n:Nat} (st:Strict ah n) (irr:∀ a,ah a a=false) (i:Nat) (hi:i < (line ah aw n).length):(List.range n).countP (fun u=>aw u && ah u (line ah aw n)[i])=i:=by
 have h1:=count_ahead st irr (fun x hx=>(line_mem.1 hx).1) (line_sorted (aw:=aw) st) i hi
 have h2:(List.range n).countP (fun u=>aw u && ah u (line ah aw n)[i])=((List.range n).filter aw).countP (fun u=>ah u (line ah aw n)[i]):=by
  rw [List.countP_filter]
  refine List.countP_congr fun u _=>?_
  rw [Bool.and_comm]
 rw [h2,<- (line_perm ah aw n).countP_eq]
 exact h1
end Ln
end Go.Proofs.YtbkfildnijjioaaGreat

namespace Go.Proofs.YtbkfildnijjioaaGreat
namespace R
def namedTo (l:List Int) (t:Int):Nat->Bool
 | 0=>false
 | i + 1=>namedTo l t i || (l.getD i 0 == t)
def goesFirst (s:RS) (t b:Nat):Bool:=decide (Level s b < Level s t) || (decide (Level s t=Level s b) && decide ((th s.T t).since < (th s.T b).since))
def firstTo (s:RS) (what of_:Int) (l:List Int):Nat->Int
 | 0=>-1
 | k + 1 =>
  if (th s.T k).for_ ≠ what\/(th s.T k).of_ ≠ of_ then firstTo s what of_ l k
  else if namedTo l (k:Int) l.length=true then firstTo s what of_ l k
  else if firstTo s what of_ l k < 0 then (k:Int)
  else if goesFirst s k (firstTo s what of_ l k).toNat=true then (k:Int) else firstTo s what of_ l k
def first (s:RS) (what of_:Int) (l:List Int):Int:=firstTo s what of_ l s.T.length
theorem firstTo_bd (s:RS) (what of_:Int) (l:List Int) (k:Nat):-1<=firstTo s what of_ l k/\firstTo s what of_ l k < k:=by
 induction k with
 | zero=>simp [firstTo]
 | succ k ih =>
  unfold firstTo
  split
  ·omega
  ·split
   ·omega
   ·split
    ·omega
    ·split <;> omega
def giveT (s:RS) (what of_:Int):Int:=first s what of_ []
def giveS (s:RS) (what of_:Int):RS:=if 0<=giveT s what of_ then endW s (giveT s what of_).toNat 0 else s
def roundTo (s:RS) (t:Nat):Nat->Int->Bool
 | 0,_=>false
 | n + 1,o=>if o < 0\/o=(t:Int) then decide (o=(t:Int)) else if (th s.T o.toNat).for_ ≠ 1 then false else roundTo s t n (s.owner.getD (th s.T o.toNat).of_.toNat 0)
def round (s:RS) (t m:Nat):Bool:=roundTo s t (s.T.length + 1) (s.owner.getD m 0)
def lockC (s:RS) (t m:Nat) (n:Int):Int :=
 if s.owner.getD m 0=(t:Int) then 3
 else if (s.set.mutexes.getD m pair0).x=1/\(s.set.mutexes.getD m pair0).y < (th s.T t).base then 4
 else if s.owner.getD m 0 < 0 then 0
 else if round s t m=true then 5
 else if n=0 then 2 else 1
def lockS (s:RS) (t m:Nat) (n:Int):RS :=
 if lockC s t m n=0 then { s with owner:=s.owner.set m (t:Int) } else if lockC s t m n=1 then beginW s t 1 (m:Int) n else s
def unlockC (s:RS) (t m:Nat):Int:=if s.owner.getD m 0=(t:Int) then 0 else 6
def unlockS (s:RS) (t m:Nat):RS:=if s.owner.getD m 0=(t:Int) then { giveS s 1 (m:Int) with owner:=s.owner.set m (giveT s 1 (m:Int)) } else s
def stop0 (s:RS) (t:Nat):RS:={ s with T:=s.T.modify t (fun x=>{ x with ended:=x.ended + 1,at_:=0,last:=0 }) }
def unlocksTo (s:RS) (t:Nat):Nat->RS
 | 0=>s
 | k + 1=>unlockS (unlocksTo s t k) t k
def asleep (s:RS) (t:Nat):RS:={ s with T:=s.T.modify t (fun x=>{ x with awake:=false }) }
def stop (s:RS) (t:Nat):RS :=
 if (th (asleep (unlocksTo (stop0 s t) t s.owner.length) t).T t).ended < (th (asleep (unlocksTo (stop0 s t) t s.owner.length) t).T t).rel then wake (asleep (unlocksTo (stop0 s t) t s.owner.length) t) t
 else asleep (unlocksTo (stop0 s t) t s.owner.length) t
def downC (s:RS) (a:Nat) (b:Int):Int:=if 0 < s.count.getD a 0 then 0 else if b=0 then 2 else 1
def downS (s:RS) (t a:Nat) (b:Int):RS:=if downC s a b=0 then { s with count:=s.count.set a (s.count.getD a 0 - 1) } else if downC s a b=1 then beginW s t 2 (a:Int) b else s
def upC (s:RS) (a:Nat):Int:=if 0<=giveT s 2 (a:Int) then 0 else if s.count.getD a 0=(s.set.sems.getD a pair0).y then 7 else 0
def upS (s:RS) (a:Nat):RS:=if 0<=giveT s 2 (a:Int) then giveS s 2 (a:Int) else if s.count.getD a 0=(s.set.sems.getD a pair0).y then s else { s with count:=s.count.set a (s.count.getD a 0 + 1) }
def boxAt (s:RS) (a:Nat):List Int:=s.box.getD a []
def gets (s:RS) (t:Nat) (v:Int):RS:={ s with T:=s.T.modify t (fun x=>{ x with got:=v }) }
def recvC (s:RS) (a:Nat) (b:Int):Int:=if 0 < (boxAt s a).length then 0 else if b=0 then 2 else 1
def recvS (s:RS) (t a:Nat) (b:Int):RS:=if recvC s a b=0 then { gets s t ((boxAt s a).getD 0 0) with box:=s.box.set a ((boxAt s a).drop 1) } else if recvC s a b=1 then beginW s t 3 (a:Int) b else s
def sendC (s:RS) (a:Nat):Int:=if 0<=giveT s 3 (a:Int) then 0 else if ((boxAt s a).length:Int)=s.set.queues.getD a 0 then 7 else 0
def sendS (s:RS) (a:Nat) (b:Int):RS:=if 0<=giveT s 3 (a:Int) then gets (giveS s 3 (a:Int)) (giveT s 3 (a:Int)).toNat b else if ((boxAt s a).length:Int)=s.set.queues.getD a 0 then s else { s with box:=s.box.set a (boxAt s a ++ [b]) }
def doesC (s:RS) (t:Nat) (i:InstrD):Int :=
 if i.op=5 then 1 else if i.op=6 then lockC s t i.a.toNat i.b else if i.op=7 then unlockC s t i.a.toNat else if i.op=8 then downC s i.a.toNat i.b
 else if i.op=9 then upC s i.a.toNat else if i.op=10 then sendC s i.a.toNat else if i.op=11 then recvC s i.a.toNat i.b else 0
def doesS (s:RS) (t:Nat) (i:InstrD):RS :=
 if i.op=2 then { s with next:=s.next + 1,T:=s.T.modify t (fun x=>{ x with tick:=s.next + 1 }) }
 else if i.op=4 then { s with T:=s.T.modify i.a.toNat (fun x=>{ x with base:=i.b }) }
 else if i.op=5 then beginW s t 4 0 i.a else if i.op=6 then lockS s t i.a.toNat i.b else if i.op=7 then unlockS s t i.a.toNat else if i.op=8 then downS s t i.a.toNat i.b
 else if i.op=9 then upS s i.a.toNat else if i.op=10 then sendS s i.a.toNat i.b else if i.op=11 then recvS s t i.a.toNat i.b else s
def instrAt (s:RS) (t:Nat):InstrD:=((s.set.threads.getD t P3.none0).code)[(th s.T t).at_.toNat]?.getD ⟨0,0,0⟩
def toAt (s:RS) (t:Nat) (a:Int):RS:={ s with T:=s.T.modify t (fun x=>{ x with at_:=a }) }
def toLast (s:RS) (t:Nat) (c:Int):RS:={ s with T:=s.T.modify t (fun x=>{ x with last:=c }) }
def actC (s:RS) (t:Nat):Int:=if (instrAt s t).op=0\/(instrAt s t).op=3 then 0 else doesC (toAt s t ((th s.T t).at_ + 1)) t (instrAt s t)
def actS (s:RS) (t:Nat):RS :=
 if (instrAt s t).op=0 then stop s t
 else if (instrAt s t).op=3 then (if (th s.T t).last=(instrAt s t).a then toAt s t (instrAt s t).b else toAt s t ((th s.T t).at_ + 1))
 else toLast (doesS (toAt s t ((th s.T t).at_ + 1)) t (instrAt s t)) t (actC s t)
def pickS (s:RS) (w:Int):RS:=if w < 0\/s.set.workers<=w then s else if on s.T w < 0 then s else settle (actS s (on s.T w).toNat)
def pickE (s:RS) (w:Int):Int:=if w < 0\/s.set.workers<=w then 7 else 0
def pickT (s:RS) (w:Int):Int:=if w < 0\/s.set.workers<=w then 0 else if on s.T w < 0 then -1 else on s.T w
def pickA (s:RS) (w:Int):Int:=if w < 0\/s.set.workers<=w then 0 else if on s.T w < 0 then 0 else (th s.T (on s.T w).toNat).at_
def pickC (s:RS) (w:Int):Int:=if w < 0\/s.set.workers<=w then 0 else if on s.T w < 0 then 0 else actC s (on s.T w).toNat
def waitTo (s:RS) (what of_:Int):Nat->List Int
 | 0=>[]
 | k + 1=>if first s what of_ (waitTo s what of_ k) < 0 then waitTo s what of_ k else waitTo s what of_ k ++ [first s what of_ (waitTo s what of_ k)]
def waiting (s:RS) (what of_:Int):List Int:=waitTo s what of_ (s.T.length + 1)
end R
end Go.Proofs.YtbkfildnijjioaaGreat

namespace Go.Proofs.YtbkfildnijjioaaGreat
def AllT (P:Nat->RT->Prop) (T:List RT):Prop:=∀ t (ht:t < T.length),P t T[t]
theorem AllT.modify {P Q:Nat->RT->Prop} {T:List RT} {t:Nat} {f:RT->RT} (h:AllT P T) (hq:∀ i x,i ≠ t->P i x->Q i x) (ht:∀ (hl:t < T.length),P t T[t]->Q t (f T[t])):AllT Q (T.modify t f):=by
 intro i hi
 have hi':i < T.length:=by simpa using hi
 rw [List.getElem_modify]
 by_cases e:t=i
 ·subst e
  rw [if_pos rfl]
  exact ht hi' (h t hi')
 ·rw [if_neg e]
  exact hq i _ (fun e'=>e e'.symm) (h i hi')
theorem AllT.mono {P Q:Nat->RT->Prop} {T:List RT} (h:AllT P T) (hq:∀ i x,P i x->Q i x):AllT Q T:=fun i hi=>hq i _ (h i hi)
namespace R
def relBy (S:SetD) (t:Nat) (now:Int):Int :=
 if now - S.start - (S.threads.getD t P3.none0).offset < 0 then 0 else if (S.threads.getD t P3.none0).period=0 then 1 else (now - S.start - (S.threads.getD t P3.none0).offset) / (S.threads.getD t P3.none0).period + 1
def codeLen (S:SetD) (t:Nat):Nat:=(S.threads.getD t P3.none0).code.length
end R
structure TOk (S:SetD) (now:Int) (nO:Nat) (t:Nat) (x:RT):Prop where
 at0:0<=x.at_
 at1:x.at_<=R.codeLen S t
 e0:0<=x.ended
 e1:x.ended<=x.rel
 r0:x.rel=R.relBy S t now
 aw:x.awake=true->x.ended < x.rel
 fw:x.for_ ≠ 0->x.ended < x.rel/\x.awake=false
 id:x.awake=false->x.for_=0->x.ended=x.rel
 of1:x.for_=1->0<=x.of_/\x.of_ < nO
 fr:0<=x.for_/\x.for_<=4
theorem relBy_bd {S:SetD} {t:Nat} {now:Int} (h0:0<=S.start) (h1:S.start<=now + 1) (h2:now<=1000000000) (ho:0<=(S.threads.getD t P3.none0).offset) (hp:0<=(S.threads.getD t P3.none0).period):0<=R.relBy S t now/\R.relBy S t now<=1000000001:=by
 unfold R.relBy
 split
 ·omega
 ·split
  ·omega
  ·have h3:=Int.ediv_nonneg (a:=now - S.start - (S.threads.getD t P3.none0).offset) (b:=(S.threads.getD t P3.none0).period) (by omega) hp
   have h4:=Int.ediv_le_self (a:=now - S.start - (S.threads.getD t P3.none0).offset) (S.threads.getD t P3.none0).period (by omega)
   omega
theorem relBy_step (S:SetD) (t:Nat) (now:Int) (hp:0<=(S.threads.getD t P3.none0).period) :
  R.relBy S t now=(if 0<=R.number (S.threads.getD t P3.none0).period (now - S.start - (S.threads.getD t P3.none0).offset - 0) then R.number (S.threads.getD t P3.none0).period (now - S.start - (S.threads.getD t P3.none0).offset - 0) + 1 else R.relBy S t (now - 1)) /\
  (0<=R.number (S.threads.getD t P3.none0).period (now - S.start - (S.threads.getD t P3.none0).offset - 0)->R.relBy S t (now - 1)=R.number (S.threads.getD t P3.none0).period (now - S.start - (S.threads.getD t P3.none0).offset - 0)):=by
 unfold R.relBy
 rw [show now - 1 - S.start - (S.threads.getD t P3.none0).offset=(now - S.start - (S.threads.getD t P3.none0).offset) - 1 by omega,show now - S.start - (S.threads.getD t P3.none0).offset - 0=now - S.start - (S.threads.getD t P3.none0).offset by omega]
 generalize now - S.start - (S.threads.getD t P3.none0).offset=g
 generalize (S.threads.getD t P3.none0).period=p at *
 unfold R.number
 by_cases hg:g < 0
 ·have:g - 1 < 0:=by omega
  simp [hg,this]
 ·by_cases hp0:p=0
  ·by_cases hg0:g=0
   ·simp [hp0,hg0]
   ·have h1:¬ g - 1 < 0:=by omega
    simp [hg,hp0,hg0,h1]
  ·have hpp:0 < p:=by omega
   by_cases hm:g % p=0
   ·have hd:0<=g / p:=Int.ediv_nonneg (by omega) hp
    have hprev:(if g - 1 < 0 then (0:Int) else (g - 1) / p + 1)=g / p:=by
     have e:g=p * (g / p):=by have:=Int.mul_ediv_add_emod g p; omega
     by_cases hq:g / p=0
     ·rw [hq] at e
      have:g - 1 < 0:=by omega
      rw [if_pos this,hq]
     ·have hq1:1<=g / p:=by omega
      have:¬ g - 1 < 0:=by
       have:=Int.mul_le_mul_of_nonneg_left hq1 hp
       omega
      rw [if_neg this]
      have:(g - 1) / p=g / p - 1:=by
       have h5:g - 1=(p - 1) + p * (g / p - 1):=by
        rw [Int.mul_sub,Int.mul_one]
        omega
       rw [h5,Int.add_mul_ediv_left _ _ (by omega),Int.ediv_eq_zero_of_lt (by omega) (by omega)]
       omega
      omega
    simp [hg,hp0,hm,hd]
    exact hprev
   ·have h1:¬ g - 1 < 0:=by
     intro hh
     have:g=0:=by omega
     rw [this] at hm
     simp at hm
    have h2:(g - 1) / p=g / p:=by
     have e:=Int.mul_ediv_add_emod g p
     have hr0:=Int.emod_nonneg g hp0
     have hr1:=Int.emod_lt_of_pos g hpp
     have h5:g - 1=(g % p - 1) + p * (g / p):=by omega
     rw [h5,Int.add_mul_ediv_left _ _ (by omega),Int.ediv_eq_zero_of_lt (by omega) (by omega)]
     omega
    simp [hg,hp0,hm,h1,h2]
theorem th_ext {T:List RT} {t:Nat} (ht:t < T.length):R.th T t=T[t]:=by simp [R.th,List.getD,ht]
theorem clearTo_th (at_:Nat->Int) (n:Int) (T:List RT) (k t:Nat) (ht:t < T.length):R.th (R.clearTo at_ n T k) t={ R.th T t with wkr:=if t < k/\at_ t=n then -1 else (R.th T t).wkr }:=by
 induction k with
 | zero=>simp [R.clearTo]
 | succ k ih =>
  unfold R.clearTo
  by_cases h:at_ k=n
  ·rw [if_pos h,R.th_setW,R.clearTo_length,ih]
   by_cases e:t=k
   ·subst e
    simp [ht,h]
   ·have e1:(t < k + 1/\at_ t=n) ↔ (t < k/\at_ t=n):=by omega
    simp [e,e1]
  ·rw [if_neg h,ih]
   have e1:(t < k + 1/\at_ t=n) ↔ (t < k/\at_ t=n):=by
    constructor
    ·rintro ⟨h1,h2⟩
     refine ⟨?_,h2⟩
     rcases Nat.lt_or_ge t k with h3 | h3
     ·exact h3
     ·have:t=k:=by omega
      subst this
      exact absurd h2 h
    ·omega
   simp [e1]
theorem seatIn_th (at_:Nat->Int) (n r:Nat) (T:List RT) (k t:Nat):∃ w,R.th (R.seatIn at_ n r T k) t={ R.th T t with wkr:=w }/\(at_ t ≠ (r:Int)->w=(R.th T t).wkr):=by
 induction k with
 | zero=>exact ⟨_,rfl,fun _=>rfl⟩
 | succ k ih =>
  obtain ⟨w,hw,hn⟩:=ih
  unfold R.seatIn
  split
  ·rename_i hc
   rw [R.th_setW]
   split
   ·rename_i h2
    refine ⟨_,by rw [hw],fun h3=>?_⟩
    rw [<- h2.1] at hc
    exact absurd hc.1 h3
   ·exact ⟨w,hw,hn⟩
  ·exact ⟨w,hw,hn⟩
theorem seatTo_th (at_:Nat->Int) (n:Nat) (T:List RT) (r t:Nat):∃ w,R.th (R.seatTo at_ n T r) t={ R.th T t with wkr:=w }/\((∀ r':Nat,r' < r->at_ t ≠ (r':Int))->w=(R.th T t).wkr):=by
 induction r with
 | zero=>exact ⟨_,rfl,fun _=>rfl⟩
 | succ r ih =>
  obtain ⟨w,hw,hn⟩:=ih
  obtain ⟨w',hw',hn'⟩:=seatIn_th at_ n r (R.seatTo at_ n T r) T.length t
  unfold R.seatTo
  rw [hw']
  refine ⟨w',by rw [hw],fun h=>?_⟩
  rw [hn' (h r (by omega)),hw]
  exact hn fun r' hr'=>h r' (by omega)
theorem settle_th (l:List Int) (T:List RT) (n:Nat) (t:Nat) (ht:t < T.length):∃ w,R.th (R.settleT l T n) t={ R.th T t with wkr:=w }/\(0<=w->(R.th T t).awake=true):=by
 unfold R.settleT
 obtain ⟨w,hw,hn⟩:=seatTo_th (R.place l T n) n (R.clearTo (R.place l T n) n T T.length) n t
 have hc:=clearTo_th (R.place l T n) n T T.length t ht
 refine ⟨w,by rw [hw,hc],fun h0=>?_⟩
 rcases Bool.eq_false_or_eq_true (R.th T t).awake with h | h
 ·exact h
 ·exfalso
  have hp:R.place l T n t=(n:Int):=by
   unfold R.place
   rw [if_neg (by rw [h]; decide)]
  have:=hn (fun r hr=>by rw [hp]; omega)
  rw [hc] at this
  simp [ht,hp] at this
  omega
end Go.Proofs.YtbkfildnijjioaaGreat

namespace Go.Proofs.YtbkfildnijjioaaGreat
namespace Ln
def placeIn (l:List Int) (x:Int):Int:=P3.badOr (fun y:Int=>y != x) l
theorem placeIn_at {l:List Int} {x:Int} (i:Nat) (hi:i < l.length) (he:l[i]=x) (hb:∀ j (h:j < i),l[j]'(by omega) ≠ x):placeIn l x=i :=
 P3.badOr_at _ _ i hi (by simp [he]) (fun j h=>by simpa using hb j h)
theorem placeIn_none {l:List Int} {x:Int} (h:∀ j (hj:j < l.length),l[j] ≠ x):placeIn l x=-1:=P3.badOr_none _ _ (fun j hj=>by simpa using h j hj)
theorem placeIn_cases (l:List Int) (x:Int):(placeIn l x=-1/\∀ j (hj:j < l.length),l[j] ≠ x)\/∃ i,∃ (hi:i < l.length),placeIn l x=(i:Int)/\l[i]=x/\∀ j (h:j < i),l[j]'(by omega) ≠ x:=by
 by_cases h:x ∈ l
 ·right
  have hlt:l.findIdx (fun y=>!(y != x)) < l.length:=by
   rw [List.findIdx_lt_length]
   exact ⟨x,h,by simp⟩
  refine ⟨l.findIdx (fun y=>!(y != x)),hlt,?_,?_,fun j hj=>?_⟩
  ·unfold placeIn P3.badOr P3.bad
   rw [if_pos hlt]
  ·have:=List.findIdx_getElem (p:=fun y:Int=>!(y != x)) (xs:=l) (w:=hlt)
   simpa using this
  ·have:=List.not_of_lt_findIdx (p:=fun y:Int=>!(y != x)) (xs:=l) (i:=j) hj
   simpa using this
 ·left
  have hn:∀ j (hj:j < l.length),l[j] ≠ x:=fun j hj e=>h (e ▸ List.getElem_mem hj)
  exact ⟨placeIn_none hn,hn⟩
structure Wk (n:Nat) (ws:List Int) (T:List RT):Prop where
 len:ws.length=n
 tb:∀ t (ht:t < T.length),-1<=T[t].wkr/\T[t].wkr < n
 wb:∀ w (hw:w < ws.length),-1<=ws[w]/\ws[w] < T.length
 eq:∀ w (hw:w < ws.length) t (ht:t < T.length),ws[w]=(t:Int) ↔ T[t].wkr=(w:Int)
theorem Wk.on {n:Nat} {ws:List Int} {T:List RT} (h:Wk n ws T) (w:Nat) (hw:w < ws.length):R.on T (w:Int)=ws[w]:=by
 obtain ⟨b0,b1⟩:=h.wb w hw
 unfold R.on
 by_cases hn:ws[w] < 0
 ·rw [P3.badOr_none]
  ·omega
  ·intro j hj
   have:=(h.eq w hw j hj)
   simp
   intro e
   have:=this.2 e
   omega
 ·obtain ⟨t,ht⟩:=Int.eq_ofNat_of_zero_le (show 0<=ws[w] by omega)
  have htl:t < T.length:=by omega
  rw [ht]
  refine P3.badOr_at _ _ t htl ?_ (fun j hj=>?_)
  ·have:=(h.eq w hw t htl).1 ht
   simp [this]
  ·have:=(h.eq w hw j (by omega))
   simp
   intro e
   have:=this.2 e
   omega
theorem Wk.seated {n:Nat} {ws:List Int} {T:List RT} (h:Wk n ws T) (t:Nat) (ht:t < T.length):placeIn ws (t:Int) < 0 ↔ T[t].wkr < 0:=by
 rcases placeIn_cases ws (t:Int) with ⟨h1,h2⟩ | ⟨i,hi,h1,h2,_⟩
 ·rw [h1]
  refine ⟨fun _=>?_,fun _=>by omega⟩
  rcases Int.lt_or_le T[t].wkr 0 with h3 | h3
  ·exact h3
  ·exfalso
   obtain ⟨w,hw⟩:=Int.eq_ofNat_of_zero_le h3
   have hb:=(h.tb t ht).2
   have hwl:w < ws.length:=by rw [h.len]; omega
   exact h2 w hwl ((h.eq w hwl t ht).2 hw)
 ·rw [h1,(h.eq i hi t ht).1 h2]
theorem nodup_le {α:Type} [DecidableEq α]:∀ (l l':List α),l.Nodup->(∀ x ∈ l,x ∈ l')->l.length<=l'.length:=by
 intro l
 induction l with
 | nil=>intro l' _ _; simp
 | cons x r ih =>
  intro l' hn hs
  obtain ⟨h1,h2⟩:=List.nodup_cons.1 hn
  have hx:=hs x (by simp)
  have:=ih (l'.erase x) h2 (fun y hy=>by
   have hne:y ≠ x:=fun e=>h1 (e ▸ hy)
   exact (List.mem_erase_of_ne hne).2 (hs y (by simp [hy])))
  rw [List.length_erase_of_mem hx] at this
  have:0 < l'.length:=List.length_pos_of_mem hx
  simp
  omega
def seat (ws:List Int) (t:Nat):List Int:=if placeIn ws (t:Int) < 0 then (if placeIn ws (-1) < 0 then ws else ws.set (placeIn ws (-1)).toNat (t:Int)) else ws
def freed (ch:List Nat) (ws:List Int):List Int:=ws.map fun x=>if ∃ t ∈ ch,(t:Int)=x then x else -1
def InCh (ch:List Nat) (ws:List Int):Prop:=∀ x ∈ ws,0<=x->∃ t ∈ ch,(t:Int)=x
theorem Wk.freeOne {n:Nat} {ws:List Int} {T:List RT} (h:Wk n ws T) {ch:List Nat} (hc:ch.length<=n) (hin:InCh ch ws) {t:Nat} (ht:t < T.length) (htc:t ∈ ch) (hns:T[t].wkr < 0):0<=placeIn ws (-1):=by
 rcases placeIn_cases ws (-1) with ⟨h1,h2⟩ | ⟨i,hi,h1,_⟩
 ·exfalso
  have hall:∀ w (hw:w < ws.length),0<=ws[w]:=fun w hw=>by have:=(h.wb w hw).1; have:=h2 w hw; omega
  have hnd:((t:Int) :: ws).Nodup:=by
   refine List.nodup_cons.2 ⟨fun hm=>?_,?_⟩
   ·obtain ⟨w,hw,e⟩:=List.mem_iff_getElem.1 hm
    have:=(h.eq w hw t ht).1 e
    omega
   ·rw [List.nodup_iff_pairwise_ne,List.pairwise_iff_getElem]
    intro i j hi hj hij e
    obtain ⟨u,hu⟩:=Int.eq_ofNat_of_zero_le (hall i hi)
    have hul:u < T.length:=by have:=(h.wb i hi).2; omega
    have e1:=(h.eq i hi u hul).1 hu
    have e2:=(h.eq j hj u hul).1 (e ▸ hu)
    omega
  have hsub:∀ x ∈ ((t:Int) :: ws),x ∈ ch.map (fun u:Nat=>(u:Int)):=by
   intro x hx
   rcases List.mem_cons.1 hx with rfl | hx
   ·exact List.mem_map.2 ⟨t,htc,rfl⟩
   ·obtain ⟨w,hw,rfl⟩:=List.mem_iff_getElem.1 hx
    obtain ⟨u,hu,e⟩:=hin _ (List.getElem_mem hw) (hall w hw)
    exact List.mem_map.2 ⟨u,hu,e⟩
  have:=nodup_le _ _ hnd hsub
  simp at this
  have:=h.len
  omega
 ·omega
theorem Wk.free {n:Nat} {ws:List Int} {T:List RT} (h:Wk n ws T) (hp:0<=placeIn ws (-1)):((R.free T n:Nat):Int)=placeIn ws (-1)/\R.free T n < n:=by
 rcases placeIn_cases ws (-1) with ⟨h1,h2⟩ | ⟨i,hi,h1,h2,h3⟩
 ·omega
 ·have:R.free T n=i:=by
   refine R.free_at T n i (by rw [<- h.len]; exact hi) (fun j hj=>?_) ?_
   ·rw [h.on j (by omega)]
    have:=(h.wb j (by omega)).1
    have:=h3 j hj
    omega
   ·rw [h.on i hi,h2]
    decide
  rw [this,h1]
  exact ⟨rfl,by rw [<- h.len]; exact hi⟩
theorem Wk.set {n:Nat} {ws:List Int} {T:List RT} (h:Wk n ws T) {t w:Nat} (ht:t < T.length) (hw:w < ws.length) (hns:T[t].wkr < 0) (hfr:ws[w]=-1):Wk n (ws.set w (t:Int)) (R.setW T t (w:Int)):=by
 have hl:(R.setW T t (w:Int)).length=T.length:=R.setW_length _ _ _
 have hget:∀ u (hu:u < (R.setW T t (w:Int)).length),(R.setW T t (w:Int))[u].wkr=if u=t then (w:Int) else (T[u]'(by rw [<- hl]; exact hu)).wkr:=by
  intro u hu
  have hu':u < T.length:=by rw [<- hl]; exact hu
  have:=R.th_setW T t (w:Int) u
  rw [th_ext hu,th_ext hu'] at this
  rw [this]
  by_cases e:u=t
  ·subst e
   simp [ht]
  ·simp [e]
 refine ⟨by simp; exact h.len,fun u hu=>?_,fun v hv=>?_,fun v hv u hu=>?_⟩
 ·rw [hget u hu]
  split
  ·have:=h.len
   omega
  ·exact h.tb u (by rw [<- hl]; exact hu)
 ·rw [hl,List.getElem_set]
  split
  ·omega
  ·exact h.wb v (by simpa using hv)
 ·have hu':u < T.length:=by rw [<- hl]; exact hu
  have hv':v < ws.length:=by simpa using hv
  rw [hget u hu,List.getElem_set]
  have he:=h.eq v hv' u hu'
  by_cases e1:w=v
  ·subst e1
   rw [if_pos rfl]
   by_cases e2:u=t
   ·subst e2
    simp
   ·rw [if_neg e2]
    constructor
    ·intro hh
     omega
    ·intro hh
     have:=he.2 hh
     omega
  ·rw [if_neg e1]
   by_cases e2:u=t
   ·subst e2
    rw [if_pos rfl]
    constructor
    ·intro hh
     have:=he.1 hh
     omega
    ·intro hh
     omega
   ·rw [if_neg e2]
    exact he
theorem seatIn_one (at_:Nat->Int) (n r:Nat) (T:List RT) (t:Nat) (ht:t < T.length) (hu:∀ k,k < T.length->(at_ k=(r:Int) ↔ k=t)) (k:Nat) (hk:k<=T.length) :
  R.seatIn at_ n r T k=if t < k/\(R.th T t).wkr < 0 then R.setW T t (R.free T n) else T:=by
 induction k with
 | zero=>simp [R.seatIn]
 | succ k ih =>
  have ih:=ih (by omega)
  unfold R.seatIn
  by_cases e:k=t
  ·subst e
   have hs:R.seatIn at_ n r T k=T:=by rw [ih,if_neg (by omega)]
   rw [hs]
   have h1:=(hu k (by omega)).2 rfl
   by_cases h2:(R.th T k).wkr < 0
   ·rw [if_pos ⟨h1,h2⟩,if_pos ⟨by omega,h2⟩]
   ·rw [if_neg (fun hh=>h2 hh.2),if_neg (fun hh=>h2 hh.2)]
  ·have h1:¬ (at_ k=(r:Int)):=fun hh=>e ((hu k (by omega)).1 hh)
   rw [if_neg (fun hh=>h1 hh.1),ih]
   have e2:(t < k + 1/\(R.th T t).wkr < 0) ↔ (t < k/\(R.th T t).wkr < 0):=by
    constructor
    ·rintro ⟨a,b⟩
     exact ⟨by omega,b⟩
    ·rintro ⟨a,b⟩
     exact ⟨by omega,b⟩
   by_cases h3:t < k/\(R.th T t).wkr < 0
   ·rw [if_pos h3,if_pos (e2.2 h3)]
   ·rw [if_neg h3,if_neg (fun hh=>h3 (e2.1 hh))]
theorem seatIn_none (at_:Nat->Int) (n r:Nat) (T:List RT) (hu:∀ k,k < T.length->at_ k ≠ (r:Int)) (k:Nat) (hk:k<=T.length):R.seatIn at_ n r T k=T:=by
 induction k with
 | zero=>rfl
 | succ k ih =>
  unfold R.seatIn
  rw [ih (by omega),if_neg (fun hh=>hu k (by omega) hh.1)]
theorem seats {n:Nat} {at_:Nat->Int} {ch:List Nat} (hc:ch.length<=n) {T:List RT} {ws:List Int} (h:Wk n ws T) (hch:∀ t ∈ ch,t < T.length) (hin:InCh ch ws)
  (hat:∀ r (hr:r < ch.length),∀ k,k < T.length->(at_ k=(r:Int) ↔ k=ch[r])) (hat2:∀ r:Nat,ch.length<=r->r < n->∀ k,k < T.length->at_ k ≠ (r:Int)) (r:Nat) (hr:r<=n) :
  Wk n ((ch.take r).foldl seat ws) (R.seatTo at_ n T r)/\InCh ch ((ch.take r).foldl seat ws):=by
 induction r with
 | zero=>exact ⟨h,hin⟩
 | succ r ih =>
  obtain ⟨h1,h2⟩:=ih (by omega)
  have hl:(R.seatTo at_ n T r).length=T.length:=R.seatTo_length _ _ _ _
  unfold R.seatTo
  by_cases hrl:r < ch.length
  ·rw [List.take_succ_eq_append_getElem hrl,List.foldl_append]
   simp only [List.foldl_cons,List.foldl_nil]
   generalize (ch.take r).foldl seat ws=ws1 at *
   generalize R.seatTo at_ n T r=T1 at *
   have htc:ch[r] ∈ ch:=List.getElem_mem hrl
   have ht:ch[r] < T1.length:=by rw [hl]; exact hch _ htc
   have hat':∀ k,k < T1.length->(at_ k=(r:Int) ↔ k=ch[r]):=by rw [hl]; exact hat r hrl
   rw [<- hl,seatIn_one at_ n r T1 ch[r] ht hat' T1.length (Nat.le_refl _)]
   generalize ch[r]=t at *
   rw [th_ext ht]
   have hse:=h1.seated t ht
   unfold seat
   by_cases hns:T1[t].wkr < 0
   ·have hp:=h1.freeOne hc h2 ht htc hns
    obtain ⟨hf1,hf2⟩:=h1.free hp
    rw [if_pos (hse.2 hns),if_neg (show ¬ placeIn ws1 (-1) < 0 by omega),if_pos (show t < T1.length/\T1[t].wkr < 0 from ⟨ht,hns⟩)]
    rcases placeIn_cases ws1 (-1) with ⟨g1,_⟩ | ⟨i,hi,g1,g2,_⟩
    ·omega
    ·have e1:(placeIn ws1 (-1)).toNat=i:=by omega
     have e2:((R.free T1 n:Nat):Int)=(i:Int):=by omega
     rw [e1,e2]
     refine ⟨h1.set ht hi hns g2,fun x hx h0=>?_⟩
     rcases List.mem_or_eq_of_mem_set hx with hx | rfl
     ·exact h2 x hx h0
     ·exact ⟨t,htc,rfl⟩
   ·rw [if_neg (fun hh=>hns (hse.1 hh)),if_neg (show ¬ (t < T1.length/\T1[t].wkr < 0) from fun hh=>hns hh.2)]
    exact ⟨h1,h2⟩
  ·have e1:ch.take (r + 1)=ch.take r:=by rw [List.take_of_length_le (by omega),List.take_of_length_le (by omega)]
   rw [e1,<- hl,seatIn_none at_ n r (R.seatTo at_ n T r) (by rw [hl]; exact hat2 r (by omega) (by omega)) _ (Nat.le_refl _)]
   exact ⟨h1,h2⟩
def Agrees (ah:Nat->Nat->Bool) (l:List Int) (T:List RT):Prop :=
 ∀ t u,t < T.length->u < T.length->(R.th T t).awake=true->(R.th T u).awake=true->u ≠ t->(ah u t=(decide (l.getD t 0 < l.getD u 0) || (decide (l.getD u 0=l.getD t 0) && decide ((R.th T u).tick < (R.th T t).tick))))
def awakes (T:List RT) (t:Nat):Bool:=(R.th T t).awake
def chosen (ah:Nat->Nat->Bool) (T:List RT) (n:Nat):List Nat:=(line ah (awakes T) T.length).take n
def giveOut (ah:Nat->Nat->Bool) (T:List RT) (n:Nat) (ws:List Int):List Int:=(chosen ah T n).foldl seat (freed (chosen ah T n) ws)
section
variable {ah:Nat->Nat->Bool} {l:List Int} {T:List RT} {n:Nat}
theorem rank_of_line (st:Strict ah T.length) (irr:∀ a,ah a a=false) (ag:Agrees ah l T) (i:Nat) (hi:i < (line ah (awakes T) T.length).length):R.rank l T (line ah (awakes T) T.length)[i]=i:=by
 have h1:=rank_line (aw:=awakes T) st irr i hi
 obtain ⟨hm1,hm2⟩:=line_mem.1 (List.getElem_mem hi)
 generalize (line ah (awakes T) T.length)[i]=t at *
 refine Eq.trans ?_ h1
 unfold R.rank R.rankTo
 refine List.countP_congr fun u hu=>?_
 have hul:u < T.length:=by simpa using hu
 unfold R.ahead awakes
 by_cases e:u=t
 ·subst e
  simp [irr]
 ·by_cases hw:(R.th T u).awake=true
  ·rw [hw,ag t u hm1 hul hm2 hw e]
  ·have:(R.th T u).awake=false:=by simpa using hw
   rw [this]
   simp
theorem place_line (st:Strict ah T.length) (irr:∀ a,ah a a=false) (ag:Agrees ah l T) (r:Nat) (hr:r < n) (k:Nat) (hk:k < T.length):R.place l T n k=(r:Int) ↔ ∃ (h:r < (line ah (awakes T) T.length).length),(line ah (awakes T) T.length)[r]=k:=by
 unfold R.place
 constructor
 ·intro h
  split at h
  ·rename_i haw
   split at h
   ·have hm:k ∈ line ah (awakes T) T.length:=line_mem.2 ⟨hk,haw⟩
    obtain ⟨i,hi,e⟩:=List.mem_iff_getElem.1 hm
    have hrk:=rank_of_line st irr ag i hi
    rw [e] at hrk
    have:i=r:=by omega
    subst this
    exact ⟨hi,e⟩
   ·omega
  ·omega
 ·rintro ⟨h,e⟩
  have hrk:=rank_of_line st irr ag r h
  rw [e] at hrk
  have haw:(R.th T k).awake=true:=by
   have:=(line_mem.1 (List.getElem_mem h)).2
   rw [e] at this
   exact this
  rw [if_pos haw,hrk,if_pos (by omega)]
theorem place_bd (k:Nat):0<=R.place l T n k/\R.place l T n k<=n:=by
 unfold R.place
 split
 ·split <;> omega
 ·omega
theorem mem_chosen (st:Strict ah T.length) (irr:∀ a,ah a a=false) (ag:Agrees ah l T) (k:Nat) (hk:k < T.length):k ∈ chosen ah T n ↔ R.place l T n k ≠ (n:Int):=by
 unfold chosen
 constructor
 ·intro hm
  obtain ⟨i,hi,e⟩:=List.mem_iff_getElem.1 hm
  rw [List.getElem_take] at e
  have hi':i < n/\i < (line ah (awakes T) T.length).length:=by simp at hi; omega
  have:=(place_line st irr ag i hi'.1 k hk).2 ⟨hi'.2,e⟩
  omega
 ·intro hne
  obtain ⟨b0,b1⟩:=place_bd (l:=l) (T:=T) (n:=n) k
  obtain ⟨r,hr⟩:=Int.eq_ofNat_of_zero_le b0
  obtain ⟨h,e⟩:=(place_line st irr ag r (by omega) k hk).1 hr
  rw [<- e]
  exact List.mem_iff_getElem.2 ⟨r,by simp; omega,by rw [List.getElem_take]⟩
end
end Ln
end Go.Proofs.YtbkfildnijjioaaGreat
