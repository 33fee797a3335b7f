import Derived.Test.YtbkfildnijjioaaGreatA02
import Derived.Test.YtbkfildnijjioaaGreatA03
import Derived.Deep.QuietTactic
import Derived.BigQuiet
import Derived.Deep.DeepCutAuto
import Derived.Deep.RegionHeld3
namespace Go.Proofs.YtbkfildnijjioaaGreat
namespace Ln
structure WkW (n:Nat) (ws:List Int) (T:List RT):Prop where
 len:ws.length=n
 tb:∀ t (ht:t < T.length),-1<=T[t].wkr/\T[t].wkr < n
 wb:∀ w (hw:w < ws.length),-1<=ws[w]/\ws[w] < T.length
 eq:∀ w (hw:w < ws.length) t (ht:t < T.length),T[t].awake=true->(ws[w]=(t:Int) ↔ T[t].wkr=(w:Int))
section
variable {ah:Nat->Nat->Bool} {l:List Int} {T:List RT} {n:Nat}
theorem WkW.clear {ws:List Int} (h:WkW n ws T) (st:Strict ah T.length) (irr:∀ a,ah a a=false) (ag:Agrees ah l T):Wk n (freed (chosen ah T n) ws) (R.clearTo (R.place l T n) n T T.length)/\InCh (chosen ah T n) (freed (chosen ah T n) ws):=by
 have hl:(R.clearTo (R.place l T n) n T T.length).length=T.length:=R.clearTo_length _ _ _ _
 have hT:∀ t (ht:t < (R.clearTo (R.place l T n) n T T.length).length),(R.clearTo (R.place l T n) n T T.length)[t].wkr=if R.place l T n t=(n:Int) then -1 else (T[t]'(by rw [<- hl]; exact ht)).wkr:=by
  intro t ht
  have ht':t < T.length:=by rw [<- hl]; exact ht
  have:=clearTo_th (R.place l T n) n T T.length t ht'
  rw [th_ext ht,th_ext ht'] at this
  rw [this]
  simp [ht']
 have hw:∀ w (hw:w < (freed (chosen ah T n) ws).length),(freed (chosen ah T n) ws)[w]=if ∃ t ∈ chosen ah T n,(t:Int)=ws[w]'(by simpa [freed] using hw) then ws[w]'(by simpa [freed] using hw) else -1:=by
  intro w hw
  simp [freed]
 refine ⟨⟨by simp [freed]; exact h.len,fun t ht=>?_,fun w hw'=>?_,fun w hw' t ht=>?_⟩,fun x hx h0=>?_⟩
 ·rw [hT t ht]
  split
  ·omega
  ·exact h.tb t _
 ·have hw2:w < ws.length:=by simpa [freed] using hw'
  rw [hw w hw',hl]
  split
  ·exact h.wb w hw2
  ·omega
 ·have hw2:w < ws.length:=by simpa [freed] using hw'
  have ht':t < T.length:=by rw [<- hl]; exact ht
  have hc:=mem_chosen (n:=n) st irr ag t ht'
  rw [hw w hw',hT t ht]
  by_cases hp:R.place l T n t=(n:Int)
  ·rw [if_pos hp]
   have hnc:t ∉ chosen ah T n:=fun hm=>hc.1 hm hp
   split
   ·rename_i hex
    obtain ⟨u,hu,e⟩:=hex
    constructor
    ·intro e2
     have:u=t:=by omega
     subst this
     exact absurd hu hnc
    ·omega
   ·constructor <;> omega
  ·rw [if_neg hp]
   have hic:t ∈ chosen ah T n:=hc.2 hp
   have haw:T[t].awake=true:=by
    have:=(line_mem.1 (List.mem_of_mem_take hic)).2
    unfold awakes at this
    rwa [th_ext ht'] at this
   have he:=h.eq w hw2 t ht' haw
   split
   ·exact he
   ·rename_i hex
    constructor
    ·omega
    ·intro e2
     exact absurd ⟨t,hic,(he.2 e2).symm⟩ hex
 ·unfold freed at hx
  obtain ⟨y,hy,rfl⟩:=List.mem_map.1 hx
  split at h0
  ·rename_i hex
   rw [if_pos hex]
   exact hex
  ·omega
theorem giveOut_settleW {ws:List Int} (h:WkW n ws T) (st:Strict ah T.length) (irr:∀ a,ah a a=false) (ag:Agrees ah l T):Wk n (giveOut ah T n ws) (R.settleT l T n):=by
 obtain ⟨h1,h2⟩:=h.clear (l:=l) st irr ag
 have hl:(R.clearTo (R.place l T n) n T T.length).length=T.length:=R.clearTo_length _ _ _ _
 have hcl:(chosen ah T n).length<=n:=by unfold chosen; simp; omega
 have hs:=seats (at_:=R.place l T n) hcl h1 (fun t ht=>by
   rw [hl]
   unfold chosen at ht
   exact (line_mem.1 (List.mem_of_mem_take ht)).1) h2 (fun r hr k hk=>by
   rw [hl] at hk
   have hr2:r < n/\r < (line ah (awakes T) T.length).length:=by unfold chosen at hr; simp at hr; omega
   rw [place_line st irr ag r hr2.1 k hk]
   have e:(chosen ah T n)[r]=(line ah (awakes T) T.length)[r]'hr2.2:=by simp [chosen]
   rw [e]
   constructor
   ·rintro ⟨_,e⟩
    exact e.symm
   ·intro e
    exact ⟨hr2.2,e.symm⟩) (fun r hr hrn k hk e=>by
   rw [hl] at hk
   obtain ⟨h3,_⟩:=(place_line st irr ag r hrn k hk).1 e
   unfold chosen at hr
   simp at hr
   omega) n (Nat.le_refl _)
 have:=hs.1
 rw [List.take_of_length_le hcl] at this
 exact this
end
def posOf (tk:List Nat) (t:Nat):Int:=(tk.idxOf t:Nat)
theorem posOf_pairwise {tk:List Nat} (hn:tk.Nodup):tk.Pairwise (fun a b=>posOf tk a < posOf tk b):=by
 rw [List.pairwise_iff_getElem]
 intro i j hi hj hij
 unfold posOf
 rw [hn.idxOf_getElem i hi,hn.idxOf_getElem j hj]
 omega
def awakeLine (s:RS) (tk:List Nat):List Nat:=byLv (R.Level s) (tk.filter (awakes s.T))
def seatAll (s:RS) (tk:List Nat) (ws:List Int):List Int:=((awakeLine s tk).take ws.length).foldl seat (freed ((awakeLine s tk).take ws.length) ws)
section
variable {s:RS} {tk:List Nat}
theorem TkOk.strict (h:TkOk s tk):Strict (fine (R.Level s) (posOf tk)) s.T.length:=by
 refine ⟨fun a b _ _=>fine_asym _ _ a b,fun a b c _ _ _=>fine_trans _ _ a b c,fun a b ha hb hab=>fine_total _ _ a b ?_⟩
 unfold posOf
 intro e
 have ha':=(h.mem a).2 ha
 have hb':=(h.mem b).2 hb
 have e':tk.idxOf a=tk.idxOf b:=by omega
 have h1:=List.getElem_idxOf (List.idxOf_lt_length_of_mem ha')
 have h2:=List.getElem_idxOf (List.idxOf_lt_length_of_mem hb')
 apply hab
 rw [<- h1,<- h2]
 simp only [e']
theorem TkOk.agrees (h:TkOk s tk):Agrees (fine (R.Level s) (posOf tk)) (R.levels s) s.T:=by
 intro t u ht hu hat hau hne
 have e1:(R.levels s).getD t 0=R.Level s t:=by simp [R.levels,List.getD,ht]
 have e2:(R.levels s).getD u 0=R.Level s u:=by simp [R.levels,List.getD,hu]
 rw [e1,e2]
 unfold fine
 have ht':=List.idxOf_lt_length_of_mem ((h.mem t).2 ht)
 have hu':=List.idxOf_lt_length_of_mem ((h.mem u).2 hu)
 have g1:=List.getElem_idxOf ht'
 have g2:=List.getElem_idxOf hu'
 have p1:=h.aw t ht hat
 have p2:=h.aw u hu hau
 have e:(posOf tk u < posOf tk t) ↔ (R.th s.T u).tick < (R.th s.T t).tick:=by
  unfold posOf
  rcases Nat.lt_trichotomy (tk.idxOf u) (tk.idxOf t) with h1 | h1 | h1
  ·have:=List.pairwise_iff_getElem.1 h.ord _ _ hu' ht' h1
   rw [g1,g2] at this
   omega
  ·exfalso
   apply hne
   rw [<- g1,<- g2]
   simp only [h1]
  ·have:=List.pairwise_iff_getElem.1 h.ord _ _ ht' hu' h1
   rw [g1,g2] at this
   omega
 rw [decide_eq_decide.2 e]
theorem TkOk.line (h:TkOk s tk):Ln.line (fine (R.Level s) (posOf tk)) (awakes s.T) s.T.length=awakeLine s tk:=by
 refine sorted_eq (R.Level s) (posOf tk) (line_sorted h.strict) (byLv_sorted _ _ _ ((posOf_pairwise h.nodup).sublist List.filter_sublist)) ?_
 exact (line_perm _ _ _).trans ((h.perm.symm.filter _).trans (byLv_perm _ _).symm)
theorem seatAll_settle (h:TkOk s tk) {ws:List Int} (hw:WkW s.set.workers.toNat ws s.T):Wk s.set.workers.toNat (seatAll s tk ws) (R.settle s).T:=by
 have:=giveOut_settleW hw h.strict (fine_irr _ _) h.agrees
 unfold giveOut chosen at this
 rw [h.line] at this
 unfold seatAll
 rw [hw.len]
 exact this
end
end Ln
end Go.Proofs.YtbkfildnijjioaaGreat

namespace Go.Proofs.YtbkfildnijjioaaGreat
namespace Ln
theorem due_iff (S:SetD) (t:Nat) (now rel:Int) (hp:0<=(S.threads.getD t P3.none0).period) (hr:rel=R.relBy S t (now - 1)) (h0:0<=rel) :
  ((¬ ((S.threads.getD t P3.none0).period=0/\0 < rel)/\S.start + (S.threads.getD t P3.none0).offset + rel * (S.threads.getD t P3.none0).period=now) ↔ 0<=R.number (S.threads.getD t P3.none0).period (now - S.start - (S.threads.getD t P3.none0).offset - 0)) /\
  (0<=R.number (S.threads.getD t P3.none0).period (now - S.start - (S.threads.getD t P3.none0).offset - 0)->R.number (S.threads.getD t P3.none0).period (now - S.start - (S.threads.getD t P3.none0).offset - 0)=rel):=by
 have hs:=(relBy_step S t now hp).2
 rw [<- hr] at hs
 generalize hg:now - S.start - (S.threads.getD t P3.none0).offset - 0=g at *
 generalize (S.threads.getD t P3.none0).period=p at *
 generalize (S.threads.getD t P3.none0).offset=o at *
 refine ⟨⟨fun ⟨h1,h2⟩=>?_,fun h=>?_⟩,fun h=>(hs h).symm⟩
 ·have hgp:g=rel * p:=by omega
  unfold R.number
  by_cases hp0:p=0
  ·subst hp0
   have:rel=0:=by omega
   subst this
   simp [hgp]
  ·have hn:0<=rel * p:=Int.mul_nonneg h0 hp
   have hm:g % p=0:=by rw [hgp]; exact Int.mul_emod_left rel p
   have hd:g / p=rel:=by rw [hgp]; exact Int.mul_ediv_cancel rel hp0
   rw [if_neg (by omega),if_neg hp0,if_neg (by omega),hd]
   exact h0
 ·have e:=hs h
  rw [<- e] at h
  have hnum:R.number p g=rel:=e.symm
  unfold R.number at hnum
  by_cases hg0:g < 0
  ·rw [if_pos hg0] at hnum; omega
  ·rw [if_neg hg0] at hnum
   by_cases hp0:p=0
   ·subst hp0
    rw [if_pos rfl] at hnum
    by_cases hz:g=0
    ·rw [if_pos hz] at hnum
     subst hnum
     simp
     omega
    ·rw [if_neg hz] at hnum; omega
   ·rw [if_neg hp0] at hnum
    by_cases hm:g % p=0
    ·rw [if_neg (by omega)] at hnum
     have:=Int.mul_ediv_add_emod g p
     rw [hnum,hm,Int.mul_comm] at this
     exact ⟨fun h'=>hp0 h'.1,by omega⟩
    ·rw [if_pos hm] at hnum; omega
theorem late_iff (S:SetD) (t:Nat) (now rel ended:Int) (hp:0<=(S.threads.getD t P3.none0).period) (hr:rel=R.relBy S t (now - 1)) (he:0<=ended) (hd0:0 < (S.threads.getD t P3.none0).deadline) (hd1:(S.threads.getD t P3.none0).period ≠ 0->(S.threads.getD t P3.none0).deadline<=(S.threads.getD t P3.none0).period) :
  ((ended < rel/\S.start + (S.threads.getD t P3.none0).offset + (rel - 1) * (S.threads.getD t P3.none0).period + (S.threads.getD t P3.none0).deadline=now) ↔
   (0<=R.number (S.threads.getD t P3.none0).period (now - S.start - (S.threads.getD t P3.none0).offset - (S.threads.getD t P3.none0).deadline)/\ended<=R.number (S.threads.getD t P3.none0).period (now - S.start - (S.threads.getD t P3.none0).offset - (S.threads.getD t P3.none0).deadline))) /\
  (0<=R.number (S.threads.getD t P3.none0).period (now - S.start - (S.threads.getD t P3.none0).offset - (S.threads.getD t P3.none0).deadline)->R.number (S.threads.getD t P3.none0).period (now - S.start - (S.threads.getD t P3.none0).offset - (S.threads.getD t P3.none0).deadline)=rel - 1):=by
 unfold R.relBy at hr
 generalize (S.threads.getD t P3.none0).period=p at *
 generalize (S.threads.getD t P3.none0).offset=o at *
 generalize (S.threads.getD t P3.none0).deadline=d at *
 have eg:now - 1 - S.start - o=(now - S.start - o - d) + (d - 1):=by omega
 rw [eg] at hr
 have en:∀ x:Int,S.start + o + x + d=now ↔ now - S.start - o - d=x:=fun x=>by omega
 rw [en]
 generalize now - S.start - o - d=g at *
 have key:0<=R.number p g->R.number p g=rel - 1/\g=(rel - 1) * p:=by
  intro h
  unfold R.number at h ⊢
  by_cases hg0:g < 0
  ·rw [if_pos hg0] at h; omega
  ·rw [if_neg hg0] at h ⊢
   rw [if_neg (by omega)] at hr
   by_cases hp0:p=0
   ·subst hp0
    rw [if_pos rfl] at h hr ⊢
    by_cases hz:g=0
    ·rw [if_pos hz,hr]
     simp [hz]
    ·rw [if_neg hz] at h; omega
   ·rw [if_neg hp0] at h hr ⊢
    have hd1:=hd1 hp0
    by_cases hm:g % p=0
    ·rw [if_neg (by omega)] at h ⊢
     have e1:=Int.mul_ediv_add_emod g p
     rw [hm] at e1
     have e2:(g + (d - 1)) / p=g / p:=by
      have:g + (d - 1)=(d - 1) + p * (g / p):=by omega
      rw [this,Int.add_mul_ediv_left _ _ hp0,Int.ediv_eq_zero_of_lt (by omega) (by omega)]
      omega
     rw [e2] at hr
     have e3:rel - 1=g / p:=by omega
     rw [e3,Int.mul_comm]
     exact ⟨rfl,by omega⟩
    ·rw [if_pos hm] at h; omega
 refine ⟨⟨fun ⟨h1,h2⟩=>?_,fun ⟨h1,h2⟩=>?_⟩,fun h=>(key h).1⟩
 ·have hnn:R.number p g=rel - 1:=by
   unfold R.number
   have hn:0<=(rel - 1) * p:=Int.mul_nonneg (by omega) hp
   rw [if_neg (by omega)]
   by_cases hp0:p=0
   ·subst hp0
    have hg:g=0:=by simpa using h2
    rw [if_pos rfl,if_pos hg]
    rw [if_neg (by omega),if_pos rfl] at hr
    omega
   ·rw [if_neg hp0]
    have hm:g % p=0:=by rw [h2]; exact Int.mul_emod_left _ p
    have hd:g / p=rel - 1:=by rw [h2]; exact Int.mul_ediv_cancel _ hp0
    rw [if_neg (by omega),hd]
  omega
 ·obtain ⟨k1,k2⟩:=key h1
  exact ⟨by omega,k2⟩
end Ln
end Go.Proofs.YtbkfildnijjioaaGreat

namespace Go.Proofs.YtbkfildnijjioaaGreat
open Go.RowKit
def ktCells (S : SetD) (t : Nat) (cv : Value) (x : RT) : List Value :=
  [cv, .int .i64 x.base, .int .i64 (S.start + (S.threads.getD t P3.none0).offset), .int .i64 (S.threads.getD t P3.none0).period, .int .i64 (S.threads.getD t P3.none0).deadline,
   .int .i64 x.at_, .int .i64 x.last, .int .i64 x.got, .int .i64 x.rel, .int .i64 x.ended, .int .i64 x.for_, .int .i64 x.of_, .int .i64 x.until_]
def kmCells (S : SetD) (m : Nat) (o : Int) : List Value := [.int .i64 (S.mutexes.getD m R.pair0).x, .int .i64 (S.mutexes.getD m R.pair0).y, .int .i64 o]
def ksCells (S : SetD) (i : Nat) (c : Int) : List Value := [.int .i64 c, .int .i64 (S.sems.getD i R.pair0).y]
def kqCells (S : SetD) (i : Nat) (v : Value) : List Value := [.int .i64 (S.queues.getD i 0), v]
structure KH where
  gT : Nat
  cT : Nat
  L : List Value
  cs : Nat → Value
  gM : Nat
  cM : Nat
  LM : List Value
  gW : Nat
  cW : Nat
  vTk : Value
  vWt : Value
  vMs : Value
  gS : Nat
  cS : Nat
  LS : List Value
  gQ : Nat
  cQ : Nat
  LQ : List Value
  qv : Nat → Value
  nq : Nat
def kCells (h : KH) (s : RS) (ws : List Int) : Array Value :=
  #[.int .i64 s.now, .slice (some ⟨h.gT, 0, none⟩) s.T.length h.cT, .slice (some ⟨h.gM, 0, none⟩) s.owner.length h.cM, .slice (some ⟨h.gS, 0, none⟩) s.count.length h.cS, .slice (some ⟨h.gQ, 0, none⟩) s.box.length h.cQ,
    .slice (some ⟨h.gW, 0, none⟩) ws.length h.cW, h.vTk, h.vWt, h.vMs]
def Typ (w : World) (b : Nat) (e : TypeId) : Prop := ∃ cur, w.heap[b]? = some (.cells cur e (0, 0))
theorem Typ.ne {w : World} {b b' : Nat} {e e' : TypeId} (h : Typ w b e) (h' : Typ w b' e') (he : e ≠ e') : b ≠ b' := by
  rintro rfl
  obtain ⟨c, hc⟩ := h
  obtain ⟨c', hc'⟩ := h'
  rw [hc] at hc'
  cases hc'
  exact he rfl
theorem Typ.lt {w : World} {b : Nat} {e : TypeId} (h : Typ w b e) : b < w.heap.size := by
  obtain ⟨c, hc⟩ := h
  rcases Nat.lt_or_ge b w.heap.size with h | h
  · exact h
  · rw [Array.getElem?_eq_none h] at hc; cases hc
theorem Typ.same {w w' : World} {b : Nat} {e : TypeId} (h : Typ w b e) (hs : w'.heap[b]? = w.heap[b]?) : Typ w' b e := by
  obtain ⟨c, hc⟩ := h
  exact ⟨c, by rw [hs]; exact hc⟩
theorem own_typ {w : World} {base : Nat} {e : TypeId} {size n : Nat} {v : Value} {xs : List Value} (h : w.ownsRow base e size v n xs) {g : Nat} (hv : v.ownBlock = some g) : Typ w g e := (ownsRow_block h hv).2.2
def KSB (h : KH) (b : Nat) : Prop := b = h.gS ∨ b = h.gQ ∨ ∃ i, i < h.nq ∧ (h.qv i).ownBlock = some b
structure KSt (w : World) (h : KH) (S : SetD) (count : List Int) (box : List (List Int)) : Prop where
  srow : w.ownsRow 0 151 2 (.slice (some ⟨h.gS, 0, none⟩) count.length h.cS) count.length h.LS
  scells : ∀ i (hi : i < count.length) j, j < 2 → h.LS[i * 2 + j]? = (ksCells S i count[i])[j]?
  qrow : w.ownsRow 0 153 2 (.slice (some ⟨h.gQ, 0, none⟩) box.length h.cQ) box.length h.LQ
  nq : h.nq = box.length
  qcells : ∀ i, i < box.length → ∀ j, j < 2 → h.LQ[i * 2 + j]? = (kqCells S i (h.qv i))[j]?
  boxes : ∀ i (hi : i < box.length), w.ownsRow 0 3 1 (h.qv i) (box[i]).length (intCells box[i])
  dist : ∀ i j g, i < box.length → j < box.length → i ≠ j → (h.qv i).ownBlock = some g → (h.qv j).ownBlock ≠ some g
structure KHs (h h' : KH) : Prop where
  gS : h'.gS = h.gS
  cS : h'.cS = h.cS
  LS : h'.LS = h.LS
  gQ : h'.gQ = h.gQ
  cQ : h'.cQ = h.cQ
  LQ : h'.LQ = h.LQ
  qv : h'.qv = h.qv
  nq : h'.nq = h.nq
section
variable {w w' : World} {h h' : KH} {S : SetD} {count : List Int} {box : List (List Int)}
theorem KSt.typ (m : KSt w h S count box) {b : Nat} (hb : KSB h b) : Typ w b 151 ∨ Typ w b 153 ∨ Typ w b 3 := by
  rcases hb with rfl | rfl | ⟨i, hi, hg⟩
  · exact .inl (own_typ m.srow rfl)
  · exact .inr (.inl (own_typ m.qrow rfl))
  · exact .inr (.inr (own_typ (m.boxes i (by rw [← m.nq]; exact hi)) hg))
theorem KSt.lt (m : KSt w h S count box) {b : Nat} (hb : KSB h b) : b < w.heap.size := by
  rcases m.typ hb with h | h | h
  · exact h.lt
  · exact h.lt
  · exact h.lt
theorem KSt.ne (m : KSt w h S count box) {b b' : Nat} {e : TypeId} (hb : KSB h b) (h' : Typ w b' e) (h1 : e ≠ 151) (h2 : e ≠ 153) (h3 : e ≠ 3) : b ≠ b' := by
  rcases m.typ hb with h | h | h
  · exact h.ne h' (Ne.symm h1)
  · exact h.ne h' (Ne.symm h2)
  · exact h.ne h' (Ne.symm h3)
theorem KSt.same (m : KSt w h S count box) (hs : ∀ b, KSB h b → w'.heap[b]? = w.heap[b]?) : KSt w' h S count box :=
  ⟨ownsRow_same m.srow fun g hg => by cases hg; exact hs _ (.inl rfl), m.scells, ownsRow_same m.qrow fun g hg => by cases hg; exact hs _ (.inr (.inl rfl)), m.nq, m.qcells, fun i hi => ownsRow_same (m.boxes i hi) fun g hg => hs g (.inr (.inr ⟨i, by rw [m.nq]; exact hi, hg⟩)), m.dist⟩
theorem KSt.like (m : KSt w h S count box) (k : KHs h h') : KSt w h' S count box := by
  obtain ⟨k1, k2, k3, k4, k5, k6, k7, k8⟩ := k
  obtain ⟨m1, m2, m3, m4, m5, m6, m7⟩ := m
  refine ⟨?_, ?_, ?_, ?_, ?_, ?_, ?_⟩
  · rw [k1, k2, k3]; exact m1
  · rw [k3]; exact m2
  · rw [k4, k5, k6]; exact m3
  · rw [k8]; exact m4
  · rw [k6, k7]; exact m5
  · rw [k7]; exact m6
  · rw [k7]; exact m7
theorem KHs.blocks (k : KHs h h') {b : Nat} (hb : KSB h' b) : KSB h b := by
  obtain ⟨k1, k2, k3, k4, k5, k6, k7, k8⟩ := k
  unfold KSB at hb ⊢
  rw [k1, k4, k7, k8] at hb
  exact hb
end
structure KMem (F : Nat → Prop) (w : World) (kb : Nat) (h : KH) (s : RS) (tk wt : List Nat) (ws : List Int) : Prop where
  blk : Blk w kb (kCells h s ws) 109
  rows : w.ownsRow 0 147 13 (.slice (some ⟨h.gT, 0, none⟩) s.T.length h.cT) s.T.length h.L
  cells : ∀ i (hi : i < s.T.length) j, j < 13 → h.L[i * 13 + j]? = (ktCells s.set i (h.cs i) s.T[i])[j]?
  codes : ∀ i, i < s.T.length → ∃ cv cc, h.cs i = .slice cv (s.set.threads.getD i P3.none0).code.length cc ∧ InstrsF F w cv (s.set.threads.getD i P3.none0).code
  mrow : w.ownsRow 0 149 3 (.slice (some ⟨h.gM, 0, none⟩) s.owner.length h.cM) s.owner.length h.LM
  mcells : ∀ i (hi : i < s.owner.length) j, j < 3 → h.LM[i * 3 + j]? = (kmCells s.set i s.owner[i])[j]?
  wk : w.ownsRow 0 3 1 (.slice (some ⟨h.gW, 0, none⟩) ws.length h.cW) ws.length (intCells ws)
  tks : w.ownsRow 0 3 1 h.vTk tk.length (intCells (Ln.ints tk))
  wts : w.ownsRow 0 3 1 h.vWt wt.length (intCells (Ln.ints wt))
  mss : w.ownsRow 0 95 3 h.vMs s.missed.length (missCells s.missed)
  ft : ∀ b, F b → Typ w b 61
  dTk : ∀ g, h.vTk.ownBlock = some g → g ≠ h.gW
  dWt : ∀ g, h.vWt.ownBlock = some g → g ≠ h.gW ∧ h.vTk.ownBlock ≠ some g
  st : KSt w h s.set s.count s.box
  dSt : ∀ g, KSB h g → g ≠ h.gW ∧ h.vTk.ownBlock ≠ some g ∧ h.vWt.ownBlock ≠ some g
def KB (F : Nat → Prop) (kb : Nat) (h : KH) (b : Nat) : Prop := F b ∨ b = kb ∨ b = h.gT ∨ b = h.gM ∨ b = h.gW ∨ h.vTk.ownBlock = some b ∨ h.vWt.ownBlock = some b ∨ h.vMs.ownBlock = some b ∨ KSB h b
section
variable {F : Nat → Prop} {w w' : World} {kb : Nat} {h : KH} {s : RS} {tk wt : List Nat} {ws : List Int}
theorem KMem.kT (m : KMem F w kb h s tk wt ws) : Typ w kb 109 := ⟨_, m.blk⟩
theorem KMem.tT (m : KMem F w kb h s tk wt ws) : Typ w h.gT 147 := own_typ m.rows rfl
theorem KMem.mT (m : KMem F w kb h s tk wt ws) : Typ w h.gM 149 := own_typ m.mrow rfl
theorem KMem.wT (m : KMem F w kb h s tk wt ws) : Typ w h.gW 3 := own_typ m.wk rfl
theorem KMem.tcell (m : KMem F w kb h s tk wt ws) {i : Nat} (hi : i < s.T.length) (j : Nat) (hj : j < 13) : w.cell? ⟨h.gT, i * 13 + j, none⟩ = (ktCells s.set i (h.cs i) s.T[i])[j]? := by
  rw [m.rows.cellAt _ (by omega), m.cells i hi j hj]
theorem KMem.tfrozen (m : KMem F w kb h s tk wt ws) (j : Nat) : w.frozen? ⟨h.gT, j, none⟩ = false := m.rows.frozenAt j
theorem KMem.mcell (m : KMem F w kb h s tk wt ws) {i : Nat} (hi : i < s.owner.length) (j : Nat) (hj : j < 3) : w.cell? ⟨h.gM, i * 3 + j, none⟩ = (kmCells s.set i s.owner[i])[j]? := by
  rw [m.mrow.cellAt _ (by omega), m.mcells i hi j hj]
theorem KMem.mfrozen (m : KMem F w kb h s tk wt ws) (j : Nat) : w.frozen? ⟨h.gM, j, none⟩ = false := m.mrow.frozenAt j
theorem KMem.wcell (m : KMem F w kb h s tk wt ws) {i : Nat} (hi : i < ws.length) : w.cell? ⟨h.gW, i, none⟩ = some (.int .i64 ws[i]) := by
  rw [m.wk.cellAt i (by omega)]
  simp [intCells, hi]
theorem KMem.wfrozen (m : KMem F w kb h s tk wt ws) (j : Nat) : w.frozen? ⟨h.gW, j, none⟩ = false := m.wk.frozenAt j
theorem KMem.frame (m : KMem F w kb h s tk wt ws) (hs : ∀ b, KB F kb h b → w'.heap[b]? = w.heap[b]?) : KMem F w' kb h s tk wt ws := by
  refine ⟨?_, ?_, m.cells, fun i hi => ?_, ?_, m.mcells, ?_, ?_, ?_, ?_, fun b hb => (m.ft b hb).same (hs b (.inl hb)), m.dTk, m.dWt, m.st.same fun b hb => hs b (.inr (.inr (.inr (.inr (.inr (.inr (.inr (.inr hb)))))))), m.dSt⟩
  · have := m.blk
    unfold Blk at this ⊢
    rw [hs kb (.inr (.inl rfl))]
    exact this
  · exact ownsRow_same m.rows fun g hg => by cases hg; exact hs _ (.inr (.inr (.inl rfl)))
  · obtain ⟨cv, cc, h1, h2⟩ := m.codes i hi
    exact ⟨cv, cc, h1, h2.same fun b hb => hs b (.inl hb)⟩
  · exact ownsRow_same m.mrow fun g hg => by cases hg; exact hs _ (.inr (.inr (.inr (.inl rfl))))
  · exact ownsRow_same m.wk fun g hg => by cases hg; exact hs _ (.inr (.inr (.inr (.inr (.inl rfl)))))
  · exact ownsRow_same m.tks fun g hg => hs g (.inr (.inr (.inr (.inr (.inr (.inl hg))))))
  · exact ownsRow_same m.wts fun g hg => hs g (.inr (.inr (.inr (.inr (.inr (.inr (.inl hg)))))))
  · exact ownsRow_same m.mss fun g hg => hs g (.inr (.inr (.inr (.inr (.inr (.inr (.inr (.inl hg))))))))
theorem KB.lt (m : KMem F w kb h s tk wt ws) : ∀ b, KB F kb h b → b < w.heap.size := by
  rintro b (hb | rfl | rfl | rfl | rfl | hb | hb | hb | hb)
  · exact (m.ft b hb).lt
  · exact m.kT.lt
  · exact m.tT.lt
  · exact m.mT.lt
  · exact m.wT.lt
  · exact (own_typ m.tks hb).lt
  · exact (own_typ m.wts hb).lt
  · exact (own_typ m.mss hb).lt
  · exact m.st.lt hb
theorem KMem.below (m : KMem F w kb h s tk wt ws) (hb : Below w.heap.size w w') : KMem F w' kb h s tk wt ws := m.frame (fun b h => hb.block b (KB.lt m b h))
theorem KMem.drewN (m : KMem F w kb h s tk wt ws) (n : Nat) : KMem F (w.drewN n) kb h s tk wt ws := m.below (bdrewN (Below.refl _ _) n)
theorem KMem.cong (m : KMem F w kb h s tk wt ws) {s' : RS} (hset : s'.set = s.set) (hnow : s'.now = s.now) (hT : s'.T.length = s.T.length) (ho : s'.owner = s.owner) (hmis : s'.missed = s.missed) (hcnt : s'.count = s.count) (hbox : s'.box = s.box) (hc : ∀ i (hi : i < s.T.length), ktCells s.set i (h.cs i) (s'.T[i]'(by omega)) = ktCells s.set i (h.cs i) s.T[i]) : KMem F w kb h s' tk wt ws := by
  refine ⟨?_, ?_, fun i hi j hj => ?_, fun i hi => ?_, ?_, fun i hi j hj => ?_, m.wk, m.tks, m.wts, ?_, m.ft, m.dTk, m.dWt, by rw [hset, hcnt, hbox]; exact m.st, m.dSt⟩
  · have := m.blk
    unfold kCells at this ⊢
    rw [hnow, hT, ho, hcnt, hbox]
    exact this
  · rw [hT]; exact m.rows
  · rw [hset, hc i (by omega)]
    exact m.cells i (by omega) j hj
  · rw [hset]; exact m.codes i (by omega)
  · rw [ho]; exact m.mrow
  · have := m.mcells i (by rw [← ho]; exact hi) j hj
    rw [this, hset]
    simp only [ho]
  · rw [hmis]; exact m.mss
theorem ne_of_typ {b b' : Nat} {e e' : TypeId} (h : Typ w b e) (h' : Typ w b' e') (he : e ≠ e') : b' ≠ b := fun x => h.ne h' he x.symm
theorem KMem.setT (m : KMem F w kb h s tk wt ws) {i j : Nat} (hi : i < s.T.length) (hj : j < 13) (v : Value) (f : RT → RT) (hf : ktCells s.set i (h.cs i) (f s.T[i]) = (ktCells s.set i (h.cs i) s.T[i]).set j v) :
    KMem F (w.setCell ⟨h.gT, i * 13 + j, none⟩ v) kb { h with L := h.L.set (i * 13 + j) v } { s with T := s.T.modify i f } tk wt ws := by
  have tT := m.tT
  have same : ∀ b, b ≠ h.gT → (w.setCell ⟨h.gT, i * 13 + j, none⟩ v).heap[b]? = w.heap[b]? := fun b hb => Below.heap_setCell _ _ _ _ hb
  refine ⟨?_, ?_, fun k hk j' hj' => ?_, fun k hk => ?_, ?_, m.mcells, ?_, ?_, ?_, ?_, fun b hb => (m.ft b hb).same (same b (ne_of_typ tT (m.ft b hb) (by decide))), m.dTk, m.dWt, (m.st.same fun b hb => same b (m.st.ne hb tT (by decide) (by decide) (by decide))).like ⟨rfl, rfl, rfl, rfl, rfl, rfl, rfl, rfl⟩, m.dSt⟩
  · have := m.blk.other (p := ⟨h.gT, i * 13 + j, none⟩) (ne_of_typ tT m.kT (by decide)) v
    simpa [kCells] using this
  · have h1 := (m.rows.stored (i * 13 + j) v).1
    simpa using h1
  · have hk' : k < s.T.length := by simpa using hk
    have hl : h.L.length = s.T.length * 13 := m.rows.1
    show (h.L.set (i * 13 + j) v)[k * 13 + j']? = (ktCells s.set k (h.cs k) ((s.T.modify i f)[k]'hk))[j']?
    rw [List.getElem?_set, List.getElem_modify]
    by_cases e : i = k
    · subst e
      rw [if_pos rfl, hf, List.getElem?_set]
      by_cases e2 : j = j'
      · subst e2
        rw [if_pos rfl, if_pos rfl, if_pos (by omega), if_pos (by simp [ktCells]; omega)]
      · rw [if_neg (by omega), if_neg e2]
        exact m.cells i hk' j' hj'
    · rw [if_neg (by omega), if_neg e]
      exact m.cells k hk' j' hj'
  · have hk' : k < s.T.length := by simpa using hk
    obtain ⟨cv, cc, h1, h2⟩ := m.codes k hk'
    exact ⟨cv, cc, h1, h2.same fun b hb => same b (ne_of_typ tT (m.ft b hb) (by decide))⟩
  · exact ownsRow_same m.mrow fun g hg => same g (ne_of_typ tT (own_typ m.mrow hg) (by decide))
  · exact ownsRow_same m.wk fun g hg => same g (ne_of_typ tT (own_typ m.wk hg) (by decide))
  · exact ownsRow_same m.tks fun g hg => same g (ne_of_typ tT (own_typ m.tks hg) (by decide))
  · exact ownsRow_same m.wts fun g hg => same g (ne_of_typ tT (own_typ m.wts hg) (by decide))
  · exact ownsRow_same m.mss fun g hg => same g (ne_of_typ tT (own_typ m.mss hg) (by decide))
theorem KMem.setM (m : KMem F w kb h s tk wt ws) (i : Nat) (hi : i < s.owner.length) (x : Int) :
    KMem F (w.setCell ⟨h.gM, i * 3 + 2, none⟩ (.int .i64 x)) kb { h with LM := h.LM.set (i * 3 + 2) (.int .i64 x) } { s with owner := s.owner.set i x } tk wt ws := by
  have mT := m.mT
  have same : ∀ b, b ≠ h.gM → (w.setCell ⟨h.gM, i * 3 + 2, none⟩ (.int .i64 x)).heap[b]? = w.heap[b]? := fun b hb => Below.heap_setCell _ _ _ _ hb
  refine ⟨?_, ?_, m.cells, fun k hk => ?_, ?_, fun k hk j hj => ?_, ?_, ?_, ?_, ?_, fun b hb => (m.ft b hb).same (same b (ne_of_typ mT (m.ft b hb) (by decide))), m.dTk, m.dWt, (m.st.same fun b hb => same b (m.st.ne hb mT (by decide) (by decide) (by decide))).like ⟨rfl, rfl, rfl, rfl, rfl, rfl, rfl, rfl⟩, m.dSt⟩
  · have := m.blk.other (p := ⟨h.gM, i * 3 + 2, none⟩) (ne_of_typ mT m.kT (by decide)) (.int .i64 x)
    simpa [kCells] using this
  · exact ownsRow_same m.rows fun g hg => same g (ne_of_typ mT (own_typ m.rows hg) (by decide))
  · obtain ⟨cv, cc, h1, h2⟩ := m.codes k hk
    exact ⟨cv, cc, h1, h2.same fun b hb => same b (ne_of_typ mT (m.ft b hb) (by decide))⟩
  · have h1 := (m.mrow.stored (i * 3 + 2) (.int .i64 x)).1
    simpa using h1
  · have hk' : k < s.owner.length := by simpa using hk
    have hl : h.LM.length = s.owner.length * 3 := m.mrow.1
    show (h.LM.set (i * 3 + 2) (.int .i64 x))[k * 3 + j]? = (kmCells s.set k ((s.owner.set i x)[k]'hk))[j]?
    rw [List.getElem?_set, List.getElem_set]
    by_cases e : i = k
    · subst e
      rw [if_pos rfl]
      by_cases e2 : 2 = j
      · subst e2
        rw [if_pos rfl, if_pos (by omega)]
        rfl
      · rw [if_neg (by omega), m.mcells i hk' j hj]
        unfold kmCells
        rcases j with _ | _ | _ | j
        · rfl
        · rfl
        · exact absurd rfl e2
        · omega
    · rw [if_neg (by omega), if_neg e]
      exact m.mcells k hk' j hj
  · exact ownsRow_same m.wk fun g hg => same g (ne_of_typ mT (own_typ m.wk hg) (by decide))
  · exact ownsRow_same m.tks fun g hg => same g (ne_of_typ mT (own_typ m.tks hg) (by decide))
  · exact ownsRow_same m.wts fun g hg => same g (ne_of_typ mT (own_typ m.wts hg) (by decide))
  · exact ownsRow_same m.mss fun g hg => same g (ne_of_typ mT (own_typ m.mss hg) (by decide))
theorem KMem.setW (m : KMem F w kb h s tk wt ws) (i : Nat) (x : Int) : KMem F (w.setCell ⟨h.gW, i, none⟩ (.int .i64 x)) kb h s tk wt (ws.set i x) := by
  have wT := m.wT
  have same : ∀ b, b ≠ h.gW → (w.setCell ⟨h.gW, i, none⟩ (.int .i64 x)).heap[b]? = w.heap[b]? := fun b hb => Below.heap_setCell _ _ _ _ hb
  refine ⟨?_, ?_, m.cells, fun k hk => ?_, ?_, m.mcells, ?_, ?_, ?_, ?_, fun b hb => (m.ft b hb).same (same b (ne_of_typ wT (m.ft b hb) (by decide))), m.dTk, m.dWt, m.st.same fun b hb => same b (m.dSt b hb).1, m.dSt⟩
  · have := m.blk.other (p := ⟨h.gW, i, none⟩) (ne_of_typ wT m.kT (by decide)) (.int .i64 x)
    simpa [kCells] using this
  · exact ownsRow_same m.rows fun g hg => same g (ne_of_typ wT (own_typ m.rows hg) (by decide))
  · obtain ⟨cv, cc, h1, h2⟩ := m.codes k hk
    exact ⟨cv, cc, h1, h2.same fun b hb => same b (ne_of_typ wT (m.ft b hb) (by decide))⟩
  · exact ownsRow_same m.mrow fun g hg => same g (ne_of_typ wT (own_typ m.mrow hg) (by decide))
  · have h1 := (m.wk.stored i (.int .i64 x)).1
    rw [intCells_set] at h1
    simpa using h1
  · exact ownsRow_same m.tks fun g hg => same g (m.dTk g hg)
  · exact ownsRow_same m.wts fun g hg => same g (m.dWt g hg).1
  · exact ownsRow_same m.mss fun g hg => same g (ne_of_typ wT (own_typ m.mss hg) (by decide))
theorem KMem.setK (m : KMem F w kb h s tk wt ws) (j : Nat) (v : Value) {h' : KH} {s' : RS} {tk' wt' : List Nat} (hh : h' = { h with vTk := h'.vTk, vWt := h'.vWt, vMs := h'.vMs }) (hs : s' = { s with now := s'.now, missed := s'.missed }) (hc : (kCells h s ws).setIfInBounds j v = kCells h' s' ws)
    (htk : w.ownsRow 0 3 1 h'.vTk tk'.length (intCells (Ln.ints tk'))) (hwt : w.ownsRow 0 3 1 h'.vWt wt'.length (intCells (Ln.ints wt'))) (hms : w.ownsRow 0 95 3 h'.vMs s'.missed.length (missCells s'.missed))
    (d1 : ∀ g, h'.vTk.ownBlock = some g → g ≠ h.gW) (d2 : ∀ g, h'.vWt.ownBlock = some g → g ≠ h.gW ∧ h'.vTk.ownBlock ≠ some g) (d3 : ∀ g, KSB h g → h'.vTk.ownBlock ≠ some g ∧ h'.vWt.ownBlock ≠ some g) : KMem F (w.setCell ⟨kb, j, none⟩ v) kb h' s' tk' wt' ws := by
  have kT := m.kT
  have same : ∀ b, b ≠ kb → (w.setCell ⟨kb, j, none⟩ v).heap[b]? = w.heap[b]? := fun b hb => Below.heap_setCell _ _ _ _ hb
  have e1 : h'.gT = h.gT := by rw [hh]
  have e2 : h'.cT = h.cT := by rw [hh]
  have e3 : h'.L = h.L := by rw [hh]
  have e4 : h'.cs = h.cs := by rw [hh]
  have e5 : h'.gM = h.gM := by rw [hh]
  have e6 : h'.cM = h.cM := by rw [hh]
  have e7 : h'.LM = h.LM := by rw [hh]
  have e8 : h'.gW = h.gW := by rw [hh]
  have e9 : h'.cW = h.cW := by rw [hh]
  have s1 : s'.set = s.set := by rw [hs]
  have s2 : s'.T = s.T := by rw [hs]
  have s3 : s'.owner = s.owner := by rw [hs]
  have s4 : s'.count = s.count := by rw [hs]
  have s5 : s'.box = s.box := by rw [hs]
  have kh : KHs h h' := by rw [hh]; exact ⟨rfl, rfl, rfl, rfl, rfl, rfl, rfl, rfl⟩
  refine ⟨?_, ?_, ?_, ?_, ?_, ?_, ?_, ?_, ?_, ?_, fun b hb => (m.ft b hb).same (same b (ne_of_typ kT (m.ft b hb) (by decide))), ?_, ?_, ?_, fun g hg => ?_⟩
  · have := m.blk.set j v
    rw [hc] at this
    exact this
  · rw [e1, e2, e3, s2]
    exact ownsRow_same m.rows fun g hg => same g (ne_of_typ kT (own_typ m.rows hg) (by decide))
  · simp only [e3, e4, s1, s2]
    exact m.cells
  · simp only [e4, s1, s2]
    intro k hk
    obtain ⟨cv, cc, h1, h2⟩ := m.codes k hk
    exact ⟨cv, cc, h1, h2.same fun b hb => same b (ne_of_typ kT (m.ft b hb) (by decide))⟩
  · rw [e5, e6, e7, s3]
    exact ownsRow_same m.mrow fun g hg => same g (ne_of_typ kT (own_typ m.mrow hg) (by decide))
  · simp only [e7, s1, s3]
    exact m.mcells
  · rw [e8, e9]
    exact ownsRow_same m.wk fun g hg => same g (ne_of_typ kT (own_typ m.wk hg) (by decide))
  · exact ownsRow_same htk fun g hg => same g (ne_of_typ kT (own_typ htk hg) (by decide))
  · exact ownsRow_same hwt fun g hg => same g (ne_of_typ kT (own_typ hwt hg) (by decide))
  · exact ownsRow_same hms fun g hg => same g (ne_of_typ kT (own_typ hms hg) (by decide))
  · rw [e8]; exact d1
  · rw [e8]; exact d2
  · rw [s1, s4, s5]
    exact (m.st.same fun b hb => same b (m.st.ne hb kT (by decide) (by decide) (by decide))).like kh
  · rw [e8]
    exact ⟨(m.dSt g (kh.blocks hg)).1, d3 g (kh.blocks hg)⟩
theorem KMem.setS (m : KMem F w kb h s tk wt ws) (i : Nat) (hi : i < s.count.length) (x : Int) :
    KMem F (w.setCell ⟨h.gS, i * 2 + 0, none⟩ (.int .i64 x)) kb { h with LS := h.LS.set (i * 2 + 0) (.int .i64 x) } { s with count := s.count.set i x } tk wt ws := by
  have sT : Typ w h.gS 151 := own_typ m.st.srow rfl
  have same : ∀ b, b ≠ h.gS → (w.setCell ⟨h.gS, i * 2 + 0, none⟩ (.int .i64 x)).heap[b]? = w.heap[b]? := fun b hb => Below.heap_setCell _ _ _ _ hb
  refine ⟨?_, ?_, m.cells, fun k hk => ?_, ?_, m.mcells, ?_, ?_, ?_, ?_, fun b hb => (m.ft b hb).same (same b (ne_of_typ sT (m.ft b hb) (by decide))), m.dTk, m.dWt, ⟨?_, fun k hk j hj => ?_, ?_, m.st.nq, m.st.qcells, fun k hk => ?_, m.st.dist⟩, m.dSt⟩
  · have := m.blk.other (p := ⟨h.gS, i * 2 + 0, none⟩) (ne_of_typ sT m.kT (by decide)) (.int .i64 x)
    simpa [kCells] using this
  · exact ownsRow_same m.rows fun g hg => same g (ne_of_typ sT (own_typ m.rows hg) (by decide))
  · obtain ⟨cv, cc, h1, h2⟩ := m.codes k hk
    exact ⟨cv, cc, h1, h2.same fun b hb => same b (ne_of_typ sT (m.ft b hb) (by decide))⟩
  · exact ownsRow_same m.mrow fun g hg => same g (ne_of_typ sT (own_typ m.mrow hg) (by decide))
  · exact ownsRow_same m.wk fun g hg => same g (ne_of_typ sT (own_typ m.wk hg) (by decide))
  · exact ownsRow_same m.tks fun g hg => same g (ne_of_typ sT (own_typ m.tks hg) (by decide))
  · exact ownsRow_same m.wts fun g hg => same g (ne_of_typ sT (own_typ m.wts hg) (by decide))
  · exact ownsRow_same m.mss fun g hg => same g (ne_of_typ sT (own_typ m.mss hg) (by decide))
  · have h1 := (m.st.srow.stored (i * 2 + 0) (.int .i64 x)).1
    simpa using h1
  · have hk' : k < s.count.length := by simpa using hk
    have hl : h.LS.length = s.count.length * 2 := m.st.srow.1
    show (h.LS.set (i * 2 + 0) (.int .i64 x))[k * 2 + j]? = (ksCells s.set k ((s.count.set i x)[k]'hk))[j]?
    rw [List.getElem?_set, List.getElem_set]
    by_cases e : i = k
    · subst e
      rw [if_pos rfl]
      by_cases e2 : 0 = j
      · subst e2
        rw [if_pos rfl, if_pos (by omega)]
        rfl
      · rw [if_neg (by omega), m.st.scells i hk' j hj]
        unfold ksCells
        rcases j with _ | _ | j
        · exact absurd rfl e2
        · rfl
        · omega
    · rw [if_neg (by omega), if_neg e]
      exact m.st.scells k hk' j hj
  · exact ownsRow_same m.st.qrow fun g hg => same g (ne_of_typ sT (own_typ m.st.qrow hg) (by decide))
  · exact ownsRow_same (m.st.boxes k hk) fun g hg => same g (ne_of_typ sT (own_typ (m.st.boxes k hk) hg) (by decide))
theorem KMem.scell (m : KMem F w kb h s tk wt ws) {i : Nat} (hi : i < s.count.length) (j : Nat) (hj : j < 2) : w.cell? ⟨h.gS, i * 2 + j, none⟩ = (ksCells s.set i s.count[i])[j]? := by
  rw [m.st.srow.cellAt _ (by omega), m.st.scells i hi j hj]
theorem KMem.sfrozen (m : KMem F w kb h s tk wt ws) (j : Nat) : w.frozen? ⟨h.gS, j, none⟩ = false := m.st.srow.frozenAt j
theorem KMem.qcell (m : KMem F w kb h s tk wt ws) {i : Nat} (hi : i < s.box.length) (j : Nat) (hj : j < 2) : w.cell? ⟨h.gQ, i * 2 + j, none⟩ = (kqCells s.set i (h.qv i))[j]? := by
  rw [m.st.qrow.cellAt _ (by omega), m.st.qcells i hi j hj]
theorem KMem.qfrozen (m : KMem F w kb h s tk wt ws) (j : Nat) : w.frozen? ⟨h.gQ, j, none⟩ = false := m.st.qrow.frozenAt j
theorem KMem.setQ {w1 : World} (m : KMem F w kb h s tk wt ws) (i : Nat) (hi : i < s.box.length) {v : Value} {l : List Int}
    (hsame : ∀ b, b < w.heap.size → (h.qv i).ownBlock ≠ some b → w1.heap[b]? = w.heap[b]?) (hr : w1.ownsRow 0 3 1 v l.length (intCells l)) (hat : ∀ g, v.ownBlock = some g → (h.qv i).ownBlock = some g ∨ w.heap.size ≤ g) :
    KMem F (w1.setCell ⟨h.gQ, i * 2 + 1, none⟩ v) kb { h with LQ := h.LQ.set (i * 2 + 1) v, qv := fun k => if k = i then v else h.qv k } { s with box := s.box.set i l } tk wt ws := by
  have qT : Typ w h.gQ 153 := own_typ m.st.qrow rfl
  have hqi : KSB h h.gQ := .inr (.inl rfl)
  have bT : ∀ g, (h.qv i).ownBlock = some g → Typ w g 3 := fun g hg => own_typ (m.st.boxes i hi) hg
  have same1 : ∀ b e, Typ w b e → e ≠ 3 → w1.heap[b]? = w.heap[b]? := fun b e hb he => hsame b hb.lt fun x => (bT b x).ne hb (Ne.symm he) rfl
  have same0 : ∀ b, b ≠ h.gQ → (w1.setCell ⟨h.gQ, i * 2 + 1, none⟩ v).heap[b]? = w1.heap[b]? := fun b hb => Below.heap_setCell _ _ _ _ hb
  have same : ∀ b e, Typ w b e → e ≠ 3 → e ≠ 153 → (w1.setCell ⟨h.gQ, i * 2 + 1, none⟩ v).heap[b]? = w.heap[b]? := fun b e hb h1 h2 => by
    rw [same0 b (ne_of_typ qT hb (Ne.symm h2)), same1 b e hb h1]
  have ints : ∀ b, Typ w b 3 → (h.qv i).ownBlock ≠ some b → (w1.setCell ⟨h.gQ, i * 2 + 1, none⟩ v).heap[b]? = w.heap[b]? := fun b hb hn => by
    rw [same0 b (ne_of_typ qT hb (by decide)), hsame b hb.lt hn]
  have ksb : ∀ g, (h.qv i).ownBlock = some g → KSB h g := fun g hg => .inr (.inr ⟨i, by rw [m.st.nq]; exact hi, hg⟩)
  have gQ1 : w1.heap[h.gQ]? = w.heap[h.gQ]? := same1 _ _ qT (by decide)
  have hlQ : h.LQ.length = s.box.length * 2 := m.st.qrow.1
  have qrow1 : w1.ownsRow 0 153 2 (.slice (some ⟨h.gQ, 0, none⟩) s.box.length h.cQ) s.box.length h.LQ := ownsRow_same m.st.qrow fun g hg => by cases hg; exact gQ1
  have vT : ∀ g, v.ownBlock = some g → Typ w1 g 3 := fun g hg => own_typ hr hg
  have qT1 : Typ w1 h.gQ 153 := own_typ qrow1 rfl
  refine ⟨?_, ?_, m.cells, fun k hk => ?_, ?_, m.mcells, ?_, ?_, ?_, ?_, fun b hb => (m.ft b hb).same (same b _ (m.ft b hb) (by decide) (by decide)), m.dTk, m.dWt, ⟨?_, m.st.scells, ?_, by simpa using m.st.nq, fun k hk j hj => ?_, fun k hk => ?_, fun k1 k2 g h1 h2 hne hg => ?_⟩, fun g hg => ?_⟩
  · have := m.blk
    unfold Blk at this ⊢
    rw [same kb _ m.kT (by decide) (by decide)]
    simpa [kCells] using this
  · exact ownsRow_same m.rows fun g hg => same g _ (own_typ m.rows hg) (by decide) (by decide)
  · obtain ⟨cv, cc, h1, h2⟩ := m.codes k hk
    exact ⟨cv, cc, h1, h2.same fun b hb => same b _ (m.ft b hb) (by decide) (by decide)⟩
  · exact ownsRow_same m.mrow fun g hg => same g _ (own_typ m.mrow hg) (by decide) (by decide)
  · exact ownsRow_same m.wk fun g hg => ints g (own_typ m.wk hg) (fun e => (m.dSt g (ksb g e)).1 (by cases hg; rfl))
  · exact ownsRow_same m.tks fun g hg => ints g (own_typ m.tks hg) (fun e => (m.dSt g (ksb g e)).2.1 hg)
  · exact ownsRow_same m.wts fun g hg => ints g (own_typ m.wts hg) (fun e => (m.dSt g (ksb g e)).2.2 hg)
  · exact ownsRow_same m.mss fun g hg => same g _ (own_typ m.mss hg) (by decide) (by decide)
  · exact ownsRow_same m.st.srow fun g hg => same g _ (own_typ m.st.srow hg) (by decide) (by decide)
  · have h1 := (qrow1.stored (i * 2 + 1) v).1
    simpa using h1
  · have hk' : k < s.box.length := by simpa using hk
    show (h.LQ.set (i * 2 + 1) v)[k * 2 + j]? = (kqCells s.set k (if k = i then v else h.qv k))[j]?
    rw [List.getElem?_set]
    by_cases e : k = i
    · subst e
      rw [if_pos rfl]
      by_cases e2 : 1 = j
      · subst e2
        rw [if_pos rfl, if_pos (by omega)]
        rfl
      · rw [if_neg (by omega), m.st.qcells k hk' j hj]
        unfold kqCells
        rcases j with _ | _ | j
        · rfl
        · exact absurd rfl e2
        · omega
    · rw [if_neg (by omega), if_neg e]
      exact m.st.qcells k hk' j hj
  · have hk' : k < s.box.length := by simpa using hk
    show World.ownsRow _ 0 3 1 (if k = i then v else h.qv k) ((s.box.set i l)[k]'hk).length (intCells ((s.box.set i l)[k]'hk))
    rw [List.getElem_set]
    by_cases e : k = i
    · subst e
      rw [if_pos rfl, if_pos rfl]
      exact ownsRow_same hr fun g hg => same0 g (ne_of_typ qT1 (vT g hg) (by decide))
    · rw [if_neg e, if_neg (Ne.symm e)]
      exact ownsRow_same (m.st.boxes k hk') fun g hg => ints g (own_typ (m.st.boxes k hk') hg) (fun x => m.st.dist k i g hk' hi e hg x)
  · have h1' : k1 < s.box.length := by simpa using h1
    have h2' : k2 < s.box.length := by simpa using h2
    have old : ∀ k g, k < s.box.length → (h.qv k).ownBlock = some g → g < w.heap.size := fun k g hk hg => (own_typ (m.st.boxes k hk) hg).lt
    have hg' : (if k1 = i then v else h.qv k1).ownBlock = some g := hg
    show (if k2 = i then v else h.qv k2).ownBlock ≠ some g
    by_cases e1 : k1 = i
    · rw [if_pos e1] at hg'
      rw [if_neg (by omega)]
      intro e3
      rcases hat g hg' with e4 | e4
      · exact m.st.dist i k2 g hi h2' (by omega) e4 e3
      · have := old k2 g h2' e3
        omega
    · rw [if_neg e1] at hg'
      by_cases e2 : k2 = i
      · rw [if_pos e2]
        intro e3
        rcases hat g e3 with e4 | e4
        · exact m.st.dist k1 i g h1' hi (by omega) hg' e4
        · have := old k1 g h1' hg'
          omega
      · rw [if_neg e2]
        exact m.st.dist k1 k2 g h1' h2' hne hg'
  · rcases hg with e | e | ⟨k, hk, hg'⟩
    · exact m.dSt g (.inl e)
    · exact m.dSt g (.inr (.inl e))
    · have hg2 : (if k = i then v else h.qv k).ownBlock = some g := hg'
      by_cases e1 : k = i
      · rw [if_pos e1] at hg2
        rcases hat g hg2 with e4 | e4
        · exact m.dSt g (ksb g e4)
        · have hwl := m.wT.lt
          refine ⟨show g ≠ h.gW by omega, fun e => ?_, fun e => ?_⟩
          · have := (own_typ m.tks e).lt
            omega
          · have := (own_typ m.wts e).lt
            omega
      · rw [if_neg e1] at hg2
        exact m.dSt g (.inr (.inr ⟨k, hk, hg2⟩))
end
structure KS (Q : Nat → Prop) (w : World) (kb : Nat) (s : RS) (ws : List Int) : Prop where
  mem : ∃ F h tk wt, KMem F w kb h s tk wt ws ∧ Ln.Aux s tk wt ∧ ∀ b, KB F kb h b → Q b
  lt : ∀ b, Q b → b < w.heap.size
section
variable {Q : Nat → Prop} {w w' : World} {kb : Nat} {s s' : RS} {ws ws' : List Int}
theorem KS.frame (k : KS Q w kb s ws) (hs : ∀ b, Q b → w'.heap[b]? = w.heap[b]?) (hz : w.heap.size ≤ w'.heap.size) : KS Q w' kb s ws := by
  obtain ⟨F, h, tk, wt, m, a, hq⟩ := k.mem
  exact ⟨⟨F, h, tk, wt, m.frame (fun b hb => hs b (hq b hb)), a, hq⟩, fun b hb => Nat.lt_of_lt_of_le (k.lt b hb) hz⟩
end
end Go.Proofs.YtbkfildnijjioaaGreat

namespace Go.Proofs.YtbkfildnijjioaaGreat
open Go.RowKit
set_option maxHeartbeats 400000 in
theorem kPlaceOf_any (w:World) (ao:Option Addr) (ca:Nat) (l:List Int) (x:Int) (hl:IntsIn w.heap.size w ao l) (hll:l.length<=1000) :
  Calls Tryz.prog 104 #[.slice ao l.length ca,.int .i64 x] w fun e w'=>e=.returned (.int .i64 (Ln.placeIn l x))/\w'=w:=by
 have HL:=hid hl
 clear hl
 go_enter Tryz.func104,Tryz.ntmps104
 go_wp2
 go_loop [9] (fun i=>∃ k:Nat,k<=l.length/\i=.int .i64 k/\∀ j (hj:j < l.length),j < k->l[j] ≠ x) (fun i=>l.length - (intOf i).toNat)
 case atStart=>exact ⟨0,Nat.zero_le _,rfl,fun _ _ h=>absurd h (Nat.not_lt_zero _)⟩
 case round =>
  obtain ⟨k,hk,rfl,hall⟩:=hrel
  have HA:=hid hall
  clear hall
  by_cases hlt:k < l.length
  ·obtain ⟨b,o,ha,_,hc⟩:=HL.out k hlt
   subst ha
   have hkI:(k:Int) < (l.length:Int):=by omega
   cases hq:(l[k] == x)
   ·have HST:Hid (∀ j (hj:j < l.length),j < k + 1->l[j] ≠ x):=by
     intro j hj hjk
     rcases Nat.lt_or_ge j k with h1 | h1
     ·exact HA.out j hj h1
     ·have e:j=k:=by omega
      subst e
      simpa using hq
    generalize l[k]=y at *
    go_wp2
    go_round
    case rel=>exact ⟨k + 1,by omega,by go_num,HST.out⟩
    case measure=>simp [intOf]; omega
   ·have HE:Hid (Ln.placeIn l x=k):=Ln.placeIn_at k hlt (by simpa using hq) (fun j hj=>HA.out j (by omega) hj)
    generalize l[k]=y at *
    go_wp2
    go_ret
    exact ⟨ret_int HE.out.symm,rfl⟩
  ·have HE:Hid (Ln.placeIn l x=-1):=Ln.placeIn_none (fun j hj=>HA.out j hj (by omega))
   go_wp2
   go_ret
   exact ⟨ret_int HE.out.symm,rfl⟩
section
variable {F:Nat->Prop} {w:World} {kb:Nat} {h:KH} {s:RS} {tk wt:List Nat} {ws:List Int}
set_option maxHeartbeats 400000 in
theorem kHasJob_any (m:KMem F w kb h s tk wt ws) (t:Nat) (ht:t < s.T.length) (_hfew:s.T.length<=16) :
  Calls Tryz.prog 134 #[.pointer (some ⟨kb,0,none⟩),.int .i64 t] w fun e w'=>e=.returned (.bool (decide (s.T[t].ended < s.T[t].rel)))/\∃ n,w'=w.drewN n:=by
 have c1:=m.blk.cell 1
 simp [kCells] at c1
 have a7:=m.tcell ht 8 (by decide)
 have a8:=m.tcell ht 9 (by decide)
 simp [ktCells] at a7 a8
 have htI:(t:Int) < (s.T.length:Int):=by omega
 clear m
 generalize s.T[t]=x at *
 go_enter Tryz.func134,Tryz.ntmps134
 go_wp2_with fail
 go_quiet (fail)
 go_wp2
 go_ret
 exact ⟨rfl,_,rfl⟩
set_option maxHeartbeats 400000 in
theorem kWaits_any (m:KMem F w kb h s tk wt ws) (t:Nat) (ht:t < s.T.length) (_hfew:s.T.length<=16) :
  Calls Tryz.prog 153 #[.pointer (some ⟨kb,0,none⟩),.int .i64 t] w fun e w'=>e=.returned (.bool (s.T[t].for_ != 0))/\w'=w:=by
 have c1:=m.blk.cell 1
 simp [kCells] at c1
 have a9:=m.tcell ht 10 (by decide)
 simp [ktCells] at a9
 have htI:(t:Int) < (s.T.length:Int):=by omega
 clear m
 generalize s.T[t]=x at *
 go_enter Tryz.func153,Tryz.ntmps153
 go_wp2
 go_ret
 exact ⟨rfl,rfl⟩
def kAw (x:RT):Bool:=decide (x.ended < x.rel) && (x.for_ == 0)
set_option maxHeartbeats 400000 in
theorem kAwake_any (m:KMem F w kb h s tk wt ws) (t:Nat) (ht:t < s.T.length) (hfew:s.T.length<=16) :
  Calls Tryz.prog 136 #[.pointer (some ⟨kb,0,none⟩),.int .i64 t] w fun e w'=>e=.returned (.bool (kAw s.T[t]))/\∃ n,w'=w.drewN n:=by
 have HJ:=hid (kHasJob_any m t ht hfew)
 have HW:=hid (fun n=>kWaits_any (m.drewN n) t ht hfew)
 have EA:Hid (kAw s.T[t]=(decide (s.T[t].ended < s.T[t].rel) && (s.T[t].for_ == 0))):=rfl
 clear m
 generalize s.T[t]=x at *
 generalize kAw x=aw at *
 go_enter Tryz.func136,Tryz.ntmps136
 go_wp2_with fail
 refine HJ.out.mono ?_
 rintro e w1 ⟨rfl,n,rfl⟩
 cases hj:decide (x.ended < x.rel)
 ·go_wp2
  go_ret
  refine ⟨?_,n,rfl⟩
  rw [EA.out,hj]
  rfl
 ·go_wp2_with fail
  refine (HW.out n).mono ?_
  rintro e w2 ⟨rfl,hw2⟩
  have hw3:=hw2.symm
  subst hw3
  cases hw:(x.for_ != 0)
  ·have e0:(x.for_ == 0)=true:=by simpa using hw
   go_wp2
   go_ret
   refine ⟨?_,n,rfl⟩
   rw [EA.out,hj,e0]
   rfl
  ·have e0:(x.for_ == 0)=false:=by simpa using hw
   go_wp2
   go_ret
   refine ⟨?_,n,rfl⟩
   rw [EA.out,hj,e0]
   rfl
set_option maxHeartbeats 1000000 in
theorem kReleaseTime_any (m:KMem F w kb h s tk wt ws) (t:Nat) (ht:t < s.T.length) (_hfew:s.T.length<=16) (job:Int) (hj:0<=job/\job<=2000000000) (hf:0<=s.set.start/\s.set.start<=1000000000) (ho:0<=(s.set.threads.getD t P3.none0).offset/\(s.set.threads.getD t P3.none0).offset<=1000) (hp:0<=(s.set.threads.getD t P3.none0).period/\(s.set.threads.getD t P3.none0).period<=1000) :
  Calls Tryz.prog 133 #[.pointer (some ⟨kb,0,none⟩),.int .i64 t,.int .i64 job] w fun e w'=>e=.returned (.int .i64 (s.set.start + (s.set.threads.getD t P3.none0).offset + job * (s.set.threads.getD t P3.none0).period))/\∃ n,w'=w.drewN n:=by
 have c1:=m.blk.cell 1
 simp [kCells] at c1
 have a2:=m.tcell ht 2 (by decide)
 have a3:=m.tcell ht 3 (by decide)
 simp only [ktCells] at a2 a3
 have htI:(t:Int) < (s.T.length:Int):=by omega
 clear m
 generalize (s.set.threads.getD t P3.none0).period=pe at *
 generalize (s.set.threads.getD t P3.none0).offset=of at *
 generalize s.set.start=st at *
 simp at a2 a3
 obtain ⟨hj0,hj1⟩:=hj
 obtain ⟨hf0,hf1⟩:=hf
 obtain ⟨ho0,ho1⟩:=ho
 obtain ⟨hp0,hp1⟩:=hp
 have m0:0<=job * pe:=Int.mul_nonneg hj0 hp0
 have m1:job * pe<=2000000000 * 1000:=Int.mul_le_mul hj1 hp1 hp0 (by decide)
 go_enter Tryz.func133,Tryz.ntmps133
 go_wp2_with fail
 go_quiet (fail)
 go_wp2
 go_ret
 exact ⟨rfl,_,rfl⟩
def kDue (s:RS) (t:Nat) (rel:Int):Bool:=if (s.set.threads.getD t P3.none0).period=0/\0 < rel then false else s.set.start + (s.set.threads.getD t P3.none0).offset + rel * (s.set.threads.getD t P3.none0).period == s.now
structure KSet (s:RS) (t:Nat):Prop where
 st:0<=s.set.start/\s.set.start<=1000000000
 of:0<=(s.set.threads.getD t P3.none0).offset/\(s.set.threads.getD t P3.none0).offset<=1000
 pe:0<=(s.set.threads.getD t P3.none0).period/\(s.set.threads.getD t P3.none0).period<=1000
 dl:0<=(s.set.threads.getD t P3.none0).deadline/\(s.set.threads.getD t P3.none0).deadline<=1000
set_option maxHeartbeats 1000000 in
theorem kJobIsDue_any (m:KMem F w kb h s tk wt ws) (t:Nat) (ht:t < s.T.length) (hfew:s.T.length<=16) (hj:0<=s.T[t].rel/\s.T[t].rel<=2000000000) (ks:KSet s t) :
  Calls Tryz.prog 100 #[.pointer (some ⟨kb,0,none⟩),.int .i64 t] w fun e w'=>e=.returned (.bool (kDue s t s.T[t].rel))/\∃ n,w'=w.drewN n:=by
 have c0:=m.blk.cell 0
 have c1:=m.blk.cell 1
 simp [kCells] at c0 c1
 have a7:=m.tcell ht 8 (by decide)
 have a3:=m.tcell ht 3 (by decide)
 simp only [ktCells] at a7 a3
 have htI:(t:Int) < (s.T.length:Int):=by omega
 have CT:=hid (kReleaseTime_any (m.below (Below.refl _ _).drew) t ht hfew s.T[t].rel hj ks.st ks.of ks.pe)
 have ED:Hid (kDue s t s.T[t].rel=if (s.set.threads.getD t P3.none0).period=0/\0 < s.T[t].rel then false else s.set.start + (s.set.threads.getD t P3.none0).offset + s.T[t].rel * (s.set.threads.getD t P3.none0).period == s.now):=rfl
 obtain ⟨hj0,hj1⟩:=hj
 clear m ks
 generalize kDue s t s.T[t].rel=res at *
 generalize hrt:s.set.start + (s.set.threads.getD t P3.none0).offset + s.T[t].rel * (s.set.threads.getD t P3.none0).period=rt at *
 clear hrt
 generalize (s.set.threads.getD t P3.none0).period=pe at *
 generalize s.T[t].rel=rl at *
 simp at a7 a3
 have fin:∀ b,¬ (pe=0/\0 < rl)->(rt == s.now)=b->res=b:=by
  intro b h1 h2
  rw [ED.out,if_neg h1,h2]
 have FIN:=hid fin
 clear fin
 go_enter Tryz.func100,Tryz.ntmps100
 cases hp0:(pe == 0)
 ·have hno:¬ (pe=0/\0 < rl):=fun hh=>by simp [hh.1] at hp0
  have HNO:=hid hno
  clear hno
  go_wp2_with fail
  go_region_held3 (fun w'=>w'.cell? ⟨kb,0,none⟩=some (.int .i64 s.now)) (simp [*])
   (first
    | (go_at_call 133; refine CT.out.mono ?_; rintro e w3 ⟨rfl,n,rfl⟩; have k0:(w.drew.drewN n).cell? ⟨kb,0,none⟩=some (.int .i64 s.now):=c0))
  go_wp2
  go_ret
  exact ⟨by rw [FIN.out _ HNO.out rfl]; rfl,_,rfl⟩
 ·by_cases hr0:0 < rl
  ·have hyes:pe=0/\0 < rl:=⟨by simpa using hp0,hr0⟩
   have HY:=hid hyes
   clear hyes
   go_wp2
   go_ret
   refine ⟨?_,0,rfl⟩
   rw [ED.out,if_pos HY.out]
   rfl
  ·have hno:¬ (pe=0/\0 < rl):=fun hh=>hr0 hh.2
   have HNO:=hid hno
   clear hno
   go_wp2_with fail
   go_region_held3 (fun w'=>w'.cell? ⟨kb,0,none⟩=some (.int .i64 s.now)) (simp [*])
    (first
     | (go_at_call 133; refine CT.out.mono ?_; rintro e w3 ⟨rfl,n,rfl⟩; have k0:(w.drew.drewN n).cell? ⟨kb,0,none⟩=some (.int .i64 s.now):=c0))
   go_wp2
   go_ret
   exact ⟨by rw [FIN.out _ HNO.out rfl]; rfl,_,rfl⟩
set_option maxHeartbeats 400000 in
theorem kOwnerAhead_any (m:KMem F w kb h s tk wt ws) (t:Nat) (ht:t < s.T.length) (_hfew:s.T.length<=16) (ok:R.LinksOk s) (_hm8:s.owner.length<=8) :
  Calls Tryz.prog 169 #[.pointer (some ⟨kb,0,none⟩),.int .i64 t] w fun e w'=>e=.returned (.int .i64 (R.ahd s t))/\∃ n,w'=w.drewN n:=by
 have c1:=m.blk.cell 1
 have c2:=m.blk.cell 2
 simp [kCells] at c1 c2
 have a9:=m.tcell ht 10 (by decide)
 have a10:=m.tcell ht 11 (by decide)
 simp [ktCells] at a9 a10
 have htI:(t:Int) < (s.T.length:Int):=by omega
 have M:=hid m
 have EA:Hid (R.ahd s t=if s.T[t].for_=1 then s.owner.getD s.T[t].of_.toNat 0 else -1):=by
  unfold R.ahd
  rw [th_ext ht]
  exact hid rfl
 have OF1:=hid (ok.of1 t ht)
 rw [th_ext ht] at OF1
 clear m ok
 generalize s.T[t]=x at *
 generalize R.ahd s t=res at *
 go_enter Tryz.func169,Tryz.ntmps169
 cases hf:(x.for_ != 1)
 ·have h1:x.for_=1:=by simpa using hf
  obtain ⟨o0,o1⟩:=OF1.out h1
  obtain ⟨k,hk⟩:=Int.eq_ofNat_of_zero_le o0
  have hkl:k < s.owner.length:=by omega
  have b2:=M.out.mcell hkl 2 (by decide)
  simp [kmCells] at b2
  have HE:Hid (res=s.owner[k]):=by
   rw [EA.out,if_pos h1,hk]
   exact hid (by simp [List.getD,hkl])
  have hkI:(k:Int) < (s.owner.length:Int):=by omega
  rw [hk] at a10
  clear h1 EA OF1 o0 o1
  generalize s.owner[k]=ow at *
  go_wp2_with fail
  go_quiet (fail)
  go_wp2
  go_ret
  exact ⟨ret_int HE.out.symm,_,rfl⟩
 ·have h1:¬ x.for_=1:=by simpa using hf
  have HE:Hid (res=-1):=by
   rw [EA.out,if_neg h1]
   exact hid rfl
  clear h1 EA OF1
  go_wp2
  go_ret
  exact ⟨ret_int HE.out.symm,0,rfl⟩
set_option maxHeartbeats 400000 in
theorem kBorrower_any (m:KMem F w kb h s tk wt ws) (t:Nat) (ht:t < s.T.length) (hfew:s.T.length<=16) (ok:R.LinksOk s) (hm8:s.owner.length<=8) :
  Calls Tryz.prog 164 #[.pointer (some ⟨kb,0,none⟩),.int .i64 t] w fun e w'=>e=.returned (.int .i64 (R.lendee s t))/\∃ n,w'=w.drewN n:=by
 have CA:=hid (kOwnerAhead_any m t ht hfew ok hm8)
 have C1:=hid (fun n=>(m.drewN n).blk.cell 1)
 have C2:=hid (fun n=>(m.drewN n).blk.cell 2)
 have A10:=hid (fun n=>(m.drewN n).tcell ht 11 (by decide))
 have B0:=hid (fun n k (hk:k < s.owner.length)=>(m.drewN n).mcell hk 0 (by decide))
 have htI:(t:Int) < (s.T.length:Int):=by omega
 have EL:Hid (R.lendee s t=if R.ahd s t < 0\/(s.set.mutexes.getD s.T[t].of_.toNat R.pair0).x ≠ 0 then -1 else R.ahd s t):=by
  unfold R.lendee
  rw [th_ext ht]
  exact hid rfl
 have EA:Hid (R.ahd s t=if s.T[t].for_=1 then s.owner.getD s.T[t].of_.toNat 0 else -1):=by
  unfold R.ahd
  rw [th_ext ht]
  exact hid rfl
 have OF1:=hid (ok.of1 t ht)
 rw [th_ext ht] at OF1
 have hbd:=Ln.ahd_bd ok t ht
 clear m ok
 generalize s.T[t]=x at *
 generalize R.lendee s t=res at *
 generalize R.ahd s t=ah at *
 go_enter Tryz.func164,Tryz.ntmps164
 go_wp2_with fail
 refine CA.out.mono ?_
 rintro e w1 ⟨rfl,n,rfl⟩
 have c1:=C1.out n
 have c2:=C2.out n
 have a10:=A10.out n
 simp [kCells] at c1 c2
 simp [ktCells] at a10
 clear CA C1 C2 A10
 cases hn:(ah == -1)
 ·have hn':¬ ah=-1:=by simpa using hn
  have h1:x.for_=1:=by
   apply Classical.byContradiction
   intro hc
   apply hn'
   rw [EA.out,if_neg hc]
  obtain ⟨o0,o1⟩:=OF1.out h1
  obtain ⟨k,hk⟩:=Int.eq_ofNat_of_zero_le o0
  have hkl:k < s.owner.length:=by omega
  have b0:=B0.out n k hkl
  simp only [kmCells] at b0
  have hkI:(k:Int) < (s.owner.length:Int):=by omega
  have hkn:x.of_.toNat=k:=by omega
  rw [hk] at a10
  rw [hkn] at EL
  have hah:¬ ah < 0:=by omega
  have HAH:=hid hah
  clear h1 EA OF1 o0 o1 hn' hah hkn B0
  generalize (s.set.mutexes.getD k R.pair0).x=kd at *
  simp at b0
  cases hkd:(kd != 0)
  ·have e:kd=0:=by simpa using hkd
   have HE:Hid (res=ah):=by
    rw [EL.out,if_neg]
    ·exact hid rfl
    ·rintro (h' | h')
     ·exact HAH.out h'
     ·exact h' e
   clear EL e
   go_wp2_with fail
   go_quiet (fail)
   go_wp2
   go_ret
   exact ⟨ret_int HE.out.symm,_,World.drewN_drewN _ _ _⟩
  ·have e:kd ≠ 0:=by simpa using hkd
   have HE:Hid (res=-1):=by
    rw [EL.out,if_pos (.inr e)]
    exact hid rfl
   clear EL e
   go_wp2_with fail
   go_quiet (fail)
   go_wp2
   go_ret
   exact ⟨ret_int HE.out.symm,_,World.drewN_drewN _ _ _⟩
 ·have hn':ah=-1:=by simpa using hn
  have HE:Hid (res=-1):=by
   rw [EL.out,if_pos (.inl (by omega))]
   exact hid rfl
  clear EL EA OF1 hn' B0
  go_wp2_with fail
  go_quiet (fail)
  go_wp2
  go_ret
  exact ⟨ret_int HE.out.symm,_,World.drewN_drewN _ _ _⟩
set_option maxHeartbeats 400000 in
theorem kTooHigh_any (m:KMem F w kb h s tk wt ws) (t k:Nat) (ht:t < s.T.length) (_hfew:s.T.length<=16) (hk:k < s.owner.length) (_hm8:s.owner.length<=8) :
  Calls Tryz.prog 165 #[.pointer (some ⟨kb,0,none⟩),.int .i64 t,.int .i64 k] w fun e w'=>e=.returned (.bool (decide ((s.set.mutexes.getD k R.pair0).x=1/\(s.set.mutexes.getD k R.pair0).y < s.T[t].base)))/\∃ n,w'=w.drewN n:=by
 have c1:=m.blk.cell 1
 have c2:=m.blk.cell 2
 simp [kCells] at c1 c2
 have a1:=m.tcell ht 1 (by decide)
 simp [ktCells] at a1
 have b0:=m.mcell hk 0 (by decide)
 have b1:=m.mcell hk 1 (by decide)
 simp only [kmCells] at b0 b1
 have htI:(t:Int) < (s.T.length:Int):=by omega
 have hkI:(k:Int) < (s.owner.length:Int):=by omega
 clear m
 generalize s.T[t].base=ba at *
 generalize (s.set.mutexes.getD k R.pair0).x=kd at *
 generalize (s.set.mutexes.getD k R.pair0).y=tp at *
 simp at b0 b1
 go_enter Tryz.func165,Tryz.ntmps165
 cases hkd:(kd == 1)
 ·have e:¬ kd=1:=by simpa using hkd
  have HE:Hid (decide (kd=1/\tp < ba)=false):=hid (by simp [e])
  clear e
  generalize decide (kd=1/\tp < ba)=res at *
  go_wp2_with fail
  go_quiet (fail)
  go_wp2
  go_ret
  refine ⟨?_,_,rfl⟩
  rw [HE.out]
  rfl
 ·have e:kd=1:=by simpa using hkd
  have HE:Hid (decide (kd=1/\tp < ba)=decide (tp < ba)):=hid (by simp [e])
  clear e
  generalize decide (kd=1/\tp < ba)=res at *
  go_wp2_with fail
  go_quiet (fail)
  go_wp2
  go_ret
  refine ⟨?_,_,rfl⟩
  rw [HE.out]
  rfl
end
end Go.Proofs.YtbkfildnijjioaaGreat
