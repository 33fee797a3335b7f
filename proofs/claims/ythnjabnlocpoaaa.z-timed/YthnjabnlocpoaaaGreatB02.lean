import Derived.Test.YthnjabnlocpoaaaGreatB01
import Derived.Maps.AppendAt
/-
  Lists in memory with the blocks in which they lie told by a predicate F; what a call may turn ('Only').
-/
namespace Go.Proofs.YthnjabnlocpoaaaGreat
open Go.RowKit

def PairsF (F : Nat → Prop) (w : World) (ao : Option Addr) (l : List PairD) : Prop :=
  ∀ i (h : i < l.length), ∃ b o, ao = some ⟨b, o, none⟩ ∧ F b ∧ w.cell? ⟨b, o + i * 2, none⟩ = some (.int .i64 l[i].x) ∧ w.cell? ⟨b, o + i * 2 + 1, none⟩ = some (.int .i64 l[i].y)
def IntsF (F : Nat → Prop) (w : World) (ao : Option Addr) (l : List Int) : Prop :=
  ∀ i (h : i < l.length), ∃ b o, ao = some ⟨b, o, none⟩ ∧ F b ∧ w.cell? ⟨b, o + i, none⟩ = some (.int .i64 l[i])
def InstrsF (F : Nat → Prop) (w : World) (ao : Option Addr) (l : List InstrD) : Prop :=
  ∀ i (h : i < l.length), ∃ b o, ao = some ⟨b, o, none⟩ ∧ F b ∧ w.cell? ⟨b, o + i * 3, none⟩ = some (.int .i64 l[i].op) ∧ w.cell? ⟨b, o + i * 3 + 1, none⟩ = some (.int .i64 l[i].a) ∧
    w.cell? ⟨b, o + i * 3 + 2, none⟩ = some (.int .i64 l[i].b)
def ThreadsF (F : Nat → Prop) (w : World) (ao : Option Addr) (l : List ThreadD) : Prop :=
  ∀ i (h : i < l.length), ∃ b o cv cc, ao = some ⟨b, o, none⟩ ∧ F b ∧ w.cell? ⟨b, o + i * 5, none⟩ = some (.int .i64 l[i].base) ∧ w.cell? ⟨b, o + i * 5 + 1, none⟩ = some (.int .i64 l[i].offset) ∧
    w.cell? ⟨b, o + i * 5 + 2, none⟩ = some (.int .i64 l[i].period) ∧ w.cell? ⟨b, o + i * 5 + 3, none⟩ = some (.int .i64 l[i].deadline) ∧
    w.cell? ⟨b, o + i * 5 + 4, none⟩ = some (.slice cv l[i].code.length cc) ∧ InstrsF F w cv l[i].code ∧ (cv = none → cc = 0)

structure SetF (F : Nat → Prop) (w : World) (tv mv sv qv : Option Addr) (S : SetD) : Prop where
  threads : ThreadsF F w tv S.threads
  mutexes : PairsF F w mv S.mutexes
  sems : PairsF F w sv S.sems
  queues : IntsF F w qv S.queues

section
variable {F G : Nat → Prop} {w w' : World} {ao : Option Addr}

theorem same_cell (hs : ∀ b, F b → w'.heap[b]? = w.heap[b]?) {b : Nat} (hb : F b) (o : Nat) : w'.cell? ⟨b, o, none⟩ = w.cell? ⟨b, o, none⟩ := World.cell?_of_block (hs b hb)

theorem PairsF.same {l : List PairD} (h : PairsF F w ao l) (hs : ∀ b, F b → w'.heap[b]? = w.heap[b]?) : PairsF F w' ao l := by
  intro i hi
  obtain ⟨b, o, ha, hf, hx, hy⟩ := h i hi
  exact ⟨b, o, ha, hf, (same_cell hs hf _).trans hx, (same_cell hs hf _).trans hy⟩
theorem IntsF.same {l : List Int} (h : IntsF F w ao l) (hs : ∀ b, F b → w'.heap[b]? = w.heap[b]?) : IntsF F w' ao l := by
  intro i hi
  obtain ⟨b, o, ha, hf, hx⟩ := h i hi
  exact ⟨b, o, ha, hf, (same_cell hs hf _).trans hx⟩
theorem InstrsF.same {l : List InstrD} (h : InstrsF F w ao l) (hs : ∀ b, F b → w'.heap[b]? = w.heap[b]?) : InstrsF F w' ao l := by
  intro i hi
  obtain ⟨b, o, ha, hf, hx, hy, hz⟩ := h i hi
  exact ⟨b, o, ha, hf, (same_cell hs hf _).trans hx, (same_cell hs hf _).trans hy, (same_cell hs hf _).trans hz⟩
theorem ThreadsF.same {l : List ThreadD} (h : ThreadsF F w ao l) (hs : ∀ b, F b → w'.heap[b]? = w.heap[b]?) : ThreadsF F w' ao l := by
  intro i hi
  obtain ⟨b, o, cv, cc, ha, hf, h0, h1, h2, h3, h4, hc, hn⟩ := h i hi
  exact ⟨b, o, cv, cc, ha, hf, (same_cell hs hf _).trans h0, (same_cell hs hf _).trans h1, (same_cell hs hf _).trans h2, (same_cell hs hf _).trans h3, (same_cell hs hf _).trans h4, hc.same hs, hn⟩

theorem PairsF.mono {l : List PairD} (h : PairsF F w ao l) (hs : ∀ b, F b → G b) : PairsF G w ao l := by
  intro i hi
  obtain ⟨b, o, ha, hf, r⟩ := h i hi
  exact ⟨b, o, ha, hs b hf, r⟩
theorem IntsF.mono {l : List Int} (h : IntsF F w ao l) (hs : ∀ b, F b → G b) : IntsF G w ao l := by
  intro i hi
  obtain ⟨b, o, ha, hf, r⟩ := h i hi
  exact ⟨b, o, ha, hs b hf, r⟩
theorem InstrsF.mono {l : List InstrD} (h : InstrsF F w ao l) (hs : ∀ b, F b → G b) : InstrsF G w ao l := by
  intro i hi
  obtain ⟨b, o, ha, hf, r⟩ := h i hi
  exact ⟨b, o, ha, hs b hf, r⟩
theorem ThreadsF.mono {l : List ThreadD} (h : ThreadsF F w ao l) (hs : ∀ b, F b → G b) : ThreadsF G w ao l := by
  intro i hi
  obtain ⟨b, o, cv, cc, ha, hf, h0, h1, h2, h3, h4, hc, hn⟩ := h i hi
  exact ⟨b, o, cv, cc, ha, hs b hf, h0, h1, h2, h3, h4, hc.mono hs, hn⟩

theorem PairsF.toIn {l : List PairD} {B : Nat} (h : PairsF F w ao l) (hs : ∀ b, F b → b < B) : PairsIn B w ao l := by
  intro i hi
  obtain ⟨b, o, ha, hf, r⟩ := h i hi
  exact ⟨b, o, ha, hs b hf, r⟩
theorem IntsF.toIn {l : List Int} {B : Nat} (h : IntsF F w ao l) (hs : ∀ b, F b → b < B) : IntsIn B w ao l := by
  intro i hi
  obtain ⟨b, o, ha, hf, r⟩ := h i hi
  exact ⟨b, o, ha, hs b hf, r⟩
theorem InstrsF.toIn {l : List InstrD} {B : Nat} (h : InstrsF F w ao l) (hs : ∀ b, F b → b < B) : InstrsIn B w ao l := by
  intro i hi
  obtain ⟨b, o, ha, hf, r⟩ := h i hi
  exact ⟨b, o, ha, hs b hf, r⟩
theorem ThreadsF.toIn {l : List ThreadD} {B : Nat} (h : ThreadsF F w ao l) (hs : ∀ b, F b → b < B) : ThreadsIn B w ao l := by
  intro i hi
  obtain ⟨b, o, cv, cc, ha, hf, h0, h1, h2, h3, h4, hc, hn⟩ := h i hi
  exact ⟨b, o, cv, cc, ha, hs b hf, h0, h1, h2, h3, h4, hc.toIn hs, hn⟩
theorem PairsIn.toF {l : List PairD} {B : Nat} (h : PairsIn B w ao l) (hs : ∀ b, b < B → F b) : PairsF F w ao l := by
  intro i hi
  obtain ⟨b, o, ha, hf, r⟩ := h i hi
  exact ⟨b, o, ha, hs b hf, r⟩
theorem IntsIn.toF {l : List Int} {B : Nat} (h : IntsIn B w ao l) (hs : ∀ b, b < B → F b) : IntsF F w ao l := by
  intro i hi
  obtain ⟨b, o, ha, hf, r⟩ := h i hi
  exact ⟨b, o, ha, hs b hf, r⟩
theorem InstrsIn.toF {l : List InstrD} {B : Nat} (h : InstrsIn B w ao l) (hs : ∀ b, b < B → F b) : InstrsF F w ao l := by
  intro i hi
  obtain ⟨b, o, ha, hf, r⟩ := h i hi
  exact ⟨b, o, ha, hs b hf, r⟩
theorem ThreadsIn.toF {l : List ThreadD} {B : Nat} (h : ThreadsIn B w ao l) (hs : ∀ b, b < B → F b) : ThreadsF F w ao l := by
  intro i hi
  obtain ⟨b, o, cv, cc, ha, hf, h0, h1, h2, h3, h4, hc, hn⟩ := h i hi
  exact ⟨b, o, cv, cc, ha, hs b hf, h0, h1, h2, h3, h4, hc.toF hs, hn⟩
end

section
variable {F G : Nat → Prop} {w w' : World} {tv mv sv qv : Option Addr} {S : SetD}
theorem SetF.same (h : SetF F w tv mv sv qv S) (hs : ∀ b, F b → w'.heap[b]? = w.heap[b]?) : SetF F w' tv mv sv qv S := ⟨h.threads.same hs, h.mutexes.same hs, h.sems.same hs, h.queues.same hs⟩
theorem SetF.mono (h : SetF F w tv mv sv qv S) (hs : ∀ b, F b → G b) : SetF G w tv mv sv qv S := ⟨h.threads.mono hs, h.mutexes.mono hs, h.sems.mono hs, h.queues.mono hs⟩
theorem SetF.toIn {B : Nat} (h : SetF F w tv mv sv qv S) (hs : ∀ b, F b → b < B) : SetIn B w tv mv sv qv S := ⟨h.threads.toIn hs, h.mutexes.toIn hs, h.sems.toIn hs, h.queues.toIn hs⟩
theorem SetIn.toF {B : Nat} (h : SetIn B w tv mv sv qv S) (hs : ∀ b, b < B → F b) : SetF F w tv mv sv qv S := ⟨h.threads.toF hs, h.mutexes.toF hs, h.sems.toF hs, h.queues.toF hs⟩
end

theorem PairsIn.newF {B : Nat} {w : World} {ao : Option Addr} {l : List PairD} {lo hi : Nat} (h : PairsIn B w ao l) (hn : NewAt lo hi ao) : PairsF (fun b => lo ≤ b ∧ b < hi) w ao l := by
  intro i hi'
  obtain ⟨b, o, ha, _, r⟩ := h i hi'
  obtain ⟨g, hg, h1, h2⟩ := hn _ ha
  cases hg
  exact ⟨b, 0, ha, ⟨h1, h2⟩, r⟩
theorem IntsIn.newF {B : Nat} {w : World} {ao : Option Addr} {l : List Int} {lo hi : Nat} (h : IntsIn B w ao l) (hn : NewAt lo hi ao) : IntsF (fun b => lo ≤ b ∧ b < hi) w ao l := by
  intro i hi'
  obtain ⟨b, o, ha, _, r⟩ := h i hi'
  obtain ⟨g, hg, h1, h2⟩ := hn _ ha
  cases hg
  exact ⟨b, 0, ha, ⟨h1, h2⟩, r⟩
theorem InstrsIn.newF {B : Nat} {w : World} {ao : Option Addr} {l : List InstrD} {lo hi : Nat} (h : InstrsIn B w ao l) (hn : NewAt lo hi ao) : InstrsF (fun b => lo ≤ b ∧ b < hi) w ao l := by
  intro i hi'
  obtain ⟨b, o, ha, _, r⟩ := h i hi'
  obtain ⟨g, hg, h1, h2⟩ := hn _ ha
  cases hg
  exact ⟨b, 0, ha, ⟨h1, h2⟩, r⟩

theorem ThreadsF.of_rows {B : Nat} {w : World} {vt : Value} {l : List ThreadD} {cs : Nat → Value} (h : ThRows B w vt l l.length cs) :
    ∃ ao cap, vt = .slice ao l.length cap ∧ (ao = none → cap = 0) ∧ ThreadsF (fun b => B ≤ b ∧ b < w.heap.size) w ao l := by
  obtain ⟨h1, h2⟩ := h
  obtain ⟨ao, cap, rfl, hn, ha⟩ := owns_cells h1
  refine ⟨ao, cap, rfl, fun hh => (hn hh).2, fun i hi => ?_⟩
  cases ao with
  | none => have := (hn rfl).1; omega
  | some a =>
    obtain ⟨g, rfl, hb, hlt, _, hc⟩ := ha a rfl
    obtain ⟨g0, g1, g2, g3, g4⟩ := thCells_get l cs l.length i hi hi
    obtain ⟨cv, cc, hcv, hcn, hci, hna⟩ := InstrsIn.of_owns (h2 i hi hi)
    rw [hcv] at g4
    exact ⟨g, 0, cv, cc, rfl, ⟨hb, hlt⟩, by rw [hc _ (by omega)]; simpa using g0, by rw [hc _ (by omega)]; simpa using g1, by rw [hc _ (by omega)]; simpa using g2, by rw [hc _ (by omega)]; simpa using g3,
      by rw [hc _ (by omega)]; simpa using g4, hci.newF hna, hcn⟩
theorem ThreadsF.of_rows_later {B : Nat} {w : World} {vt : Value} {l : List ThreadD} {cs : Nat → Value} (h : ThRows B w vt l l.length cs) :
    ∃ ao cap, vt = .slice ao l.length cap ∧ (ao = none → cap = 0) ∧ ∀ w', (∀ g, B ≤ g → g < w.heap.size → w'.heap[g]? = w.heap[g]?) → ThreadsF (fun b => B ≤ b ∧ b < w'.heap.size) w' ao l := by
  obtain ⟨ao, cap, rfl, hn, _⟩ := ThreadsF.of_rows h
  refine ⟨ao, cap, rfl, hn, fun w' hs => ?_⟩
  obtain ⟨ao', cap', he, _, hin⟩ := ThreadsF.of_rows (h.same hs)
  cases he
  exact hin

theorem bdrewN {B : Nat} {a w : World} (h : Below B a w) (n : Nat) : Below B a (w.drewN n) := ⟨h.os, h.tape, h.output, h.size, h.block⟩

/-- Of the blocks that were there, those of L alone may have turned. -/
structure Only (L : List Nat) (w w' : World) : Prop where
  os : w'.os = w.os
  tape : w'.tape = w.tape
  output : w'.output = w.output
  size : w.heap.size ≤ w'.heap.size
  block : ∀ k, k < w.heap.size → k ∉ L → w'.heap[k]? = w.heap[k]?

section
variable {L M : List Nat} {w0 w w' : World}
theorem Only.refl (L : List Nat) (w : World) : Only L w w := ⟨rfl, rfl, rfl, Nat.le_refl _, fun _ _ _ => rfl⟩
theorem Only.trans (h : Only L w0 w) (k : Only L w w') : Only L w0 w' :=
  ⟨k.os.trans h.os, k.tape.trans h.tape, k.output.trans h.output, Nat.le_trans h.size k.size, fun i hi hc => (k.block i (Nat.lt_of_lt_of_le hi h.size) hc).trans (h.block i hi hc)⟩
theorem Only.mono (h : Only L w w') (hs : ∀ b, b ∈ L → b ∈ M) : Only M w w' := ⟨h.os, h.tape, h.output, h.size, fun k hk hc => h.block k hk (fun e => hc (hs k e))⟩
theorem Only.of_below (h : Below w.heap.size w w') : Only L w w' := ⟨h.os, h.tape, h.output, h.size, fun k hk _ => h.block k hk⟩
/-- What lies in blocks that are none of L's lies on. -/
theorem Only.below {B : Nat} (h : Only L w w') (h1 : B ≤ w.heap.size) (h2 : ∀ b, b ∈ L → B ≤ b) : Below B w w' := ⟨h.os, h.tape, h.output, h.size, fun k hk => h.block k (by omega) (fun e => by have := h2 k e; omega)⟩
theorem Only.alloc (h : Only L w0 w) (o : Obj) : Only L w0 (w.alloc o) := h.trans (Only.of_below ((Below.refl _ _).alloc (Nat.le_refl _) o))
theorem Only.drewN (h : Only L w0 w) (n : Nat) : Only L w0 (w.drewN n) := ⟨h.os, h.tape, h.output, h.size, h.block⟩
theorem Only.setCell (h : Only L w0 w) {p : Addr} (hp : p.block ∈ L ∨ w0.heap.size ≤ p.block) (u : Value) : Only L w0 (w.setCell p u) := by
  refine ⟨h.os, h.tape, h.output, by simpa [World.setCell] using h.size, fun k hk hc => ?_⟩
  rw [Below.heap_setCell _ _ _ _ (fun e => ?_)]
  · exact h.block k hk hc
  · subst e
    rcases hp with hp | hp
    · exact hc hp
    · omega
/-- Behind a callee that makes memory of its own alone. -/
theorem Only.via (h : Only L w0 w) (k : Below w.heap.size w w') : Only L w0 w' := h.trans (Only.of_below k)
theorem Only.same (h : Only L w w') {b : Nat} (hb : b < w.heap.size) (hn : b ∉ L) : w'.heap[b]? = w.heap[b]? := h.block b hb hn
/-- A call that was given blocks of L' which are new or of L. -/
theorem Only.more (h : Only L w0 w) (k : Only M w w') (hs : ∀ b, b ∈ M → b ∈ L ∨ w0.heap.size ≤ b) : Only L w0 w' :=
  ⟨k.os.trans h.os, k.tape.trans h.tape, k.output.trans h.output, Nat.le_trans h.size k.size, fun i hi hc => (k.block i (Nat.lt_of_lt_of_le hi h.size) (fun e => (hs i e).elim hc (fun h1 => by omega))).trans (h.block i hi hc)⟩
end

theorem Blk.only {w w' : World} {b : Nat} {cs : Array Value} {e : TypeId} (h : Blk w b cs e) {L : List Nat} (hb : Only L w w') (hn : b ∉ L) : Blk w' b cs e := by
  have hl := h.lt
  unfold Blk at h ⊢
  rw [hb.block b hl hn]
  exact h

end Go.Proofs.YthnjabnlocpoaaaGreat

/-
  The document's kernel as plain data, and what package donateref computes over it, in plain words.
-/
namespace Go.Proofs.YthnjabnlocpoaaaGreat

/-- A thread of the document's kernel (donateref.T). -/
structure RT where
  base : Int
  at_ : Int
  last : Int
  got : Int
  rel : Int
  ended : Int
  awake : Bool
  tick : Int
  wkr : Int
  for_ : Int
  of_ : Int
  until_ : Int
  since : Int

structure MissD where
  thread : Int
  job : Int
  time : Int

/-- The document's kernel (donateref.S). -/
structure RS where
  set : SetD
  now : Int
  next : Int
  T : List RT
  owner : List Int
  count : List Int
  box : List (List Int)
  missed : List MissD

namespace R

def rt0 : RT := ⟨0, 0, 0, 0, 0, 0, false, 0, 0, 0, 0, 0, 0⟩
def pair0 : PairD := ⟨0, 0⟩
def th (T : List RT) (t : Nat) : RT := T.getD t rt0

/-- number: which job has its time just now. -/
def number (period gone : Int) : Int :=
  if gone < 0 then -1 else if period = 0 then (if gone = 0 then 0 else -1) else if gone % period ≠ 0 then -1 else gone / period

/-- on: the thread on worker w, or -1. -/
def on (T : List RT) (w : Int) : Int := P3.badOr (fun x : RT => x.wkr != w) T

/-- free: the free worker with the lowest number (of n). -/
def free (T : List RT) (n : Nat) : Nat := P3.bad (fun w : Nat => decide (0 ≤ on T w)) (List.range n)

/-- Does u go ahead of t, at levels l? -/
def ahead (l : List Int) (T : List RT) (t u : Nat) : Bool :=
  (th T u).awake && (decide (l.getD t 0 < l.getD u 0) || (decide (l.getD u 0 = l.getD t 0) && decide ((th T u).tick < (th T t).tick)))
def rankTo (l : List Int) (T : List RT) (t : Nat) (k : Nat) : Nat := (List.range k).countP (ahead l T t)
def rank (l : List Int) (T : List RT) (t : Nat) : Nat := rankTo l T t T.length

theorem rankTo_succ (l : List Int) (T : List RT) (t k : Nat) : rankTo l T t (k + 1) = rankTo l T t k + if ahead l T t k = true then 1 else 0 := by
  unfold rankTo
  rw [List.range_succ, List.countP_append]
  by_cases h : ahead l T t k = true <;> simp [h]
theorem rankTo_le (l : List Int) (T : List RT) (t k : Nat) : rankTo l T t k ≤ k := by
  have := List.countP_le_length (p := ahead l T t) (l := List.range k)
  simpa [rankTo] using this

/-- level, link by link. f: the levels of those who wait, one link shorter. -/
def maxI (a b : Int) : Int := if a < b then b else a
def innerTo (T : List RT) (f : Nat → Int) (m : Nat) (v : Int) : Nat → Int
  | 0 => v
  | k + 1 => if (th T k).for_ = 1 ∧ (th T k).of_ = (m : Int) then maxI (innerTo T f m v k) (f k) else innerTo T f m v k
def outerTo (s : RS) (f : Nat → Int) (pos : Bool) (t : Nat) : Nat → Int
  | 0 => (th s.T t).base
  | k + 1 => if s.owner.getD k 0 ≠ (t : Int) then outerTo s f pos t k
    else if (s.set.mutexes.getD k pair0).x = 1 then maxI (outerTo s f pos t k) (s.set.mutexes.getD k pair0).y
    else if pos = true then innerTo s.T f k (outerTo s f pos t k) s.T.length else outerTo s f pos t k
def level (s : RS) : Nat → Nat → Int
  | 0, t => outerTo s (fun _ => 0) false t s.owner.length
  | d + 1, t => outerTo s (level s d) true t s.owner.length
def Level (s : RS) (t : Nat) : Int := level s s.T.length t
def levels (s : RS) : List Int := (List.range s.T.length).map (Level s)

/-- settle. -/
def setW (T : List RT) (k : Nat) (w : Int) : List RT := T.modify k (fun x => { x with wkr := w })
def place (l : List Int) (T : List RT) (n : Int) (t : Nat) : Int :=
  if (th T t).awake = true then (if (rank l T t : Int) < n then (rank l T t : Int) else n) else n
def clearTo (at_ : Nat → Int) (n : Int) (T : List RT) : Nat → List RT
  | 0 => T
  | k + 1 => if at_ k = n then setW (clearTo at_ n T k) k (-1) else clearTo at_ n T k
def seatIn (at_ : Nat → Int) (n : Nat) (r : Nat) (T : List RT) : Nat → List RT
  | 0 => T
  | k + 1 => if at_ k = (r : Int) ∧ (th (seatIn at_ n r T k) k).wkr < 0 then setW (seatIn at_ n r T k) k (free (seatIn at_ n r T k) n) else seatIn at_ n r T k
def seatTo (at_ : Nat → Int) (n : Nat) (T : List RT) : Nat → List RT
  | 0 => T
  | r + 1 => seatIn at_ n r (seatTo at_ n T r) T.length
/-- P5, P6: who sits where; n: how many workers. -/
def settleT (l : List Int) (T : List RT) (n : Nat) : List RT :=
  seatTo (place l T n) n (clearTo (place l T n) n T T.length) n
def settle (s : RS) : RS := { s with T := settleT (levels s) s.T s.set.workers.toNat }

/-- Running. -/
def running (s : RS) : List Int := (List.range s.set.workers.toNat).map fun (w : Nat) => on s.T (w : Int)

/-- wake, draw, release. -/
def wake (s : RS) (t : Nat) : RS := { s with next := s.next + 1, T := s.T.modify t (fun x => { x with awake := true, tick := s.next + 1 }) }
def numberAt (s : RS) (t : Nat) (behind : Int) : Int :=
  number (s.set.threads.getD t P3.none0).period (s.now - s.set.start - (s.set.threads.getD t P3.none0).offset - behind)
def releaseOne (s : RS) (t : Nat) : RS :=
  if 0 ≤ numberAt s t 0 then
    if (th s.T t).rel = (th s.T t).ended then wake { s with T := s.T.modify t (fun x => { x with rel := numberAt s t 0 + 1 }) } t
    else { s with T := s.T.modify t (fun x => { x with rel := numberAt s t 0 + 1 }) }
  else s
def releaseTo (s : RS) : Nat → RS
  | 0 => s
  | k + 1 => releaseOne (releaseTo s k) k
def release (s : RS) : RS := releaseTo s s.T.length

/-- New. -/
def bare (S : SetD) : RS :=
  { set := S, now := S.start, next := 0, T := S.threads.map fun t => { rt0 with base := t.base, wkr := -1 }, owner := S.mutexes.map fun _ => -1, count := S.sems.map fun m => m.x, box := S.queues.map fun _ => [], missed := [] }
def new (S : SetD) : RS := settle (release (bare S))

theorem setW_length (T : List RT) (k : Nat) (w : Int) : (setW T k w).length = T.length := by simp [setW]
theorem clearTo_length (at_ : Nat → Int) (n : Int) (T : List RT) (k : Nat) : (clearTo at_ n T k).length = T.length := by
  induction k with
  | zero => rfl
  | succ k ih => unfold clearTo; split <;> simp [setW_length, ih]
theorem seatIn_length (at_ : Nat → Int) (n r : Nat) (T : List RT) (k : Nat) : (seatIn at_ n r T k).length = T.length := by
  induction k with
  | zero => rfl
  | succ k ih => unfold seatIn; split <;> simp [setW_length, ih]
theorem seatTo_length (at_ : Nat → Int) (n : Nat) (T : List RT) (r : Nat) : (seatTo at_ n T r).length = T.length := by
  induction r with
  | zero => rfl
  | succ r ih => unfold seatTo; rw [seatIn_length, ih]
theorem settleT_length (l : List Int) (T : List RT) (n : Nat) : (settleT l T n).length = T.length := by
  unfold settleT; rw [seatTo_length, clearTo_length]
theorem th_setW (T : List RT) (k : Nat) (w : Int) (t : Nat) : th (setW T k w) t = if t = k ∧ k < T.length then { th T t with wkr := w } else th T t := by
  unfold th setW
  by_cases h : t < T.length
  · simp only [List.getD_eq_getElem?_getD, List.getElem?_modify]
    by_cases e : k = t
    · subst e; simp [h]
    · have e' : ¬ t = k := fun x => e x.symm
      simp [e, e', h]
  · have h2 : ¬ (t = k ∧ k < T.length) := by omega
    simp [List.getD_eq_getElem?_getD, h, h2]

theorem releaseOne_set (s : RS) (t : Nat) : (releaseOne s t).set = s.set := by unfold releaseOne wake; split <;> (try split) <;> rfl
theorem releaseOne_now (s : RS) (t : Nat) : (releaseOne s t).now = s.now := by unfold releaseOne wake; split <;> (try split) <;> rfl
theorem releaseOne_len (s : RS) (t : Nat) : (releaseOne s t).T.length = s.T.length := by unfold releaseOne wake; split <;> (try split) <;> simp
theorem releaseOne_next (s : RS) (t : Nat) : s.next ≤ (releaseOne s t).next ∧ (releaseOne s t).next ≤ s.next + 1 := by unfold releaseOne wake; split <;> (try split) <;> simp <;> omega
theorem releaseTo_set (s : RS) (k : Nat) : (releaseTo s k).set = s.set := by
  induction k with
  | zero => rfl
  | succ k ih => unfold releaseTo; rw [releaseOne_set, ih]
theorem releaseTo_now (s : RS) (k : Nat) : (releaseTo s k).now = s.now := by
  induction k with
  | zero => rfl
  | succ k ih => unfold releaseTo; rw [releaseOne_now, ih]
theorem releaseTo_len (s : RS) (k : Nat) : (releaseTo s k).T.length = s.T.length := by
  induction k with
  | zero => rfl
  | succ k ih => unfold releaseTo; rw [releaseOne_len, ih]
theorem releaseTo_next (s : RS) (k : Nat) : s.next ≤ (releaseTo s k).next ∧ (releaseTo s k).next ≤ s.next + k := by
  induction k with
  | zero => simp [releaseTo]
  | succ k ih => unfold releaseTo; have := releaseOne_next (releaseTo s k) k; omega

theorem number_bd (period gone : Int) (hp : 0 ≤ period) (hg : gone ≤ 1000000000) : -1 ≤ number period gone ∧ number period gone ≤ 1000000000 := by
  unfold number
  split
  · omega
  · split
    · split <;> omega
    · split
      · omega
      · rename_i h1 h2 _
        have := Int.ediv_le_self (a := gone) period (by omega)
        have := Int.ediv_nonneg (a := gone) (b := period) (by omega) hp
        omega

theorem free_at (T : List RT) (n k : Nat) (hk : k < n) (hb : ∀ j, j < k → 0 ≤ on T (j : Int)) (h : on T (k : Int) < 0) : free T n = k := by
  unfold free
  refine P3.bad_eq _ _ k (by simpa using hk) (by simp; omega) (fun j hj => by simp; exact hb j hj)
theorem free_none (T : List RT) (n : Nat) (hb : ∀ j, j < n → 0 ≤ on T (j : Int)) : free T n = n := by
  unfold free
  rw [P3.bad_all _ _ (fun j hj => by simp; exact hb j (by simpa using hj))]
  simp
theorem free_le (T : List RT) (n : Nat) : free T n ≤ n := by
  have := P3.bad_le (fun w : Nat => decide (0 ≤ on T w)) (List.range n)
  simpa [free] using this

theorem th_clearTo (at_ : Nat → Int) (n : Int) (T : List RT) (k t : Nat) : (th (clearTo at_ n T k) t).awake = (th T t).awake ∧ (th (clearTo at_ n T k) t).tick = (th T t).tick := by
  induction k with
  | zero => exact ⟨rfl, rfl⟩
  | succ k ih =>
    unfold clearTo
    split
    · rw [th_setW]
      split <;> exact ih
    · exact ih
theorem rank_clearTo (l : List Int) (at_ : Nat → Int) (n : Int) (T : List RT) (k t : Nat) : rank l (clearTo at_ n T k) t = rank l T t := by
  unfold rank rankTo
  rw [clearTo_length]
  refine List.countP_congr fun u _ => ?_
  unfold ahead
  rw [(th_clearTo at_ n T k u).1, (th_clearTo at_ n T k u).2, (th_clearTo at_ n T k t).2]
def atTo (p : Nat → Int) (n k : Nat) : List Int := (List.range n).map fun i => if i < k then p i else 0
theorem atTo_length (p : Nat → Int) (n k : Nat) : (atTo p n k).length = n := by simp [atTo]
theorem atTo_zero (p : Nat → Int) (n : Nat) : atTo p n 0 = List.replicate n 0 := by
  apply List.ext_getElem <;> simp [atTo]
theorem atTo_set (p : Nat → Int) (n k : Nat) (_hk : k < n) (x : Int) : ((atTo p n k).set k x).set k (p k) = atTo p n (k + 1) := by
  rw [List.set_set]
  apply List.ext_getElem
  · simp [atTo]
  · intro i h1 h2
    simp only [List.getElem_set, atTo, List.getElem_map, List.getElem_range]
    by_cases e : k = i
    · subst e; simp
    · by_cases e2 : i < k
      · simp [e, e2, show i < k + 1 by omega]
      · simp [e, e2, show ¬ i < k + 1 by omega]
theorem atTo_set1 (p : Nat → Int) (n k : Nat) (hk : k < n) : (atTo p n k).set k (p k) = atTo p n (k + 1) := by
  have := atTo_set p n k hk 0
  rwa [List.set_set] at this
theorem atTo_get (p : Nat → Int) (n i : Nat) (hi : i < n) : (atTo p n n)[i]? = some (p i) := by
  simp [atTo, hi]

/-- begin: a thread begins to wait, for n ticks (-1: without end). -/
def beginW (s : RS) (t : Nat) (what of_ n : Int) : RS :=
  { s with next := s.next + 1, T := s.T.modify t (fun x => { x with awake := false, wkr := -1, for_ := what, of_ := of_, until_ := if 0 ≤ n then s.now + n else -1, since := s.next + 1 }) }
/-- end: a wait ends with code c. -/
def endW (s : RS) (t : Nat) (c : Int) : RS := wake { s with T := s.T.modify t (fun x => { x with for_ := 0, of_ := 0, until_ := 0, last := c }) } t

/-- due: of those whose wait ends now, the one that began first; -1: none. -/
def dueTo (T : List RT) (now : Int) : Nat → Int
  | 0 => -1
  | k + 1 => if (th T k).for_ ≠ 0 ∧ (th T k).until_ = now ∧ (dueTo T now k < 0 ∨ (th T k).since < (th T (dueTo T now k).toNat).since) then (k : Int) else dueTo T now k
def due (s : RS) : Int := dueTo s.T s.now s.T.length
theorem dueTo_bd (T : List RT) (now : Int) (k : Nat) : -1 ≤ dueTo T now k ∧ dueTo T now k < k := by
  induction k with
  | zero => simp [dueTo]
  | succ k ih => unfold dueTo; split <;> omega

/-- late: the jobs whose deadline is now and that have not ended. -/
def lateTo (s : RS) : Nat → List MissD
  | 0 => []
  | k + 1 => if (s.set.threads.getD k P3.none0).deadline = 0 then lateTo s k
    else if 0 ≤ numberAt s k (s.set.threads.getD k P3.none0).deadline ∧ (th s.T k).ended ≤ numberAt s k (s.set.threads.getD k P3.none0).deadline then lateTo s k ++ [⟨(k : Int), numberAt s k (s.set.threads.getD k P3.none0).deadline, s.now⟩]
    else lateTo s k
def late (s : RS) : List MissD := lateTo s s.T.length
theorem lateTo_len (s : RS) (k : Nat) : (lateTo s k).length ≤ k := by
  induction k with
  | zero => simp [lateTo]
  | succ k ih =>
    unfold lateTo
    split
    · omega
    · split
      · simp; omega
      · omega

/-- Tick: the waits whose time is now end, one by one. -/
def endOne (s : RS) : RS := if due s < 0 then s else endW s (due s).toNat (if (th s.T (due s).toNat).for_ = 4 then 0 else 2)
def endsTo (s : RS) : Nat → RS
  | 0 => s
  | k + 1 => endOne (endsTo s k)
def ends (s : RS) : RS := endsTo s s.T.length
def ticked (s : RS) : RS := { s with now := s.now + 1 }
def missing (s : RS) : RS := { ticked s with missed := s.missed ++ late (ticked s) }
def tick (s : RS) : RS := settle (release (ends (missing s)))

theorem endsTo_stop (s : RS) (k : Nat) (h : due (endsTo s k) < 0) (j : Nat) : endsTo s (k + j) = endsTo s k := by
  induction j with
  | zero => rfl
  | succ j ih =>
    show endOne (endsTo s (k + j)) = _
    rw [ih]
    unfold endOne
    rw [if_pos h]
theorem endOne_set (s : RS) : (endOne s).set = s.set ∧ (endOne s).now = s.now ∧ (endOne s).owner = s.owner ∧ (endOne s).T.length = s.T.length ∧ s.next ≤ (endOne s).next ∧ (endOne s).next ≤ s.next + 1 := by
  unfold endOne endW wake
  split
  · exact ⟨rfl, rfl, rfl, rfl, Int.le_refl _, by omega⟩
  · refine ⟨rfl, rfl, rfl, by simp, ?_, ?_⟩ <;> simp <;> omega
theorem endsTo_set (s : RS) (k : Nat) : (endsTo s k).set = s.set ∧ (endsTo s k).now = s.now ∧ (endsTo s k).owner = s.owner ∧ (endsTo s k).T.length = s.T.length ∧ s.next ≤ (endsTo s k).next ∧ (endsTo s k).next ≤ s.next + k := by
  induction k with
  | zero => exact ⟨rfl, rfl, rfl, rfl, Int.le_refl _, by simp [endsTo]⟩
  | succ k ih =>
    obtain ⟨a, b, c, d, e, f⟩ := endOne_set (endsTo s k)
    unfold endsTo
    exact ⟨a.trans ih.1, b.trans ih.2.1, c.trans ih.2.2.1, d.trans ih.2.2.2.1, by omega, by omega⟩

end R
end Go.Proofs.YthnjabnlocpoaaaGreat

/-
  How the document's kernel lies in memory.
-/
namespace Go.Proofs.YthnjabnlocpoaaaGreat
open Go.RowKit

def rtCells (x : RT) : List Value :=
  [.int .i64 x.base, .int .i64 x.at_, .int .i64 x.last, .int .i64 x.got, .int .i64 x.rel, .int .i64 x.ended, .bool x.awake, .int .i64 x.tick, .int .i64 x.wkr, .int .i64 x.for_, .int .i64 x.of_, .int .i64 x.until_, .int .i64 x.since]
def rtAll (T : List RT) : List Value := T.flatMap rtCells

theorem rtAll_length (T : List RT) : (rtAll T).length = T.length * 13 := by
  induction T with
  | nil => rfl
  | cons x T ih => simp only [rtAll, List.flatMap_cons, List.length_append] at ih ⊢; rw [ih]; simp [rtCells]; omega

theorem rtAll_get (T : List RT) (i j : Nat) (hi : i < T.length) (hj : j < 13) : (rtAll T)[i * 13 + j]? = (rtCells T[i])[j]? := by
  induction T generalizing i with
  | nil => simp at hi
  | cons x T ih =>
    have hx : (rtCells x).length = 13 := rfl
    cases i with
    | zero =>
      simp only [rtAll, List.flatMap_cons, Nat.zero_mul, Nat.zero_add, List.getElem_cons_zero]
      rw [List.getElem?_append_left (by omega)]
    | succ i =>
      have := ih i (by simpa using hi)
      simp only [rtAll, List.flatMap_cons, List.getElem_cons_succ] at this ⊢
      rw [List.getElem?_append_right (by omega), hx, show (i + 1) * 13 + j - 13 = i * 13 + j by omega]
      exact this

/-- One cell of one thread turned. -/
theorem rtAll_set (T : List RT) (i j : Nat) (hi : i < T.length) (hj : j < 13) (v : Value) (f : RT → RT) (hf : rtCells (f T[i]) = (rtCells T[i]).set j v) : (rtAll T).set (i * 13 + j) v = rtAll (T.modify i f) := by
  induction T generalizing i with
  | nil => simp at hi
  | cons x T ih =>
    have hx : (rtCells x).length = 13 := rfl
    cases i with
    | zero =>
      simp only [List.getElem_cons_zero] at hf
      simp only [rtAll, List.flatMap_cons, Nat.zero_mul, Nat.zero_add, List.modify_zero_cons]
      rw [List.set_append_left _ _ (by omega), hf]
    | succ i =>
      have := ih i (by simpa using hi) (by simpa using hf)
      simp only [rtAll, List.flatMap_cons, List.modify_succ_cons] at this ⊢
      rw [List.set_append_right _ _ (by omega), hx, show (i + 1) * 13 + j - 13 = i * 13 + j by omega, this]

def missCells (l : List MissD) : List Value := l.flatMap fun m => [.int .i64 m.thread, .int .i64 m.job, .int .i64 m.time]

theorem intCells_set (l : List Int) (i : Nat) (x : Int) : (intCells l).set i (.int .i64 x) = intCells (l.set i x) := by simp [intCells, List.map_set]

/-- What the struct's block holds of addresses and capacities. -/
structure RH where
  tv : Option Addr
  mv : Option Addr
  sv : Option Addr
  qv : Option Addr
  tc : Nat
  mc : Nat
  sc : Nat
  qc : Nat
  gT : Nat
  cT : Nat
  vO : Value
  vC : Value
  vB : Value
  vM : Value
  bs : List Value

def rsCells (h : RH) (s : RS) : Array Value :=
  #[.int .i64 s.set.workers, .int .i64 s.set.start, .slice h.tv s.set.threads.length h.tc, .slice h.mv s.set.mutexes.length h.mc, .slice h.sv s.set.sems.length h.sc, .slice h.qv s.set.queues.length h.qc,
    .int .i64 s.now, .int .i64 s.next, .slice (some ⟨h.gT, 0, none⟩) s.T.length h.cT, h.vO, h.vC, h.vB, h.vM]

/-- The lists besides the threads. -/
structure ROth (w : World) (h : RH) (s : RS) : Prop where
  own : w.ownsRow 0 3 1 h.vO s.owner.length (intCells s.owner)
  cnt : w.ownsRow 0 3 1 h.vC s.count.length (intCells s.count)
  mis : w.ownsRow 0 110 3 h.vM s.missed.length (missCells s.missed)
  box : w.ownsRow 0 25 1 h.vB s.box.length h.bs ∧ ∀ i (hi : i < s.box.length), ∃ v, h.bs[i]? = some v ∧ w.ownsRow 0 3 1 v s.box[i].length (intCells s.box[i])

/-- The kernel s lies at block sb; F: where the lists of its set lie. -/
structure RMem (F : Nat → Prop) (w : World) (sb : Nat) (h : RH) (s : RS) : Prop where
  blk : Blk w sb (rsCells h s) 70
  rows : w.ownsRow 0 73 13 (.slice (some ⟨h.gT, 0, none⟩) s.T.length h.cT) s.T.length (rtAll s.T)
  set : SetF F w h.tv h.mv h.sv h.qv s.set
  oth : ROth w h s
  nsb : ¬ F sb
  nT : ¬ F h.gT
  lt : ∀ b, F b → b < w.heap.size

/-- Sizes and bounds of a kernel that is at work. -/
structure RGood (s : RS) : Prop where
  len : s.T.length = s.set.threads.length
  pos : 1 ≤ s.T.length
  few : s.T.length ≤ 16
  wk0 : 1 ≤ s.set.workers
  wk1 : s.set.workers ≤ 8
  own : s.owner.length = s.set.mutexes.length
  mfew : s.set.mutexes.length ≤ 8
  now0 : 0 ≤ s.set.start
  now1 : s.set.start ≤ s.now
  now2 : s.now ≤ 1000000000
  nxt0 : 0 ≤ s.next
  nxt1 : s.next ≤ 4611686018427387904
  off : ∀ t ∈ s.set.threads, 0 ≤ t.offset ∧ t.offset ≤ 1000 ∧ 0 ≤ t.period ∧ t.period ≤ 1000 ∧ 0 ≤ t.deadline ∧ t.deadline ≤ 1000

theorem blk_type {w : World} {b : Nat} {cs cs' : Array Value} {e e' : TypeId} (h : Blk w b cs e) (h' : w.heap[b]? = some (.cells cs' e' (0, 0))) : e = e' := by
  unfold Blk at h
  rw [h] at h'
  cases h'
  rfl

section
variable {F : Nat → Prop} {w w' : World} {sb : Nat} {h : RH} {s : RS}

theorem RMem.gT_lt (m : RMem F w sb h s) : h.gT < w.heap.size := (ownsRow_block m.rows rfl).2.1
theorem RMem.ne (m : RMem F w sb h s) : sb ≠ h.gT := by
  intro e
  obtain ⟨_, _, cur, hc⟩ := ownsRow_block m.rows rfl
  rw [← e] at hc
  have := blk_type m.blk hc
  exact absurd this (by decide)

/-- The other lists lie on where only blocks of other types have turned. -/
theorem ROth.same {w w' : World} {h : RH} {s : RS} (o : ROth w h s) (hs : ∀ (g : Nat) (cur : Array Value) (e : TypeId), w.heap[g]? = some (Obj.cells cur e (0, 0)) → (e = 3 ∨ e = 110 ∨ e = 25) → w'.heap[g]? = w.heap[g]?) : ROth w' h s := by
  have keep : ∀ {e : TypeId} {size n : Nat} {v : Value} {xs : List Value}, (e = 3 ∨ e = 110 ∨ e = 25) → w.ownsRow 0 e size v n xs → w'.ownsRow 0 e size v n xs := by
    intro e size n v xs he ho
    refine ownsRow_same ho fun g hg => ?_
    obtain ⟨_, _, cur, hc⟩ := ownsRow_block ho hg
    exact hs g cur e hc he
  obtain ⟨hb, hbi⟩ := o.box
  refine ⟨keep (.inl rfl) o.own, keep (.inl rfl) o.cnt, keep (.inr (.inl rfl)) o.mis, keep (.inr (.inr rfl)) hb, fun i hi => ?_⟩
  obtain ⟨v, hv, hr⟩ := hbi i hi
  exact ⟨v, hv, keep (.inl rfl) hr⟩

/-- A cell of a thread is written. -/
theorem RMem.setT (m : RMem F w sb h s) {i j : Nat} (hi : i < s.T.length) (hj : j < 13) (v : Value) (f : RT → RT) (hf : rtCells (f s.T[i]) = (rtCells s.T[i]).set j v) :
    RMem F (w.setCell ⟨h.gT, i * 13 + j, none⟩ v) sb h { s with T := s.T.modify i f } := by
  have hst := m.rows.stored (i * 13 + j) v
  have other : ∀ (g : Nat) (cur : Array Value) (e : TypeId), w.heap[g]? = some (Obj.cells cur e (0, 0)) → (e = 3 ∨ e = 110 ∨ e = 25) → (w.setCell ⟨h.gT, i * 13 + j, none⟩ v).heap[g]? = w.heap[g]? := by
    intro g cur e hg he
    refine Below.heap_setCell _ _ _ _ (fun e' => ?_)
    obtain ⟨_, _, cur', hc'⟩ := ownsRow_block m.rows rfl
    simp only at e'
    rw [← e', hg] at hc'
    cases hc'
    rcases he with he | he | he <;> exact absurd he (by decide)
  refine ⟨?_, ?_, m.set.same fun b hb => Below.heap_setCell _ _ _ _ (fun e => m.nT (by have e' : b = h.gT := e; exact e' ▸ hb)), ?_, m.nsb, m.nT, fun b hb => by simpa [World.setCell] using m.lt b hb⟩
  · have := m.blk.other (p := ⟨h.gT, i * 13 + j, none⟩) m.ne v
    simpa [rsCells] using this
  · have h1 := hst.1
    rw [rtAll_set s.T i j hi hj v f hf] at h1
    simpa using h1
  · have o := m.oth.same other
    exact ⟨o.own, o.cnt, o.mis, o.box⟩

/-- Memory of others is turned. -/
theorem RMem.only {L : List Nat} (m : RMem F w sb h s) (ho : Only L w w') (h1 : sb ∉ L) (h2 : h.gT ∉ L) (h3 : ∀ b, b ∈ L → ¬ F b)
    (h4 : ∀ b, b ∈ L → ∀ (cur : Array Value) (e : TypeId), w.heap[b]? = some (Obj.cells cur e (0, 0)) → ¬ (e = 3 ∨ e = 110 ∨ e = 25)) : RMem F w' sb h s := by
  refine ⟨m.blk.only ho h1, ?_, m.set.same fun b hb => ho.block b (m.lt b hb) (fun e => h3 b e hb), m.oth.same fun g cur e hg he => ?_, m.nsb, m.nT, fun b hb => Nat.lt_of_lt_of_le (m.lt b hb) ho.size⟩
  · refine ownsRow_same m.rows fun g hg => ?_
    cases hg
    exact ho.block _ m.gT_lt h2
  · have hl : g < w.heap.size := by
      rcases Nat.lt_or_ge g w.heap.size with h' | h'
      · exact h'
      · rw [Array.getElem?_eq_none h'] at hg; cases hg
    exact ho.block g hl (fun e' => h4 g e' cur e hg he)

theorem RMem.below (m : RMem F w sb h s) (hb : Below w.heap.size w w') : RMem F w' sb h s := m.only (L := []) (Only.of_below hb) (by simp) (by simp) (by simp) (by simp)

theorem RMem.drewN (m : RMem F w sb h s) (n : Nat) : RMem F (w.drewN n) sb h s := m.below (bdrewN (Below.refl _ _) n)

/-- A cell of the struct that holds a number (6: Now, 7: Next). -/
theorem RMem.setNext (m : RMem F w sb h s) (n : Int) : RMem F (w.setCell ⟨sb, 7, none⟩ (.int .i64 n)) sb h { s with next := n } := by
  have ho : Only [sb] w (w.setCell ⟨sb, 7, none⟩ (.int .i64 n)) := (Only.refl _ _).setCell (.inl (by simp)) _
  have blk : Blk (w.setCell ⟨sb, 7, none⟩ (.int .i64 n)) sb (rsCells h { s with next := n }) 70 := by
    have := m.blk.set 7 (.int .i64 n)
    simpa [rsCells] using this
  refine ⟨blk, ?_, m.set.same fun b hb => ho.block b (m.lt b hb) (fun e => m.nsb (by simp at e; exact e ▸ hb)), ?_, m.nsb, m.nT, fun b hb => by simpa [World.setCell] using m.lt b hb⟩
  · refine ownsRow_same m.rows fun g hg => ?_
    cases hg
    exact ho.block _ m.gT_lt (by simp; exact fun e => m.ne e.symm)
  · have o := m.oth.same (w' := w.setCell ⟨sb, 7, none⟩ (.int .i64 n)) fun g cur e hg he => by
      refine Below.heap_setCell _ _ _ _ (fun e' => ?_)
      simp only at e'
      rw [e'] at hg
      have := blk_type m.blk hg
      rcases he with he | he | he <;> exact absurd (this.trans he) (by decide)
    exact ⟨o.own, o.cnt, o.mis, o.box⟩
theorem RMem.setNow (m : RMem F w sb h s) (n : Int) : RMem F (w.setCell ⟨sb, 6, none⟩ (.int .i64 n)) sb h { s with now := n } := by
  have ho : Only [sb] w (w.setCell ⟨sb, 6, none⟩ (.int .i64 n)) := (Only.refl _ _).setCell (.inl (by simp)) _
  have blk : Blk (w.setCell ⟨sb, 6, none⟩ (.int .i64 n)) sb (rsCells h { s with now := n }) 70 := by
    have := m.blk.set 6 (.int .i64 n)
    simpa [rsCells] using this
  refine ⟨blk, ?_, m.set.same fun b hb => ho.block b (m.lt b hb) (fun e => m.nsb (by simp at e; exact e ▸ hb)), ?_, m.nsb, m.nT, fun b hb => by simpa [World.setCell] using m.lt b hb⟩
  · refine ownsRow_same m.rows fun g hg => ?_
    cases hg
    exact ho.block _ m.gT_lt (by simp; exact fun e => m.ne e.symm)
  · have o := m.oth.same (w' := w.setCell ⟨sb, 6, none⟩ (.int .i64 n)) fun g cur e hg he => by
      refine Below.heap_setCell _ _ _ _ (fun e' => ?_)
      simp only at e'
      rw [e'] at hg
      have := blk_type m.blk hg
      rcases he with he | he | he <;> exact absurd (this.trans he) (by decide)
    exact ⟨o.own, o.cnt, o.mis, o.box⟩

/-- A new list of misses is laid into the struct: w1: behind the append (it has turned the old list's block alone). -/
theorem RMem.setMissed (m : RMem F w sb h s) {w1 : World} {v : Value} {l : List MissD} (hg : w.grownBy w1 h.vM.ownBlock) (hF : ∀ g, h.vM.ownBlock = some g → ¬ F g)
    (hr : w1.ownsRow 0 110 3 v l.length (missCells l)) : RMem F (w1.setCell ⟨sb, 12, none⟩ v) sb { h with vM := v } { s with missed := l } := by
  have hne : ∀ {g : Nat}, h.vM.ownBlock = some g → ∃ cur, w.heap[g]? = some (Obj.cells cur 110 (0, 0)) := fun hv => (ownsRow_block m.oth.mis hv).2.2
  have sbne : some sb ≠ h.vM.ownBlock := by
    intro e
    obtain ⟨cur, hc⟩ := hne e.symm
    exact absurd (blk_type m.blk hc) (by decide)
  have gtne : some h.gT ≠ h.vM.ownBlock := by
    intro e
    obtain ⟨cur, hc⟩ := hne e.symm
    obtain ⟨_, _, cur', hc'⟩ := ownsRow_block m.rows rfl
    rw [hc] at hc'
    cases hc'
  have same : ∀ (g : Nat) (cur : Array Value) (e : TypeId), w.heap[g]? = some (Obj.cells cur e (0, 0)) → e ≠ 110 → e ≠ 70 → (w1.setCell ⟨sb, 12, none⟩ v).heap[g]? = w.heap[g]? := by
    intro g cur e hg' h1 h2
    have hl : g < w.heap.size := by
      rcases Nat.lt_or_ge g w.heap.size with h' | h'
      · exact h'
      · rw [Array.getElem?_eq_none h'] at hg'; cases hg'
    rw [Below.heap_setCell _ _ _ _ (fun e' => ?_), hg.block g hl (fun e' => ?_)]
    · obtain ⟨cur', hc'⟩ := hne e'.symm
      rw [hg'] at hc'
      cases hc'
      exact h1 rfl
    · have e2 : g = sb := e'
      rw [e2] at hg'
      exact h2 (blk_type m.blk hg').symm
  have keep : ∀ {e : TypeId} {size n : Nat} {u : Value} {xs : List Value}, e ≠ 110 → e ≠ 70 → w.ownsRow 0 e size u n xs → (w1.setCell ⟨sb, 12, none⟩ v).ownsRow 0 e size u n xs := by
    intro e size n u xs h1 h2 ho
    refine ownsRow_same ho fun g hg' => ?_
    obtain ⟨_, _, cur, hc⟩ := ownsRow_block ho hg'
    exact same g cur e hc h1 h2
  obtain ⟨hb, hbi⟩ := m.oth.box
  refine ⟨?_, ?_, m.set.same fun b hb => ?_, ⟨keep (by decide) (by decide) m.oth.own, keep (by decide) (by decide) m.oth.cnt, ?_, keep (by decide) (by decide) hb, fun i hi => ?_⟩, m.nsb, m.nT, fun b hb => ?_⟩
  · have := (m.blk.grown hg sbne).set 12 v
    simpa [rsCells] using this
  · exact keep (by decide) (by decide) m.rows
  · rw [Below.heap_setCell _ _ _ _ (fun e => m.nsb (by have e' : b = sb := e; exact e' ▸ hb)), hg.block b (m.lt b hb) (fun e => hF b e.symm hb)]
  · refine ownsRow_same hr fun g hg' => Below.heap_setCell _ _ _ _ (fun e => ?_)
    obtain ⟨_, _, cur, hc⟩ := ownsRow_block hr hg'
    have e' : g = sb := e
    rw [e'] at hc
    exact absurd (blk_type (m.blk.grown hg sbne) hc) (by decide)
  · obtain ⟨u, hu, hr'⟩ := hbi i hi
    exact ⟨u, hu, keep (by decide) (by decide) hr'⟩
  · have := m.lt b hb
    have := hg.size
    simp [World.setCell]
    omega

/-- Behind a call that turned the struct's block and the threads' alone. -/
theorem RMem.rebuild (m : RMem F w sb h s) (ho : Only [sb, h.gT] w w') (T' : List RT) (hlen : T'.length = s.T.length) (hb : Blk w' sb (rsCells h s) 70)
    (hr : w'.ownsRow 0 73 13 (.slice (some ⟨h.gT, 0, none⟩) s.T.length h.cT) s.T.length (rtAll T')) : RMem F w' sb h { s with T := T' } := by
  refine ⟨by simpa [rsCells, hlen] using hb, by simpa [hlen] using hr, m.set.same fun b hb => ho.block b (m.lt b hb) (fun e => ?_), ?_, m.nsb, m.nT, fun b hb => Nat.lt_of_lt_of_le (m.lt b hb) ho.size⟩
  · simp at e
    rcases e with e | e
    · exact m.nsb (e ▸ hb)
    · exact m.nT (e ▸ hb)
  · have o := m.oth.same (w' := w') fun g cur e hg he => by
      have hl : g < w.heap.size := by
        rcases Nat.lt_or_ge g w.heap.size with h' | h'
        · exact h'
        · rw [Array.getElem?_eq_none h'] at hg; cases hg
      refine ho.block g hl fun e' => ?_
      simp at e'
      rcases e' with e' | e'
      · rw [e'] at hg
        have := blk_type m.blk hg
        rcases he with he | he | he <;> exact absurd (this.trans he) (by decide)
      · obtain ⟨_, _, cur', hc'⟩ := ownsRow_block m.rows rfl
        rw [e'] at hg
        rw [hg] at hc'
        cases hc'
        rcases he with he | he | he <;> exact absurd he (by decide)
    exact ⟨o.own, o.cnt, o.mis, o.box⟩

end

/-- The lists of numbers, of boxes and of misses are apart, and none lies where the set does. -/
structure RApart (F : Nat → Prop) (h : RH) : Prop where
  o : ∀ g, h.vO.ownBlock = some g → ¬ F g
  c : ∀ g, h.vC.ownBlock = some g → ¬ F g ∧ h.vO.ownBlock ≠ some g
  m : ∀ g, h.vM.ownBlock = some g → ¬ F g
  b : ∀ g, h.vB.ownBlock = some g → ¬ F g
  bs : ∀ (i : Nat) (v : Value) (g : Nat), h.bs[i]? = some v → v.ownBlock = some g → ¬ F g ∧ h.vO.ownBlock ≠ some g ∧ h.vC.ownBlock ≠ some g ∧ ∀ (j : Nat) (u : Value), j ≠ i → h.bs[j]? = some u → u.ownBlock ≠ some g

/-- All of the kernel's memory is of Q. -/
structure RIn (Q F : Nat → Prop) (sb : Nat) (h : RH) : Prop where
  f : ∀ b, F b → Q b
  sb : Q sb
  t : Q h.gT
  o : ∀ g, h.vO.ownBlock = some g → Q g
  c : ∀ g, h.vC.ownBlock = some g → Q g
  m : ∀ g, h.vM.ownBlock = some g → Q g
  b : ∀ g, h.vB.ownBlock = some g → Q g
  bs : ∀ (i : Nat) (v : Value) (g : Nat), h.bs[i]? = some v → v.ownBlock = some g → Q g

theorem RIn.mono {Q Q' F : Nat → Prop} {sb : Nat} {h : RH} (r : RIn Q F sb h) (hq : ∀ b, Q b → Q' b) : RIn Q' F sb h :=
  ⟨fun b hb => hq b (r.f b hb), hq _ r.sb, hq _ r.t, fun g hg => hq g (r.o g hg), fun g hg => hq g (r.c g hg), fun g hg => hq g (r.m g hg), fun g hg => hq g (r.b g hg), fun i v g h1 h2 => hq g (r.bs i v g h1 h2)⟩

section
variable {F : Nat → Prop} {w w' : World} {sb : Nat} {h : RH} {s : RS}

/-- One block of a list beside the threads has turned; the lists lie as o says. -/
theorem RMem.turned (m : RMem F w sb h s) {g : Nat} (hs : ∀ k, k < w.heap.size → k ≠ g → w'.heap[k]? = w.heap[k]?) (hz : w.heap.size ≤ w'.heap.size) (h1 : sb ≠ g) (h2 : h.gT ≠ g) (h3 : ¬ F g) {h' : RH} {s' : RS} (o : ROth w' h' s')
    (e1 : rsCells h' s' = rsCells h s) (e2 : s'.T = s.T) (e3 : h'.gT = h.gT ∧ h'.cT = h.cT ∧ h'.tv = h.tv ∧ h'.mv = h.mv ∧ h'.sv = h.sv ∧ h'.qv = h.qv) (e4 : s'.set = s.set) : RMem F w' sb h' s' := by
  obtain ⟨a1, a2, a3, a4, a5, a6⟩ := e3
  refine ⟨?_, ?_, ?_, o, m.nsb, by rw [a1]; exact m.nT, fun b hb => Nat.lt_of_lt_of_le (m.lt b hb) hz⟩
  · have := m.blk
    unfold Blk at this ⊢
    rw [e1, hs sb m.blk.lt h1]
    exact this
  · rw [a1, a2, e2]
    refine ownsRow_same m.rows fun g' hg' => ?_
    cases hg'
    exact hs _ m.gT_lt h2
  · rw [a3, a4, a5, a6, e4]
    exact m.set.same fun b hb => hs b (m.lt b hb) (fun e => h3 (e ▸ hb))

theorem RMem.ownType (m : RMem F w sb h s) {g : Nat} {cur : Array Value} {e : TypeId} (hg : w.heap[g]? = some (Obj.cells cur e (0, 0))) (h1 : e ≠ 70) (h2 : e ≠ 73) : sb ≠ g ∧ h.gT ≠ g := by
  refine ⟨fun e' => ?_, fun e' => ?_⟩
  · rw [← e'] at hg
    exact h1 (blk_type m.blk hg).symm
  · obtain ⟨_, _, cur', hc'⟩ := ownsRow_block m.rows rfl
    rw [e', hg] at hc'
    cases hc'
    exact h2 rfl

/-- A mutex gets an owner. -/
theorem RMem.setOwner (m : RMem F w sb h s) (a : RApart F h) {g cap : Nat} (hv : h.vO = .slice (some ⟨g, 0, none⟩) s.owner.length cap) (i : Nat) (x : Int) :
    RMem F (w.setCell ⟨g, i, none⟩ (.int .i64 x)) sb h { s with owner := s.owner.set i x } := by
  have hb : h.vO.ownBlock = some g := by rw [hv]; rfl
  obtain ⟨_, hlt, cur, hc⟩ := ownsRow_block m.oth.own hb
  obtain ⟨h1, h2⟩ := m.ownType hc (by decide) (by decide)
  have same : ∀ k, k ≠ g → (w.setCell ⟨g, i, none⟩ (.int .i64 x)).heap[k]? = w.heap[k]? := fun k hk => Below.heap_setCell _ _ _ _ hk
  refine m.turned (g := g) (fun k _ hk => same k hk) (by simp [World.setCell]) h1 h2 (a.o g hb) ⟨?_, ?_, ?_, ?_, fun j hj => ?_⟩ rfl rfl ⟨rfl, rfl, rfl, rfl, rfl, rfl⟩ rfl
  · have h0 := m.oth.own
    rw [hv] at h0 ⊢
    have := (h0.stored i (.int .i64 x)).1
    simpa [intCells_set] using this
  · exact ownsRow_same m.oth.cnt fun k hk => same k (fun e => (a.c k hk).2 (e ▸ hb))
  · refine ownsRow_same m.oth.mis fun k hk => same k (fun e => ?_)
    obtain ⟨_, _, cur', hc'⟩ := ownsRow_block m.oth.mis hk
    rw [e, hc] at hc'
    cases hc'
  · refine ownsRow_same m.oth.box.1 fun k hk => same k (fun e => ?_)
    obtain ⟨_, _, cur', hc'⟩ := ownsRow_block m.oth.box.1 hk
    rw [e, hc] at hc'
    cases hc'
  · obtain ⟨v, hv', hr⟩ := m.oth.box.2 j hj
    exact ⟨v, hv', ownsRow_same hr fun k hk => same k (fun e => (a.bs j v k hv' hk).2.1 (e ▸ hb))⟩

/-- A semaphore's count. -/
theorem RMem.setCount (m : RMem F w sb h s) (a : RApart F h) {g cap : Nat} (hv : h.vC = .slice (some ⟨g, 0, none⟩) s.count.length cap) (i : Nat) (x : Int) :
    RMem F (w.setCell ⟨g, i, none⟩ (.int .i64 x)) sb h { s with count := s.count.set i x } := by
  have hb : h.vC.ownBlock = some g := by rw [hv]; rfl
  obtain ⟨_, hlt, cur, hc⟩ := ownsRow_block m.oth.cnt hb
  obtain ⟨h1, h2⟩ := m.ownType hc (by decide) (by decide)
  have same : ∀ k, k ≠ g → (w.setCell ⟨g, i, none⟩ (.int .i64 x)).heap[k]? = w.heap[k]? := fun k hk => Below.heap_setCell _ _ _ _ hk
  refine m.turned (g := g) (fun k _ hk => same k hk) (by simp [World.setCell]) h1 h2 (a.c g hb).1 ⟨?_, ?_, ?_, ?_, fun j hj => ?_⟩ rfl rfl ⟨rfl, rfl, rfl, rfl, rfl, rfl⟩ rfl
  · exact ownsRow_same m.oth.own fun k hk => same k (fun e => (a.c g hb).2 (e ▸ hk))
  · have h0 := m.oth.cnt
    rw [hv] at h0 ⊢
    have := (h0.stored i (.int .i64 x)).1
    simpa [intCells_set] using this
  · refine ownsRow_same m.oth.mis fun k hk => same k (fun e => ?_)
    obtain ⟨_, _, cur', hc'⟩ := ownsRow_block m.oth.mis hk
    rw [e, hc] at hc'
    cases hc'
  · refine ownsRow_same m.oth.box.1 fun k hk => same k (fun e => ?_)
    obtain ⟨_, _, cur', hc'⟩ := ownsRow_block m.oth.box.1 hk
    rw [e, hc] at hc'
    cases hc'
  · obtain ⟨v, hv', hr⟩ := m.oth.box.2 j hj
    exact ⟨v, hv', ownsRow_same hr fun k hk => same k (fun e => (a.bs j v k hv' hk).2.2.1 (e ▸ hb))⟩
end

end Go.Proofs.YthnjabnlocpoaaaGreat

/-
  Memory of a kernel: appends that tell where the new list lies; the frame of a call.
-/
namespace Go.Proofs.YthnjabnlocpoaaaGreat
open Go.RowKit

/-- 'append(out, src...)', out the call's own, src nil or not; where the new list lies. -/
theorem wpList_append_src_at {P : Program} {w : World} {ops : Array Oper} {rest : List Oper} {o : Oper} {a : Act} {Q : Exit → Act → World → Prop} (hgd : o.guard = none) (s x : Operand) (t : TypeId)
    (ho : o.op = .call { callee := .builtin .append, args := #[s, x], argTypes := #[t, t] })
    (base : Nat) (e : TypeId) (i : TypeInfo) (z : Value) (size bytes : Nat) (ht : P.underlying t = some (.slice e)) (hi : P.info? e = some i) (hz : i.zero = some z)
    (hsize : i.size = size) (hby : i.bytes = bytes) (hzs : z.cells.size = size) (hsz : 0 < size)
    (v : Value) (n : Nat) (xs : List Value) (hs : a.eval s = v) (hown : w.ownsRow base e size v n xs)
    (ao : Option Addr) (m c : Nat) (news : List Value) (hx : a.eval x = .slice ao m c) (hl : news.length = m * size) (hnil : ao = none → c = 0)
    (hnews : ∀ j u, news[j]? = some u → ∃ ad, ao = some ad ∧ w.cell? (ad.add j) = some u) (h1 : ∀ u ∈ news, u.oneCell' = true)
    (h63 : n + m ≤ maxLen) (hbytes : (n + m) * bytes ≤ 140737488355328) (hbase : base ≤ w.heap.size)
    (h : ∀ v' w', w'.ownsRow base e size v' (n + m) (xs ++ news) → w.grownBy w' v.ownBlock → (v'.ownBlock = v.ownBlock ∨ v'.ownBlock = some w.heap.size) → wpList P ops Q rest (a.put o.dst v') w') : wpList P ops Q (o :: rest) a w := by
  cases ao with
  | none =>
    have hm : m = 0 := by
      cases m with
      | zero => rfl
      | succ k =>
        have hpos : 0 < news.length := by rw [hl]; exact Nat.mul_pos (Nat.succ_pos _) hsz
        obtain ⟨ad, hh, _⟩ := hnews 0 news[0] (List.getElem?_eq_getElem hpos)
        cases hh
    subst hm
    have hc := hnil rfl
    subst hc
    have hn : news = [] := by
      apply List.eq_nil_of_length_eq_zero
      rw [hl, Nat.zero_mul]
    subst hn
    refine wpList_append_own_none hgd s x t ho base e i size ht hi v n xs hs hown hx (h v w (by simpa using hown) ⟨rfl, rfl, rfl, Nat.le_refl _, fun _ _ _ => rfl⟩ (Or.inl rfl))
  | some ad =>
    refine wpList_append_own_at w hgd s x t ho base e i z size bytes ht hi hz hsize hby hzs hsz v n xs hs hown ad m c news hx hl (fun j u hj => ?_) h1 h63 hbytes hbase (fun v' w' h2 h3 _ h5 => h v' w' h2 h3 h5)
    obtain ⟨ad', hh, hcell⟩ := hnews j u hj
    cases hh
    exact hcell


/-- Of the blocks that were there, those of Q alone may have turned. -/
structure Turns (Q : Nat → Prop) (w w' : World) : Prop where
  os : w'.os = w.os
  tape : w'.tape = w.tape
  output : w'.output = w.output
  size : w.heap.size ≤ w'.heap.size
  block : ∀ k, k < w.heap.size → ¬ Q k → w'.heap[k]? = w.heap[k]?

theorem Turns.refl (Q : Nat → Prop) (w : World) : Turns Q w w := ⟨rfl, rfl, rfl, Nat.le_refl _, fun _ _ _ => rfl⟩
theorem Turns.of_only {Q : Nat → Prop} {L : List Nat} {w w' : World} (h : Only L w w') (hq : ∀ b, b ∈ L → Q b) : Turns Q w w' := ⟨h.os, h.tape, h.output, h.size, fun k hk hn => h.block k hk (fun e => hn (hq k e))⟩
theorem Turns.of_below {Q : Nat → Prop} {w w' : World} (h : Below w.heap.size w w') : Turns Q w w' := ⟨h.os, h.tape, h.output, h.size, fun k hk _ => h.block k hk⟩
/-- Two calls, the second of what the first had, or had made. -/
theorem Turns.trans {Q Q' : Nat → Prop} {w0 w1 w2 : World} (h : Turns Q w0 w1) (k : Turns Q' w1 w2) (hq : ∀ b, Q' b → Q b ∨ w0.heap.size ≤ b) : Turns Q w0 w2 :=
  ⟨k.os.trans h.os, k.tape.trans h.tape, k.output.trans h.output, Nat.le_trans h.size k.size, fun i hi hn => (k.block i (Nat.lt_of_lt_of_le hi h.size) (fun e => (hq i e).elim hn (fun h1 => by omega))).trans (h.block i hi hn)⟩

end Go.Proofs.YthnjabnlocpoaaaGreat

/-
  A line of threads in order, made by insertion; the place in it is the rank.
-/
namespace Go.Proofs.YthnjabnlocpoaaaGreat
namespace Ln

/-- t goes into a line that is told from its end. -/
def ins (ah : Nat → Nat → Bool) (t : Nat) : List Nat → List Nat
  | [] => [t]
  | x :: r => if ah t x = true then x :: ins ah t r else t :: x :: r
/-- The awake threads below k, in order, told from the end. -/
def back (ah : Nat → Nat → Bool) (aw : Nat → Bool) : Nat → List Nat
  | 0 => []
  | k + 1 => if aw k = true then ins ah k (back ah aw k) else back ah aw k
def line (ah : Nat → Nat → Bool) (aw : Nat → Bool) (n : Nat) : List Nat := (back ah aw n).reverse

theorem ins_perm (ah : Nat → Nat → Bool) (t : Nat) (l : List Nat) : (ins ah t l).Perm (t :: l) := by
  induction l with
  | nil => exact List.Perm.refl _
  | cons x r ih =>
    unfold ins
    split
    · exact (ih.cons x).trans (List.Perm.swap t x r)
    · exact List.Perm.refl _
theorem back_perm (ah : Nat → Nat → Bool) (aw : Nat → Bool) (n : Nat) : (back ah aw n).Perm ((List.range n).filter aw) := by
  induction n with
  | zero => exact List.Perm.refl _
  | succ k ih =>
    rw [List.range_succ, List.filter_append]
    unfold back
    by_cases h : aw k = true
    · rw [if_pos h]
      have e : [k].filter aw = [k] := by simp [h]
      rw [e]
      exact (ins_perm ah k _).trans ((ih.cons k).trans (List.perm_append_singleton k _).symm)
    · rw [if_neg h]
      have e : [k].filter aw = [] := by simp [h]
      rw [e, List.append_nil]
      exact ih
theorem line_perm (ah : Nat → Nat → Bool) (aw : Nat → Bool) (n : Nat) : (line ah aw n).Perm ((List.range n).filter aw) := (List.reverse_perm _).trans (back_perm ah aw n)
theorem line_mem {ah : Nat → Nat → Bool} {aw : Nat → Bool} {n t : Nat} : t ∈ line ah aw n ↔ t < n ∧ aw t = true := by
  rw [(line_perm ah aw n).mem_iff]
  simp
theorem line_nodup (ah : Nat → Nat → Bool) (aw : Nat → Bool) (n : Nat) : (line ah aw n).Nodup := (line_perm ah aw n).nodup_iff.2 (List.Nodup.sublist List.filter_sublist List.nodup_range)

/-- A strict order of the threads below n. -/
structure Strict (ah : Nat → Nat → Bool) (n : Nat) : Prop where
  asym : ∀ a b, a < n → b < n → ah a b = true → ah b a = false
  trans : ∀ a b c, a < n → b < n → c < n → ah a b = true → ah b c = true → ah a c = true
  total : ∀ a b, a < n → b < n → a ≠ b → ah a b = true ∨ ah b a = true

theorem ins_sorted {ah : Nat → Nat → Bool} {n : Nat} (st : Strict ah n) {t : Nat} (ht : t < n) {l : List Nat} (hl : ∀ x ∈ l, x < n ∧ x ≠ t) (hs : l.Pairwise (fun a b => ah b a = true)) : (ins ah t l).Pairwise (fun a b => ah b a = true) := by
  induction l with
  | nil => simp [ins]
  | cons x r ih =>
    have hx := hl x (by simp)
    obtain ⟨h1, h2⟩ := List.pairwise_cons.1 hs
    unfold ins
    split
    · rename_i h
      refine List.pairwise_cons.2 ⟨fun b hb => ?_, ih (fun y hy => hl y (by simp [hy])) h2⟩
      rcases List.mem_cons.1 ((ins_perm ah t r).mem_iff.1 hb) with rfl | hb
      · exact h
      · exact h1 b hb
    · rename_i h
      have h' : ah x t = true := by
        rcases st.total t x ht hx.1 (Ne.symm hx.2) with h3 | h3
        · exact absurd h3 h
        · exact h3
      refine List.pairwise_cons.2 ⟨fun b hb => ?_, hs⟩
      rcases List.mem_cons.1 hb with rfl | hb
      · exact h'
      · exact st.trans b x t (hl b (by simp [hb])).1 hx.1 ht (h1 b hb) h'
theorem back_sorted {ah : Nat → Nat → Bool} {aw : Nat → Bool} {n : Nat} (st : Strict ah n) (k : Nat) (hk : k ≤ n) : (back ah aw k).Pairwise (fun a b => ah b a = true) := by
  induction k with
  | zero => simp [back]
  | succ k ih =>
    unfold back
    split
    · refine ins_sorted st (by omega) (fun x hx => ?_) (ih (by omega))
      have := (back_perm ah aw k).mem_iff.1 hx
      simp at this
      omega
    · exact ih (by omega)
theorem line_sorted {ah : Nat → Nat → Bool} {aw : Nat → Bool} {n : Nat} (st : Strict ah n) : (line ah aw n).Pairwise (fun a b => ah a b = true) := by
  unfold line
  rw [List.pairwise_reverse]
  exact back_sorted st n (Nat.le_refl _)

/-- In a line in order: just those ahead of its place go ahead of one. -/
theorem count_ahead {ah : Nat → Nat → Bool} {n : Nat} (st : Strict ah n) (irr : ∀ a, ah a a = false) {l : List Nat} (hl : ∀ x ∈ l, x < n) (hs : l.Pairwise (fun a b => ah a b = true)) (i : Nat) (hi : i < l.length) : l.countP (fun u => ah u l[i]) = i := by
  induction l generalizing i with
  | nil => simp at hi
  | cons x r ih =>
    obtain ⟨h1, h2⟩ := List.pairwise_cons.1 hs
    have hx := hl x (by simp)
    cases i with
    | zero =>
      simp only [List.getElem_cons_zero]
      rw [List.countP_eq_zero.2]
      intro u hu
      rcases List.mem_cons.1 hu with rfl | hu
      · simp [irr]
      · have := st.asym x u hx (hl u (by simp [hu])) (h1 u hu)
        simp [this]
    | succ i =>
      have hi' : i < r.length := by simpa using hi
      simp only [List.getElem_cons_succ]
      rw [List.countP_cons, ih (fun y hy => hl y (by simp [hy])) h2 i hi']
      have := h1 r[i] (List.getElem_mem hi')
      simp [this]

/-- The rank of the i-th of the line is i. -/
theorem rank_line {ah : Nat → Nat → Bool} {aw : Nat → Bool} {n : Nat} (st : Strict ah n) (irr : ∀ a, ah a a = false) (i : Nat) (hi : i < (line ah aw n).length) : (List.range n).countP (fun u => aw u && ah u (line ah aw n)[i]) = i := by
  have h1 := count_ahead st irr (fun x hx => (line_mem.1 hx).1) (line_sorted (aw := aw) st) i hi
  have h2 : (List.range n).countP (fun u => aw u && ah u (line ah aw n)[i]) = ((List.range n).filter aw).countP (fun u => ah u (line ah aw n)[i]) := by
    rw [List.countP_filter]
    refine List.countP_congr fun u _ => ?_
    rw [Bool.and_comm]
  rw [h2, ← (line_perm ah aw n).countP_eq]
  exact h1

theorem line_get_inj {ah : Nat → Nat → Bool} {aw : Nat → Bool} {n i j : Nat} (hi : i < (line ah aw n).length) (hj : j < (line ah aw n).length) (h : (line ah aw n)[i] = (line ah aw n)[j]) : i = j := by
  have hn := line_nodup ah aw n
  rw [List.nodup_iff_pairwise_ne] at hn
  rcases Nat.lt_trichotomy i j with h1 | h1 | h1
  · exact absurd h (List.pairwise_iff_getElem.1 hn i j hi hj h1)
  · exact h1
  · exact absurd h.symm (List.pairwise_iff_getElem.1 hn j i hj hi h1)

end Ln
end Go.Proofs.YthnjabnlocpoaaaGreat
