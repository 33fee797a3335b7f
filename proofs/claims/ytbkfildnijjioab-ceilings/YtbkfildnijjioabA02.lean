import Derived.Test.YtbkfildnijjioabA01
import Derived.Maps.AppendAt
/-
  Lists in memory with the blocks in which they lie told by a predicate F; what a call may turn ('Only').
-/
namespace Go.Proofs.Ytbkfildnijjioab
open Go.RowKit

def PairsF (F : Nat → Prop) (w : World) (ao : Option Addr) (l : List PairD) : Prop :=
  ∀ i (h : i < l.length), ∃ b o, ao = some ⟨b, o, none⟩ ∧ F b ∧ w.cell? ⟨b, o + i * 2, none⟩ = some (.int .i64 l[i].x) ∧ w.cell? ⟨b, o + i * 2 + 1, none⟩ = some (.int .i64 l[i].y)
def IntsF (F : Nat → Prop) (w : World) (ao : Option Addr) (l : List Int) : Prop :=
  ∀ i (h : i < l.length), ∃ b o, ao = some ⟨b, o, none⟩ ∧ F b ∧ w.cell? ⟨b, o + i, none⟩ = some (.int .i64 l[i])
def InstrsF (F : Nat → Prop) (w : World) (ao : Option Addr) (l : List InstrD) : Prop :=
  ∀ i (h : i < l.length), ∃ b o, ao = some ⟨b, o, none⟩ ∧ F b ∧ w.cell? ⟨b, o + i * 3, none⟩ = some (.int .i64 l[i].op) ∧ w.cell? ⟨b, o + i * 3 + 1, none⟩ = some (.int .i64 l[i].a) ∧
    w.cell? ⟨b, o + i * 3 + 2, none⟩ = some (.int .i64 l[i].b)
def ThreadsF (F : Nat → Prop) (w : World) (ao : Option Addr) (l : List ThreadD) : Prop :=
  ∀ i (h : i < l.length), ∃ b o cv cc, ao = some ⟨b, o, none⟩ ∧ F b ∧ w.cell? ⟨b, o + i * 5, none⟩ = some (.int .i64 l[i].base) ∧ w.cell? ⟨b, o + i * 5 + 1, none⟩ = some (.int .i64 l[i].offset) ∧
    w.cell? ⟨b, o + i * 5 + 2, none⟩ = some (.int .i64 l[i].period) ∧ w.cell? ⟨b, o + i * 5 + 3, none⟩ = some (.int .i64 l[i].deadline) ∧
    w.cell? ⟨b, o + i * 5 + 4, none⟩ = some (.slice cv l[i].code.length cc) ∧ InstrsF F w cv l[i].code ∧ (cv = none → cc = 0)

structure SetF (F : Nat → Prop) (w : World) (tv mv sv qv : Option Addr) (S : SetD) : Prop where
  threads : ThreadsF F w tv S.threads
  mutexes : PairsF F w mv S.mutexes
  sems : PairsF F w sv S.sems
  queues : IntsF F w qv S.queues

section
variable {F G : Nat → Prop} {w w' : World} {ao : Option Addr}

theorem same_cell (hs : ∀ b, F b → w'.heap[b]? = w.heap[b]?) {b : Nat} (hb : F b) (o : Nat) : w'.cell? ⟨b, o, none⟩ = w.cell? ⟨b, o, none⟩ := World.cell?_of_block (hs b hb)

theorem PairsF.same {l : List PairD} (h : PairsF F w ao l) (hs : ∀ b, F b → w'.heap[b]? = w.heap[b]?) : PairsF F w' ao l := by
  intro i hi
  obtain ⟨b, o, ha, hf, hx, hy⟩ := h i hi
  exact ⟨b, o, ha, hf, (same_cell hs hf _).trans hx, (same_cell hs hf _).trans hy⟩
theorem IntsF.same {l : List Int} (h : IntsF F w ao l) (hs : ∀ b, F b → w'.heap[b]? = w.heap[b]?) : IntsF F w' ao l := by
  intro i hi
  obtain ⟨b, o, ha, hf, hx⟩ := h i hi
  exact ⟨b, o, ha, hf, (same_cell hs hf _).trans hx⟩
theorem InstrsF.same {l : List InstrD} (h : InstrsF F w ao l) (hs : ∀ b, F b → w'.heap[b]? = w.heap[b]?) : InstrsF F w' ao l := by
  intro i hi
  obtain ⟨b, o, ha, hf, hx, hy, hz⟩ := h i hi
  exact ⟨b, o, ha, hf, (same_cell hs hf _).trans hx, (same_cell hs hf _).trans hy, (same_cell hs hf _).trans hz⟩
theorem ThreadsF.same {l : List ThreadD} (h : ThreadsF F w ao l) (hs : ∀ b, F b → w'.heap[b]? = w.heap[b]?) : ThreadsF F w' ao l := by
  intro i hi
  obtain ⟨b, o, cv, cc, ha, hf, h0, h1, h2, h3, h4, hc, hn⟩ := h i hi
  exact ⟨b, o, cv, cc, ha, hf, (same_cell hs hf _).trans h0, (same_cell hs hf _).trans h1, (same_cell hs hf _).trans h2, (same_cell hs hf _).trans h3, (same_cell hs hf _).trans h4, hc.same hs, hn⟩

theorem PairsF.mono {l : List PairD} (h : PairsF F w ao l) (hs : ∀ b, F b → G b) : PairsF G w ao l := by
  intro i hi
  obtain ⟨b, o, ha, hf, r⟩ := h i hi
  exact ⟨b, o, ha, hs b hf, r⟩
theorem IntsF.mono {l : List Int} (h : IntsF F w ao l) (hs : ∀ b, F b → G b) : IntsF G w ao l := by
  intro i hi
  obtain ⟨b, o, ha, hf, r⟩ := h i hi
  exact ⟨b, o, ha, hs b hf, r⟩
theorem InstrsF.mono {l : List InstrD} (h : InstrsF F w ao l) (hs : ∀ b, F b → G b) : InstrsF G w ao l := by
  intro i hi
  obtain ⟨b, o, ha, hf, r⟩ := h i hi
  exact ⟨b, o, ha, hs b hf, r⟩
theorem ThreadsF.mono {l : List ThreadD} (h : ThreadsF F w ao l) (hs : ∀ b, F b → G b) : ThreadsF G w ao l := by
  intro i hi
  obtain ⟨b, o, cv, cc, ha, hf, h0, h1, h2, h3, h4, hc, hn⟩ := h i hi
  exact ⟨b, o, cv, cc, ha, hs b hf, h0, h1, h2, h3, h4, hc.mono hs, hn⟩

theorem PairsF.toIn {l : List PairD} {B : Nat} (h : PairsF F w ao l) (hs : ∀ b, F b → b < B) : PairsIn B w ao l := by
  intro i hi
  obtain ⟨b, o, ha, hf, r⟩ := h i hi
  exact ⟨b, o, ha, hs b hf, r⟩
theorem IntsF.toIn {l : List Int} {B : Nat} (h : IntsF F w ao l) (hs : ∀ b, F b → b < B) : IntsIn B w ao l := by
  intro i hi
  obtain ⟨b, o, ha, hf, r⟩ := h i hi
  exact ⟨b, o, ha, hs b hf, r⟩
theorem InstrsF.toIn {l : List InstrD} {B : Nat} (h : InstrsF F w ao l) (hs : ∀ b, F b → b < B) : InstrsIn B w ao l := by
  intro i hi
  obtain ⟨b, o, ha, hf, r⟩ := h i hi
  exact ⟨b, o, ha, hs b hf, r⟩
theorem ThreadsF.toIn {l : List ThreadD} {B : Nat} (h : ThreadsF F w ao l) (hs : ∀ b, F b → b < B) : ThreadsIn B w ao l := by
  intro i hi
  obtain ⟨b, o, cv, cc, ha, hf, h0, h1, h2, h3, h4, hc, hn⟩ := h i hi
  exact ⟨b, o, cv, cc, ha, hs b hf, h0, h1, h2, h3, h4, hc.toIn hs, hn⟩
theorem PairsIn.toF {l : List PairD} {B : Nat} (h : PairsIn B w ao l) (hs : ∀ b, b < B → F b) : PairsF F w ao l := by
  intro i hi
  obtain ⟨b, o, ha, hf, r⟩ := h i hi
  exact ⟨b, o, ha, hs b hf, r⟩
theorem IntsIn.toF {l : List Int} {B : Nat} (h : IntsIn B w ao l) (hs : ∀ b, b < B → F b) : IntsF F w ao l := by
  intro i hi
  obtain ⟨b, o, ha, hf, r⟩ := h i hi
  exact ⟨b, o, ha, hs b hf, r⟩
theorem InstrsIn.toF {l : List InstrD} {B : Nat} (h : InstrsIn B w ao l) (hs : ∀ b, b < B → F b) : InstrsF F w ao l := by
  intro i hi
  obtain ⟨b, o, ha, hf, r⟩ := h i hi
  exact ⟨b, o, ha, hs b hf, r⟩
theorem ThreadsIn.toF {l : List ThreadD} {B : Nat} (h : ThreadsIn B w ao l) (hs : ∀ b, b < B → F b) : ThreadsF F w ao l := by
  intro i hi
  obtain ⟨b, o, cv, cc, ha, hf, h0, h1, h2, h3, h4, hc, hn⟩ := h i hi
  exact ⟨b, o, cv, cc, ha, hs b hf, h0, h1, h2, h3, h4, hc.toF hs, hn⟩
end

section
variable {F G : Nat → Prop} {w w' : World} {tv mv sv qv : Option Addr} {S : SetD}
theorem SetF.same (h : SetF F w tv mv sv qv S) (hs : ∀ b, F b → w'.heap[b]? = w.heap[b]?) : SetF F w' tv mv sv qv S := ⟨h.threads.same hs, h.mutexes.same hs, h.sems.same hs, h.queues.same hs⟩
theorem SetF.mono (h : SetF F w tv mv sv qv S) (hs : ∀ b, F b → G b) : SetF G w tv mv sv qv S := ⟨h.threads.mono hs, h.mutexes.mono hs, h.sems.mono hs, h.queues.mono hs⟩
theorem SetF.toIn {B : Nat} (h : SetF F w tv mv sv qv S) (hs : ∀ b, F b → b < B) : SetIn B w tv mv sv qv S := ⟨h.threads.toIn hs, h.mutexes.toIn hs, h.sems.toIn hs, h.queues.toIn hs⟩
theorem SetIn.toF {B : Nat} (h : SetIn B w tv mv sv qv S) (hs : ∀ b, b < B → F b) : SetF F w tv mv sv qv S := ⟨h.threads.toF hs, h.mutexes.toF hs, h.sems.toF hs, h.queues.toF hs⟩
end

theorem PairsIn.newF {B : Nat} {w : World} {ao : Option Addr} {l : List PairD} {lo hi : Nat} (h : PairsIn B w ao l) (hn : NewAt lo hi ao) : PairsF (fun b => lo ≤ b ∧ b < hi) w ao l := by
  intro i hi'
  obtain ⟨b, o, ha, _, r⟩ := h i hi'
  obtain ⟨g, hg, h1, h2⟩ := hn _ ha
  cases hg
  exact ⟨b, 0, ha, ⟨h1, h2⟩, r⟩
theorem IntsIn.newF {B : Nat} {w : World} {ao : Option Addr} {l : List Int} {lo hi : Nat} (h : IntsIn B w ao l) (hn : NewAt lo hi ao) : IntsF (fun b => lo ≤ b ∧ b < hi) w ao l := by
  intro i hi'
  obtain ⟨b, o, ha, _, r⟩ := h i hi'
  obtain ⟨g, hg, h1, h2⟩ := hn _ ha
  cases hg
  exact ⟨b, 0, ha, ⟨h1, h2⟩, r⟩
theorem InstrsIn.newF {B : Nat} {w : World} {ao : Option Addr} {l : List InstrD} {lo hi : Nat} (h : InstrsIn B w ao l) (hn : NewAt lo hi ao) : InstrsF (fun b => lo ≤ b ∧ b < hi) w ao l := by
  intro i hi'
  obtain ⟨b, o, ha, _, r⟩ := h i hi'
  obtain ⟨g, hg, h1, h2⟩ := hn _ ha
  cases hg
  exact ⟨b, 0, ha, ⟨h1, h2⟩, r⟩

theorem ThreadsF.of_rows {B : Nat} {w : World} {vt : Value} {l : List ThreadD} {cs : Nat → Value} (h : ThRows B w vt l l.length cs) :
    ∃ ao cap, vt = .slice ao l.length cap ∧ (ao = none → cap = 0) ∧ ThreadsF (fun b => B ≤ b ∧ b < w.heap.size) w ao l := by
  obtain ⟨h1, h2⟩ := h
  obtain ⟨ao, cap, rfl, hn, ha⟩ := owns_cells h1
  refine ⟨ao, cap, rfl, fun hh => (hn hh).2, fun i hi => ?_⟩
  cases ao with
  | none => have := (hn rfl).1; omega
  | some a =>
    obtain ⟨g, rfl, hb, hlt, _, hc⟩ := ha a rfl
    obtain ⟨g0, g1, g2, g3, g4⟩ := thCells_get l cs l.length i hi hi
    obtain ⟨cv, cc, hcv, hcn, hci, hna⟩ := InstrsIn.of_owns (h2 i hi hi)
    rw [hcv] at g4
    exact ⟨g, 0, cv, cc, rfl, ⟨hb, hlt⟩, by rw [hc _ (by omega)]; simpa using g0, by rw [hc _ (by omega)]; simpa using g1, by rw [hc _ (by omega)]; simpa using g2, by rw [hc _ (by omega)]; simpa using g3,
      by rw [hc _ (by omega)]; simpa using g4, hci.newF hna, hcn⟩
theorem ThreadsF.of_rows_later {B : Nat} {w : World} {vt : Value} {l : List ThreadD} {cs : Nat → Value} (h : ThRows B w vt l l.length cs) :
    ∃ ao cap, vt = .slice ao l.length cap ∧ (ao = none → cap = 0) ∧ ∀ w', (∀ g, B ≤ g → g < w.heap.size → w'.heap[g]? = w.heap[g]?) → ThreadsF (fun b => B ≤ b ∧ b < w'.heap.size) w' ao l := by
  obtain ⟨ao, cap, rfl, hn, _⟩ := ThreadsF.of_rows h
  refine ⟨ao, cap, rfl, hn, fun w' hs => ?_⟩
  obtain ⟨ao', cap', he, _, hin⟩ := ThreadsF.of_rows (h.same hs)
  cases he
  exact hin

theorem bdrewN {B : Nat} {a w : World} (h : Below B a w) (n : Nat) : Below B a (w.drewN n) := ⟨h.os, h.tape, h.output, h.size, h.block⟩

/-- Of the blocks that were there, those of L alone may have turned. -/
structure Only (L : List Nat) (w w' : World) : Prop where
  os : w'.os = w.os
  tape : w'.tape = w.tape
  output : w'.output = w.output
  size : w.heap.size ≤ w'.heap.size
  block : ∀ k, k < w.heap.size → k ∉ L → w'.heap[k]? = w.heap[k]?

section
variable {L M : List Nat} {w0 w w' : World}
theorem Only.refl (L : List Nat) (w : World) : Only L w w := ⟨rfl, rfl, rfl, Nat.le_refl _, fun _ _ _ => rfl⟩
theorem Only.trans (h : Only L w0 w) (k : Only L w w') : Only L w0 w' :=
  ⟨k.os.trans h.os, k.tape.trans h.tape, k.output.trans h.output, Nat.le_trans h.size k.size, fun i hi hc => (k.block i (Nat.lt_of_lt_of_le hi h.size) hc).trans (h.block i hi hc)⟩
theorem Only.mono (h : Only L w w') (hs : ∀ b, b ∈ L → b ∈ M) : Only M w w' := ⟨h.os, h.tape, h.output, h.size, fun k hk hc => h.block k hk (fun e => hc (hs k e))⟩
theorem Only.of_below (h : Below w.heap.size w w') : Only L w w' := ⟨h.os, h.tape, h.output, h.size, fun k hk _ => h.block k hk⟩
/-- What lies in blocks that are none of L's lies on. -/
theorem Only.below {B : Nat} (h : Only L w w') (h1 : B ≤ w.heap.size) (h2 : ∀ b, b ∈ L → B ≤ b) : Below B w w' := ⟨h.os, h.tape, h.output, h.size, fun k hk => h.block k (by omega) (fun e => by have := h2 k e; omega)⟩
theorem Only.alloc (h : Only L w0 w) (o : Obj) : Only L w0 (w.alloc o) := h.trans (Only.of_below ((Below.refl _ _).alloc (Nat.le_refl _) o))
theorem Only.drewN (h : Only L w0 w) (n : Nat) : Only L w0 (w.drewN n) := ⟨h.os, h.tape, h.output, h.size, h.block⟩
theorem Only.setCell (h : Only L w0 w) {p : Addr} (hp : p.block ∈ L ∨ w0.heap.size ≤ p.block) (u : Value) : Only L w0 (w.setCell p u) := by
  refine ⟨h.os, h.tape, h.output, by simpa [World.setCell] using h.size, fun k hk hc => ?_⟩
  rw [Below.heap_setCell _ _ _ _ (fun e => ?_)]
  · exact h.block k hk hc
  · subst e
    rcases hp with hp | hp
    · exact hc hp
    · omega
/-- Behind a callee that makes memory of its own alone. -/
theorem Only.via (h : Only L w0 w) (k : Below w.heap.size w w') : Only L w0 w' := h.trans (Only.of_below k)
theorem Only.same (h : Only L w w') {b : Nat} (hb : b < w.heap.size) (hn : b ∉ L) : w'.heap[b]? = w.heap[b]? := h.block b hb hn
/-- A call that was given blocks of L' which are new or of L. -/
theorem Only.more (h : Only L w0 w) (k : Only M w w') (hs : ∀ b, b ∈ M → b ∈ L ∨ w0.heap.size ≤ b) : Only L w0 w' :=
  ⟨k.os.trans h.os, k.tape.trans h.tape, k.output.trans h.output, Nat.le_trans h.size k.size, fun i hi hc => (k.block i (Nat.lt_of_lt_of_le hi h.size) (fun e => (hs i e).elim hc (fun h1 => by omega))).trans (h.block i hi hc)⟩
end

theorem Blk.only {w w' : World} {b : Nat} {cs : Array Value} {e : TypeId} (h : Blk w b cs e) {L : List Nat} (hb : Only L w w') (hn : b ∉ L) : Blk w' b cs e := by
  have hl := h.lt
  unfold Blk at h ⊢
  rw [hb.block b hl hn]
  exact h

end Go.Proofs.Ytbkfildnijjioab

/-
  The document's kernel as plain data, and what package donateref computes over it, in plain words.
-/
namespace Go.Proofs.Ytbkfildnijjioab

/-- A thread of the document's kernel (donateref.T). -/
structure RT where
  base : Int
  at_ : Int
  last : Int
  got : Int
  rel : Int
  ended : Int
  awake : Bool
  tick : Int
  wkr : Int
  for_ : Int
  of_ : Int
  until_ : Int
  since : Int

structure MissD where
  thread : Int
  job : Int
  time : Int

/-- The document's kernel (donateref.S). -/
structure RS where
  set : SetD
  now : Int
  next : Int
  T : List RT
  owner : List Int
  count : List Int
  box : List (List Int)
  missed : List MissD

namespace R

def rt0 : RT := ⟨0, 0, 0, 0, 0, 0, false, 0, 0, 0, 0, 0, 0⟩
def pair0 : PairD := ⟨0, 0⟩
def th (T : List RT) (t : Nat) : RT := T.getD t rt0

/-- number: which job has its time just now. -/
def number (period gone : Int) : Int :=
  if gone < 0 then -1 else if period = 0 then (if gone = 0 then 0 else -1) else if gone % period ≠ 0 then -1 else gone / period

/-- on: the thread on worker w, or -1. -/
def on (T : List RT) (w : Int) : Int := P3.badOr (fun x : RT => x.wkr != w) T

/-- free: the free worker with the lowest number (of n). -/
def free (T : List RT) (n : Nat) : Nat := P3.bad (fun w : Nat => decide (0 ≤ on T w)) (List.range n)

/-- Does u go ahead of t, at levels l? -/
def ahead (l : List Int) (T : List RT) (t u : Nat) : Bool :=
  (th T u).awake && (decide (l.getD t 0 < l.getD u 0) || (decide (l.getD u 0 = l.getD t 0) && decide ((th T u).tick < (th T t).tick)))
def rankTo (l : List Int) (T : List RT) (t : Nat) (k : Nat) : Nat := (List.range k).countP (ahead l T t)
def rank (l : List Int) (T : List RT) (t : Nat) : Nat := rankTo l T t T.length

theorem rankTo_succ (l : List Int) (T : List RT) (t k : Nat) : rankTo l T t (k + 1) = rankTo l T t k + if ahead l T t k = true then 1 else 0 := by
  unfold rankTo
  rw [List.range_succ, List.countP_append]
  by_cases h : ahead l T t k = true <;> simp [h]
theorem rankTo_le (l : List Int) (T : List RT) (t k : Nat) : rankTo l T t k ≤ k := by
  have := List.countP_le_length (p := ahead l T t) (l := List.range k)
  simpa [rankTo] using this

/-- level, link by link. f: the levels of those who wait, one link shorter. -/
def maxI (a b : Int) : Int := if a < b then b else a
def innerTo (T : List RT) (f : Nat → Int) (m : Nat) (v : Int) : Nat → Int
  | 0 => v
  | k + 1 => if (th T k).for_ = 1 ∧ (th T k).of_ = (m : Int) then maxI (innerTo T f m v k) (f k) else innerTo T f m v k
def outerTo (s : RS) (f : Nat → Int) (pos : Bool) (t : Nat) : Nat → Int
  | 0 => (th s.T t).base
  | k + 1 => if s.owner.getD k 0 ≠ (t : Int) then outerTo s f pos t k
    else if (s.set.mutexes.getD k pair0).x = 1 then maxI (outerTo s f pos t k) (s.set.mutexes.getD k pair0).y
    else if pos = true then innerTo s.T f k (outerTo s f pos t k) s.T.length else outerTo s f pos t k
def level (s : RS) : Nat → Nat → Int
  | 0, t => outerTo s (fun _ => 0) false t s.owner.length
  | d + 1, t => outerTo s (level s d) true t s.owner.length
def Level (s : RS) (t : Nat) : Int := level s s.T.length t
def levels (s : RS) : List Int := (List.range s.T.length).map (Level s)

/-- settle. -/
def setW (T : List RT) (k : Nat) (w : Int) : List RT := T.modify k (fun x => { x with wkr := w })
def place (l : List Int) (T : List RT) (n : Int) (t : Nat) : Int :=
  if (th T t).awake = true then (if (rank l T t : Int) < n then (rank l T t : Int) else n) else n
def clearTo (at_ : Nat → Int) (n : Int) (T : List RT) : Nat → List RT
  | 0 => T
  | k + 1 => if at_ k = n then setW (clearTo at_ n T k) k (-1) else clearTo at_ n T k
def seatIn (at_ : Nat → Int) (n : Nat) (r : Nat) (T : List RT) : Nat → List RT
  | 0 => T
  | k + 1 => if at_ k = (r : Int) ∧ (th (seatIn at_ n r T k) k).wkr < 0 then setW (seatIn at_ n r T k) k (free (seatIn at_ n r T k) n) else seatIn at_ n r T k
def seatTo (at_ : Nat → Int) (n : Nat) (T : List RT) : Nat → List RT
  | 0 => T
  | r + 1 => seatIn at_ n r (seatTo at_ n T r) T.length
/-- P5, P6: who sits where; n: how many workers. -/
def settleT (l : List Int) (T : List RT) (n : Nat) : List RT :=
  seatTo (place l T n) n (clearTo (place l T n) n T T.length) n
def settle (s : RS) : RS := { s with T := settleT (levels s) s.T s.set.workers.toNat }

/-- Running. -/
def running (s : RS) : List Int := (List.range s.set.workers.toNat).map fun (w : Nat) => on s.T (w : Int)

/-- wake, draw, release. -/
def wake (s : RS) (t : Nat) : RS := { s with next := s.next + 1, T := s.T.modify t (fun x => { x with awake := true, tick := s.next + 1 }) }
def numberAt (s : RS) (t : Nat) (behind : Int) : Int :=
  number (s.set.threads.getD t P3.none0).period (s.now - s.set.start - (s.set.threads.getD t P3.none0).offset - behind)
def releaseOne (s : RS) (t : Nat) : RS :=
  if 0 ≤ numberAt s t 0 then
    if (th s.T t).rel = (th s.T t).ended then wake { s with T := s.T.modify t (fun x => { x with rel := numberAt s t 0 + 1 }) } t
    else { s with T := s.T.modify t (fun x => { x with rel := numberAt s t 0 + 1 }) }
  else s
def releaseTo (s : RS) : Nat → RS
  | 0 => s
  | k + 1 => releaseOne (releaseTo s k) k
def release (s : RS) : RS := releaseTo s s.T.length

/-- New. -/
def bare (S : SetD) : RS :=
  { set := S, now := S.start, next := 0, T := S.threads.map fun t => { rt0 with base := t.base, wkr := -1 }, owner := S.mutexes.map fun _ => -1, count := S.sems.map fun m => m.x, box := S.queues.map fun _ => [], missed := [] }
def new (S : SetD) : RS := settle (release (bare S))

theorem setW_length (T : List RT) (k : Nat) (w : Int) : (setW T k w).length = T.length := by simp [setW]
theorem clearTo_length (at_ : Nat → Int) (n : Int) (T : List RT) (k : Nat) : (clearTo at_ n T k).length = T.length := by
  induction k with
  | zero => rfl
  | succ k ih => unfold clearTo; split <;> simp [setW_length, ih]
theorem seatIn_length (at_ : Nat → Int) (n r : Nat) (T : List RT) (k : Nat) : (seatIn at_ n r T k).length = T.length := by
  induction k with
  | zero => rfl
  | succ k ih => unfold seatIn; split <;> simp [setW_length, ih]
theorem seatTo_length (at_ : Nat → Int) (n : Nat) (T : List RT) (r : Nat) : (seatTo at_ n T r).length = T.length := by
  induction r with
  | zero => rfl
  | succ r ih => unfold seatTo; rw [seatIn_length, ih]
theorem settleT_length (l : List Int) (T : List RT) (n : Nat) : (settleT l T n).length = T.length := by
  unfold settleT; rw [seatTo_length, clearTo_length]
theorem th_setW (T : List RT) (k : Nat) (w : Int) (t : Nat) : th (setW T k w) t = if t = k ∧ k < T.length then { th T t with wkr := w } else th T t := by
  unfold th setW
  by_cases h : t < T.length
  · simp only [List.getD_eq_getElem?_getD, List.getElem?_modify]
    by_cases e : k = t
    · subst e; simp [h]
    · have e' : ¬ t = k := fun x => e x.symm
      simp [e, e', h]
  · have h2 : ¬ (t = k ∧ k < T.length) := by omega
    simp [List.getD_eq_getElem?_getD, h, h2]

theorem releaseOne_set (s : RS) (t : Nat) : (releaseOne s t).set = s.set := by unfold releaseOne wake; split <;> (try split) <;> rfl
theorem releaseOne_now (s : RS) (t : Nat) : (releaseOne s t).now = s.now := by unfold releaseOne wake; split <;> (try split) <;> rfl
theorem releaseOne_len (s : RS) (t : Nat) : (releaseOne s t).T.length = s.T.length := by unfold releaseOne wake; split <;> (try split) <;> simp
theorem releaseOne_next (s : RS) (t : Nat) : s.next ≤ (releaseOne s t).next ∧ (releaseOne s t).next ≤ s.next + 1 := by unfold releaseOne wake; split <;> (try split) <;> simp <;> omega
theorem releaseTo_set (s : RS) (k : Nat) : (releaseTo s k).set = s.set := by
  induction k with
  | zero => rfl
  | succ k ih => unfold releaseTo; rw [releaseOne_set, ih]
theorem releaseTo_now (s : RS) (k : Nat) : (releaseTo s k).now = s.now := by
  induction k with
  | zero => rfl
  | succ k ih => unfold releaseTo; rw [releaseOne_now, ih]
theorem releaseTo_len (s : RS) (k : Nat) : (releaseTo s k).T.length = s.T.length := by
  induction k with
  | zero => rfl
  | succ k ih => unfold releaseTo; rw [releaseOne_len, ih]
theorem releaseTo_next (s : RS) (k : Nat) : s.next ≤ (releaseTo s k).next ∧ (releaseTo s k).next ≤ s.next + k := by
  induction k with
  | zero => simp [releaseTo]
  | succ k ih => unfold releaseTo; have := releaseOne_next (releaseTo s k) k; omega

theorem number_bd (period gone : Int) (hp : 0 ≤ period) (hg : gone ≤ 1000000000) : -1 ≤ number period gone ∧ number period gone ≤ 1000000000 := by
  unfold number
  split
  · omega
  · split
    · split <;> omega
    · split
      · omega
      · rename_i h1 h2 _
        have := Int.ediv_le_self (a := gone) period (by omega)
        have := Int.ediv_nonneg (a := gone) (b := period) (by omega) hp
        omega

theorem free_at (T : List RT) (n k : Nat) (hk : k < n) (hb : ∀ j, j < k → 0 ≤ on T (j : Int)) (h : on T (k : Int) < 0) : free T n = k := by
  unfold free
  refine P3.bad_eq _ _ k (by simpa using hk) (by simp; omega) (fun j hj => by simp; exact hb j hj)
theorem free_none (T : List RT) (n : Nat) (hb : ∀ j, j < n → 0 ≤ on T (j : Int)) : free T n = n := by
  unfold free
  rw [P3.bad_all _ _ (fun j hj => by simp; exact hb j (by simpa using hj))]
  simp
theorem free_le (T : List RT) (n : Nat) : free T n ≤ n := by
  have := P3.bad_le (fun w : Nat => decide (0 ≤ on T w)) (List.range n)
  simpa [free] using this

theorem th_clearTo (at_ : Nat → Int) (n : Int) (T : List RT) (k t : Nat) : (th (clearTo at_ n T k) t).awake = (th T t).awake ∧ (th (clearTo at_ n T k) t).tick = (th T t).tick := by
  induction k with
  | zero => exact ⟨rfl, rfl⟩
  | succ k ih =>
    unfold clearTo
    split
    · rw [th_setW]
      split <;> exact ih
    · exact ih
theorem rank_clearTo (l : List Int) (at_ : Nat → Int) (n : Int) (T : List RT) (k t : Nat) : rank l (clearTo at_ n T k) t = rank l T t := by
  unfold rank rankTo
  rw [clearTo_length]
  refine List.countP_congr fun u _ => ?_
  unfold ahead
  rw [(th_clearTo at_ n T k u).1, (th_clearTo at_ n T k u).2, (th_clearTo at_ n T k t).2]
def atTo (p : Nat → Int) (n k : Nat) : List Int := (List.range n).map fun i => if i < k then p i else 0
theorem atTo_length (p : Nat → Int) (n k : Nat) : (atTo p n k).length = n := by simp [atTo]
theorem atTo_zero (p : Nat → Int) (n : Nat) : atTo p n 0 = List.replicate n 0 := by
  apply List.ext_getElem <;> simp [atTo]
theorem atTo_set (p : Nat → Int) (n k : Nat) (_hk : k < n) (x : Int) : ((atTo p n k).set k x).set k (p k) = atTo p n (k + 1) := by
  rw [List.set_set]
  apply List.ext_getElem
  · simp [atTo]
  · intro i h1 h2
    simp only [List.getElem_set, atTo, List.getElem_map, List.getElem_range]
    by_cases e : k = i
    · subst e; simp
    · by_cases e2 : i < k
      · simp [e, e2, show i < k + 1 by omega]
      · simp [e, e2, show ¬ i < k + 1 by omega]
theorem atTo_set1 (p : Nat → Int) (n k : Nat) (hk : k < n) : (atTo p n k).set k (p k) = atTo p n (k + 1) := by
  have := atTo_set p n k hk 0
  rwa [List.set_set] at this
theorem atTo_get (p : Nat → Int) (n i : Nat) (hi : i < n) : (atTo p n n)[i]? = some (p i) := by
  simp [atTo, hi]

/-- begin: a thread begins to wait, for n ticks (-1: without end). -/
def beginW (s : RS) (t : Nat) (what of_ n : Int) : RS :=
  { s with next := s.next + 1, T := s.T.modify t (fun x => { x with awake := false, wkr := -1, for_ := what, of_ := of_, until_ := if 0 ≤ n then s.now + n else -1, since := s.next + 1 }) }
/-- end: a wait ends with code c. -/
def endW (s : RS) (t : Nat) (c : Int) : RS := wake { s with T := s.T.modify t (fun x => { x with for_ := 0, of_ := 0, until_ := 0, last := c }) } t

/-- due: of those whose wait ends now, the one that began first; -1: none. -/
def dueTo (T : List RT) (now : Int) : Nat → Int
  | 0 => -1
  | k + 1 => if (th T k).for_ ≠ 0 ∧ (th T k).until_ = now ∧ (dueTo T now k < 0 ∨ (th T k).since < (th T (dueTo T now k).toNat).since) then (k : Int) else dueTo T now k
def due (s : RS) : Int := dueTo s.T s.now s.T.length
theorem dueTo_bd (T : List RT) (now : Int) (k : Nat) : -1 ≤ dueTo T now k ∧ dueTo T now k < k := by
  induction k with
  | zero => simp [dueTo]
  | succ k ih => unfold dueTo; split <;> omega

/-- late: the jobs whose deadline is now and that have not ended. -/
def lateTo (s : RS) : Nat → List MissD
  | 0 => []
  | k + 1 => if (s.set.threads.getD k P3.none0).deadline = 0 then lateTo s k
    else if 0 ≤ numberAt s k (s.set.threads.getD k P3.none0).deadline ∧ (th s.T k).ended ≤ numberAt s k (s.set.threads.getD k P3.none0).deadline then lateTo s k ++ [⟨(k : Int), numberAt s k (s.set.threads.getD k P3.none0).deadline, s.now⟩]
    else lateTo s k
def late (s : RS) : List MissD := lateTo s s.T.length
theorem lateTo_len (s : RS) (k : Nat) : (lateTo s k).length ≤ k := by
  induction k with
  | zero => simp [lateTo]
  | succ k ih =>
    unfold lateTo
    split
    · omega
    · split
      · simp; omega
      · omega

/-- Tick: the waits whose time is now end, one by one. -/
def endOne (s : RS) : RS := if due s < 0 then s else endW s (due s).toNat (if (th s.T (due s).toNat).for_ = 4 then 0 else 2)
def endsTo (s : RS) : Nat → RS
  | 0 => s
  | k + 1 => endOne (endsTo s k)
def ends (s : RS) : RS := endsTo s s.T.length
def ticked (s : RS) : RS := { s with now := s.now + 1 }
def missing (s : RS) : RS := { ticked s with missed := s.missed ++ late (ticked s) }
def tick (s : RS) : RS := settle (release (ends (missing s)))

theorem endsTo_stop (s : RS) (k : Nat) (h : due (endsTo s k) < 0) (j : Nat) : endsTo s (k + j) = endsTo s k := by
  induction j with
  | zero => rfl
  | succ j ih =>
    show endOne (endsTo s (k + j)) = _
    rw [ih]
    unfold endOne
    rw [if_pos h]
theorem endOne_set (s : RS) : (endOne s).set = s.set ∧ (endOne s).now = s.now ∧ (endOne s).owner = s.owner ∧ (endOne s).T.length = s.T.length ∧ s.next ≤ (endOne s).next ∧ (endOne s).next ≤ s.next + 1 := by
  unfold endOne endW wake
  split
  · exact ⟨rfl, rfl, rfl, rfl, Int.le_refl _, by omega⟩
  · refine ⟨rfl, rfl, rfl, by simp, ?_, ?_⟩ <;> simp <;> omega
theorem endsTo_set (s : RS) (k : Nat) : (endsTo s k).set = s.set ∧ (endsTo s k).now = s.now ∧ (endsTo s k).owner = s.owner ∧ (endsTo s k).T.length = s.T.length ∧ s.next ≤ (endsTo s k).next ∧ (endsTo s k).next ≤ s.next + k := by
  induction k with
  | zero => exact ⟨rfl, rfl, rfl, rfl, Int.le_refl _, by simp [endsTo]⟩
  | succ k ih =>
    obtain ⟨a, b, c, d, e, f⟩ := endOne_set (endsTo s k)
    unfold endsTo
    exact ⟨a.trans ih.1, b.trans ih.2.1, c.trans ih.2.2.1, d.trans ih.2.2.2.1, by omega, by omega⟩

end R
end Go.Proofs.Ytbkfildnijjioab

/-
  How the document's kernel lies in memory.
-/
namespace Go.Proofs.Ytbkfildnijjioab
open Go.RowKit
def rtCells (x : RT) : List Value :=
  [.int .i64 x.base, .int .i64 x.at_, .int .i64 x.last, .int .i64 x.got, .int .i64 x.rel, .int .i64 x.ended, .bool x.awake, .int .i64 x.tick, .int .i64 x.wkr, .int .i64 x.for_, .int .i64 x.of_, .int .i64 x.until_, .int .i64 x.since]
def rtAll (T : List RT) : List Value := T.flatMap rtCells
theorem rtAll_length (T : List RT) : (rtAll T).length = T.length * 13 := by
  induction T with
  | nil => rfl
  | cons x T ih => simp only [rtAll, List.flatMap_cons, List.length_append] at ih ⊢; rw [ih]; simp [rtCells]; omega
theorem rtAll_get (T : List RT) (i j : Nat) (hi : i < T.length) (hj : j < 13) : (rtAll T)[i * 13 + j]? = (rtCells T[i])[j]? := by
  induction T generalizing i with
  | nil => simp at hi
  | cons x T ih =>
    have hx : (rtCells x).length = 13 := rfl
    cases i with
    | zero =>
      simp only [rtAll, List.flatMap_cons, Nat.zero_mul, Nat.zero_add, List.getElem_cons_zero]
      rw [List.getElem?_append_left (by omega)]
    | succ i =>
      have := ih i (by simpa using hi)
      simp only [rtAll, List.flatMap_cons, List.getElem_cons_succ] at this ⊢
      rw [List.getElem?_append_right (by omega), hx, show (i + 1) * 13 + j - 13 = i * 13 + j by omega]
      exact this
/-- One cell of one thread turned. -/
theorem rtAll_set (T : List RT) (i j : Nat) (hi : i < T.length) (hj : j < 13) (v : Value) (f : RT → RT) (hf : rtCells (f T[i]) = (rtCells T[i]).set j v) : (rtAll T).set (i * 13 + j) v = rtAll (T.modify i f) := by
  induction T generalizing i with
  | nil => simp at hi
  | cons x T ih =>
    have hx : (rtCells x).length = 13 := rfl
    cases i with
    | zero =>
      simp only [List.getElem_cons_zero] at hf
      simp only [rtAll, List.flatMap_cons, Nat.zero_mul, Nat.zero_add, List.modify_zero_cons]
      rw [List.set_append_left _ _ (by omega), hf]
    | succ i =>
      have := ih i (by simpa using hi) (by simpa using hf)
      simp only [rtAll, List.flatMap_cons, List.modify_succ_cons] at this ⊢
      rw [List.set_append_right _ _ (by omega), hx, show (i + 1) * 13 + j - 13 = i * 13 + j by omega, this]
def missCells (l : List MissD) : List Value := l.flatMap fun m => [.int .i64 m.thread, .int .i64 m.job, .int .i64 m.time]
theorem intCells_set (l : List Int) (i : Nat) (x : Int) : (intCells l).set i (.int .i64 x) = intCells (l.set i x) := by simp [intCells, List.map_set]
/-- Sizes and bounds of a kernel that is at work. -/
structure RGood (s : RS) : Prop where
  len : s.T.length = s.set.threads.length
  pos : 1 ≤ s.T.length
  few : s.T.length ≤ 16
  wk0 : 1 ≤ s.set.workers
  wk1 : s.set.workers ≤ 8
  own : s.owner.length = s.set.mutexes.length
  mfew : s.set.mutexes.length ≤ 8
  now0 : 0 ≤ s.set.start
  now1 : s.set.start ≤ s.now
  now2 : s.now ≤ 1000000000
  nxt0 : 0 ≤ s.next
  nxt1 : s.next ≤ 4611686018427387904
  off : ∀ t ∈ s.set.threads, 0 ≤ t.offset ∧ t.offset ≤ 1000 ∧ 0 ≤ t.period ∧ t.period ≤ 1000 ∧ 0 ≤ t.deadline ∧ t.deadline ≤ 1000
theorem blk_type {w : World} {b : Nat} {cs cs' : Array Value} {e e' : TypeId} (h : Blk w b cs e) (h' : w.heap[b]? = some (.cells cs' e' (0, 0))) : e = e' := by
  unfold Blk at h
  rw [h] at h'
  cases h'
  rfl
section
variable {F : Nat → Prop} {w w' : World} {sb : Nat} {s : RS}
end
section
variable {F : Nat → Prop} {w w' : World} {sb : Nat} {s : RS}
end
end Go.Proofs.Ytbkfildnijjioab

/-
  Memory of a kernel: appends that tell where the new list lies; the frame of a call.
-/
namespace Go.Proofs.Ytbkfildnijjioab
open Go.RowKit
/-- 'append(out, src...)', out the call's own, src nil or not; where the new list lies. -/
theorem wpList_append_src_at {P : Program} {w : World} {ops : Array Oper} {rest : List Oper} {o : Oper} {a : Act} {Q : Exit → Act → World → Prop} (hgd : o.guard = none) (s x : Operand) (t : TypeId)
    (ho : o.op = .call { callee := .builtin .append, args := #[s, x], argTypes := #[t, t] })
    (base : Nat) (e : TypeId) (i : TypeInfo) (z : Value) (size bytes : Nat) (ht : P.underlying t = some (.slice e)) (hi : P.info? e = some i) (hz : i.zero = some z)
    (hsize : i.size = size) (hby : i.bytes = bytes) (hzs : z.cells.size = size) (hsz : 0 < size)
    (v : Value) (n : Nat) (xs : List Value) (hs : a.eval s = v) (hown : w.ownsRow base e size v n xs)
    (ao : Option Addr) (m c : Nat) (news : List Value) (hx : a.eval x = .slice ao m c) (hl : news.length = m * size) (hnil : ao = none → c = 0)
    (hnews : ∀ j u, news[j]? = some u → ∃ ad, ao = some ad ∧ w.cell? (ad.add j) = some u) (h1 : ∀ u ∈ news, u.oneCell' = true)
    (h63 : n + m ≤ maxLen) (hbytes : (n + m) * bytes ≤ 140737488355328) (hbase : base ≤ w.heap.size)
    (h : ∀ v' w', w'.ownsRow base e size v' (n + m) (xs ++ news) → w.grownBy w' v.ownBlock → (v'.ownBlock = v.ownBlock ∨ v'.ownBlock = some w.heap.size) → wpList P ops Q rest (a.put o.dst v') w') : wpList P ops Q (o :: rest) a w := by
  cases ao with
  | none =>
    have hm : m = 0 := by
      cases m with
      | zero => rfl
      | succ k =>
        have hpos : 0 < news.length := by rw [hl]; exact Nat.mul_pos (Nat.succ_pos _) hsz
        obtain ⟨ad, hh, _⟩ := hnews 0 news[0] (List.getElem?_eq_getElem hpos)
        cases hh
    subst hm
    have hc := hnil rfl
    subst hc
    have hn : news = [] := by
      apply List.eq_nil_of_length_eq_zero
      rw [hl, Nat.zero_mul]
    subst hn
    refine wpList_append_own_none hgd s x t ho base e i size ht hi v n xs hs hown hx (h v w (by simpa using hown) ⟨rfl, rfl, rfl, Nat.le_refl _, fun _ _ _ => rfl⟩ (Or.inl rfl))
  | some ad =>
    refine wpList_append_own_at w hgd s x t ho base e i z size bytes ht hi hz hsize hby hzs hsz v n xs hs hown ad m c news hx hl (fun j u hj => ?_) h1 h63 hbytes hbase (fun v' w' h2 h3 _ h5 => h v' w' h2 h3 h5)
    obtain ⟨ad', hh, hcell⟩ := hnews j u hj
    cases hh
    exact hcell
/-- Of the blocks that were there, those of Q alone may have turned. -/
structure Turns (Q : Nat → Prop) (w w' : World) : Prop where
  os : w'.os = w.os
  tape : w'.tape = w.tape
  output : w'.output = w.output
  size : w.heap.size ≤ w'.heap.size
  block : ∀ k, k < w.heap.size → ¬ Q k → w'.heap[k]? = w.heap[k]?
theorem Turns.refl (Q : Nat → Prop) (w : World) : Turns Q w w := ⟨rfl, rfl, rfl, Nat.le_refl _, fun _ _ _ => rfl⟩
theorem Turns.of_only {Q : Nat → Prop} {L : List Nat} {w w' : World} (h : Only L w w') (hq : ∀ b, b ∈ L → Q b) : Turns Q w w' := ⟨h.os, h.tape, h.output, h.size, fun k hk hn => h.block k hk (fun e => hn (hq k e))⟩
theorem Turns.of_below {Q : Nat → Prop} {w w' : World} (h : Below w.heap.size w w') : Turns Q w w' := ⟨h.os, h.tape, h.output, h.size, fun k hk _ => h.block k hk⟩
/-- Two calls, the second of what the first had, or had made. -/
theorem Turns.trans {Q Q' : Nat → Prop} {w0 w1 w2 : World} (h : Turns Q w0 w1) (k : Turns Q' w1 w2) (hq : ∀ b, Q' b → Q b ∨ w0.heap.size ≤ b) : Turns Q w0 w2 :=
  ⟨k.os.trans h.os, k.tape.trans h.tape, k.output.trans h.output, Nat.le_trans h.size k.size, fun i hi hn => (k.block i (Nat.lt_of_lt_of_le hi h.size) (fun e => (hq i e).elim hn (fun h1 => by omega))).trans (h.block i hi hn)⟩
end Go.Proofs.Ytbkfildnijjioab

/-
  A line of threads in order, made by insertion; the place in it is the rank.
-/
namespace Go.Proofs.Ytbkfildnijjioab
namespace Ln

/-- t goes into a line that is told from its end. -/
def ins (ah : Nat → Nat → Bool) (t : Nat) : List Nat → List Nat
  | [] => [t]
  | x :: r => if ah t x = true then x :: ins ah t r else t :: x :: r
/-- The awake threads below k, in order, told from the end. -/
def back (ah : Nat → Nat → Bool) (aw : Nat → Bool) : Nat → List Nat
  | 0 => []
  | k + 1 => if aw k = true then ins ah k (back ah aw k) else back ah aw k
def line (ah : Nat → Nat → Bool) (aw : Nat → Bool) (n : Nat) : List Nat := (back ah aw n).reverse

theorem ins_perm (ah : Nat → Nat → Bool) (t : Nat) (l : List Nat) : (ins ah t l).Perm (t :: l) := by
  induction l with
  | nil => exact List.Perm.refl _
  | cons x r ih =>
    unfold ins
    split
    · exact (ih.cons x).trans (List.Perm.swap t x r)
    · exact List.Perm.refl _
theorem back_perm (ah : Nat → Nat → Bool) (aw : Nat → Bool) (n : Nat) : (back ah aw n).Perm ((List.range n).filter aw) := by
  induction n with
  | zero => exact List.Perm.refl _
  | succ k ih =>
    rw [List.range_succ, List.filter_append]
    unfold back
    by_cases h : aw k = true
    · rw [if_pos h]
      have e : [k].filter aw = [k] := by simp [h]
      rw [e]
      exact (ins_perm ah k _).trans ((ih.cons k).trans (List.perm_append_singleton k _).symm)
    · rw [if_neg h]
      have e : [k].filter aw = [] := by simp [h]
      rw [e, List.append_nil]
      exact ih
theorem line_perm (ah : Nat → Nat → Bool) (aw : Nat → Bool) (n : Nat) : (line ah aw n).Perm ((List.range n).filter aw) := (List.reverse_perm _).trans (back_perm ah aw n)
theorem line_mem {ah : Nat → Nat → Bool} {aw : Nat → Bool} {n t : Nat} : t ∈ line ah aw n ↔ t < n ∧ aw t = true := by
  rw [(line_perm ah aw n).mem_iff]
  simp
theorem line_nodup (ah : Nat → Nat → Bool) (aw : Nat → Bool) (n : Nat) : (line ah aw n).Nodup := (line_perm ah aw n).nodup_iff.2 (List.Nodup.sublist List.filter_sublist List.nodup_range)

/-- A strict order of the threads below n. -/
structure Strict (ah : Nat → Nat → Bool) (n : Nat) : Prop where
  asym : ∀ a b, a < n → b < n → ah a b = true → ah b a = false
  trans : ∀ a b c, a < n → b < n → c < n → ah a b = true → ah b c = true → ah a c = true
  total : ∀ a b, a < n → b < n → a ≠ b → ah a b = true ∨ ah b a = true

theorem ins_sorted {ah : Nat → Nat → Bool} {n : Nat} (st : Strict ah n) {t : Nat} (ht : t < n) {l : List Nat} (hl : ∀ x ∈ l, x < n ∧ x ≠ t) (hs : l.Pairwise (fun a b => ah b a = true)) : (ins ah t l).Pairwise (fun a b => ah b a = true) := by
  induction l with
  | nil => simp [ins]
  | cons x r ih =>
    have hx := hl x (by simp)
    obtain ⟨h1, h2⟩ := List.pairwise_cons.1 hs
    unfold ins
    split
    · rename_i h
      refine List.pairwise_cons.2 ⟨fun b hb => ?_, ih (fun y hy => hl y (by simp [hy])) h2⟩
      rcases List.mem_cons.1 ((ins_perm ah t r).mem_iff.1 hb) with rfl | hb
      · exact h
      · exact h1 b hb
    · rename_i h
      have h' : ah x t = true := by
        rcases st.total t x ht hx.1 (Ne.symm hx.2) with h3 | h3
        · exact absurd h3 h
        · exact h3
      refine List.pairwise_cons.2 ⟨fun b hb => ?_, hs⟩
      rcases List.mem_cons.1 hb with rfl | hb
      · exact h'
      · exact st.trans b x t (hl b (by simp [hb])).1 hx.1 ht (h1 b hb) h'
theorem back_sorted {ah : Nat → Nat → Bool} {aw : Nat → Bool} {n : Nat} (st : Strict ah n) (k : Nat) (hk : k ≤ n) : (back ah aw k).Pairwise (fun a b => ah b a = true) := by
  induction k with
  | zero => simp [back]
  | succ k ih =>
    unfold back
    split
    · refine ins_sorted st (by omega) (fun x hx => ?_) (ih (by omega))
      have := (back_perm ah aw k).mem_iff.1 hx
      simp at this
      omega
    · exact ih (by omega)
theorem line_sorted {ah : Nat → Nat → Bool} {aw : Nat → Bool} {n : Nat} (st : Strict ah n) : (line ah aw n).Pairwise (fun a b => ah a b = true) := by
  unfold line
  rw [List.pairwise_reverse]
  exact back_sorted st n (Nat.le_refl _)

/-- In a line in order: just those ahead of its place go ahead of one. -/
theorem count_ahead {ah : Nat → Nat → Bool} {n : Nat} (st : Strict ah n) (irr : ∀ a, ah a a = false) {l : List Nat} (hl : ∀ x ∈ l, x < n) (hs : l.Pairwise (fun a b => ah a b = true)) (i : Nat) (hi : i < l.length) : l.countP (fun u => ah u l[i]) = i := by
  induction l generalizing i with
  | nil => simp at hi
  | cons x r ih =>
    obtain ⟨h1, h2⟩ := List.pairwise_cons.1 hs
    have hx := hl x (by simp)
    cases i with
    | zero =>
      simp only [List.getElem_cons_zero]
      rw [List.countP_eq_zero.2]
      intro u hu
      rcases List.mem_cons.1 hu with rfl | hu
      · simp [irr]
      · have := st.asym x u hx (hl u (by simp [hu])) (h1 u hu)
        simp [this]
    | succ i =>
      have hi' : i < r.length := by simpa using hi
      simp only [List.getElem_cons_succ]
      rw [List.countP_cons, ih (fun y hy => hl y (by simp [hy])) h2 i hi']
      have := h1 r[i] (List.getElem_mem hi')
      simp [this]

/-- The rank of the i-th of the line is i. -/
theorem rank_line {ah : Nat → Nat → Bool} {aw : Nat → Bool} {n : Nat} (st : Strict ah n) (irr : ∀ a, ah a a = false) (i : Nat) (hi : i < (line ah aw n).length) : (List.range n).countP (fun u => aw u && ah u (line ah aw n)[i]) = i := by
  have h1 := count_ahead st irr (fun x hx => (line_mem.1 hx).1) (line_sorted (aw := aw) st) i hi
  have h2 : (List.range n).countP (fun u => aw u && ah u (line ah aw n)[i]) = ((List.range n).filter aw).countP (fun u => ah u (line ah aw n)[i]) := by
    rw [List.countP_filter]
    refine List.countP_congr fun u _ => ?_
    rw [Bool.and_comm]
  rw [h2, ← (line_perm ah aw n).countP_eq]
  exact h1

theorem line_get_inj {ah : Nat → Nat → Bool} {aw : Nat → Bool} {n i j : Nat} (hi : i < (line ah aw n).length) (hj : j < (line ah aw n).length) (h : (line ah aw n)[i] = (line ah aw n)[j]) : i = j := by
  have hn := line_nodup ah aw n
  rw [List.nodup_iff_pairwise_ne] at hn
  rcases Nat.lt_trichotomy i j with h1 | h1 | h1
  · exact absurd h (List.pairwise_iff_getElem.1 hn i j hi hj h1)
  · exact h1
  · exact absurd h.symm (List.pairwise_iff_getElem.1 hn j i hj hi h1)

end Ln
end Go.Proofs.Ytbkfildnijjioab

/-
  What package donateref computes over the document's kernel, in plain words: who is given a thing, mutexes, semaphores, queues, Pick, Waiting.
-/
namespace Go.Proofs.Ytbkfildnijjioab
namespace R

/-- first: of those who wait for a thing, whom l does not name yet, the one that is given it; -1: none. -/
def namedTo (l : List Int) (t : Int) : Nat → Bool
  | 0 => false
  | i + 1 => namedTo l t i || (l.getD i 0 == t)
def goesFirst (s : RS) (t b : Nat) : Bool := decide (Level s b < Level s t) || (decide (Level s t = Level s b) && decide ((th s.T t).since < (th s.T b).since))
def firstTo (s : RS) (what of_ : Int) (l : List Int) : Nat → Int
  | 0 => -1
  | k + 1 =>
    if (th s.T k).for_ ≠ what ∨ (th s.T k).of_ ≠ of_ then firstTo s what of_ l k
    else if namedTo l (k : Int) l.length = true then firstTo s what of_ l k
    else if firstTo s what of_ l k < 0 then (k : Int)
    else if goesFirst s k (firstTo s what of_ l k).toNat = true then (k : Int) else firstTo s what of_ l k
def first (s : RS) (what of_ : Int) (l : List Int) : Int := firstTo s what of_ l s.T.length
theorem firstTo_bd (s : RS) (what of_ : Int) (l : List Int) (k : Nat) : -1 ≤ firstTo s what of_ l k ∧ firstTo s what of_ l k < k := by
  induction k with
  | zero => simp [firstTo]
  | succ k ih =>
    unfold firstTo
    split
    · omega
    · split
      · omega
      · split
        · omega
        · split <;> omega

/-- give: a thing is given to one who waits for it. -/
def giveT (s : RS) (what of_ : Int) : Int := first s what of_ []
def giveS (s : RS) (what of_ : Int) : RS := if 0 ≤ giveT s what of_ then endW s (giveT s what of_).toNat 0 else s

/-- round: is t met when one goes from owner to owner? -/
def roundTo (s : RS) (t : Nat) : Nat → Int → Bool
  | 0, _ => false
  | n + 1, o => if o < 0 ∨ o = (t : Int) then decide (o = (t : Int)) else if (th s.T o.toNat).for_ ≠ 1 then false else roundTo s t n (s.owner.getD (th s.T o.toNat).of_.toNat 0)
def round (s : RS) (t m : Nat) : Bool := roundTo s t (s.T.length + 1) (s.owner.getD m 0)

/-- lock, unlock: the code, and the kernel behind it. -/
def lockC (s : RS) (t m : Nat) (n : Int) : Int :=
  if s.owner.getD m 0 = (t : Int) then 3
  else if (s.set.mutexes.getD m pair0).x = 1 ∧ (s.set.mutexes.getD m pair0).y < (th s.T t).base then 4
  else if s.owner.getD m 0 < 0 then 0
  else if round s t m = true then 5
  else if n = 0 then 2 else 1
def lockS (s : RS) (t m : Nat) (n : Int) : RS :=
  if lockC s t m n = 0 then { s with owner := s.owner.set m (t : Int) } else if lockC s t m n = 1 then beginW s t 1 (m : Int) n else s
def unlockC (s : RS) (t m : Nat) : Int := if s.owner.getD m 0 = (t : Int) then 0 else 6
def unlockS (s : RS) (t m : Nat) : RS := if s.owner.getD m 0 = (t : Int) then { giveS s 1 (m : Int) with owner := s.owner.set m (giveT s 1 (m : Int)) } else s

/-- stop: the job ends. -/
def stop0 (s : RS) (t : Nat) : RS := { s with T := s.T.modify t (fun x => { x with ended := x.ended + 1, at_ := 0, last := 0 }) }
def unlocksTo (s : RS) (t : Nat) : Nat → RS
  | 0 => s
  | k + 1 => unlockS (unlocksTo s t k) t k
def asleep (s : RS) (t : Nat) : RS := { s with T := s.T.modify t (fun x => { x with awake := false }) }
def stop (s : RS) (t : Nat) : RS :=
  if (th (asleep (unlocksTo (stop0 s t) t s.owner.length) t).T t).ended < (th (asleep (unlocksTo (stop0 s t) t s.owner.length) t).T t).rel then wake (asleep (unlocksTo (stop0 s t) t s.owner.length) t) t
  else asleep (unlocksTo (stop0 s t) t s.owner.length) t

/-- Down, Up. -/
def downC (s : RS) (a : Nat) (b : Int) : Int := if 0 < s.count.getD a 0 then 0 else if b = 0 then 2 else 1
def downS (s : RS) (t a : Nat) (b : Int) : RS := if downC s a b = 0 then { s with count := s.count.set a (s.count.getD a 0 - 1) } else if downC s a b = 1 then beginW s t 2 (a : Int) b else s
def upC (s : RS) (a : Nat) : Int := if 0 ≤ giveT s 2 (a : Int) then 0 else if s.count.getD a 0 = (s.set.sems.getD a pair0).y then 7 else 0
def upS (s : RS) (a : Nat) : RS := if 0 ≤ giveT s 2 (a : Int) then giveS s 2 (a : Int) else if s.count.getD a 0 = (s.set.sems.getD a pair0).y then s else { s with count := s.count.set a (s.count.getD a 0 + 1) }

/-- Send, Recv. -/
def boxAt (s : RS) (a : Nat) : List Int := s.box.getD a []
def gets (s : RS) (t : Nat) (v : Int) : RS := { s with T := s.T.modify t (fun x => { x with got := v }) }
def recvC (s : RS) (a : Nat) (b : Int) : Int := if 0 < (boxAt s a).length then 0 else if b = 0 then 2 else 1
def recvS (s : RS) (t a : Nat) (b : Int) : RS := if recvC s a b = 0 then { gets s t ((boxAt s a).getD 0 0) with box := s.box.set a ((boxAt s a).drop 1) } else if recvC s a b = 1 then beginW s t 3 (a : Int) b else s
def sendC (s : RS) (a : Nat) : Int := if 0 ≤ giveT s 3 (a : Int) then 0 else if ((boxAt s a).length : Int) = s.set.queues.getD a 0 then 7 else 0
def sendS (s : RS) (a : Nat) (b : Int) : RS := if 0 ≤ giveT s 3 (a : Int) then gets (giveS s 3 (a : Int)) (giveT s 3 (a : Int)).toNat b else if ((boxAt s a).length : Int) = s.set.queues.getD a 0 then s else { s with box := s.box.set a (boxAt s a ++ [b]) }

/-- does: an instruction that ends with a code which becomes Last. -/
def doesC (s : RS) (t : Nat) (i : InstrD) : Int :=
  if i.op = 5 then 1 else if i.op = 6 then lockC s t i.a.toNat i.b else if i.op = 7 then unlockC s t i.a.toNat else if i.op = 8 then downC s i.a.toNat i.b
  else if i.op = 9 then upC s i.a.toNat else if i.op = 10 then sendC s i.a.toNat else if i.op = 11 then recvC s i.a.toNat i.b else 0
def doesS (s : RS) (t : Nat) (i : InstrD) : RS :=
  if i.op = 2 then { s with next := s.next + 1, T := s.T.modify t (fun x => { x with tick := s.next + 1 }) }
  else if i.op = 4 then { s with T := s.T.modify i.a.toNat (fun x => { x with base := i.b }) }
  else if i.op = 5 then beginW s t 4 0 i.a else if i.op = 6 then lockS s t i.a.toNat i.b else if i.op = 7 then unlockS s t i.a.toNat else if i.op = 8 then downS s t i.a.toNat i.b
  else if i.op = 9 then upS s i.a.toNat else if i.op = 10 then sendS s i.a.toNat i.b else if i.op = 11 then recvS s t i.a.toNat i.b else s

/-- Pick: the thread on a worker does what stands at its At. -/
def instrAt (s : RS) (t : Nat) : InstrD := ((s.set.threads.getD t P3.none0).code)[(th s.T t).at_.toNat]?.getD ⟨0, 0, 0⟩
def toAt (s : RS) (t : Nat) (a : Int) : RS := { s with T := s.T.modify t (fun x => { x with at_ := a }) }
def toLast (s : RS) (t : Nat) (c : Int) : RS := { s with T := s.T.modify t (fun x => { x with last := c }) }
def actC (s : RS) (t : Nat) : Int := if (instrAt s t).op = 0 ∨ (instrAt s t).op = 3 then 0 else doesC (toAt s t ((th s.T t).at_ + 1)) t (instrAt s t)
def actS (s : RS) (t : Nat) : RS :=
  if (instrAt s t).op = 0 then stop s t
  else if (instrAt s t).op = 3 then (if (th s.T t).last = (instrAt s t).a then toAt s t (instrAt s t).b else toAt s t ((th s.T t).at_ + 1))
  else toLast (doesS (toAt s t ((th s.T t).at_ + 1)) t (instrAt s t)) t (actC s t)
def pickS (s : RS) (w : Int) : RS := if w < 0 ∨ s.set.workers ≤ w then s else if on s.T w < 0 then s else settle (actS s (on s.T w).toNat)

def pickE (s : RS) (w : Int) : Int := if w < 0 ∨ s.set.workers ≤ w then 7 else 0
def pickT (s : RS) (w : Int) : Int := if w < 0 ∨ s.set.workers ≤ w then 0 else if on s.T w < 0 then -1 else on s.T w
def pickA (s : RS) (w : Int) : Int := if w < 0 ∨ s.set.workers ≤ w then 0 else if on s.T w < 0 then 0 else (th s.T (on s.T w).toNat).at_
def pickC (s : RS) (w : Int) : Int := if w < 0 ∨ s.set.workers ≤ w then 0 else if on s.T w < 0 then 0 else actC s (on s.T w).toNat

/-- Waiting: in the order in which they would be given it. -/
def waitTo (s : RS) (what of_ : Int) : Nat → List Int
  | 0 => []
  | k + 1 => if first s what of_ (waitTo s what of_ k) < 0 then waitTo s what of_ k else waitTo s what of_ k ++ [first s what of_ (waitTo s what of_ k)]
def waiting (s : RS) (what of_ : Int) : List Int := waitTo s what of_ (s.T.length + 1)

end R
end Go.Proofs.Ytbkfildnijjioab

/-
  What holds of the document's kernel behind every step.
-/
namespace Go.Proofs.Ytbkfildnijjioab

/-- Of every thread, by its number. -/
def AllT (P : Nat → RT → Prop) (T : List RT) : Prop := ∀ t (ht : t < T.length), P t T[t]
theorem AllT.modify {P Q : Nat → RT → Prop} {T : List RT} {t : Nat} {f : RT → RT} (h : AllT P T) (hq : ∀ i x, i ≠ t → P i x → Q i x) (ht : ∀ (hl : t < T.length), P t T[t] → Q t (f T[t])) : AllT Q (T.modify t f) := by
  intro i hi
  have hi' : i < T.length := by simpa using hi
  rw [List.getElem_modify]
  by_cases e : t = i
  · subst e
    rw [if_pos rfl]
    exact ht hi' (h t hi')
  · rw [if_neg e]
    exact hq i _ (fun e' => e e'.symm) (h i hi')
theorem AllT.mono {P Q : Nat → RT → Prop} {T : List RT} (h : AllT P T) (hq : ∀ i x, P i x → Q i x) : AllT Q T := fun i hi => hq i _ (h i hi)

namespace R
/-- How many jobs of a thread are released by a time. -/
def relBy (S : SetD) (t : Nat) (now : Int) : Int :=
  if now - S.start - (S.threads.getD t P3.none0).offset < 0 then 0 else if (S.threads.getD t P3.none0).period = 0 then 1 else (now - S.start - (S.threads.getD t P3.none0).offset) / (S.threads.getD t P3.none0).period + 1
def codeLen (S : SetD) (t : Nat) : Nat := (S.threads.getD t P3.none0).code.length
end R

/-- A thread between two steps (but for its worker). -/
structure TOk (S : SetD) (now : Int) (nO : Nat) (t : Nat) (x : RT) : Prop where
  at0 : 0 ≤ x.at_
  at1 : x.at_ ≤ R.codeLen S t
  e0 : 0 ≤ x.ended
  e1 : x.ended ≤ x.rel
  r0 : x.rel = R.relBy S t now
  aw : x.awake = true → x.ended < x.rel
  fw : x.for_ ≠ 0 → x.ended < x.rel ∧ x.awake = false
  id : x.awake = false → x.for_ = 0 → x.ended = x.rel
  of1 : x.for_ = 1 → 0 ≤ x.of_ ∧ x.of_ < nO
  fr : 0 ≤ x.for_ ∧ x.for_ ≤ 4

theorem relBy_bd {S : SetD} {t : Nat} {now : Int} (h0 : 0 ≤ S.start) (h1 : S.start ≤ now + 1) (h2 : now ≤ 1000000000) (ho : 0 ≤ (S.threads.getD t P3.none0).offset) (hp : 0 ≤ (S.threads.getD t P3.none0).period) : 0 ≤ R.relBy S t now ∧ R.relBy S t now ≤ 1000000001 := by
  unfold R.relBy
  split
  · omega
  · split
    · omega
    · have h3 := Int.ediv_nonneg (a := now - S.start - (S.threads.getD t P3.none0).offset) (b := (S.threads.getD t P3.none0).period) (by omega) hp
      have h4 := Int.ediv_le_self (a := now - S.start - (S.threads.getD t P3.none0).offset) (S.threads.getD t P3.none0).period (by omega)
      omega

/-- The job that has its time just now is the next one; if none has, none more is released. -/
theorem relBy_step (S : SetD) (t : Nat) (now : Int) (hp : 0 ≤ (S.threads.getD t P3.none0).period) :
    R.relBy S t now = (if 0 ≤ R.number (S.threads.getD t P3.none0).period (now - S.start - (S.threads.getD t P3.none0).offset - 0) then R.number (S.threads.getD t P3.none0).period (now - S.start - (S.threads.getD t P3.none0).offset - 0) + 1 else R.relBy S t (now - 1)) ∧
    (0 ≤ R.number (S.threads.getD t P3.none0).period (now - S.start - (S.threads.getD t P3.none0).offset - 0) → R.relBy S t (now - 1) = R.number (S.threads.getD t P3.none0).period (now - S.start - (S.threads.getD t P3.none0).offset - 0)) := by
  unfold R.relBy
  rw [show now - 1 - S.start - (S.threads.getD t P3.none0).offset = (now - S.start - (S.threads.getD t P3.none0).offset) - 1 by omega, show now - S.start - (S.threads.getD t P3.none0).offset - 0 = now - S.start - (S.threads.getD t P3.none0).offset by omega]
  generalize now - S.start - (S.threads.getD t P3.none0).offset = g
  generalize (S.threads.getD t P3.none0).period = p at *
  unfold R.number
  by_cases hg : g < 0
  · have : g - 1 < 0 := by omega
    simp [hg, this]
  · by_cases hp0 : p = 0
    · by_cases hg0 : g = 0
      · simp [hp0, hg0]
      · have h1 : ¬ g - 1 < 0 := by omega
        simp [hg, hp0, hg0, h1]
    · have hpp : 0 < p := by omega
      by_cases hm : g % p = 0
      · have hd : 0 ≤ g / p := Int.ediv_nonneg (by omega) hp
        have hprev : (if g - 1 < 0 then (0 : Int) else (g - 1) / p + 1) = g / p := by
          have e : g = p * (g / p) := by have := Int.mul_ediv_add_emod g p; omega
          by_cases hq : g / p = 0
          · rw [hq] at e
            have : g - 1 < 0 := by omega
            rw [if_pos this, hq]
          · have hq1 : 1 ≤ g / p := by omega
            have : ¬ g - 1 < 0 := by
              have := Int.mul_le_mul_of_nonneg_left hq1 hp
              omega
            rw [if_neg this]
            have : (g - 1) / p = g / p - 1 := by
              have h5 : g - 1 = (p - 1) + p * (g / p - 1) := by
                rw [Int.mul_sub, Int.mul_one]
                omega
              rw [h5, Int.add_mul_ediv_left _ _ (by omega), Int.ediv_eq_zero_of_lt (by omega) (by omega)]
              omega
            omega
        simp [hg, hp0, hm, hd]
        exact hprev
      · have h1 : ¬ g - 1 < 0 := by
          intro hh
          have : g = 0 := by omega
          rw [this] at hm
          simp at hm
        have h2 : (g - 1) / p = g / p := by
          have e := Int.mul_ediv_add_emod g p
          have hr0 := Int.emod_nonneg g hp0
          have hr1 := Int.emod_lt_of_pos g hpp
          have h5 : g - 1 = (g % p - 1) + p * (g / p) := by omega
          rw [h5, Int.add_mul_ediv_left _ _ (by omega), Int.ediv_eq_zero_of_lt (by omega) (by omega)]
          omega
        simp [hg, hp0, hm, h1, h2]

/-! settle turns workers alone -/
theorem th_ext {T : List RT} {t : Nat} (ht : t < T.length) : R.th T t = T[t] := by simp [R.th, List.getD, ht]
theorem clearTo_th (at_ : Nat → Int) (n : Int) (T : List RT) (k t : Nat) (ht : t < T.length) : R.th (R.clearTo at_ n T k) t = { R.th T t with wkr := if t < k ∧ at_ t = n then -1 else (R.th T t).wkr } := by
  induction k with
  | zero => simp [R.clearTo]
  | succ k ih =>
    unfold R.clearTo
    by_cases h : at_ k = n
    · rw [if_pos h, R.th_setW, R.clearTo_length, ih]
      by_cases e : t = k
      · subst e
        simp [ht, h]
      · have e1 : (t < k + 1 ∧ at_ t = n) ↔ (t < k ∧ at_ t = n) := by omega
        simp [e, e1]
    · rw [if_neg h, ih]
      have e1 : (t < k + 1 ∧ at_ t = n) ↔ (t < k ∧ at_ t = n) := by
        constructor
        · rintro ⟨h1, h2⟩
          refine ⟨?_, h2⟩
          rcases Nat.lt_or_ge t k with h3 | h3
          · exact h3
          · have : t = k := by omega
            subst this
            exact absurd h2 h
        · omega
      simp [e1]
theorem seatIn_th (at_ : Nat → Int) (n r : Nat) (T : List RT) (k t : Nat) : ∃ w, R.th (R.seatIn at_ n r T k) t = { R.th T t with wkr := w } ∧ (at_ t ≠ (r : Int) → w = (R.th T t).wkr) := by
  induction k with
  | zero => exact ⟨_, rfl, fun _ => rfl⟩
  | succ k ih =>
    obtain ⟨w, hw, hn⟩ := ih
    unfold R.seatIn
    split
    · rename_i hc
      rw [R.th_setW]
      split
      · rename_i h2
        refine ⟨_, by rw [hw], fun h3 => ?_⟩
        rw [← h2.1] at hc
        exact absurd hc.1 h3
      · exact ⟨w, hw, hn⟩
    · exact ⟨w, hw, hn⟩
theorem seatTo_th (at_ : Nat → Int) (n : Nat) (T : List RT) (r t : Nat) : ∃ w, R.th (R.seatTo at_ n T r) t = { R.th T t with wkr := w } ∧ ((∀ r' : Nat, r' < r → at_ t ≠ (r' : Int)) → w = (R.th T t).wkr) := by
  induction r with
  | zero => exact ⟨_, rfl, fun _ => rfl⟩
  | succ r ih =>
    obtain ⟨w, hw, hn⟩ := ih
    obtain ⟨w', hw', hn'⟩ := seatIn_th at_ n r (R.seatTo at_ n T r) T.length t
    unfold R.seatTo
    rw [hw'] 
    refine ⟨w', by rw [hw], fun h => ?_⟩
    rw [hn' (h r (by omega)), hw]
    exact hn fun r' hr' => h r' (by omega)
theorem settle_th (l : List Int) (T : List RT) (n : Nat) (t : Nat) (ht : t < T.length) : ∃ w, R.th (R.settleT l T n) t = { R.th T t with wkr := w } ∧ (0 ≤ w → (R.th T t).awake = true) := by
  unfold R.settleT
  obtain ⟨w, hw, hn⟩ := seatTo_th (R.place l T n) n (R.clearTo (R.place l T n) n T T.length) n t
  have hc := clearTo_th (R.place l T n) n T T.length t ht
  refine ⟨w, by rw [hw, hc], fun h0 => ?_⟩
  rcases Bool.eq_false_or_eq_true (R.th T t).awake with h | h
  · exact h
  · exfalso
    have hp : R.place l T n t = (n : Int) := by
      unfold R.place
      rw [if_neg (by rw [h]; decide)]
    have := hn (fun r hr => by rw [hp]; omega)
    rw [hc] at this
    simp [ht, hp] at this
    omega

end Go.Proofs.Ytbkfildnijjioab
