/-
  Lists in memory with the blocks in which they lie told by a predicate F; what a call may turn ('Only').
-/
import Derived.Test.YthnjabnlocpoaaaCopyMem
namespace Go.Proofs.Ythnjabnlocpoaaa
open Go.RowKit

def PairsF (F : Nat → Prop) (w : World) (ao : Option Addr) (l : List PairD) : Prop :=
  ∀ i (h : i < l.length), ∃ b o, ao = some ⟨b, o, none⟩ ∧ F b ∧ w.cell? ⟨b, o + i * 2, none⟩ = some (.int .i64 l[i].x) ∧ w.cell? ⟨b, o + i * 2 + 1, none⟩ = some (.int .i64 l[i].y)
def IntsF (F : Nat → Prop) (w : World) (ao : Option Addr) (l : List Int) : Prop :=
  ∀ i (h : i < l.length), ∃ b o, ao = some ⟨b, o, none⟩ ∧ F b ∧ w.cell? ⟨b, o + i, none⟩ = some (.int .i64 l[i])
def InstrsF (F : Nat → Prop) (w : World) (ao : Option Addr) (l : List InstrD) : Prop :=
  ∀ i (h : i < l.length), ∃ b o, ao = some ⟨b, o, none⟩ ∧ F b ∧ w.cell? ⟨b, o + i * 3, none⟩ = some (.int .i64 l[i].op) ∧ w.cell? ⟨b, o + i * 3 + 1, none⟩ = some (.int .i64 l[i].a) ∧
    w.cell? ⟨b, o + i * 3 + 2, none⟩ = some (.int .i64 l[i].b)
def ThreadsF (F : Nat → Prop) (w : World) (ao : Option Addr) (l : List ThreadD) : Prop :=
  ∀ i (h : i < l.length), ∃ b o cv cc, ao = some ⟨b, o, none⟩ ∧ F b ∧ w.cell? ⟨b, o + i * 5, none⟩ = some (.int .i64 l[i].base) ∧ w.cell? ⟨b, o + i * 5 + 1, none⟩ = some (.int .i64 l[i].offset) ∧
    w.cell? ⟨b, o + i * 5 + 2, none⟩ = some (.int .i64 l[i].period) ∧ w.cell? ⟨b, o + i * 5 + 3, none⟩ = some (.int .i64 l[i].deadline) ∧
    w.cell? ⟨b, o + i * 5 + 4, none⟩ = some (.slice cv l[i].code.length cc) ∧ InstrsF F w cv l[i].code ∧ (cv = none → cc = 0)

structure SetF (F : Nat → Prop) (w : World) (tv mv sv qv : Option Addr) (S : SetD) : Prop where
  threads : ThreadsF F w tv S.threads
  mutexes : PairsF F w mv S.mutexes
  sems : PairsF F w sv S.sems
  queues : IntsF F w qv S.queues

section
variable {F G : Nat → Prop} {w w' : World} {ao : Option Addr}

theorem same_cell (hs : ∀ b, F b → w'.heap[b]? = w.heap[b]?) {b : Nat} (hb : F b) (o : Nat) : w'.cell? ⟨b, o, none⟩ = w.cell? ⟨b, o, none⟩ := World.cell?_of_block (hs b hb)

theorem PairsF.same {l : List PairD} (h : PairsF F w ao l) (hs : ∀ b, F b → w'.heap[b]? = w.heap[b]?) : PairsF F w' ao l := by
  intro i hi
  obtain ⟨b, o, ha, hf, hx, hy⟩ := h i hi
  exact ⟨b, o, ha, hf, (same_cell hs hf _).trans hx, (same_cell hs hf _).trans hy⟩
theorem IntsF.same {l : List Int} (h : IntsF F w ao l) (hs : ∀ b, F b → w'.heap[b]? = w.heap[b]?) : IntsF F w' ao l := by
  intro i hi
  obtain ⟨b, o, ha, hf, hx⟩ := h i hi
  exact ⟨b, o, ha, hf, (same_cell hs hf _).trans hx⟩
theorem InstrsF.same {l : List InstrD} (h : InstrsF F w ao l) (hs : ∀ b, F b → w'.heap[b]? = w.heap[b]?) : InstrsF F w' ao l := by
  intro i hi
  obtain ⟨b, o, ha, hf, hx, hy, hz⟩ := h i hi
  exact ⟨b, o, ha, hf, (same_cell hs hf _).trans hx, (same_cell hs hf _).trans hy, (same_cell hs hf _).trans hz⟩
theorem ThreadsF.same {l : List ThreadD} (h : ThreadsF F w ao l) (hs : ∀ b, F b → w'.heap[b]? = w.heap[b]?) : ThreadsF F w' ao l := by
  intro i hi
  obtain ⟨b, o, cv, cc, ha, hf, h0, h1, h2, h3, h4, hc, hn⟩ := h i hi
  exact ⟨b, o, cv, cc, ha, hf, (same_cell hs hf _).trans h0, (same_cell hs hf _).trans h1, (same_cell hs hf _).trans h2, (same_cell hs hf _).trans h3, (same_cell hs hf _).trans h4, hc.same hs, hn⟩

theorem PairsF.mono {l : List PairD} (h : PairsF F w ao l) (hs : ∀ b, F b → G b) : PairsF G w ao l := by
  intro i hi
  obtain ⟨b, o, ha, hf, r⟩ := h i hi
  exact ⟨b, o, ha, hs b hf, r⟩
theorem IntsF.mono {l : List Int} (h : IntsF F w ao l) (hs : ∀ b, F b → G b) : IntsF G w ao l := by
  intro i hi
  obtain ⟨b, o, ha, hf, r⟩ := h i hi
  exact ⟨b, o, ha, hs b hf, r⟩
theorem InstrsF.mono {l : List InstrD} (h : InstrsF F w ao l) (hs : ∀ b, F b → G b) : InstrsF G w ao l := by
  intro i hi
  obtain ⟨b, o, ha, hf, r⟩ := h i hi
  exact ⟨b, o, ha, hs b hf, r⟩
theorem ThreadsF.mono {l : List ThreadD} (h : ThreadsF F w ao l) (hs : ∀ b, F b → G b) : ThreadsF G w ao l := by
  intro i hi
  obtain ⟨b, o, cv, cc, ha, hf, h0, h1, h2, h3, h4, hc, hn⟩ := h i hi
  exact ⟨b, o, cv, cc, ha, hs b hf, h0, h1, h2, h3, h4, hc.mono hs, hn⟩

theorem PairsF.toIn {l : List PairD} {B : Nat} (h : PairsF F w ao l) (hs : ∀ b, F b → b < B) : PairsIn B w ao l := by
  intro i hi
  obtain ⟨b, o, ha, hf, r⟩ := h i hi
  exact ⟨b, o, ha, hs b hf, r⟩
theorem IntsF.toIn {l : List Int} {B : Nat} (h : IntsF F w ao l) (hs : ∀ b, F b → b < B) : IntsIn B w ao l := by
  intro i hi
  obtain ⟨b, o, ha, hf, r⟩ := h i hi
  exact ⟨b, o, ha, hs b hf, r⟩
theorem InstrsF.toIn {l : List InstrD} {B : Nat} (h : InstrsF F w ao l) (hs : ∀ b, F b → b < B) : InstrsIn B w ao l := by
  intro i hi
  obtain ⟨b, o, ha, hf, r⟩ := h i hi
  exact ⟨b, o, ha, hs b hf, r⟩
theorem ThreadsF.toIn {l : List ThreadD} {B : Nat} (h : ThreadsF F w ao l) (hs : ∀ b, F b → b < B) : ThreadsIn B w ao l := by
  intro i hi
  obtain ⟨b, o, cv, cc, ha, hf, h0, h1, h2, h3, h4, hc, hn⟩ := h i hi
  exact ⟨b, o, cv, cc, ha, hs b hf, h0, h1, h2, h3, h4, hc.toIn hs, hn⟩
theorem PairsIn.toF {l : List PairD} {B : Nat} (h : PairsIn B w ao l) (hs : ∀ b, b < B → F b) : PairsF F w ao l := by
  intro i hi
  obtain ⟨b, o, ha, hf, r⟩ := h i hi
  exact ⟨b, o, ha, hs b hf, r⟩
theorem IntsIn.toF {l : List Int} {B : Nat} (h : IntsIn B w ao l) (hs : ∀ b, b < B → F b) : IntsF F w ao l := by
  intro i hi
  obtain ⟨b, o, ha, hf, r⟩ := h i hi
  exact ⟨b, o, ha, hs b hf, r⟩
theorem InstrsIn.toF {l : List InstrD} {B : Nat} (h : InstrsIn B w ao l) (hs : ∀ b, b < B → F b) : InstrsF F w ao l := by
  intro i hi
  obtain ⟨b, o, ha, hf, r⟩ := h i hi
  exact ⟨b, o, ha, hs b hf, r⟩
theorem ThreadsIn.toF {l : List ThreadD} {B : Nat} (h : ThreadsIn B w ao l) (hs : ∀ b, b < B → F b) : ThreadsF F w ao l := by
  intro i hi
  obtain ⟨b, o, cv, cc, ha, hf, h0, h1, h2, h3, h4, hc, hn⟩ := h i hi
  exact ⟨b, o, cv, cc, ha, hs b hf, h0, h1, h2, h3, h4, hc.toF hs, hn⟩
end

section
variable {F G : Nat → Prop} {w w' : World} {tv mv sv qv : Option Addr} {S : SetD}
theorem SetF.same (h : SetF F w tv mv sv qv S) (hs : ∀ b, F b → w'.heap[b]? = w.heap[b]?) : SetF F w' tv mv sv qv S := ⟨h.threads.same hs, h.mutexes.same hs, h.sems.same hs, h.queues.same hs⟩
theorem SetF.mono (h : SetF F w tv mv sv qv S) (hs : ∀ b, F b → G b) : SetF G w tv mv sv qv S := ⟨h.threads.mono hs, h.mutexes.mono hs, h.sems.mono hs, h.queues.mono hs⟩
theorem SetF.toIn {B : Nat} (h : SetF F w tv mv sv qv S) (hs : ∀ b, F b → b < B) : SetIn B w tv mv sv qv S := ⟨h.threads.toIn hs, h.mutexes.toIn hs, h.sems.toIn hs, h.queues.toIn hs⟩
theorem SetIn.toF {B : Nat} (h : SetIn B w tv mv sv qv S) (hs : ∀ b, b < B → F b) : SetF F w tv mv sv qv S := ⟨h.threads.toF hs, h.mutexes.toF hs, h.sems.toF hs, h.queues.toF hs⟩
end

theorem PairsIn.newF {B : Nat} {w : World} {ao : Option Addr} {l : List PairD} {lo hi : Nat} (h : PairsIn B w ao l) (hn : NewAt lo hi ao) : PairsF (fun b => lo ≤ b ∧ b < hi) w ao l := by
  intro i hi'
  obtain ⟨b, o, ha, _, r⟩ := h i hi'
  obtain ⟨g, hg, h1, h2⟩ := hn _ ha
  cases hg
  exact ⟨b, 0, ha, ⟨h1, h2⟩, r⟩
theorem IntsIn.newF {B : Nat} {w : World} {ao : Option Addr} {l : List Int} {lo hi : Nat} (h : IntsIn B w ao l) (hn : NewAt lo hi ao) : IntsF (fun b => lo ≤ b ∧ b < hi) w ao l := by
  intro i hi'
  obtain ⟨b, o, ha, _, r⟩ := h i hi'
  obtain ⟨g, hg, h1, h2⟩ := hn _ ha
  cases hg
  exact ⟨b, 0, ha, ⟨h1, h2⟩, r⟩
theorem InstrsIn.newF {B : Nat} {w : World} {ao : Option Addr} {l : List InstrD} {lo hi : Nat} (h : InstrsIn B w ao l) (hn : NewAt lo hi ao) : InstrsF (fun b => lo ≤ b ∧ b < hi) w ao l := by
  intro i hi'
  obtain ⟨b, o, ha, _, r⟩ := h i hi'
  obtain ⟨g, hg, h1, h2⟩ := hn _ ha
  cases hg
  exact ⟨b, 0, ha, ⟨h1, h2⟩, r⟩

theorem ThreadsF.of_rows {B : Nat} {w : World} {vt : Value} {l : List ThreadD} {cs : Nat → Value} (h : ThRows B w vt l l.length cs) :
    ∃ ao cap, vt = .slice ao l.length cap ∧ (ao = none → cap = 0) ∧ ThreadsF (fun b => B ≤ b ∧ b < w.heap.size) w ao l := by
  obtain ⟨h1, h2⟩ := h
  obtain ⟨ao, cap, rfl, hn, ha⟩ := owns_cells h1
  refine ⟨ao, cap, rfl, fun hh => (hn hh).2, fun i hi => ?_⟩
  cases ao with
  | none => have := (hn rfl).1; omega
  | some a =>
    obtain ⟨g, rfl, hb, hlt, _, hc⟩ := ha a rfl
    obtain ⟨g0, g1, g2, g3, g4⟩ := thCells_get l cs l.length i hi hi
    obtain ⟨cv, cc, hcv, hcn, hci, hna⟩ := InstrsIn.of_owns (h2 i hi hi)
    rw [hcv] at g4
    exact ⟨g, 0, cv, cc, rfl, ⟨hb, hlt⟩, by rw [hc _ (by omega)]; simpa using g0, by rw [hc _ (by omega)]; simpa using g1, by rw [hc _ (by omega)]; simpa using g2, by rw [hc _ (by omega)]; simpa using g3,
      by rw [hc _ (by omega)]; simpa using g4, hci.newF hna, hcn⟩
theorem ThreadsF.of_rows_later {B : Nat} {w : World} {vt : Value} {l : List ThreadD} {cs : Nat → Value} (h : ThRows B w vt l l.length cs) :
    ∃ ao cap, vt = .slice ao l.length cap ∧ (ao = none → cap = 0) ∧ ∀ w', (∀ g, B ≤ g → g < w.heap.size → w'.heap[g]? = w.heap[g]?) → ThreadsF (fun b => B ≤ b ∧ b < w'.heap.size) w' ao l := by
  obtain ⟨ao, cap, rfl, hn, _⟩ := ThreadsF.of_rows h
  refine ⟨ao, cap, rfl, hn, fun w' hs => ?_⟩
  obtain ⟨ao', cap', he, _, hin⟩ := ThreadsF.of_rows (h.same hs)
  cases he
  exact hin

theorem bdrewN {B : Nat} {a w : World} (h : Below B a w) (n : Nat) : Below B a (w.drewN n) := ⟨h.os, h.tape, h.output, h.size, h.block⟩

/-- Of the blocks that were there, those of L alone may have turned. -/
structure Only (L : List Nat) (w w' : World) : Prop where
  os : w'.os = w.os
  tape : w'.tape = w.tape
  output : w'.output = w.output
  size : w.heap.size ≤ w'.heap.size
  block : ∀ k, k < w.heap.size → k ∉ L → w'.heap[k]? = w.heap[k]?

section
variable {L M : List Nat} {w0 w w' : World}
theorem Only.refl (L : List Nat) (w : World) : Only L w w := ⟨rfl, rfl, rfl, Nat.le_refl _, fun _ _ _ => rfl⟩
theorem Only.trans (h : Only L w0 w) (k : Only L w w') : Only L w0 w' :=
  ⟨k.os.trans h.os, k.tape.trans h.tape, k.output.trans h.output, Nat.le_trans h.size k.size, fun i hi hc => (k.block i (Nat.lt_of_lt_of_le hi h.size) hc).trans (h.block i hi hc)⟩
theorem Only.mono (h : Only L w w') (hs : ∀ b, b ∈ L → b ∈ M) : Only M w w' := ⟨h.os, h.tape, h.output, h.size, fun k hk hc => h.block k hk (fun e => hc (hs k e))⟩
theorem Only.of_below (h : Below w.heap.size w w') : Only L w w' := ⟨h.os, h.tape, h.output, h.size, fun k hk _ => h.block k hk⟩
/-- What lies in blocks that are none of L's lies on. -/
theorem Only.below {B : Nat} (h : Only L w w') (h1 : B ≤ w.heap.size) (h2 : ∀ b, b ∈ L → B ≤ b) : Below B w w' := ⟨h.os, h.tape, h.output, h.size, fun k hk => h.block k (by omega) (fun e => by have := h2 k e; omega)⟩
theorem Only.alloc (h : Only L w0 w) (o : Obj) : Only L w0 (w.alloc o) := h.trans (Only.of_below ((Below.refl _ _).alloc (Nat.le_refl _) o))
theorem Only.drewN (h : Only L w0 w) (n : Nat) : Only L w0 (w.drewN n) := ⟨h.os, h.tape, h.output, h.size, h.block⟩
theorem Only.setCell (h : Only L w0 w) {p : Addr} (hp : p.block ∈ L ∨ w0.heap.size ≤ p.block) (u : Value) : Only L w0 (w.setCell p u) := by
  refine ⟨h.os, h.tape, h.output, by simpa [World.setCell] using h.size, fun k hk hc => ?_⟩
  rw [Below.heap_setCell _ _ _ _ (fun e => ?_)]
  · exact h.block k hk hc
  · subst e
    rcases hp with hp | hp
    · exact hc hp
    · omega
/-- Behind a callee that makes memory of its own alone. -/
theorem Only.via (h : Only L w0 w) (k : Below w.heap.size w w') : Only L w0 w' := h.trans (Only.of_below k)
theorem Only.same (h : Only L w w') {b : Nat} (hb : b < w.heap.size) (hn : b ∉ L) : w'.heap[b]? = w.heap[b]? := h.block b hb hn
/-- A call that was given blocks of L' which are new or of L. -/
theorem Only.more (h : Only L w0 w) (k : Only M w w') (hs : ∀ b, b ∈ M → b ∈ L ∨ w0.heap.size ≤ b) : Only L w0 w' :=
  ⟨k.os.trans h.os, k.tape.trans h.tape, k.output.trans h.output, Nat.le_trans h.size k.size, fun i hi hc => (k.block i (Nat.lt_of_lt_of_le hi h.size) (fun e => (hs i e).elim hc (fun h1 => by omega))).trans (h.block i hi hc)⟩
end

theorem Blk.only {w w' : World} {b : Nat} {cs : Array Value} {e : TypeId} (h : Blk w b cs e) {L : List Nat} (hb : Only L w w') (hn : b ∉ L) : Blk w' b cs e := by
  have hl := h.lt
  unfold Blk at h ⊢
  rw [hb.block b hl hn]
  exact h

end Go.Proofs.Ythnjabnlocpoaaa
