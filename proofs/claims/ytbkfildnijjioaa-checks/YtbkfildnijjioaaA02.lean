import Derived.Test.YtbkfildnijjioaaA01
import Derived.Deep.DeepCutAuto
/-
  Lists in memory with the blocks in which they lie told by a predicate F; what a call may turn ('Only').
-/
namespace Go.Proofs.Ytbkfildnijjioaa
open Go.RowKit

def PairsF (F : Nat → Prop) (w : World) (ao : Option Addr) (l : List PairD) : Prop :=
  ∀ i (h : i < l.length), ∃ b o, ao = some ⟨b, o, none⟩ ∧ F b ∧ w.cell? ⟨b, o + i * 2, none⟩ = some (.int .i64 l[i].x) ∧ w.cell? ⟨b, o + i * 2 + 1, none⟩ = some (.int .i64 l[i].y)
def IntsF (F : Nat → Prop) (w : World) (ao : Option Addr) (l : List Int) : Prop :=
  ∀ i (h : i < l.length), ∃ b o, ao = some ⟨b, o, none⟩ ∧ F b ∧ w.cell? ⟨b, o + i, none⟩ = some (.int .i64 l[i])
def InstrsF (F : Nat → Prop) (w : World) (ao : Option Addr) (l : List InstrD) : Prop :=
  ∀ i (h : i < l.length), ∃ b o, ao = some ⟨b, o, none⟩ ∧ F b ∧ w.cell? ⟨b, o + i * 3, none⟩ = some (.int .i64 l[i].op) ∧ w.cell? ⟨b, o + i * 3 + 1, none⟩ = some (.int .i64 l[i].a) ∧
    w.cell? ⟨b, o + i * 3 + 2, none⟩ = some (.int .i64 l[i].b)
def ThreadsF (F : Nat → Prop) (w : World) (ao : Option Addr) (l : List ThreadD) : Prop :=
  ∀ i (h : i < l.length), ∃ b o cv cc, ao = some ⟨b, o, none⟩ ∧ F b ∧ w.cell? ⟨b, o + i * 5, none⟩ = some (.int .i64 l[i].base) ∧ w.cell? ⟨b, o + i * 5 + 1, none⟩ = some (.int .i64 l[i].offset) ∧
    w.cell? ⟨b, o + i * 5 + 2, none⟩ = some (.int .i64 l[i].period) ∧ w.cell? ⟨b, o + i * 5 + 3, none⟩ = some (.int .i64 l[i].deadline) ∧
    w.cell? ⟨b, o + i * 5 + 4, none⟩ = some (.slice cv l[i].code.length cc) ∧ InstrsF F w cv l[i].code ∧ (cv = none → cc = 0)

structure SetF (F : Nat → Prop) (w : World) (tv mv sv qv : Option Addr) (S : SetD) : Prop where
  threads : ThreadsF F w tv S.threads
  mutexes : PairsF F w mv S.mutexes
  sems : PairsF F w sv S.sems
  queues : IntsF F w qv S.queues

section
variable {F G : Nat → Prop} {w w' : World} {ao : Option Addr}

theorem same_cell (hs : ∀ b, F b → w'.heap[b]? = w.heap[b]?) {b : Nat} (hb : F b) (o : Nat) : w'.cell? ⟨b, o, none⟩ = w.cell? ⟨b, o, none⟩ := World.cell?_of_block (hs b hb)

theorem PairsF.same {l : List PairD} (h : PairsF F w ao l) (hs : ∀ b, F b → w'.heap[b]? = w.heap[b]?) : PairsF F w' ao l := by
  intro i hi
  obtain ⟨b, o, ha, hf, hx, hy⟩ := h i hi
  exact ⟨b, o, ha, hf, (same_cell hs hf _).trans hx, (same_cell hs hf _).trans hy⟩
theorem IntsF.same {l : List Int} (h : IntsF F w ao l) (hs : ∀ b, F b → w'.heap[b]? = w.heap[b]?) : IntsF F w' ao l := by
  intro i hi
  obtain ⟨b, o, ha, hf, hx⟩ := h i hi
  exact ⟨b, o, ha, hf, (same_cell hs hf _).trans hx⟩
theorem InstrsF.same {l : List InstrD} (h : InstrsF F w ao l) (hs : ∀ b, F b → w'.heap[b]? = w.heap[b]?) : InstrsF F w' ao l := by
  intro i hi
  obtain ⟨b, o, ha, hf, hx, hy, hz⟩ := h i hi
  exact ⟨b, o, ha, hf, (same_cell hs hf _).trans hx, (same_cell hs hf _).trans hy, (same_cell hs hf _).trans hz⟩
theorem ThreadsF.same {l : List ThreadD} (h : ThreadsF F w ao l) (hs : ∀ b, F b → w'.heap[b]? = w.heap[b]?) : ThreadsF F w' ao l := by
  intro i hi
  obtain ⟨b, o, cv, cc, ha, hf, h0, h1, h2, h3, h4, hc, hn⟩ := h i hi
  exact ⟨b, o, cv, cc, ha, hf, (same_cell hs hf _).trans h0, (same_cell hs hf _).trans h1, (same_cell hs hf _).trans h2, (same_cell hs hf _).trans h3, (same_cell hs hf _).trans h4, hc.same hs, hn⟩

theorem PairsF.mono {l : List PairD} (h : PairsF F w ao l) (hs : ∀ b, F b → G b) : PairsF G w ao l := by
  intro i hi
  obtain ⟨b, o, ha, hf, r⟩ := h i hi
  exact ⟨b, o, ha, hs b hf, r⟩
theorem IntsF.mono {l : List Int} (h : IntsF F w ao l) (hs : ∀ b, F b → G b) : IntsF G w ao l := by
  intro i hi
  obtain ⟨b, o, ha, hf, r⟩ := h i hi
  exact ⟨b, o, ha, hs b hf, r⟩
theorem InstrsF.mono {l : List InstrD} (h : InstrsF F w ao l) (hs : ∀ b, F b → G b) : InstrsF G w ao l := by
  intro i hi
  obtain ⟨b, o, ha, hf, r⟩ := h i hi
  exact ⟨b, o, ha, hs b hf, r⟩
theorem ThreadsF.mono {l : List ThreadD} (h : ThreadsF F w ao l) (hs : ∀ b, F b → G b) : ThreadsF G w ao l := by
  intro i hi
  obtain ⟨b, o, cv, cc, ha, hf, h0, h1, h2, h3, h4, hc, hn⟩ := h i hi
  exact ⟨b, o, cv, cc, ha, hs b hf, h0, h1, h2, h3, h4, hc.mono hs, hn⟩

theorem PairsF.toIn {l : List PairD} {B : Nat} (h : PairsF F w ao l) (hs : ∀ b, F b → b < B) : PairsIn B w ao l := by
  intro i hi
  obtain ⟨b, o, ha, hf, r⟩ := h i hi
  exact ⟨b, o, ha, hs b hf, r⟩
theorem IntsF.toIn {l : List Int} {B : Nat} (h : IntsF F w ao l) (hs : ∀ b, F b → b < B) : IntsIn B w ao l := by
  intro i hi
  obtain ⟨b, o, ha, hf, r⟩ := h i hi
  exact ⟨b, o, ha, hs b hf, r⟩
theorem InstrsF.toIn {l : List InstrD} {B : Nat} (h : InstrsF F w ao l) (hs : ∀ b, F b → b < B) : InstrsIn B w ao l := by
  intro i hi
  obtain ⟨b, o, ha, hf, r⟩ := h i hi
  exact ⟨b, o, ha, hs b hf, r⟩
theorem ThreadsF.toIn {l : List ThreadD} {B : Nat} (h : ThreadsF F w ao l) (hs : ∀ b, F b → b < B) : ThreadsIn B w ao l := by
  intro i hi
  obtain ⟨b, o, cv, cc, ha, hf, h0, h1, h2, h3, h4, hc, hn⟩ := h i hi
  exact ⟨b, o, cv, cc, ha, hs b hf, h0, h1, h2, h3, h4, hc.toIn hs, hn⟩
theorem PairsIn.toF {l : List PairD} {B : Nat} (h : PairsIn B w ao l) (hs : ∀ b, b < B → F b) : PairsF F w ao l := by
  intro i hi
  obtain ⟨b, o, ha, hf, r⟩ := h i hi
  exact ⟨b, o, ha, hs b hf, r⟩
theorem IntsIn.toF {l : List Int} {B : Nat} (h : IntsIn B w ao l) (hs : ∀ b, b < B → F b) : IntsF F w ao l := by
  intro i hi
  obtain ⟨b, o, ha, hf, r⟩ := h i hi
  exact ⟨b, o, ha, hs b hf, r⟩
theorem InstrsIn.toF {l : List InstrD} {B : Nat} (h : InstrsIn B w ao l) (hs : ∀ b, b < B → F b) : InstrsF F w ao l := by
  intro i hi
  obtain ⟨b, o, ha, hf, r⟩ := h i hi
  exact ⟨b, o, ha, hs b hf, r⟩
theorem ThreadsIn.toF {l : List ThreadD} {B : Nat} (h : ThreadsIn B w ao l) (hs : ∀ b, b < B → F b) : ThreadsF F w ao l := by
  intro i hi
  obtain ⟨b, o, cv, cc, ha, hf, h0, h1, h2, h3, h4, hc, hn⟩ := h i hi
  exact ⟨b, o, cv, cc, ha, hs b hf, h0, h1, h2, h3, h4, hc.toF hs, hn⟩
end

section
variable {F G : Nat → Prop} {w w' : World} {tv mv sv qv : Option Addr} {S : SetD}
theorem SetF.same (h : SetF F w tv mv sv qv S) (hs : ∀ b, F b → w'.heap[b]? = w.heap[b]?) : SetF F w' tv mv sv qv S := ⟨h.threads.same hs, h.mutexes.same hs, h.sems.same hs, h.queues.same hs⟩
theorem SetF.mono (h : SetF F w tv mv sv qv S) (hs : ∀ b, F b → G b) : SetF G w tv mv sv qv S := ⟨h.threads.mono hs, h.mutexes.mono hs, h.sems.mono hs, h.queues.mono hs⟩
theorem SetF.toIn {B : Nat} (h : SetF F w tv mv sv qv S) (hs : ∀ b, F b → b < B) : SetIn B w tv mv sv qv S := ⟨h.threads.toIn hs, h.mutexes.toIn hs, h.sems.toIn hs, h.queues.toIn hs⟩
theorem SetIn.toF {B : Nat} (h : SetIn B w tv mv sv qv S) (hs : ∀ b, b < B → F b) : SetF F w tv mv sv qv S := ⟨h.threads.toF hs, h.mutexes.toF hs, h.sems.toF hs, h.queues.toF hs⟩
end

theorem PairsIn.newF {B : Nat} {w : World} {ao : Option Addr} {l : List PairD} {lo hi : Nat} (h : PairsIn B w ao l) (hn : NewAt lo hi ao) : PairsF (fun b => lo ≤ b ∧ b < hi) w ao l := by
  intro i hi'
  obtain ⟨b, o, ha, _, r⟩ := h i hi'
  obtain ⟨g, hg, h1, h2⟩ := hn _ ha
  cases hg
  exact ⟨b, 0, ha, ⟨h1, h2⟩, r⟩
theorem IntsIn.newF {B : Nat} {w : World} {ao : Option Addr} {l : List Int} {lo hi : Nat} (h : IntsIn B w ao l) (hn : NewAt lo hi ao) : IntsF (fun b => lo ≤ b ∧ b < hi) w ao l := by
  intro i hi'
  obtain ⟨b, o, ha, _, r⟩ := h i hi'
  obtain ⟨g, hg, h1, h2⟩ := hn _ ha
  cases hg
  exact ⟨b, 0, ha, ⟨h1, h2⟩, r⟩
theorem InstrsIn.newF {B : Nat} {w : World} {ao : Option Addr} {l : List InstrD} {lo hi : Nat} (h : InstrsIn B w ao l) (hn : NewAt lo hi ao) : InstrsF (fun b => lo ≤ b ∧ b < hi) w ao l := by
  intro i hi'
  obtain ⟨b, o, ha, _, r⟩ := h i hi'
  obtain ⟨g, hg, h1, h2⟩ := hn _ ha
  cases hg
  exact ⟨b, 0, ha, ⟨h1, h2⟩, r⟩

theorem ThreadsF.of_rows {B : Nat} {w : World} {vt : Value} {l : List ThreadD} {cs : Nat → Value} (h : ThRows B w vt l l.length cs) :
    ∃ ao cap, vt = .slice ao l.length cap ∧ (ao = none → cap = 0) ∧ ThreadsF (fun b => B ≤ b ∧ b < w.heap.size) w ao l := by
  obtain ⟨h1, h2⟩ := h
  obtain ⟨ao, cap, rfl, hn, ha⟩ := owns_cells h1
  refine ⟨ao, cap, rfl, fun hh => (hn hh).2, fun i hi => ?_⟩
  cases ao with
  | none => have := (hn rfl).1; omega
  | some a =>
    obtain ⟨g, rfl, hb, hlt, _, hc⟩ := ha a rfl
    obtain ⟨g0, g1, g2, g3, g4⟩ := thCells_get l cs l.length i hi hi
    obtain ⟨cv, cc, hcv, hcn, hci, hna⟩ := InstrsIn.of_owns (h2 i hi hi)
    rw [hcv] at g4
    exact ⟨g, 0, cv, cc, rfl, ⟨hb, hlt⟩, by rw [hc _ (by omega)]; simpa using g0, by rw [hc _ (by omega)]; simpa using g1, by rw [hc _ (by omega)]; simpa using g2, by rw [hc _ (by omega)]; simpa using g3,
      by rw [hc _ (by omega)]; simpa using g4, hci.newF hna, hcn⟩
theorem ThreadsF.of_rows_later {B : Nat} {w : World} {vt : Value} {l : List ThreadD} {cs : Nat → Value} (h : ThRows B w vt l l.length cs) :
    ∃ ao cap, vt = .slice ao l.length cap ∧ (ao = none → cap = 0) ∧ ∀ w', (∀ g, B ≤ g → g < w.heap.size → w'.heap[g]? = w.heap[g]?) → ThreadsF (fun b => B ≤ b ∧ b < w'.heap.size) w' ao l := by
  obtain ⟨ao, cap, rfl, hn, _⟩ := ThreadsF.of_rows h
  refine ⟨ao, cap, rfl, hn, fun w' hs => ?_⟩
  obtain ⟨ao', cap', he, _, hin⟩ := ThreadsF.of_rows (h.same hs)
  cases he
  exact hin

theorem bdrewN {B : Nat} {a w : World} (h : Below B a w) (n : Nat) : Below B a (w.drewN n) := ⟨h.os, h.tape, h.output, h.size, h.block⟩

/-- Of the blocks that were there, those of L alone may have turned. -/
structure Only (L : List Nat) (w w' : World) : Prop where
  os : w'.os = w.os
  tape : w'.tape = w.tape
  output : w'.output = w.output
  size : w.heap.size ≤ w'.heap.size
  block : ∀ k, k < w.heap.size → k ∉ L → w'.heap[k]? = w.heap[k]?

section
variable {L M : List Nat} {w0 w w' : World}
theorem Only.refl (L : List Nat) (w : World) : Only L w w := ⟨rfl, rfl, rfl, Nat.le_refl _, fun _ _ _ => rfl⟩
theorem Only.trans (h : Only L w0 w) (k : Only L w w') : Only L w0 w' :=
  ⟨k.os.trans h.os, k.tape.trans h.tape, k.output.trans h.output, Nat.le_trans h.size k.size, fun i hi hc => (k.block i (Nat.lt_of_lt_of_le hi h.size) hc).trans (h.block i hi hc)⟩
theorem Only.mono (h : Only L w w') (hs : ∀ b, b ∈ L → b ∈ M) : Only M w w' := ⟨h.os, h.tape, h.output, h.size, fun k hk hc => h.block k hk (fun e => hc (hs k e))⟩
theorem Only.of_below (h : Below w.heap.size w w') : Only L w w' := ⟨h.os, h.tape, h.output, h.size, fun k hk _ => h.block k hk⟩
/-- What lies in blocks that are none of L's lies on. -/
theorem Only.below {B : Nat} (h : Only L w w') (h1 : B ≤ w.heap.size) (h2 : ∀ b, b ∈ L → B ≤ b) : Below B w w' := ⟨h.os, h.tape, h.output, h.size, fun k hk => h.block k (by omega) (fun e => by have := h2 k e; omega)⟩
theorem Only.alloc (h : Only L w0 w) (o : Obj) : Only L w0 (w.alloc o) := h.trans (Only.of_below ((Below.refl _ _).alloc (Nat.le_refl _) o))
theorem Only.drewN (h : Only L w0 w) (n : Nat) : Only L w0 (w.drewN n) := ⟨h.os, h.tape, h.output, h.size, h.block⟩
theorem Only.setCell (h : Only L w0 w) {p : Addr} (hp : p.block ∈ L ∨ w0.heap.size ≤ p.block) (u : Value) : Only L w0 (w.setCell p u) := by
  refine ⟨h.os, h.tape, h.output, by simpa [World.setCell] using h.size, fun k hk hc => ?_⟩
  rw [Below.heap_setCell _ _ _ _ (fun e => ?_)]
  · exact h.block k hk hc
  · subst e
    rcases hp with hp | hp
    · exact hc hp
    · omega
/-- Behind a callee that makes memory of its own alone. -/
theorem Only.via (h : Only L w0 w) (k : Below w.heap.size w w') : Only L w0 w' := h.trans (Only.of_below k)
theorem Only.same (h : Only L w w') {b : Nat} (hb : b < w.heap.size) (hn : b ∉ L) : w'.heap[b]? = w.heap[b]? := h.block b hb hn
/-- A call that was given blocks of L' which are new or of L. -/
theorem Only.more (h : Only L w0 w) (k : Only M w w') (hs : ∀ b, b ∈ M → b ∈ L ∨ w0.heap.size ≤ b) : Only L w0 w' :=
  ⟨k.os.trans h.os, k.tape.trans h.tape, k.output.trans h.output, Nat.le_trans h.size k.size, fun i hi hc => (k.block i (Nat.lt_of_lt_of_le hi h.size) (fun e => (hs i e).elim hc (fun h1 => by omega))).trans (h.block i hi hc)⟩
end

theorem Blk.only {w w' : World} {b : Nat} {cs : Array Value} {e : TypeId} (h : Blk w b cs e) {L : List Nat} (hb : Only L w w') (hn : b ∉ L) : Blk w' b cs e := by
  have hl := h.lt
  unfold Blk at h ⊢
  rw [hb.block b hl hn]
  exact h

end Go.Proofs.Ytbkfildnijjioaa

/-
  Walks: donateref.Copy: the same set in lists of its own.
-/
namespace Go.Proofs.Ytbkfildnijjioaa
open Go.RowKit
/-- What of a set's sizes Go's memory bears. -/
structure Fits (S : SetD) : Prop where
  threads : S.threads.length * 56 ≤ 140737488351232
  mutexes : S.mutexes.length * 16 ≤ 140737488351232
  sems : S.sems.length * 16 ≤ 140737488351232
  queues : S.queues.length * 8 ≤ 140737488351232
  codes : ∀ j (h : j < S.threads.length), S.threads[j].code.length * 24 ≤ 140737488351232
end Go.Proofs.Ytbkfildnijjioaa

/-
  Walks: donateref.Copy: the same set in lists of its own.
-/
namespace Go.Proofs.Ytbkfildnijjioaa
open Go.RowKit
set_option maxHeartbeats 1000000 in
theorem copy_any (tv mv sv qv : Option Addr) (tc mc sc qc : Nat) (S : SetD) (w : World) (hS : SetIn w.heap.size w tv mv sv qv S) (hF : Fits S) (hnil : (tv = none → tc = 0) ∧ (mv = none → mc = 0) ∧ (sv = none → sc = 0) ∧ (qv = none → qc = 0)) :
    Calls Try.prog 5 #[.agg #[.int .i64 S.workers, .int .i64 S.start, .slice tv S.threads.length tc, .slice mv S.mutexes.length mc, .slice sv S.sems.length sc, .slice qv S.queues.length qc]] w fun e w' =>
      ∃ tv' mv' sv' qv' tc' mc' sc' qc', e = .returned (.agg #[.int .i64 S.workers, .int .i64 S.start, .slice tv' S.threads.length tc', .slice mv' S.mutexes.length mc', .slice sv' S.sems.length sc', .slice qv' S.queues.length qc']) ∧
        SetF (fun b => w.heap.size ≤ b ∧ b < w'.heap.size) w' tv' mv' sv' qv' S ∧ ((tv' = none → tc' = 0) ∧ (mv' = none → mc' = 0) ∧ (sv' = none → sc' = 0) ∧ (qv' = none → qc' = 0)) ∧ Below w.heap.size w w' := by
  have HS : Hid (SetIn w.heap.size w tv mv sv qv S) := hS
  obtain ⟨ht0, hm0, hs0, hq0⟩ := hnil
  have HN1 : Hid (tv = none → tc = 0) := ht0
  have HN2 : Hid (mv = none → mc = 0) := hm0
  have HN3 : Hid (sv = none → sc = 0) := hs0
  have HN4 : Hid (qv = none → qc = 0) := hq0
  have HF : Hid (Fits S) := hF
  clear hS ht0 hm0 hs0 hq0 hF
  obtain ⟨i1, hi1, hz10, hz11, hz12⟩ := info_parts Try.infoMutex
  obtain ⟨i2, hi2, hz20, hz21, hz22⟩ := info_parts Try.infoSem
  obtain ⟨i3, hi3, hz30, hz31, hz32⟩ := info_parts Try.infoInt
  have HI1 : Hid (Try.prog.info? 66 = some i1 ∧ i1.zero = some (.agg #[.int .i64 0, .int .i64 0]) ∧ i1.size = 2 ∧ i1.bytes = 16) := ⟨hi1, hz10, hz11, hz12⟩
  have HI2 : Hid (Try.prog.info? 68 = some i2 ∧ i2.zero = some (.agg #[.int .i64 0, .int .i64 0]) ∧ i2.size = 2 ∧ i2.bytes = 16) := ⟨hi2, hz20, hz21, hz22⟩
  have HI3 : Hid (Try.prog.info? 3 = some i3 ∧ i3.zero = some (.int .i64 0) ∧ i3.size = 1 ∧ i3.bytes = 8) := ⟨hi3, hz30, hz31, hz32⟩
  clear hi1 hz10 hz11 hz12 hi2 hz20 hz21 hz22 hi3 hz30 hz31 hz32
  go_enter Try.func5, Try.ntmps5
  go_upto_region 2 with fail
  have hM0 := CM.start w S (.slice tv S.threads.length tc) (.slice mv S.mutexes.length mc) (.slice sv S.sems.length sc) (.slice qv S.queues.length qc)
  generalize ((w.alloc (.cells #[.int .i64 S.workers, .int .i64 S.start, .slice tv S.threads.length tc, .slice mv S.mutexes.length mc, .slice sv S.sems.length sc, .slice qv S.queues.length qc] 27)).alloc (.cells #[.int .i64 0, .int .i64 0, .slice none 0 0, .slice none 0 0, .slice none 0 0, .slice none 0 0] 27)).alloc (.cells #[.int .i64 S.workers, .int .i64 S.start, .slice none 0 0, .slice none 0 0, .slice none 0 0, .slice none 0 0] 27) = w0 at hM0 ⊢
  have M0 : Hid (CM w S (.slice tv S.threads.length tc) (.slice mv S.mutexes.length mc) (.slice sv S.sems.length sc) (.slice qv S.queues.length qc) w0 (.slice none 0 0) (.slice none 0 0) (.slice none 0 0) (.slice none 0 0)) := hM0
  clear hM0
  have x3 := M0.out.x.cell 3
  have c3 := M0.out.c.cell 3
  simp at x3 c3
  go_upto_region 3 with (at_builtin; refine wpList_append_src rfl (.tmp 13) (.tmp 15) 23 rfl (w.heap.size + 3) 66 i1 (.agg #[.int .i64 0, .int .i64 0]) 2 16 Try.underlying23 HI1.out.1 HI1.out.2.1 HI1.out.2.2.1 HI1.out.2.2.2 rfl (by decide) (.slice none 0 0) 0 [] rfl (World.ownsRow_nil _ _ _ _) mv S.mutexes.length mc (pairCells S.mutexes) rfl (pairCells_length _) HN2.out (HS.out.stays M0.out.below).mutexes.src (pairCells_one _) (by have := HF.out.mutexes; unfold maxLen; omega) (by have := HF.out.mutexes; omega) M0.out.size ?_; intro v1 w1 hown1 hg1; simp only [Nat.zero_add, List.nil_append] at hown1; obtain ⟨mv', mc', rfl, hnm, hpm, ham⟩ := PairsIn.of_owns hown1; have M1 : Hid (CM w S (.slice tv S.threads.length tc) (.slice mv S.mutexes.length mc) (.slice sv S.sems.length sc) (.slice qv S.queues.length qc) w1 (.slice none 0 0) (.slice none 0 0) (.slice none 0 0) (.slice none 0 0)) := M0.out.grown hg1 (by simp [Value.ownBlock]); have NM := hid hnm; clear hnm; have z1 := M1.out.c.frozen 3; have y1 := M1.out.c.cell 3; simp at y1; have HA1 : Hid (NewAt (w.heap.size + 3) w1.heap.size mv') := ham; have HP1 : Hid (PairsIn w1.heap.size w1 mv' S.mutexes) := hpm; have G1 : Hid (w0.grownBy w1 none) := hg1; clear hown1 hg1 ham hpm)
  clear x3 c3 z1 y1 M0
  have hM2 := M1.out.set3 (.slice mv' S.mutexes.length mc')
  have hP := HP1.out.keep HA1.out (setCell_same w1 ⟨w.heap.size + 1 + 1, 3, none⟩ (.slice mv' S.mutexes.length mc') _ _ (by show w.heap.size + 1 + 1 < _; omega)) (Nat.le_of_eq (setCell_size _ _ _).symm)
  have hA := HA1.out
  rw [← setCell_size w1 ⟨w.heap.size + 1 + 1, 3, none⟩ (.slice mv' S.mutexes.length mc')] at hA
  clear M1 HA1 HP1 G1 
  generalize w1.setCell ⟨w.heap.size + 1 + 1, 3, none⟩ (.slice mv' S.mutexes.length mc') = w2 at hM2 hP hA ⊢
  have M2 : Hid (CM w S (.slice tv S.threads.length tc) (.slice mv S.mutexes.length mc) (.slice sv S.sems.length sc) (.slice qv S.queues.length qc) w2 (.slice none 0 0) (.slice mv' S.mutexes.length mc') (.slice none 0 0) (.slice none 0 0)) := hM2
  have P2mv : Hid (PairsIn w2.heap.size w2 mv' S.mutexes) := hP
  have A2mv : Hid (NewAt (w.heap.size + 3) w2.heap.size mv') := hA
  clear hM2 hP hA
  have x4 := M2.out.x.cell 4
  have c4 := M2.out.c.cell 4
  simp at x4 c4
  go_upto_region 4 with (at_builtin; refine wpList_append_src rfl (.tmp 19) (.tmp 21) 24 rfl (w.heap.size + 3) 68 i2 (.agg #[.int .i64 0, .int .i64 0]) 2 16 Try.underlying24 HI2.out.1 HI2.out.2.1 HI2.out.2.2.1 HI2.out.2.2.2 rfl (by decide) (.slice none 0 0) 0 [] rfl (World.ownsRow_nil _ _ _ _) sv S.sems.length sc (pairCells S.sems) rfl (pairCells_length _) HN3.out (HS.out.stays M2.out.below).sems.src (pairCells_one _) (by have := HF.out.sems; unfold maxLen; omega) (by have := HF.out.sems; omega) M2.out.size ?_; intro v1 w3 hown1 hg1; simp only [Nat.zero_add, List.nil_append] at hown1; obtain ⟨sv', sc', rfl, hnm, hpm, ham⟩ := PairsIn.of_owns hown1; have M3 : Hid (CM w S (.slice tv S.threads.length tc) (.slice mv S.mutexes.length mc) (.slice sv S.sems.length sc) (.slice qv S.queues.length qc) w3 (.slice none 0 0) (.slice mv' S.mutexes.length mc') (.slice none 0 0) (.slice none 0 0)) := M2.out.grown hg1 (by simp [Value.ownBlock]); have NS := hid hnm; clear hnm; have z1 := M3.out.c.frozen 4; have y1 := M3.out.c.cell 4; simp at y1; have HA1 : Hid (NewAt (w.heap.size + 3) w3.heap.size sv') := ham; have HP1 : Hid (PairsIn w3.heap.size w3 sv' S.sems) := hpm; have G3 : Hid (w2.grownBy w3 none) := hg1; clear hown1 hg1 ham hpm)
  clear x4 c4 z1 y1 M2
  have hM4 := M3.out.set4 (.slice sv' S.sems.length sc')
  have hP := HP1.out.keep HA1.out (setCell_same w3 ⟨w.heap.size + 1 + 1, 4, none⟩ (.slice sv' S.sems.length sc') _ _ (by show w.heap.size + 1 + 1 < _; omega)) (Nat.le_of_eq (setCell_size _ _ _).symm)
  have hA := HA1.out
  rw [← setCell_size w3 ⟨w.heap.size + 1 + 1, 4, none⟩ (.slice sv' S.sems.length sc')] at hA
  have hP0 := (P2mv.out.keep A2mv.out (grown_same G3.out _ _ (Nat.le_refl _) (by simp)) G3.out.size).keep (A2mv.out.mono G3.out.size) (setCell_same w3 ⟨w.heap.size + 1 + 1, 4, none⟩ (.slice sv' S.sems.length sc') _ _ (by show w.heap.size + 1 + 1 < _; omega)) (Nat.le_of_eq (setCell_size _ _ _).symm)
  have hA0 := A2mv.out.mono G3.out.size
  rw [← setCell_size w3 ⟨w.heap.size + 1 + 1, 4, none⟩ (.slice sv' S.sems.length sc')] at hA0
  clear M3 HA1 HP1 G3 P2mv A2mv
  generalize w3.setCell ⟨w.heap.size + 1 + 1, 4, none⟩ (.slice sv' S.sems.length sc') = w4 at hM4 hP hA hP0 hA0 ⊢
  have M4 : Hid (CM w S (.slice tv S.threads.length tc) (.slice mv S.mutexes.length mc) (.slice sv S.sems.length sc) (.slice qv S.queues.length qc) w4 (.slice none 0 0) (.slice mv' S.mutexes.length mc') (.slice sv' S.sems.length sc') (.slice none 0 0)) := hM4
  have P4sv : Hid (PairsIn w4.heap.size w4 sv' S.sems) := hP
  have A4sv : Hid (NewAt (w.heap.size + 3) w4.heap.size sv') := hA
  have P4mv : Hid (PairsIn w4.heap.size w4 mv' S.mutexes) := hP0
  have A4mv : Hid (NewAt (w.heap.size + 3) w4.heap.size mv') := hA0
  clear hM4 hP hA hP0 hA0
  have x5 := M4.out.x.cell 5
  have c5 := M4.out.c.cell 5
  simp at x5 c5
  go_upto_region 5 with (at_builtin; refine wpList_append_src rfl (.tmp 25) (.tmp 27) 25 rfl (w.heap.size + 3) 3 i3 (.int .i64 0) 1 8 Try.underlying25 HI3.out.1 HI3.out.2.1 HI3.out.2.2.1 HI3.out.2.2.2 rfl (by decide) (.slice none 0 0) 0 [] rfl (World.ownsRow_nil _ _ _ _) qv S.queues.length qc (intCells S.queues) rfl (intCells_length _) HN4.out (HS.out.stays M4.out.below).queues.src (intCells_one _) (by have := HF.out.queues; unfold maxLen; omega) (by have := HF.out.queues; omega) M4.out.size ?_; intro v1 w5 hown1 hg1; simp only [Nat.zero_add, List.nil_append] at hown1; obtain ⟨qv', qc', rfl, hnm, hpm, ham⟩ := IntsIn.of_owns hown1; have M5 : Hid (CM w S (.slice tv S.threads.length tc) (.slice mv S.mutexes.length mc) (.slice sv S.sems.length sc) (.slice qv S.queues.length qc) w5 (.slice none 0 0) (.slice mv' S.mutexes.length mc') (.slice sv' S.sems.length sc') (.slice none 0 0)) := M4.out.grown hg1 (by simp [Value.ownBlock]); have NQ := hid hnm; clear hnm; have z1 := M5.out.c.frozen 5; have y1 := M5.out.c.cell 5; simp at y1; have HA1 : Hid (NewAt (w.heap.size + 3) w5.heap.size qv') := ham; have HP1 : Hid (IntsIn w5.heap.size w5 qv' S.queues) := hpm; have G5 : Hid (w4.grownBy w5 none) := hg1; clear hown1 hg1 ham hpm)
  clear x5 c5 z1 y1 M4
  have hM6 := M5.out.set5 (.slice qv' S.queues.length qc')
  have hP := HP1.out.keep HA1.out (setCell_same w5 ⟨w.heap.size + 1 + 1, 5, none⟩ (.slice qv' S.queues.length qc') _ _ (by show w.heap.size + 1 + 1 < _; omega)) (Nat.le_of_eq (setCell_size _ _ _).symm)
  have hA := HA1.out
  rw [← setCell_size w5 ⟨w.heap.size + 1 + 1, 5, none⟩ (.slice qv' S.queues.length qc')] at hA
  have hP0 := (P4mv.out.keep A4mv.out (grown_same G5.out _ _ (Nat.le_refl _) (by simp)) G5.out.size).keep (A4mv.out.mono G5.out.size) (setCell_same w5 ⟨w.heap.size + 1 + 1, 5, none⟩ (.slice qv' S.queues.length qc') _ _ (by show w.heap.size + 1 + 1 < _; omega)) (Nat.le_of_eq (setCell_size _ _ _).symm)
  have hA0 := A4mv.out.mono G5.out.size
  rw [← setCell_size w5 ⟨w.heap.size + 1 + 1, 5, none⟩ (.slice qv' S.queues.length qc')] at hA0
  have hP1 := (P4sv.out.keep A4sv.out (grown_same G5.out _ _ (Nat.le_refl _) (by simp)) G5.out.size).keep (A4sv.out.mono G5.out.size) (setCell_same w5 ⟨w.heap.size + 1 + 1, 5, none⟩ (.slice qv' S.queues.length qc') _ _ (by show w.heap.size + 1 + 1 < _; omega)) (Nat.le_of_eq (setCell_size _ _ _).symm)
  have hA1 := A4sv.out.mono G5.out.size
  rw [← setCell_size w5 ⟨w.heap.size + 1 + 1, 5, none⟩ (.slice qv' S.queues.length qc')] at hA1
  clear M5 HA1 HP1 G5 P4mv A4mv P4sv A4sv
  generalize w5.setCell ⟨w.heap.size + 1 + 1, 5, none⟩ (.slice qv' S.queues.length qc') = w6 at hM6 hP hA hP0 hA0 hP1 hA1 ⊢
  have M6 : Hid (CM w S (.slice tv S.threads.length tc) (.slice mv S.mutexes.length mc) (.slice sv S.sems.length sc) (.slice qv S.queues.length qc) w6 (.slice none 0 0) (.slice mv' S.mutexes.length mc') (.slice sv' S.sems.length sc') (.slice qv' S.queues.length qc')) := hM6
  have P6qv : Hid (IntsIn w6.heap.size w6 qv' S.queues) := hP
  have A6qv : Hid (NewAt (w.heap.size + 3) w6.heap.size qv') := hA
  have P6mv : Hid (PairsIn w6.heap.size w6 mv' S.mutexes) := hP0
  have A6mv : Hid (NewAt (w.heap.size + 3) w6.heap.size mv') := hA0
  have P6sv : Hid (PairsIn w6.heap.size w6 sv' S.sems) := hP1
  have A6sv : Hid (NewAt (w.heap.size + 3) w6.heap.size sv') := hA1
  clear hM6 hP hA hP0 hA0 hP1 hA1
  have hM6 := M6.out
  have hlow : w.heap.size + 3 ≤ w6.heap.size := hM6.size
  clear HN2 HN3 HN4 HI1 HI2 HI3
  obtain ⟨i4, hi4, hz40, hz41, hz42⟩ := info_parts Try.infoInstr
  obtain ⟨i5, hi5, hz50, hz51, hz52⟩ := info_parts Try.infoThread
  have HI4 : Hid (Try.prog.info? 48 = some i4 ∧ i4.zero = some (.agg #[.int .i64 0, .int .i64 0, .int .i64 0]) ∧ i4.size = 3 ∧ i4.bytes = 24) := ⟨hi4, hz40, hz41, hz42⟩
  have HI5 : Hid (Try.prog.info? 41 = some i5 ∧ i5.zero = some (.agg #[.int .i64 0, .int .i64 0, .int .i64 0, .int .i64 0, .slice none 0 0]) ∧ i5.size = 5 ∧ i5.bytes = 56) := ⟨hi5, hz50, hz51, hz52⟩
  clear hi4 hz40 hz41 hz42 hi5 hz50 hz51 hz52 hM6
  go_wp2
  go_loopw [4] (fun i wr => ∃ (k : Nat) (vt : Value) (cs : Nat → Value), k ≤ S.threads.length ∧ i = .int .i64 k ∧ CM w S (.slice tv S.threads.length tc) (.slice mv S.mutexes.length mc) (.slice sv S.sems.length sc) (.slice qv S.queues.length qc) wr vt (.slice mv' S.mutexes.length mc') (.slice sv' S.sems.length sc') (.slice qv' S.queues.length qc') ∧ But w6.heap.size (w.heap.size + 1 + 1) w6 wr ∧ ThRows w6.heap.size wr vt S.threads k cs) (fun i _ => S.threads.length - (intOf i).toNat)
  case atStart => exact ⟨0, _, fun _ => .slice none 0 0, Nat.zero_le _, rfl, M6.out, But.refl _ _ _, ThRows.zero _ _ _ _⟩
  case round =>
    obtain ⟨k, vt, cs, hk, rfl, hM, hB, hR⟩ := hrel
    have M : Hid (CM w S (.slice tv S.threads.length tc) (.slice mv S.mutexes.length mc) (.slice sv S.sems.length sc) (.slice qv S.queues.length qc) wr vt (.slice mv' S.mutexes.length mc') (.slice sv' S.sems.length sc') (.slice qv' S.queues.length qc')) := hM
    have BB : Hid (But w6.heap.size (w.heap.size + 1 + 1) w6 wr) := hB
    have RR : Hid (ThRows w6.heap.size wr vt S.threads k cs) := hR
    clear hM hB hR
    have x2 := M.out.x.cell 2
    simp at x2
    have q0 : w.heap.size + 3 ≤ wr.heap.size := M.out.size
    have q1 : w.heap.size < wr.heap.size := by omega
    have q2 : w6.heap.size ≤ wr.heap.size := BB.out.size
    by_cases hlt : k < S.threads.length
    · obtain ⟨b, o, cv, cc, rfl, hbb, c0, c1, c2, c3, c4, hcode, hcn⟩ := HS.out.threads k hlt
      have c0' := (M.out.below.cell (p := ⟨b, o + k * 5, none⟩) hbb).trans c0
      have c1' := (M.out.below.cell (p := ⟨b, o + k * 5 + 1, none⟩) hbb).trans c1
      have c2' := (M.out.below.cell (p := ⟨b, o + k * 5 + 2, none⟩) hbb).trans c2
      have c3' := (M.out.below.cell (p := ⟨b, o + k * 5 + 3, none⟩) hbb).trans c3
      have c4' := (M.out.below.cell (p := ⟨b, o + k * 5 + 4, none⟩) hbb).trans c4
      have HC : Hid (InstrsIn w.heap.size w cv S.threads[k].code) := hcode
      have HCN : Hid (cv = none → cc = 0) := hcn
      have hfit := HF.out.codes k hlt
      clear c0 c1 c2 c3 c4 hcode hcn
      go_upto_region 11 with (at_builtin; refine wpList_append_src rfl (.tmp 42) (.tmp 44) 39 rfl (wr.heap.size + 1) 48 i4 (.agg #[.int .i64 0, .int .i64 0, .int .i64 0]) 3 24 Try.underlying39 HI4.out.1 HI4.out.2.1 HI4.out.2.2.1 HI4.out.2.2.2 rfl (by decide) (.slice none 0 0) 0 [] rfl (World.ownsRow_nil _ _ _ _) cv S.threads[k].code.length cc (instrCells S.threads[k].code) rfl (instrCells_length _) HCN.out (HC.out.stays (M.out.below.alloc (by omega) _)).src (instrCells_one _) (by unfold maxLen; omega) (by omega) (by simp) ?_; intro v4 w7 hown4 hg4; simp only [Nat.zero_add, List.nil_append] at hown4; obtain ⟨cv', cc', rfl, _, _⟩ := owns_cells hown4; have M7 := hid ((M.out.alloc _).grown hg4 (by simp [Value.ownBlock])); have T7 := hid ((Blk.new wr #[.int .i64 S.threads[k].base, .int .i64 S.threads[k].offset, .int .i64 S.threads[k].period, .int .i64 S.threads[k].deadline, .slice cv S.threads[k].code.length cc] 41).grown hg4 (by simp [Value.ownBlock])); have O7 := hid hown4; have G7 := hid hg4; have z4 := T7.out.frozen 4; have y4 := T7.out.cell 4; simp at y4; clear hown4 hg4)
      clear x2 c0' c1' c2' c3' c4'
      go_upto_region 12 with fail
      clear z4 y4
      have hM8 := M7.out.other (p := ⟨wr.heap.size, 4, none⟩) (by show w.heap.size + 3 ≤ wr.heap.size; omega) (.slice cv' S.threads[k].code.length cc')
      have hT8 : Blk (w7.setCell ⟨wr.heap.size, 4, none⟩ (.slice cv' S.threads[k].code.length cc')) wr.heap.size #[.int .i64 S.threads[k].base, .int .i64 S.threads[k].offset, .int .i64 S.threads[k].period, .int .i64 S.threads[k].deadline, .slice cv' S.threads[k].code.length cc'] 41 := by simpa using T7.out.set 4 (.slice cv' S.threads[k].code.length cc')
      have same8 : ∀ g, g < wr.heap.size → (w7.setCell ⟨wr.heap.size, 4, none⟩ (.slice cv' S.threads[k].code.length cc')).heap[g]? = wr.heap[g]? := by
        intro g hg
        rw [Below.heap_setCell _ _ _ _ (show g ≠ wr.heap.size by omega), G7.out.block g (by simp; omega) (by simp [Value.ownBlock]), Below.heap_alloc _ _ _ hg]
      have hR8 := RR.out.same (fun g _ hg => same8 g hg)
      have hO8 : (w7.setCell ⟨wr.heap.size, 4, none⟩ (.slice cv' S.threads[k].code.length cc')).ownsRow w6.heap.size 48 3 (.slice cv' S.threads[k].code.length cc') S.threads[k].code.length (instrCells S.threads[k].code) := by
        refine ownsRow_mono (ownsRow_same O7.out fun g hg => ?_) (show w6.heap.size ≤ wr.heap.size + 1 by omega)
        have := ownsRow_block O7.out hg
        exact Below.heap_setCell _ _ _ _ (show g ≠ wr.heap.size by omega)
      have hB8 : But w6.heap.size (w.heap.size + 1 + 1) w6 (w7.setCell ⟨wr.heap.size, 4, none⟩ (.slice cv' S.threads[k].code.length cc')) :=
        ((BB.out.alloc q2 _).grown G7.out (by simp; omega) (by simp [Value.ownBlock])).setCell (Or.inr (show w6.heap.size ≤ wr.heap.size from q2)) _
      have hs8 : wr.heap.size < (w7.setCell ⟨wr.heap.size, 4, none⟩ (.slice cv' S.threads[k].code.length cc')).heap.size := hT8.lt
      clear M7 T7 O7 G7 same8
      generalize w7.setCell ⟨wr.heap.size, 4, none⟩ (.slice cv' S.threads[k].code.length cc') = w8 at hM8 hT8 hR8 hO8 hB8 hs8 ⊢
      have M8 := hid hM8
      have R8 := hid hR8
      have O8 := hid hO8
      have B8 := hid hB8
      have m2 := hM8.c.cell 2
      have t0 := hT8.cell 0
      have t1 := hT8.cell 1
      have t2 := hT8.cell 2
      have t3 := hT8.cell 3
      have t4 := hT8.cell 4
      simp at m2 t0 t1 t2 t3 t4
      have q8 : w6.heap.size ≤ w8.heap.size := hB8.size
      have q9 : w.heap.size + 1 + 1 < w8.heap.size := by omega
      clear hM8 hT8 hR8 hO8 hB8
      have hn := HF.out.threads
      go_wp2_with (at_builtin; refine wpList_append_src rfl (.tmp 49) (.tmp 51) 22 rfl w6.heap.size 41 i5 (.agg #[.int .i64 0, .int .i64 0, .int .i64 0, .int .i64 0, .slice none 0 0]) 5 56 Try.underlying22 HI5.out.1 HI5.out.2.1 HI5.out.2.2.1 HI5.out.2.2.2 rfl (by decide) vt k (thCells S.threads cs k) rfl (R8.out.1.alloc _) (some ⟨w8.heap.size, 0, none⟩) 1 1 [.int .i64 S.threads[k].base, .int .i64 S.threads[k].offset, .int .i64 S.threads[k].period, .int .i64 S.threads[k].deadline, .slice cv' S.threads[k].code.length cc'] rfl rfl (fun h => (by cases h)) (fun j u hj => ⟨_, rfl, (by rw [Addr.add_lit, Nat.zero_add, (Blk.new w8 #[.int .i64 S.threads[k].base, .int .i64 S.threads[k].offset, .int .i64 S.threads[k].period, .int .i64 S.threads[k].deadline, .slice cv' S.threads[k].code.length cc'] 41).cell]; simpa using hj)⟩) (by intro u hu; simp at hu; rcases hu with rfl | rfl | rfl | rfl | rfl <;> rfl) (by unfold maxLen; omega) (by omega) (by simp; omega) ?_; intro v5 w10 hown5 hg5; obtain ⟨tv5, tc5, rfl, _, _⟩ := owns_cells hown5; have M10 := hid ((M8.out.alloc _).grown hg5 (fun g hg => (by have := ownsRow_block R8.out.1 hg; omega))); have z10 := M10.out.c.frozen 2; have y10 := M10.out.c.cell 2; simp at y10; have O10 := hid hown5; have G10 := hid hg5; clear hown5 hg5)
      obtain ⟨cs', hR10⟩ := ThRows.step (ThRows.same R8.out (fun g _ hg => Below.heap_alloc _ _ _ hg)) hlt (O8.out.alloc _) G10.out O10.out
      have hB10 : But w6.heap.size (w.heap.size + 1 + 1) w6 w10 := (B8.out.alloc q8 _).grown G10.out (by simp; omega) (fun g hg => (ownsRow_block R8.out.1 hg).1)
      go_roundw
      case rel => exact ⟨k + 1, _, cs', by omega, by go_num, M10.out.set2 _, hB10.setCell (Or.inl rfl) _, hR10.same (setCell_same _ _ _ _ _ (by show w.heap.size + 1 + 1 < _; omega))⟩
      case measure => simp [intOf]; omega
    · have e : k = S.threads.length := by omega
      subst e
      obtain ⟨tv', tc', rfl, htn, htin⟩ := ThreadsF.of_rows_later RR.out
      have NT := hid htn
      clear htn
      have HT := hid htin
      have m0 := M.out.c.cell 0
      have m1 := M.out.c.cell 1
      have m2 := M.out.c.cell 2
      have m3 := M.out.c.cell 3
      have m4 := M.out.c.cell 4
      have m5 := M.out.c.cell 5
      have r0 := M.out.r.cell 0
      have r1 := M.out.r.cell 1
      have r2 := M.out.r.cell 2
      have r3 := M.out.r.cell 3
      have r4 := M.out.r.cell 4
      have r5 := M.out.r.cell 5
      simp at m0 m1 m2 m3 m4 m5 r0 r1 r2 r3 r4 r5
      have f0 := M.out.r.frozen 0
      have f1 := M.out.r.frozen 1
      have f2 := M.out.r.frozen 2
      have f3 := M.out.r.frozen 3
      have f4 := M.out.r.frozen 4
      have f5 := M.out.r.frozen 5
      have q3 : w.heap.size + 1 < wr.heap.size := by omega
      clear htin
      go_wp2
      have same : ∀ g, w.heap.size + 3 ≤ g → g < w6.heap.size → wr.heap[g]? = w6.heap[g]? := fun g h1 h2 => BB.out.block g h2 (by omega)
      have up : ∀ b, w.heap.size + 3 ≤ b ∧ b < w6.heap.size → w.heap.size ≤ b ∧ b < ((((((wr.setCell ⟨w.heap.size + 1, 0, none⟩ (.int .i64 S.workers)).setCell ⟨w.heap.size + 1, 1, none⟩ (.int .i64 S.start)).setCell ⟨w.heap.size + 1, 2, none⟩ (.slice tv' S.threads.length tc')).setCell ⟨w.heap.size + 1, 3, none⟩ (.slice mv' S.mutexes.length mc')).setCell ⟨w.heap.size + 1, 4, none⟩ (.slice sv' S.sems.length sc')).setCell ⟨w.heap.size + 1, 5, none⟩ (.slice qv' S.queues.length qc')).heap.size := by
        intro b hb
        rw [six_size]
        omega
      refine bodyPost_ret (v := .agg #[.int .i64 S.workers, .int .i64 S.start, .slice tv' S.threads.length tc', .slice mv' S.mutexes.length mc', .slice sv' S.sems.length sc', .slice qv' S.queues.length qc']) ?_ rfl ⟨tv', mv', sv', qv', tc', mc', sc', qc', rfl, ⟨?_, ?_, ?_, ?_⟩, ⟨NT.out, NM.out, NS.out, NQ.out⟩, six_below M.out.below _ (by omega) _ _ _ _ _ _⟩
      · simp [results, Try.results5, go_sem, r0, r1, r2, r3, r4, r5]
      · exact (HT.out _ (fun g h1 h2 => six_same _ _ _ _ _ _ _ _ _ (by omega))).mono (fun b hb => ⟨by omega, hb.2⟩)
      · exact ((P6mv.out.newF A6mv.out).same (fun b hb => (six_same _ _ _ _ _ _ _ _ _ (by omega)).trans (same b hb.1 hb.2))).mono up
      · exact ((P6sv.out.newF A6sv.out).same (fun b hb => (six_same _ _ _ _ _ _ _ _ _ (by omega)).trans (same b hb.1 hb.2))).mono up
      · exact ((P6qv.out.newF A6qv.out).same (fun b hb => (six_same _ _ _ _ _ _ _ _ _ (by omega)).trans (same b hb.1 hb.2))).mono up
end Go.Proofs.Ytbkfildnijjioaa

/-
  Walks: the leaves of the document's own check (package donateref).
-/
namespace Go.Proofs.Ytbkfildnijjioaa
open Go.RowKit

set_option maxHeartbeats 400000 in
theorem rMutexFits_any (k t : Int) (w : World) :
    Calls Try.prog 26 #[.agg #[.int .i64 k, .int .i64 t]] w fun e w' => e = .returned (.bool (P3.mutexB k t)) ∧ Below w.heap.size w w' := by
  go_enter Try.func26, Try.ntmps26
  go_wp2
  all_goals
    go_ret
    refine ⟨ret_bool ?_, (Below.refl _ _).alloc (Nat.le_refl _) _⟩
    unfold P3.mutexB
    rw [Bool.eq_iff_iff]
    simp_all
    try omega

set_option maxHeartbeats 400000 in
theorem rSizes_any (tv mv sv qv : Option Addr) (tc mc sc qc : Nat) (S : SetD) (w : World) :
    Calls Try.prog 12 #[.agg #[.int .i64 S.workers, .int .i64 S.start, .slice tv S.threads.length tc, .slice mv S.mutexes.length mc, .slice sv S.sems.length sc, .slice qv S.queues.length qc]] w fun e w' => e = .returned (.bool (P3.sizesB S)) ∧ Below w.heap.size w w' := by
  go_enter Try.func12, Try.ntmps12
  go_wp2
  all_goals
    go_ret
    refine ⟨ret_bool ?_, (Below.refl _ _).alloc (Nat.le_refl _) _⟩
    unfold P3.sizesB
    rw [Bool.eq_iff_iff]
    simp
    try omega

set_option maxHeartbeats 400000 in
theorem rThreadFits_any (b o p d : Int) (cv : Option Addr) (cn cc : Nat) (w : World) :
    Calls Try.prog 14 #[.agg #[.int .i64 b, .int .i64 o, .int .i64 p, .int .i64 d, .slice cv cn cc]] w fun e w' => e = .returned (.bool (P3.threadB b o p d cn)) ∧ Below w.heap.size w w' := by
  go_enter Try.func14, Try.ntmps14
  go_wp2
  all_goals
    go_ret
    refine ⟨ret_bool ?_, (Below.refl _ _).alloc (Nat.le_refl _) _⟩
    unfold P3.threadB P3.latest
    rw [Bool.eq_iff_iff]
    simp_all
    try omega

end Go.Proofs.Ytbkfildnijjioaa

/-
  Walks: the bounds of an operation (package donateref).
-/
namespace Go.Proofs.Ytbkfildnijjioaa
open Go.RowKit

set_option maxHeartbeats 400000 in
theorem rBounds_any (wk st : Int) (tv mv sv qv : Option Addr) (tn tc mn mc sn sc qn qc : Nat) (len op : Int) (w : World) (h1 : (tn : Int) ≤ 16) (h2 : (mn : Int) ≤ 8) (h3 : (sn : Int) ≤ 4) (h4 : (qn : Int) ≤ 4) :
    Calls Try.prog 27 #[.agg #[.int .i64 wk, .int .i64 st, .slice tv tn tc, .slice mv mn mc, .slice sv sn sc, .slice qv qn qc], .int .i64 len, .int .i64 op] w fun e w' =>
      e = .returned (.tuple #[.agg #[.int .i64 (P3.lowA op), .int .i64 (P3.highA tn mn sn qn op), .int .i64 (P3.lowB op), .int .i64 (P3.highB len op)], .bool (P3.known op)]) ∧ Below w.heap.size w w' := by
  go_enter Try.func27, Try.ntmps27
  go_wp2
  all_goals
    refine bodyPost_ret (v := .tuple #[.agg #[.int .i64 (P3.lowA op), .int .i64 (P3.highA tn mn sn qn op), .int .i64 (P3.lowB op), .int .i64 (P3.highB len op)], .bool (P3.known op)]) ?_ rfl ⟨rfl, ((Below.refl _ _).alloc (Nat.le_refl _) _).alloc (by simp) _⟩
    first | (have e : op = 0 := beq_iff_eq.1 ‹_›; subst e) | (have e : op = 1 := beq_iff_eq.1 ‹_›; subst e) | (have e : op = 2 := beq_iff_eq.1 ‹_›; subst e) | (have e : op = 3 := beq_iff_eq.1 ‹_›; subst e) | (have e : op = 4 := beq_iff_eq.1 ‹_›; subst e) | (have e : op = 5 := beq_iff_eq.1 ‹_›; subst e) | (have e : op = 6 := beq_iff_eq.1 ‹_›; subst e) | (have e : op = 7 := beq_iff_eq.1 ‹_›; subst e) | (have e : op = 8 := beq_iff_eq.1 ‹_›; subst e) | (have e : op = 9 := beq_iff_eq.1 ‹_›; subst e) | (have e : op = 10 := beq_iff_eq.1 ‹_›; subst e) | (have e : op = 11 := beq_iff_eq.1 ‹_›; subst e) | skip
    all_goals simp_all [results, Try.results27, go_sem, P3.known, P3.lowA, P3.highA, P3.lowB, P3.highB]
    all_goals try omega

end Go.Proofs.Ytbkfildnijjioaa

/-
  Walks: does an instruction fit (package donateref)?
-/
namespace Go.Proofs.Ytbkfildnijjioaa
open Go.RowKit

set_option maxHeartbeats 400000 in
theorem rInstrFits_any (wk st : Int) (tv mv sv qv : Option Addr) (tn tc mn mc sn sc qn qc : Nat) (len op a b : Int) (w : World) (h1 : (tn : Int) ≤ 16) (h2 : (mn : Int) ≤ 8) (h3 : (sn : Int) ≤ 4) (h4 : (qn : Int) ≤ 4) :
    Calls Try.prog 15 #[.agg #[.int .i64 wk, .int .i64 st, .slice tv tn tc, .slice mv mn mc, .slice sv sn sc, .slice qv qn qc], .int .i64 len, .agg #[.int .i64 op, .int .i64 a, .int .i64 b]] w fun e w' =>
      e = .returned (.bool (P3.instrB tn mn sn qn len op a b)) ∧ Below w.heap.size w w' := by
  go_enter Try.func15, Try.ntmps15
  go_wp2_with (go_at_call 27; refine (rBounds_any _ _ _ _ _ _ _ _ _ _ _ _ _ _ _ _ _ h1 h2 h3 h4).mono ?_; rintro e w1 ⟨rfl, hb1⟩; obtain ⟨hc1, hf1⟩ := bcell hb1; have hz1 : w.heap.size + 1 < w1.heap.size := (by have := hb1.size; simp at this; omega))
  all_goals
    go_ret
    refine ⟨ret_bool ?_, (via (((Below.refl _ _).alloc (Nat.le_refl _) _).alloc (by simp) _) (by simp; omega) hb1).alloc (by omega) _⟩
    unfold P3.instrB P3.fitsB
    rw [Bool.eq_iff_iff]
    simp_all
    try omega

end Go.Proofs.Ytbkfildnijjioaa

/-
  Walks: donateref.tables: P3's mutexes, semaphores and queues.
-/
namespace Go.Proofs.Ytbkfildnijjioaa
open Go.RowKit

namespace P3
def terr (S : SetD) : Int := if badOr mutexP S.mutexes ≠ -1 then 2 else if badOr semP S.sems ≠ -1 then 3 else if badOr queueB S.queues ≠ -1 then 4 else 0
def tplace (S : SetD) : Int :=
  if badOr mutexP S.mutexes ≠ -1 then badOr mutexP S.mutexes else if badOr semP S.sems ≠ -1 then badOr semP S.sems else if badOr queueB S.queues ≠ -1 then badOr queueB S.queues else 0
def GoodTo {α : Type} (p : α → Bool) (l : List α) (k : Nat) : Prop := ∀ j (_ : j < k), (hl : j < l.length) → p l[j] = true
theorem GoodTo.zero {α : Type} (p : α → Bool) (l : List α) : GoodTo p l 0 := fun _ h => absurd h (Nat.not_lt_zero _)
theorem GoodTo.step {α : Type} {p : α → Bool} {l : List α} {k : Nat} (h : GoodTo p l k) (hk : k < l.length) (hp : p l[k] = true) : GoodTo p l (k + 1) := by
  intro j hj hl
  rcases Nat.lt_succ_iff_lt_or_eq.1 hj with h1 | rfl
  · exact h j h1 hl
  · exact hp
theorem GoodTo.none {α : Type} {p : α → Bool} {l : List α} {k : Nat} (h : GoodTo p l k) (hk : ¬ k < l.length) : badOr p l = -1 := badOr_none p l (fun j hj => h j (by omega) hj)
theorem GoodTo.at {α : Type} {p : α → Bool} {l : List α} {k : Nat} (h : GoodTo p l k) (hk : k < l.length) (hp : p l[k] = false) : badOr p l = k := badOr_at p l k hk hp (fun j hj => h j hj (by omega))
theorem t_mutex {S : SetD} {k : Nat} (h : badOr mutexP S.mutexes = k) : terr S = 2 ∧ tplace S = k := by
  have e : (k : Int) ≠ -1 := by omega
  simp [terr, tplace, h, e]
theorem t_sem {S : SetD} {k : Nat} (h0 : badOr mutexP S.mutexes = -1) (h : badOr semP S.sems = k) : terr S = 3 ∧ tplace S = k := by
  have e : (k : Int) ≠ -1 := by omega
  simp [terr, tplace, h0, h, e]
theorem t_queue {S : SetD} {k : Nat} (h0 : badOr mutexP S.mutexes = -1) (h1 : badOr semP S.sems = -1) (h : badOr queueB S.queues = k) : terr S = 4 ∧ tplace S = k := by
  have e : (k : Int) ≠ -1 := by omega
  simp [terr, tplace, h0, h1, h, e]
theorem t_ok {S : SetD} (h0 : badOr mutexP S.mutexes = -1) (h1 : badOr semP S.sems = -1) (h : badOr queueB S.queues = -1) : terr S = 0 ∧ tplace S = 0 := by
  simp [terr, tplace, h0, h1, h]
end P3

theorem ret_two {a b c d : Int} (h : a = c ∧ b = d) : Ending.returned (.tuple #[.int .i64 c, .int .i64 d]) = .returned (.tuple #[.int .i64 a, .int .i64 b]) := by rw [h.1, h.2]

set_option maxHeartbeats 1000000 in
theorem rTables_any (tv mv sv qv : Option Addr) (tc mc sc qc : Nat) (S : SetD) (w : World) (hS : SetIn w.heap.size w tv mv sv qv S)
    (n2 : (S.mutexes.length : Int) ≤ 8) (n3 : (S.sems.length : Int) ≤ 4) (n4 : (S.queues.length : Int) ≤ 4) :
    Calls Try.prog 13 #[.agg #[.int .i64 S.workers, .int .i64 S.start, .slice tv S.threads.length tc, .slice mv S.mutexes.length mc, .slice sv S.sems.length sc, .slice qv S.queues.length qc]] w fun e w' =>
      e = .returned (.tuple #[.int .i64 (P3.terr S), .int .i64 (P3.tplace S)]) ∧ Below w.heap.size w w' := by
  have HS : Hid (SetIn w.heap.size w tv mv sv qv S) := hS
  clear hS
  go_enter Try.func13, Try.ntmps13
  go_wp2
  generalize hw0 : w.alloc (.cells #[.int .i64 S.workers, .int .i64 S.start, .slice tv S.threads.length tc, .slice mv S.mutexes.length mc, .slice sv S.sems.length sc, .slice qv S.queues.length qc] 27) = w0
  have hs0 : w.heap.size < w0.heap.size := by rw [← hw0]; simp
  have b3 : w0.cell? ⟨w.heap.size, 3, none⟩ = some (.slice mv S.mutexes.length mc) := by rw [← hw0]; simp
  have b4 : w0.cell? ⟨w.heap.size, 4, none⟩ = some (.slice sv S.sems.length sc) := by rw [← hw0]; simp
  have b5 : w0.cell? ⟨w.heap.size, 5, none⟩ = some (.slice qv S.queues.length qc) := by rw [← hw0]; simp
  have hb0 : Below w.heap.size w w0 := by rw [← hw0]; exact (Below.refl _ _).alloc (Nat.le_refl _) _
  clear hw0
  have HS0 : Hid (SetIn w.heap.size w0 tv mv sv qv S) := HS.out.stays hb0
  clear HS
  go_loopw [4] (fun i wr => ∃ k : Nat, k ≤ S.mutexes.length ∧ i = .int .i64 k ∧ P3.GoodTo P3.mutexP S.mutexes k ∧ Below w0.heap.size w0 wr) (fun i _ => S.mutexes.length - (intOf i).toNat)
  case atStart => exact ⟨0, Nat.zero_le _, rfl, P3.GoodTo.zero _ _, Below.refl _ _⟩
  case round =>
    obtain ⟨k, hk, rfl, hall, hb⟩ := hrel
    have hsz := hb.size
    have q1 : w.heap.size < wr.heap.size := by omega
    have c3 := (hb.cell (p := ⟨w.heap.size, 3, none⟩) hs0).trans b3
    by_cases hlt : k < S.mutexes.length
    · obtain ⟨b, o, rfl, hbb, hx, hy⟩ := HS0.out.mutexes k hlt
      have hx' := (hb.cell (p := ⟨b, o + k * 2, none⟩) (by show b < _; omega)).trans hx
      have hy' := (hb.cell (p := ⟨b, o + k * 2 + 1, none⟩) (by show b < _; omega)).trans hy
      clear hx hy
      go_wp2_with (go_at_call 26; refine (rMutexFits_any _ _ _).mono ?_; rintro e w1 ⟨rfl, hb1⟩)
      · go_ret2
        refine ⟨ret_two (P3.t_mutex (hall.at hlt ?_)), via hb0 (by omega) (via hb hsz hb1)⟩
        simpa [P3.mutexP] using ‹(!P3.mutexB _ _) = true›
      · go_roundw
        case rel =>
          refine ⟨k + 1, by omega, by go_num, hall.step hlt ?_, via hb hsz hb1⟩
          simpa [P3.mutexP] using ‹(!P3.mutexB _ _) = false›
        case measure => simp [intOf]; omega
    · have HM : Hid (P3.badOr P3.mutexP S.mutexes = -1) := hall.none hlt
      clear hall
      go_wp2
      clear c3
      go_loopw [6] (fun i wr => ∃ k : Nat, k ≤ S.sems.length ∧ i = .int .i64 k ∧ P3.GoodTo P3.semP S.sems k ∧ Below w0.heap.size w0 wr) (fun i _ => S.sems.length - (intOf i).toNat)
      case atStart => exact ⟨0, Nat.zero_le _, rfl, P3.GoodTo.zero _ _, hb⟩
      case round =>
        clear hb hsz q1 hlt hk
        obtain ⟨k, hk, rfl, hall, hb⟩ := hrel
        have hsz := hb.size
        have q1 : w.heap.size < wr.heap.size := by omega
        have c4 := (hb.cell (p := ⟨w.heap.size, 4, none⟩) hs0).trans b4
        by_cases hlt : k < S.sems.length
        · obtain ⟨b, o, rfl, hbb, hx, hy⟩ := HS0.out.sems k hlt
          have hx' := (hb.cell (p := ⟨b, o + k * 2, none⟩) (by show b < _; omega)).trans hx
          have hy' := (hb.cell (p := ⟨b, o + k * 2 + 1, none⟩) (by show b < _; omega)).trans hy
          clear hx hy
          cases hok : P3.semB S.sems[k].x S.sems[k].y
          · have HB : Hid (P3.semB S.sems[k].x S.sems[k].y = false) := hok
            clear hok
            have hB := HB.out
            unfold P3.semB at hB
            rw [decide_eq_false_iff_not] at hB
            have hor : S.sems[k].y < 1 ∨ (1 ≤ S.sems[k].y ∧ 100 < S.sems[k].y) ∨ (1 ≤ S.sems[k].y ∧ S.sems[k].y ≤ 100 ∧ S.sems[k].x < 0) ∨ (1 ≤ S.sems[k].y ∧ S.sems[k].y ≤ 100 ∧ 0 ≤ S.sems[k].x ∧ S.sems[k].y < S.sems[k].x) := by omega
            clear hB
            rcases hor with h1 | ⟨h1, h2⟩ | ⟨h1, h2, h3⟩ | ⟨h1, h2, h3, h4⟩
            all_goals
              go_wp2
              go_ret2
              exact ⟨ret_two (P3.t_sem HM.out (hall.at hlt HB.out)), via hb0 (by omega) (hb.alloc hsz _)⟩
          · have HB : Hid (P3.semB S.sems[k].x S.sems[k].y = true) := hok
            clear hok
            have hB := HB.out
            unfold P3.semB at hB
            rw [decide_eq_true_iff] at hB
            obtain ⟨h1, h2, h3, h4⟩ := hB
            go_wp2
            go_roundw
            case rel => exact ⟨k + 1, by omega, by go_num, hall.step hlt HB.out, hb.alloc hsz _⟩
            case measure => simp [intOf]; omega
        · have HN : Hid (P3.badOr P3.semP S.sems = -1) := hall.none hlt
          clear hall
          go_wp2
          clear c4
          go_loopw [8] (fun i wr => ∃ k : Nat, k ≤ S.queues.length ∧ i = .int .i64 k ∧ P3.GoodTo P3.queueB S.queues k ∧ Below w0.heap.size w0 wr) (fun i _ => S.queues.length - (intOf i).toNat)
          case atStart => exact ⟨0, Nat.zero_le _, rfl, P3.GoodTo.zero _ _, hb⟩
          case round =>
            clear hb hsz q1 hlt hk
            obtain ⟨k, hk, rfl, hall, hb⟩ := hrel
            have hsz := hb.size
            have q1 : w.heap.size < wr.heap.size := by omega
            have c5 := (hb.cell (p := ⟨w.heap.size, 5, none⟩) hs0).trans b5
            by_cases hlt : k < S.queues.length
            · obtain ⟨b, o, rfl, hbb, hx⟩ := HS0.out.queues k hlt
              have hx' := (hb.cell (p := ⟨b, o + k, none⟩) (by show b < _; omega)).trans hx
              clear hx
              cases hok : P3.queueB S.queues[k]
              · have HB : Hid (P3.queueB S.queues[k] = false) := hok
                clear hok
                have hB := HB.out
                unfold P3.queueB at hB
                rw [decide_eq_false_iff_not] at hB
                have hor : S.queues[k] < 1 ∨ (1 ≤ S.queues[k] ∧ 8 < S.queues[k]) := by omega
                clear hB
                rcases hor with h1 | ⟨h1, h2⟩
                all_goals
                  go_wp2
                  go_ret2
                  exact ⟨ret_two (P3.t_queue HM.out HN.out (hall.at hlt HB.out)), via hb0 (by omega) hb⟩
              · have HB : Hid (P3.queueB S.queues[k] = true) := hok
                clear hok
                have hB := HB.out
                unfold P3.queueB at hB
                rw [decide_eq_true_iff] at hB
                obtain ⟨h1, h2⟩ := hB
                go_wp2
                go_roundw
                case rel => exact ⟨k + 1, by omega, by go_num, hall.step hlt HB.out, hb⟩
                case measure => simp [intOf]; omega
            · have HQ : Hid (P3.badOr P3.queueB S.queues = -1) := hall.none hlt
              clear hall
              go_wp2
              go_ret2
              exact ⟨ret_two (P3.t_ok HM.out HN.out HQ.out), via hb0 (by omega) hb⟩

end Go.Proofs.Ytbkfildnijjioaa
