/-
  How the plain data of a set lie in memory; that they lie on where nothing below B turns.
-/
import Derived.Test.YthnjabnlocpoaaaLeafB
namespace Go.Proofs.Ythnjabnlocpoaaa
open Go.RowKit

/-- Two numbers an entry, from that address on, in a block below B. -/
def PairsIn (B : Nat) (w : World) (ao : Option Addr) (l : List PairD) : Prop :=
  ∀ i (h : i < l.length), ∃ b o, ao = some ⟨b, o, none⟩ ∧ b < B ∧ w.cell? ⟨b, o + i * 2, none⟩ = some (.int .i64 l[i].x) ∧ w.cell? ⟨b, o + i * 2 + 1, none⟩ = some (.int .i64 l[i].y)

theorem PairsIn.stays {B : Nat} {w w' : World} {ao : Option Addr} {l : List PairD} (h : PairsIn B w ao l) (hb : Below B w w') : PairsIn B w' ao l := by
  intro i hi
  obtain ⟨b, o, ha, hlt, hx, hy⟩ := h i hi
  exact ⟨b, o, ha, hlt, (hb.cell (p := ⟨b, _, none⟩) hlt).trans hx, (hb.cell (p := ⟨b, _, none⟩) hlt).trans hy⟩

/-- One number an entry. -/
def IntsIn (B : Nat) (w : World) (ao : Option Addr) (l : List Int) : Prop :=
  ∀ i (h : i < l.length), ∃ b o, ao = some ⟨b, o, none⟩ ∧ b < B ∧ w.cell? ⟨b, o + i, none⟩ = some (.int .i64 l[i])

theorem IntsIn.stays {B : Nat} {w w' : World} {ao : Option Addr} {l : List Int} (h : IntsIn B w ao l) (hb : Below B w w') : IntsIn B w' ao l := by
  intro i hi
  obtain ⟨b, o, ha, hlt, hx⟩ := h i hi
  exact ⟨b, o, ha, hlt, (hb.cell (p := ⟨b, _, none⟩) hlt).trans hx⟩

/-- Three numbers an instruction. -/
def InstrsIn (B : Nat) (w : World) (ao : Option Addr) (l : List InstrD) : Prop :=
  ∀ i (h : i < l.length), ∃ b o, ao = some ⟨b, o, none⟩ ∧ b < B ∧ w.cell? ⟨b, o + i * 3, none⟩ = some (.int .i64 l[i].op) ∧ w.cell? ⟨b, o + i * 3 + 1, none⟩ = some (.int .i64 l[i].a) ∧
    w.cell? ⟨b, o + i * 3 + 2, none⟩ = some (.int .i64 l[i].b)

theorem InstrsIn.stays {B : Nat} {w w' : World} {ao : Option Addr} {l : List InstrD} (h : InstrsIn B w ao l) (hb : Below B w w') : InstrsIn B w' ao l := by
  intro i hi
  obtain ⟨b, o, ha, hlt, hx, hy, hz⟩ := h i hi
  exact ⟨b, o, ha, hlt, (hb.cell (p := ⟨b, _, none⟩) hlt).trans hx, (hb.cell (p := ⟨b, _, none⟩) hlt).trans hy, (hb.cell (p := ⟨b, _, none⟩) hlt).trans hz⟩

/-- Four numbers and a code a thread; its code lies below B too. -/
def ThreadsIn (B : Nat) (w : World) (ao : Option Addr) (l : List ThreadD) : Prop :=
  ∀ i (h : i < l.length), ∃ b o cv cc, ao = some ⟨b, o, none⟩ ∧ b < B ∧ w.cell? ⟨b, o + i * 5, none⟩ = some (.int .i64 l[i].base) ∧ w.cell? ⟨b, o + i * 5 + 1, none⟩ = some (.int .i64 l[i].offset) ∧
    w.cell? ⟨b, o + i * 5 + 2, none⟩ = some (.int .i64 l[i].period) ∧ w.cell? ⟨b, o + i * 5 + 3, none⟩ = some (.int .i64 l[i].deadline) ∧
    w.cell? ⟨b, o + i * 5 + 4, none⟩ = some (.slice cv l[i].code.length cc) ∧ InstrsIn B w cv l[i].code ∧ (cv = none → cc = 0)

theorem ThreadsIn.stays {B : Nat} {w w' : World} {ao : Option Addr} {l : List ThreadD} (h : ThreadsIn B w ao l) (hb : Below B w w') : ThreadsIn B w' ao l := by
  intro i hi
  obtain ⟨b, o, cv, cc, ha, hlt, h0, h1, h2, h3, h4, hc, hn⟩ := h i hi
  exact ⟨b, o, cv, cc, ha, hlt, (hb.cell (p := ⟨b, _, none⟩) hlt).trans h0, (hb.cell (p := ⟨b, _, none⟩) hlt).trans h1, (hb.cell (p := ⟨b, _, none⟩) hlt).trans h2,
    (hb.cell (p := ⟨b, _, none⟩) hlt).trans h3, (hb.cell (p := ⟨b, _, none⟩) hlt).trans h4, hc.stays hb, hn⟩

/-- A set's four lists. -/
structure SetIn (B : Nat) (w : World) (tv mv sv qv : Option Addr) (S : SetD) : Prop where
  threads : ThreadsIn B w tv S.threads
  mutexes : PairsIn B w mv S.mutexes
  sems : PairsIn B w sv S.sems
  queues : IntsIn B w qv S.queues

theorem SetIn.stays {B : Nat} {w w' : World} {tv mv sv qv : Option Addr} {S : SetD} (h : SetIn B w tv mv sv qv S) (hb : Below B w w') : SetIn B w' tv mv sv qv S :=
  ⟨h.threads.stays hb, h.mutexes.stays hb, h.sems.stays hb, h.queues.stays hb⟩

theorem PairsIn.mono {B B' : Nat} {w : World} {ao : Option Addr} {l : List PairD} (h : PairsIn B w ao l) (hB : B ≤ B') : PairsIn B' w ao l := by
  intro i hi
  obtain ⟨b, o, ha, hlt, r⟩ := h i hi
  exact ⟨b, o, ha, by omega, r⟩
theorem IntsIn.mono {B B' : Nat} {w : World} {ao : Option Addr} {l : List Int} (h : IntsIn B w ao l) (hB : B ≤ B') : IntsIn B' w ao l := by
  intro i hi
  obtain ⟨b, o, ha, hlt, r⟩ := h i hi
  exact ⟨b, o, ha, by omega, r⟩
theorem InstrsIn.mono {B B' : Nat} {w : World} {ao : Option Addr} {l : List InstrD} (h : InstrsIn B w ao l) (hB : B ≤ B') : InstrsIn B' w ao l := by
  intro i hi
  obtain ⟨b, o, ha, hlt, r⟩ := h i hi
  exact ⟨b, o, ha, by omega, r⟩
theorem ThreadsIn.mono {B B' : Nat} {w : World} {ao : Option Addr} {l : List ThreadD} (h : ThreadsIn B w ao l) (hB : B ≤ B') : ThreadsIn B' w ao l := by
  intro i hi
  obtain ⟨b, o, cv, cc, ha, hlt, h0, h1, h2, h3, h4, hc, hn⟩ := h i hi
  exact ⟨b, o, cv, cc, ha, by omega, h0, h1, h2, h3, h4, hc.mono hB, hn⟩
theorem SetIn.mono {B B' : Nat} {w : World} {tv mv sv qv : Option Addr} {S : SetD} (h : SetIn B w tv mv sv qv S) (hB : B ≤ B') : SetIn B' w tv mv sv qv S :=
  ⟨h.threads.mono hB, h.mutexes.mono hB, h.sems.mono hB, h.queues.mono hB⟩
/-- A set that lies in a world lies in every later one that has turned nothing of it. -/
theorem SetIn.later {w w' : World} {tv mv sv qv : Option Addr} {S : SetD} (h : SetIn w.heap.size w tv mv sv qv S) (hb : Below w.heap.size w w') : SetIn w'.heap.size w' tv mv sv qv S :=
  (h.stays hb).mono hb.size

/-- Behind a callee that makes memory of its own. -/
theorem via {B : Nat} {w w0 w1 : World} (hb : Below B w w0) (hB : B ≤ w0.heap.size) (h1 : Below w0.heap.size w0 w1) : Below B w w1 := hb.trans (h1.mono hB)

end Go.Proofs.Ythnjabnlocpoaaa
