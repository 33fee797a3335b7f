/-
  Laws for what donateref.Copy does: append onto a list of the call's own, from whatever source; memory that is kept but for one block.
-/
import Derived.Test.YthnjabnlocpoaaaMem
import Derived.Laws.AppendOwnNone
namespace Go.Proofs.Ythnjabnlocpoaaa
open Go.RowKit

theorem Try.infoMutex : (Try.prog.info? 66).map (fun i => (i.zero, i.size, i.bytes)) = some (some (.agg #[.int .i64 0, .int .i64 0]), 2, 16) := by kernel_rfl
theorem Try.infoSem : (Try.prog.info? 68).map (fun i => (i.zero, i.size, i.bytes)) = some (some (.agg #[.int .i64 0, .int .i64 0]), 2, 16) := by kernel_rfl
theorem Try.infoInt : (Try.prog.info? 3).map (fun i => (i.zero, i.size, i.bytes)) = some (some (.int .i64 0), 1, 8) := by kernel_rfl
theorem Try.infoInstr : (Try.prog.info? 48).map (fun i => (i.zero, i.size, i.bytes)) = some (some (.agg #[.int .i64 0, .int .i64 0, .int .i64 0]), 3, 24) := by kernel_rfl
theorem Try.infoThread : (Try.prog.info? 41).map (fun i => (i.zero, i.size, i.bytes)) = some (some (.agg #[.int .i64 0, .int .i64 0, .int .i64 0, .int .i64 0, .slice none 0 0]), 5, 56) := by kernel_rfl

theorem hid {p : Prop} (h : p) : Hid p := h

/-- 'append(out, src...)', out the call's own, src nil or not. -/
theorem wpList_append_src {P : Program} {w : World} {ops : Array Oper} {rest : List Oper} {o : Oper} {a : Act} {Q : Exit → Act → World → Prop} (hgd : o.guard = none) (s x : Operand) (t : TypeId)
    (ho : o.op = .call { callee := .builtin .append, args := #[s, x], argTypes := #[t, t] })
    (base : Nat) (e : TypeId) (i : TypeInfo) (z : Value) (size bytes : Nat) (ht : P.underlying t = some (.slice e)) (hi : P.info? e = some i) (hz : i.zero = some z)
    (hsize : i.size = size) (hby : i.bytes = bytes) (hzs : z.cells.size = size) (hsz : 0 < size)
    (v : Value) (n : Nat) (xs : List Value) (hs : a.eval s = v) (hown : w.ownsRow base e size v n xs)
    (ao : Option Addr) (m c : Nat) (news : List Value) (hx : a.eval x = .slice ao m c) (hl : news.length = m * size) (hnil : ao = none → c = 0)
    (hnews : ∀ j u, news[j]? = some u → ∃ ad, ao = some ad ∧ w.cell? (ad.add j) = some u) (h1 : ∀ u ∈ news, u.oneCell' = true)
    (h63 : n + m ≤ maxLen) (hbytes : (n + m) * bytes ≤ 140737488355328) (hbase : base ≤ w.heap.size)
    (h : ∀ v' w', w'.ownsRow base e size v' (n + m) (xs ++ news) → w.grownBy w' v.ownBlock → wpList P ops Q rest (a.put o.dst v') w') : wpList P ops Q (o :: rest) a w := by
  cases ao with
  | none =>
    have hm : m = 0 := by
      cases m with
      | zero => rfl
      | succ k =>
        have hpos : 0 < news.length := by rw [hl]; exact Nat.mul_pos (Nat.succ_pos _) hsz
        obtain ⟨ad, hh, _⟩ := hnews 0 news[0] (List.getElem?_eq_getElem hpos)
        cases hh
    subst hm
    have hc := hnil rfl
    subst hc
    have hn : news = [] := by
      apply List.eq_nil_of_length_eq_zero
      rw [hl, Nat.zero_mul]
    subst hn
    refine wpList_append_own_none hgd s x t ho base e i size ht hi v n xs hs hown hx (h v w (by simpa using hown) ⟨rfl, rfl, rfl, Nat.le_refl _, fun _ _ _ => rfl⟩)
  | some ad =>
    refine wpList_append_own w hgd s x t ho base e i z size bytes ht hi hz hsize hby hzs hsz v n xs hs hown ad m c news hx hl (fun j u hj => ?_) h1 h63 hbytes hbase (fun v' w' h2 h3 _ => h v' w' h2 h3)
    obtain ⟨ad', hh, hcell⟩ := hnews j u hj
    cases hh
    exact hcell

/-- Below B all is as it was, but for block c. -/
structure But (B c : Nat) (w w' : World) : Prop where
  os : w'.os = w.os
  tape : w'.tape = w.tape
  output : w'.output = w.output
  size : w.heap.size ≤ w'.heap.size
  block : ∀ k, k < B → k ≠ c → w'.heap[k]? = w.heap[k]?

theorem But.refl (B c : Nat) (w : World) : But B c w w := ⟨rfl, rfl, rfl, Nat.le_refl _, fun _ _ _ => rfl⟩
theorem But.trans {B c : Nat} {w0 w1 w2 : World} (h : But B c w0 w1) (k : But B c w1 w2) : But B c w0 w2 :=
  ⟨k.os.trans h.os, k.tape.trans h.tape, k.output.trans h.output, Nat.le_trans h.size k.size, fun i hi hc => (k.block i hi hc).trans (h.block i hi hc)⟩
theorem But.mono {B B' c : Nat} {w w' : World} (h : But B c w w') (hB : B' ≤ B) : But B' c w w' := ⟨h.os, h.tape, h.output, h.size, fun k hk hc => h.block k (by omega) hc⟩
theorem But.of_below {B c : Nat} {w w' : World} (h : Below B w w') : But B c w w' := ⟨h.os, h.tape, h.output, h.size, fun k hk _ => h.block k hk⟩
theorem But.below {B c B' : Nat} {w w' : World} (h : But B c w w') (h1 : B' ≤ B) (h2 : B' ≤ c) : Below B' w w' := ⟨h.os, h.tape, h.output, h.size, fun k hk => h.block k (by omega) (by omega)⟩
theorem But.alloc {B c : Nat} {w0 w : World} (h : But B c w0 w) (hB : B ≤ w.heap.size) (o : Obj) : But B c w0 (w.alloc o) := h.trans (But.of_below ((Below.refl _ _).alloc hB o))
theorem But.setCell {B c : Nat} {w0 w : World} (h : But B c w0 w) {p : Addr} (hp : p.block = c ∨ B ≤ p.block) (u : Value) : But B c w0 (w.setCell p u) :=
  h.trans ⟨rfl, rfl, rfl, by simp [World.setCell], fun k hk hc => Below.heap_setCell _ _ _ _ (by omega)⟩
theorem But.grown {B c : Nat} {w0 w w' : World} {row : Option Nat} (h : But B c w0 w) (hg : w.grownBy w' row) (hB : B ≤ w.heap.size) (hr : ∀ k, row = some k → B ≤ k) : But B c w0 w' :=
  h.trans ⟨hg.os, hg.tape, hg.output, hg.size, fun k hk _ => hg.block k (by omega) (fun e => by have := hr k e.symm; omega)⟩
theorem But.cell {B c : Nat} {w w' : World} (h : But B c w w') {p : Addr} (hp : p.block < B) (hc : p.block ≠ c) : w'.cell? p = w.cell? p := World.cell?_of_block (w := w) (h.block p.block hp hc)
theorem But.drew {B c : Nat} {w0 w : World} (h : But B c w0 w) : But B c w0 w.drew := ⟨h.os, h.tape, h.output, h.size, h.block⟩

/-- The cells of a list of pairs, of numbers, of instructions. -/
def pairCells (l : List PairD) : List Value := l.flatMap fun p => [.int .i64 p.x, .int .i64 p.y]
def intCells (l : List Int) : List Value := l.map (.int .i64)
def instrCells (l : List InstrD) : List Value := l.flatMap fun p => [.int .i64 p.op, .int .i64 p.a, .int .i64 p.b]

theorem pairCells_length (l : List PairD) : (pairCells l).length = l.length * 2 := by
  induction l with
  | nil => rfl
  | cons p l ih => simp [pairCells] at ih ⊢; omega
theorem instrCells_length (l : List InstrD) : (instrCells l).length = l.length * 3 := by
  induction l with
  | nil => rfl
  | cons p l ih => simp [instrCells] at ih ⊢; omega
theorem intCells_length (l : List Int) : (intCells l).length = l.length * 1 := by simp [intCells]

theorem pairCells_get (l : List PairD) : ∀ i (h : i < l.length), (pairCells l)[i * 2]? = some (.int .i64 l[i].x) ∧ (pairCells l)[i * 2 + 1]? = some (.int .i64 l[i].y) := by
  induction l with
  | nil => intro i h; simp at h
  | cons p l ih =>
    intro i h
    cases i with
    | zero => simp [pairCells]
    | succ i =>
      have := ih i (by simpa using h)
      simp only [pairCells] at this
      simp [pairCells, show (i + 1) * 2 = i * 2 + 2 by omega, this]
theorem instrCells_get (l : List InstrD) : ∀ i (h : i < l.length), (instrCells l)[i * 3]? = some (.int .i64 l[i].op) ∧ (instrCells l)[i * 3 + 1]? = some (.int .i64 l[i].a) ∧ (instrCells l)[i * 3 + 2]? = some (.int .i64 l[i].b) := by
  induction l with
  | nil => intro i h; simp at h
  | cons p l ih =>
    intro i h
    cases i with
    | zero => simp [instrCells]
    | succ i =>
      have := ih i (by simpa using h)
      simp only [instrCells] at this
      simp [instrCells, show (i + 1) * 3 = i * 3 + 3 by omega, this]

theorem pairCells_one (l : List PairD) : ∀ u ∈ pairCells l, u.oneCell' = true := by
  intro u hu
  simp only [pairCells, List.mem_flatMap] at hu
  obtain ⟨p, _, hp⟩ := hu
  simp at hp
  rcases hp with rfl | rfl <;> rfl
theorem instrCells_one (l : List InstrD) : ∀ u ∈ instrCells l, u.oneCell' = true := by
  intro u hu
  simp only [instrCells, List.mem_flatMap] at hu
  obtain ⟨p, _, hp⟩ := hu
  simp at hp
  rcases hp with rfl | rfl | rfl <;> rfl
theorem intCells_one (l : List Int) : ∀ u ∈ intCells l, u.oneCell' = true := by
  intro u hu
  simp only [intCells, List.mem_map] at hu
  obtain ⟨p, _, rfl⟩ := hu
  rfl

/-- What the append law asks of its source, out of the lists as they lie. -/
theorem PairsIn.src {B : Nat} {w : World} {ao : Option Addr} {l : List PairD} (h : PairsIn B w ao l) : ∀ j u, (pairCells l)[j]? = some u → ∃ ad, ao = some ad ∧ w.cell? (ad.add j) = some u := by
  intro j u hj
  have hlt : j < (pairCells l).length := by
    rcases Nat.lt_or_ge j (pairCells l).length with h' | h'
    · exact h'
    · rw [List.getElem?_eq_none h'] at hj; cases hj
  rw [pairCells_length] at hlt
  have hi : j / 2 < l.length := by omega
  obtain ⟨b, o, ha, _, hx, hy⟩ := h (j / 2) hi
  have hg := pairCells_get l (j / 2) hi
  refine ⟨_, ha, ?_⟩
  rw [Addr.add_lit]
  rcases (show j = j / 2 * 2 ∨ j = j / 2 * 2 + 1 by omega) with hh | hh
  · rw [hh] at hj ⊢
    rw [hg.1] at hj
    rw [← hj]; exact hx
  · rw [hh] at hj ⊢
    rw [hg.2] at hj
    rw [← hj]; exact hy
theorem IntsIn.src {B : Nat} {w : World} {ao : Option Addr} {l : List Int} (h : IntsIn B w ao l) : ∀ j u, (intCells l)[j]? = some u → ∃ ad, ao = some ad ∧ w.cell? (ad.add j) = some u := by
  intro j u hj
  have hlt : j < (intCells l).length := by
    rcases Nat.lt_or_ge j (intCells l).length with h' | h'
    · exact h'
    · rw [List.getElem?_eq_none h'] at hj; cases hj
  rw [intCells_length] at hlt
  obtain ⟨b, o, ha, _, hx⟩ := h j (by omega)
  refine ⟨_, ha, ?_⟩
  rw [Addr.add_lit, hx]
  simpa [intCells, List.getElem?_eq_getElem (show j < l.length by omega)] using hj

theorem InstrsIn.src {B : Nat} {w : World} {ao : Option Addr} {l : List InstrD} (h : InstrsIn B w ao l) : ∀ j u, (instrCells l)[j]? = some u → ∃ ad, ao = some ad ∧ w.cell? (ad.add j) = some u := by
  intro j u hj
  have hlt : j < (instrCells l).length := by
    rcases Nat.lt_or_ge j (instrCells l).length with h' | h'
    · exact h'
    · rw [List.getElem?_eq_none h'] at hj; cases hj
  rw [instrCells_length] at hlt
  have hi : j / 3 < l.length := by omega
  obtain ⟨b, o, ha, _, hx, hy, hz⟩ := h (j / 3) hi
  have hg := instrCells_get l (j / 3) hi
  refine ⟨_, ha, ?_⟩
  rw [Addr.add_lit]
  rcases (show j = j / 3 * 3 ∨ j = j / 3 * 3 + 1 ∨ j = j / 3 * 3 + 2 by omega) with hh | hh | hh
  · rw [hh] at hj ⊢
    rw [hg.1] at hj
    rw [← hj]; exact hx
  · rw [hh] at hj ⊢
    rw [hg.2.1] at hj
    rw [← hj]; exact hy
  · rw [hh] at hj ⊢
    rw [hg.2.2] at hj
    rw [← hj]; exact hz

/-- A list of the call's own, told by its cells. -/
theorem owns_cells {w : World} {base : Nat} {e : TypeId} {size n : Nat} {v : Value} {xs : List Value} (h : w.ownsRow base e size v n xs) :
    ∃ ao cap, v = .slice ao n cap ∧ (ao = none → n = 0 ∧ cap = 0) ∧ ∀ a, ao = some a → ∃ g, a = ⟨g, 0, none⟩ ∧ base ≤ g ∧ g < w.heap.size ∧ (∃ cur, w.heap[g]? = some (.cells cur e (0, 0))) ∧ ∀ j, j < n * size → w.cell? ⟨g, j, none⟩ = xs[j]? := by
  have h0 := h
  obtain ⟨_, ⟨rfl, rfl⟩ | ⟨g, cap, cur, rfl, hbg, hg, hr⟩⟩ := h
  · exact ⟨none, 0, rfl, fun _ => ⟨rfl, rfl⟩, fun a ha => by cases ha⟩
  · refine ⟨some ⟨g, 0, none⟩, cap, rfl, fun hh => (by cases hh), fun a ha => ?_⟩
    cases ha
    refine ⟨g, rfl, hbg, ?_, ⟨cur, hg⟩, fun j hj => h0.cellAt j hj⟩
    rcases Nat.lt_or_ge g w.heap.size with h' | h'
    · exact h'
    · rw [Array.getElem?_eq_none h'] at hg; cases hg

theorem PairsIn.of_owns {w : World} {base : Nat} {e : TypeId} {v : Value} {l : List PairD} (h : w.ownsRow base e 2 v l.length (pairCells l)) :
    ∃ ao cap, v = .slice ao l.length cap ∧ (ao = none → cap = 0) ∧ PairsIn w.heap.size w ao l ∧ ∀ a, ao = some a → ∃ g, a = ⟨g, 0, none⟩ ∧ base ≤ g ∧ g < w.heap.size := by
  obtain ⟨ao, cap, rfl, hn, ha⟩ := owns_cells h
  refine ⟨ao, cap, rfl, fun hh => (hn hh).2, fun i hi => ?_, fun a haa => ?_⟩
  · cases ao with
    | none => have := (hn rfl).1; omega
    | some a =>
      obtain ⟨g, rfl, hb, hlt, _, hc⟩ := ha a rfl
      have hg := pairCells_get l i hi
      exact ⟨g, 0, rfl, hlt, by rw [hc _ (by omega)]; simpa using hg.1, by rw [hc _ (by omega)]; simpa using hg.2⟩
  · obtain ⟨g, rfl, hb, hlt, _⟩ := ha a haa
    exact ⟨g, rfl, hb, hlt⟩

theorem InstrsIn.of_owns {w : World} {base : Nat} {e : TypeId} {v : Value} {l : List InstrD} (h : w.ownsRow base e 3 v l.length (instrCells l)) :
    ∃ ao cap, v = .slice ao l.length cap ∧ (ao = none → cap = 0) ∧ InstrsIn w.heap.size w ao l ∧ ∀ a, ao = some a → ∃ g, a = ⟨g, 0, none⟩ ∧ base ≤ g ∧ g < w.heap.size := by
  obtain ⟨ao, cap, rfl, hn, ha⟩ := owns_cells h
  refine ⟨ao, cap, rfl, fun hh => (hn hh).2, fun i hi => ?_, fun a haa => ?_⟩
  · cases ao with
    | none => have := (hn rfl).1; omega
    | some a =>
      obtain ⟨g, rfl, hb, hlt, _, hc⟩ := ha a rfl
      have hg := instrCells_get l i hi
      exact ⟨g, 0, rfl, hlt, by rw [hc _ (by omega)]; simpa using hg.1, by rw [hc _ (by omega)]; simpa using hg.2.1, by rw [hc _ (by omega)]; simpa using hg.2.2⟩
  · obtain ⟨g, rfl, hb, hlt, _⟩ := ha a haa
    exact ⟨g, rfl, hb, hlt⟩

theorem IntsIn.of_owns {w : World} {base : Nat} {e : TypeId} {v : Value} {l : List Int} (h : w.ownsRow base e 1 v l.length (intCells l)) :
    ∃ ao cap, v = .slice ao l.length cap ∧ (ao = none → cap = 0) ∧ IntsIn w.heap.size w ao l ∧ ∀ a, ao = some a → ∃ g, a = ⟨g, 0, none⟩ ∧ base ≤ g ∧ g < w.heap.size := by
  obtain ⟨ao, cap, rfl, hn, ha⟩ := owns_cells h
  refine ⟨ao, cap, rfl, fun hh => (hn hh).2, fun i hi => ?_, fun a haa => ?_⟩
  · cases ao with
    | none => have := (hn rfl).1; omega
    | some a =>
      obtain ⟨g, rfl, hb, hlt, _, hc⟩ := ha a rfl
      exact ⟨g, 0, rfl, hlt, by rw [hc _ (by omega)]; simp [intCells, List.getElem?_eq_getElem hi]⟩
  · obtain ⟨g, rfl, hb, hlt, _⟩ := ha a haa
    exact ⟨g, rfl, hb, hlt⟩

/-- A block of cells that are not frozen. -/
def Blk (w : World) (b : Nat) (cs : Array Value) (e : TypeId) : Prop := w.heap[b]? = some (.cells cs e (0, 0))

theorem Blk.cell {w : World} {b : Nat} {cs : Array Value} {e : TypeId} (h : Blk w b cs e) (j : Nat) : w.cell? ⟨b, j, none⟩ = cs[j]? := by
  unfold Blk at h
  simp [World.cell?, h]
theorem Blk.frozen {w : World} {b : Nat} {cs : Array Value} {e : TypeId} (h : Blk w b cs e) (j : Nat) : w.frozen? ⟨b, j, none⟩ = false := by
  unfold Blk at h
  simp [World.frozen?, h]
theorem Blk.lt {w : World} {b : Nat} {cs : Array Value} {e : TypeId} (h : Blk w b cs e) : b < w.heap.size := by
  unfold Blk at h
  rcases Nat.lt_or_ge b w.heap.size with h' | h'
  · exact h'
  · rw [Array.getElem?_eq_none h'] at h; cases h
theorem Blk.set {w : World} {b : Nat} {cs : Array Value} {e : TypeId} (h : Blk w b cs e) (j : Nat) (u : Value) : Blk (w.setCell ⟨b, j, none⟩ u) b (cs.setIfInBounds j u) e := by
  unfold Blk at h ⊢
  simp [World.setCell, Array.getElem?_modify, h]
theorem Blk.other {w : World} {b : Nat} {cs : Array Value} {e : TypeId} (h : Blk w b cs e) {p : Addr} (hp : b ≠ p.block) (u : Value) : Blk (w.setCell p u) b cs e := by
  unfold Blk at h ⊢
  rw [Below.heap_setCell _ _ _ _ hp]
  exact h
theorem Blk.new (w : World) (cs : Array Value) (e : TypeId) : Blk (w.alloc (.cells cs e)) w.heap.size cs e := heap_alloc_new w _
theorem Blk.alloc {w : World} {b : Nat} {cs : Array Value} {e : TypeId} (h : Blk w b cs e) (o : Obj) : Blk (w.alloc o) b cs e := by
  have hb := h.lt
  unfold Blk at h ⊢
  rw [Below.heap_alloc _ _ _ hb]
  exact h
theorem Blk.but {w w' : World} {b : Nat} {cs : Array Value} {e : TypeId} (h : Blk w b cs e) {B c : Nat} (hb : But B c w w') (h1 : b < B) (h2 : b ≠ c) : Blk w' b cs e := by
  unfold Blk at h ⊢
  rw [hb.block b h1 h2]
  exact h
theorem Blk.grown {w w' : World} {b : Nat} {cs : Array Value} {e : TypeId} (h : Blk w b cs e) {row : Option Nat} (hg : w.grownBy w' row) (hr : some b ≠ row) : Blk w' b cs e := by
  have hb := h.lt
  unfold Blk at h ⊢
  rw [hg.block b hb hr]
  exact h
theorem PairsIn.carry {B : Nat} {w w' : World} {ao : Option Addr} {l : List PairD} (h : PairsIn B w ao l) (hc : ∀ a, ao = some a → ∀ j, w'.cell? ⟨a.block, j, none⟩ = w.cell? ⟨a.block, j, none⟩) : PairsIn B w' ao l := by
  intro i hi
  obtain ⟨b, o, ha, hlt, hx, hy⟩ := h i hi
  exact ⟨b, o, ha, hlt, (hc _ ha _).trans hx, (hc _ ha _).trans hy⟩
theorem IntsIn.carry {B : Nat} {w w' : World} {ao : Option Addr} {l : List Int} (h : IntsIn B w ao l) (hc : ∀ a, ao = some a → ∀ j, w'.cell? ⟨a.block, j, none⟩ = w.cell? ⟨a.block, j, none⟩) : IntsIn B w' ao l := by
  intro i hi
  obtain ⟨b, o, ha, hlt, hx⟩ := h i hi
  exact ⟨b, o, ha, hlt, (hc _ ha _).trans hx⟩
theorem InstrsIn.carry {B : Nat} {w w' : World} {ao : Option Addr} {l : List InstrD} (h : InstrsIn B w ao l) (hc : ∀ a, ao = some a → ∀ j, w'.cell? ⟨a.block, j, none⟩ = w.cell? ⟨a.block, j, none⟩) : InstrsIn B w' ao l := by
  intro i hi
  obtain ⟨b, o, ha, hlt, hx, hy, hz⟩ := h i hi
  exact ⟨b, o, ha, hlt, (hc _ ha _).trans hx, (hc _ ha _).trans hy, (hc _ ha _).trans hz⟩

end Go.Proofs.Ythnjabnlocpoaaa
