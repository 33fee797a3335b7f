/-
  What lies in memory while donateref.Copy runs: the threads copied so far.
-/
import Derived.Test.YthnjabnlocpoaaaCopyLaws
namespace Go.Proofs.Ythnjabnlocpoaaa
open Go.RowKit

theorem ownsRow_mono {w : World} {base base' : Nat} {e : TypeId} {size n : Nat} {v : Value} {xs : List Value} (h : w.ownsRow base e size v n xs) (hb : base' ≤ base) : w.ownsRow base' e size v n xs := by
  obtain ⟨h1, h2⟩ := h
  refine ⟨h1, ?_⟩
  rcases h2 with h2 | ⟨g, cap, cur, hv, hg, r⟩
  · exact Or.inl h2
  · exact Or.inr ⟨g, cap, cur, hv, Nat.le_trans hb hg, r⟩

/-- What is owned stays owned where its block is as it was. -/
theorem ownsRow_same {w w' : World} {base : Nat} {e : TypeId} {size n : Nat} {v : Value} {xs : List Value} (h : w.ownsRow base e size v n xs) (hb : ∀ g, v.ownBlock = some g → w'.heap[g]? = w.heap[g]?) : w'.ownsRow base e size v n xs := by
  obtain ⟨h1, h2⟩ := h
  refine ⟨h1, ?_⟩
  rcases h2 with h2 | ⟨g, cap, cur, rfl, hg, hh, r⟩
  · exact Or.inl h2
  · exact Or.inr ⟨g, cap, cur, rfl, hg, (hb g rfl).trans hh, r⟩

/-- The block of what is owned: where it is, of which type. -/
theorem ownsRow_block {w : World} {base : Nat} {e : TypeId} {size n : Nat} {v : Value} {xs : List Value} (h : w.ownsRow base e size v n xs) {g : Nat} (hv : v.ownBlock = some g) : base ≤ g ∧ g < w.heap.size ∧ ∃ cur, w.heap[g]? = some (.cells cur e (0, 0)) := by
  have hl := h.lt g hv
  obtain ⟨h1, h2⟩ := h
  rcases h2 with ⟨rfl, _⟩ | ⟨g', cap, cur, rfl, hg, hh, r⟩
  · cases hv
  · simp only [Value.ownBlock, Option.some.injEq] at hv
    subst hv
    exact ⟨hl.1, hl.2, cur, hh⟩

def thCells (l : List ThreadD) (cs : Nat → Value) (k : Nat) : List Value :=
  (List.range k).flatMap fun i => [.int .i64 (l.getD i P3.none0).base, .int .i64 (l.getD i P3.none0).offset, .int .i64 (l.getD i P3.none0).period, .int .i64 (l.getD i P3.none0).deadline, cs i]

theorem thCells_succ (l : List ThreadD) (cs : Nat → Value) (k : Nat) : thCells l cs (k + 1) = thCells l cs k ++ [.int .i64 (l.getD k P3.none0).base, .int .i64 (l.getD k P3.none0).offset, .int .i64 (l.getD k P3.none0).period, .int .i64 (l.getD k P3.none0).deadline, cs k] := by
  simp [thCells, List.range_succ]

theorem thCells_congr (l : List ThreadD) (cs cs' : Nat → Value) (k : Nat) (h : ∀ i, i < k → cs i = cs' i) : thCells l cs k = thCells l cs' k := by
  induction k with
  | zero => rfl
  | succ k ih => rw [thCells_succ, thCells_succ, ih (fun i hi => h i (by omega)), h k (by omega)]

theorem thCells_length (l : List ThreadD) (cs : Nat → Value) (k : Nat) : (thCells l cs k).length = k * 5 := by
  induction k with
  | zero => rfl
  | succ k ih => rw [thCells_succ, List.length_append, ih]; simp; omega

theorem thCells_get (l : List ThreadD) (cs : Nat → Value) (k i : Nat) (h : i < k) (hl : i < l.length) :
    (thCells l cs k)[i * 5]? = some (.int .i64 l[i].base) ∧ (thCells l cs k)[i * 5 + 1]? = some (.int .i64 l[i].offset) ∧ (thCells l cs k)[i * 5 + 2]? = some (.int .i64 l[i].period) ∧
      (thCells l cs k)[i * 5 + 3]? = some (.int .i64 l[i].deadline) ∧ (thCells l cs k)[i * 5 + 4]? = some (cs i) := by
  induction k with
  | zero => omega
  | succ k ih =>
    rw [thCells_succ]
    have hlen := thCells_length l cs k
    rcases Nat.lt_succ_iff_lt_or_eq.1 h with h1 | rfl
    · obtain ⟨a, b, c, d, e⟩ := ih h1
      refine ⟨?_, ?_, ?_, ?_, ?_⟩ <;> rw [List.getElem?_append_left (by omega)] <;> assumption
    · have hd : l.getD i P3.none0 = l[i] := by simp [List.getD, hl]
      refine ⟨?_, ?_, ?_, ?_, ?_⟩ <;> rw [List.getElem?_append_right (by omega)] <;> simp [hlen, List.getElem?_eq_getElem hl]

/-- The threads copied so far, and their codes. -/
def ThRows (B : Nat) (wr : World) (vt : Value) (l : List ThreadD) (k : Nat) (cs : Nat → Value) : Prop :=
  wr.ownsRow B 41 5 vt k (thCells l cs k) ∧ ∀ i (h : i < l.length), i < k → wr.ownsRow B 48 3 (cs i) l[i].code.length (instrCells l[i].code)

theorem ThRows.zero (B : Nat) (wr : World) (l : List ThreadD) (cs : Nat → Value) : ThRows B wr (.slice none 0 0) l 0 cs := ⟨World.ownsRow_nil _ _ _ _, fun _ _ h => absurd h (Nat.not_lt_zero _)⟩

/-- Nothing of the blocks that were there has turned, but for blocks below B. -/
theorem ThRows.same {B : Nat} {wr w' : World} {vt : Value} {l : List ThreadD} {k : Nat} {cs : Nat → Value} (h : ThRows B wr vt l k cs) (hs : ∀ g, B ≤ g → g < wr.heap.size → w'.heap[g]? = wr.heap[g]?) : ThRows B w' vt l k cs := by
  obtain ⟨h1, h2⟩ := h
  refine ⟨ownsRow_same h1 fun g hg => ?_, fun i hi hk => ownsRow_same (h2 i hi hk) fun g hg => ?_⟩
  · obtain ⟨a, b, _⟩ := ownsRow_block h1 hg
    exact hs g a b
  · obtain ⟨a, b, _⟩ := ownsRow_block (h2 i hi hk) hg
    exact hs g a b

/-- One thread more: its code vc is owned, its cells are appended. -/
theorem ThRows.step {B : Nat} {w0 w1 : World} {vt vt' vc : Value} {l : List ThreadD} {k : Nat} {cs : Nat → Value} (h : ThRows B w0 vt l k cs) (hk : k < l.length) (hc : w0.ownsRow B 48 3 vc l[k].code.length (instrCells l[k].code))
    (hg : w0.grownBy w1 vt.ownBlock)
    (hv : w1.ownsRow B 41 5 vt' (k + 1) (thCells l cs k ++ [.int .i64 l[k].base, .int .i64 l[k].offset, .int .i64 l[k].period, .int .i64 l[k].deadline, vc])) : ∃ cs', ThRows B w1 vt' l (k + 1) cs' := by
  obtain ⟨h1, h2⟩ := h
  have hd : l.getD k P3.none0 = l[k] := by simp [List.getD, hk]
  have keep : ∀ {v : Value} {n : Nat} {xs : List Value}, w0.ownsRow B 48 3 v n xs → w1.ownsRow B 48 3 v n xs := by
    intro v n xs ho
    refine ownsRow_same ho fun g hgv => ?_
    obtain ⟨_, hlt, cur, hcur⟩ := ownsRow_block ho hgv
    refine hg.block g hlt fun e => ?_
    obtain ⟨_, _, cur', hcur'⟩ := ownsRow_block h1 e.symm
    rw [hcur] at hcur'
    cases hcur'
  refine ⟨fun i => if i = k then vc else cs i, ?_, fun i hi hik => ?_⟩
  · rw [thCells_succ, thCells_congr l (fun i => if i = k then vc else cs i) cs k (fun i hi => by simp; omega), hd]
    simpa using hv
  · by_cases e : i = k
    · subst e
      simpa using keep hc
    · simp only [if_neg e]
      exact keep (h2 i hi (by omega))

theorem ThreadsIn.of_rows {B : Nat} {w : World} {vt : Value} {l : List ThreadD} {cs : Nat → Value} (h : ThRows B w vt l l.length cs) :
    ∃ ao cap, vt = .slice ao l.length cap ∧ (ao = none → cap = 0) ∧ ThreadsIn w.heap.size w ao l := by
  obtain ⟨h1, h2⟩ := h
  obtain ⟨ao, cap, rfl, hn, ha⟩ := owns_cells h1
  refine ⟨ao, cap, rfl, fun hh => (hn hh).2, fun i hi => ?_⟩
  cases ao with
  | none => have := (hn rfl).1; omega
  | some a =>
    obtain ⟨g, rfl, hb, hlt, _, hc⟩ := ha a rfl
    obtain ⟨g0, g1, g2, g3, g4⟩ := thCells_get l cs l.length i hi hi
    obtain ⟨cv, cc, hcv, hcn, hci, _⟩ := InstrsIn.of_owns (h2 i hi hi)
    rw [hcv] at g4
    exact ⟨g, 0, cv, cc, rfl, hlt, by rw [hc _ (by omega)]; simpa using g0, by rw [hc _ (by omega)]; simpa using g1, by rw [hc _ (by omega)]; simpa using g2, by rw [hc _ (by omega)]; simpa using g3,
      by rw [hc _ (by omega)]; simpa using g4, hci, hcn⟩

theorem ThreadsIn.of_rows_later {B : Nat} {w : World} {vt : Value} {l : List ThreadD} {cs : Nat → Value} (h : ThRows B w vt l l.length cs) :
    ∃ ao cap, vt = .slice ao l.length cap ∧ (ao = none → cap = 0) ∧ ∀ w', (∀ g, B ≤ g → g < w.heap.size → w'.heap[g]? = w.heap[g]?) → ThreadsIn w'.heap.size w' ao l := by
  obtain ⟨ao, cap, rfl, hn, _⟩ := ThreadsIn.of_rows h
  refine ⟨ao, cap, rfl, hn, fun w' hs => ?_⟩
  obtain ⟨ao', cap', he, _, hin⟩ := ThreadsIn.of_rows (h.same hs)
  cases he
  exact hin

theorem six_same (w : World) (c : Nat) (v0 v1 v2 v3 v4 v5 : Value) (g : Nat) (hg : g ≠ c) :
    ((((((w.setCell ⟨c, 0, none⟩ v0).setCell ⟨c, 1, none⟩ v1).setCell ⟨c, 2, none⟩ v2).setCell ⟨c, 3, none⟩ v3).setCell ⟨c, 4, none⟩ v4).setCell ⟨c, 5, none⟩ v5).heap[g]? = w.heap[g]? := by
  rw [Below.heap_setCell _ _ _ _ hg, Below.heap_setCell _ _ _ _ hg, Below.heap_setCell _ _ _ _ hg, Below.heap_setCell _ _ _ _ hg, Below.heap_setCell _ _ _ _ hg, Below.heap_setCell _ _ _ _ hg]
theorem six_size (w : World) (c : Nat) (v0 v1 v2 v3 v4 v5 : Value) :
    ((((((w.setCell ⟨c, 0, none⟩ v0).setCell ⟨c, 1, none⟩ v1).setCell ⟨c, 2, none⟩ v2).setCell ⟨c, 3, none⟩ v3).setCell ⟨c, 4, none⟩ v4).setCell ⟨c, 5, none⟩ v5).heap.size = w.heap.size := by
  simp [World.setCell]
theorem six_below {B : Nat} {w0 w : World} (h : Below B w0 w) (c : Nat) (hc : B ≤ c) (v0 v1 v2 v3 v4 v5 : Value) :
    Below B w0 ((((((w.setCell ⟨c, 0, none⟩ v0).setCell ⟨c, 1, none⟩ v1).setCell ⟨c, 2, none⟩ v2).setCell ⟨c, 3, none⟩ v3).setCell ⟨c, 4, none⟩ v4).setCell ⟨c, 5, none⟩ v5) :=
  (((((h.setCell (by exact hc) _).setCell (by exact hc) _).setCell (by exact hc) _).setCell (by exact hc) _).setCell (by exact hc) _).setCell (by exact hc) _

/-- A list of the call's own lies in blocks from lo on. -/
def NewAt (lo hi : Nat) (ao : Option Addr) : Prop := ∀ a, ao = some a → ∃ g, a = ⟨g, 0, none⟩ ∧ lo ≤ g ∧ g < hi

theorem PairsIn.keep {w w' : World} {ao : Option Addr} {l : List PairD} {lo hi : Nat} (h : PairsIn w.heap.size w ao l) (hn : NewAt lo hi ao) (hs : ∀ g, lo ≤ g → g < hi → w'.heap[g]? = w.heap[g]?) (hz : w.heap.size ≤ w'.heap.size) : PairsIn w'.heap.size w' ao l := by
  refine (h.carry fun a ha j => ?_).mono hz
  obtain ⟨g, rfl, h1, h2⟩ := hn a ha
  exact World.cell?_of_block (hs g h1 h2)
theorem IntsIn.keep {w w' : World} {ao : Option Addr} {l : List Int} {lo hi : Nat} (h : IntsIn w.heap.size w ao l) (hn : NewAt lo hi ao) (hs : ∀ g, lo ≤ g → g < hi → w'.heap[g]? = w.heap[g]?) (hz : w.heap.size ≤ w'.heap.size) : IntsIn w'.heap.size w' ao l := by
  refine (h.carry fun a ha j => ?_).mono hz
  obtain ⟨g, rfl, h1, h2⟩ := hn a ha
  exact World.cell?_of_block (hs g h1 h2)

/-- The call's three structs: the set as it came, the result, the copy under way (its lists: vt, vm, vs, vq). -/
structure CM (w : World) (S : SetD) (vT vM vS vQ : Value) (wx : World) (vt vm vs vq : Value) : Prop where
  x : Blk wx w.heap.size #[.int .i64 S.workers, .int .i64 S.start, vT, vM, vS, vQ] 27
  r : Blk wx (w.heap.size + 1) #[.int .i64 0, .int .i64 0, .slice none 0 0, .slice none 0 0, .slice none 0 0, .slice none 0 0] 27
  c : Blk wx (w.heap.size + 1 + 1) #[.int .i64 S.workers, .int .i64 S.start, vt, vm, vs, vq] 27
  below : Below w.heap.size w wx
  size : w.heap.size + 3 ≤ wx.heap.size

section
variable {w wx w' : World} {S : SetD} {vT vM vS vQ vt vm vs vq : Value}
theorem setCell_same (w : World) (p : Addr) (u : Value) (lo hi : Nat) (hp : p.block < lo) : ∀ g, lo ≤ g → g < hi → (w.setCell p u).heap[g]? = w.heap[g]? := fun g hg _ => Below.heap_setCell _ _ _ _ (by omega)
theorem setCell_size (w : World) (p : Addr) (u : Value) : (w.setCell p u).heap.size = w.heap.size := by simp [World.setCell]
theorem grown_same {w w' : World} {row : Option Nat} (hg : w.grownBy w' row) (lo hi : Nat) (hh : hi ≤ w.heap.size) (hr : ∀ k, row = some k → hi ≤ k) : ∀ g, lo ≤ g → g < hi → w'.heap[g]? = w.heap[g]? := fun g _ h2 => hg.block g (by omega) (fun e => by have := hr g e.symm; omega)
theorem NewAt.mono {lo hi hi' : Nat} {ao : Option Addr} (h : NewAt lo hi ao) (hh : hi ≤ hi') : NewAt lo hi' ao := fun a ha => by
  obtain ⟨g, h1, h2, h3⟩ := h a ha
  exact ⟨g, h1, h2, by omega⟩
theorem CM.start (w : World) (S : SetD) (vT vM vS vQ : Value) :
    CM w S vT vM vS vQ (((w.alloc (.cells #[.int .i64 S.workers, .int .i64 S.start, vT, vM, vS, vQ] 27)).alloc (.cells #[.int .i64 0, .int .i64 0, .slice none 0 0, .slice none 0 0, .slice none 0 0, .slice none 0 0] 27)).alloc (.cells #[.int .i64 S.workers, .int .i64 S.start, .slice none 0 0, .slice none 0 0, .slice none 0 0, .slice none 0 0] 27)) (.slice none 0 0) (.slice none 0 0) (.slice none 0 0) (.slice none 0 0) := by
  refine ⟨((Blk.new _ _ _).alloc _).alloc _, ?_, ?_, (((Below.refl _ _).alloc (Nat.le_refl _) _).alloc (by simp) _).alloc (by simp; omega) _, by simp⟩
  · have := Blk.new (w.alloc (.cells #[.int .i64 S.workers, .int .i64 S.start, vT, vM, vS, vQ] 27)) #[.int .i64 0, .int .i64 0, .slice none 0 0, .slice none 0 0, .slice none 0 0, .slice none 0 0] 27
    simp at this
    exact this.alloc _
  · have := Blk.new ((w.alloc (.cells #[.int .i64 S.workers, .int .i64 S.start, vT, vM, vS, vQ] 27)).alloc (.cells #[.int .i64 0, .int .i64 0, .slice none 0 0, .slice none 0 0, .slice none 0 0, .slice none 0 0] 27)) #[.int .i64 S.workers, .int .i64 S.start, .slice none 0 0, .slice none 0 0, .slice none 0 0, .slice none 0 0] 27
    simp at this
    exact this
theorem CM.grown (h : CM w S vT vM vS vQ wx vt vm vs vq) {row : Option Nat} (hg : wx.grownBy w' row) (hr : ∀ k, row = some k → w.heap.size + 3 ≤ k) : CM w S vT vM vS vQ w' vt vm vs vq :=
  ⟨h.x.grown hg (fun e => by have := hr _ e.symm; omega), h.r.grown hg (fun e => by have := hr _ e.symm; omega), h.c.grown hg (fun e => by have := hr _ e.symm; omega),
    h.below.grown hg (by have := h.size; omega) (fun k hk => by have := hr k hk; omega), Nat.le_trans h.size hg.size⟩
theorem CM.alloc (h : CM w S vT vM vS vQ wx vt vm vs vq) (o : Obj) : CM w S vT vM vS vQ (wx.alloc o) vt vm vs vq :=
  ⟨h.x.alloc o, h.r.alloc o, h.c.alloc o, h.below.alloc (by have := h.size; omega) o, by have := h.size; simp; omega⟩
theorem CM.other (h : CM w S vT vM vS vQ wx vt vm vs vq) {p : Addr} (hp : w.heap.size + 3 ≤ p.block) (u : Value) : CM w S vT vM vS vQ (wx.setCell p u) vt vm vs vq :=
  ⟨h.x.other (by omega) u, h.r.other (by omega) u, h.c.other (by omega) u, h.below.setCell (by omega) u, by simpa [World.setCell] using h.size⟩
theorem CM.set2 (h : CM w S vT vM vS vQ wx vt vm vs vq) (u : Value) : CM w S vT vM vS vQ (wx.setCell ⟨w.heap.size + 1 + 1, 2, none⟩ u) u vm vs vq :=
  ⟨h.x.other (by show w.heap.size ≠ w.heap.size + 1 + 1; omega) u, h.r.other (by show w.heap.size + 1 ≠ _; simp) u, by simpa using h.c.set 2 u, h.below.setCell (by show w.heap.size ≤ _; simp; omega) u, by simpa [World.setCell] using h.size⟩
theorem CM.set3 (h : CM w S vT vM vS vQ wx vt vm vs vq) (u : Value) : CM w S vT vM vS vQ (wx.setCell ⟨w.heap.size + 1 + 1, 3, none⟩ u) vt u vs vq :=
  ⟨h.x.other (by show w.heap.size ≠ w.heap.size + 1 + 1; omega) u, h.r.other (by show w.heap.size + 1 ≠ _; simp) u, by simpa using h.c.set 3 u, h.below.setCell (by show w.heap.size ≤ _; simp; omega) u, by simpa [World.setCell] using h.size⟩
theorem CM.set4 (h : CM w S vT vM vS vQ wx vt vm vs vq) (u : Value) : CM w S vT vM vS vQ (wx.setCell ⟨w.heap.size + 1 + 1, 4, none⟩ u) vt vm u vq :=
  ⟨h.x.other (by show w.heap.size ≠ w.heap.size + 1 + 1; omega) u, h.r.other (by show w.heap.size + 1 ≠ _; simp) u, by simpa using h.c.set 4 u, h.below.setCell (by show w.heap.size ≤ _; simp; omega) u, by simpa [World.setCell] using h.size⟩
theorem CM.set5 (h : CM w S vT vM vS vQ wx vt vm vs vq) (u : Value) : CM w S vT vM vS vQ (wx.setCell ⟨w.heap.size + 1 + 1, 5, none⟩ u) vt vm vs u :=
  ⟨h.x.other (by show w.heap.size ≠ w.heap.size + 1 + 1; omega) u, h.r.other (by show w.heap.size + 1 ≠ _; simp) u, by simpa using h.c.set 5 u, h.below.setCell (by show w.heap.size ≤ _; simp; omega) u, by simpa [World.setCell] using h.size⟩
end

end Go.Proofs.Ythnjabnlocpoaaa
