import Derived.Test.YtbkfildnijjioabA19
import Derived.Test.YtbkfildnijjioabA20
import Derived.ProofKit
import Derived.SizedLaws
import Derived.Deep.Slices
import Derived.Deep.Fields
import Derived.Deep.Strs
import Derived.Test.YtbkfildnijjioabRows
import Derived.Test.YtbkfildnijjioabA12
/-
  A law's own lists beside the world: a step, and a list that grows.
-/
namespace Go.Proofs.Ytbkfildnijjioab
open Go.RowKit
section
variable {PK : KP} {B : Nat} {w : World} {wb kb : Nat} {P : Nat → Prop} {h : WH} {d : WD} {s : RS} {L : Nat → Prop} {M : World → Prop}
theorem wStepL_any (c : CAll PK) (k : KWS PK B w wb kb P h d s) (fm : FrameM L M) (ap : Apart w wb P h B L) (m : M w) (hnx : s.next ≤ 4611686018427386000) (hs0 : 0 ≤ d.steps) (hs1 : d.steps ≤ 2199023255552) (n : Int) :
    Calls Try.prog 12 #[.pointer (some ⟨wb, 0, none⟩), .int .i64 n] w fun e w' => e = .returned (.bool true) ∧ (∃ P' h', KWS PK B w' wb kb P' h' (stepD d s n) (R.entry s n) ∧ Apart w' wb P' h' B L ∧ M w') ∧ Below B w w' := by
  refine (wStepS_any (c.with fm) (k.with ap m) hnx hs0 hs1 n).mono ?_
  rintro e w' ⟨rfl, ⟨P', h', k'⟩, hb⟩
  obtain ⟨P0, k0, a0, m0⟩ := k'.without
  exact ⟨rfl, ⟨P0, h', k0, a0, m0⟩, hb⟩
/-- What is not the world's or the kernel's may change. -/
theorem KWS.frame (f : KFrame PK) (k : KWS PK B w wb kb P h d s) {w' : World} (hs : ∀ b, (P b ∨ WB wb h b) → w'.heap[b]? = w.heap[b]?) (hb : Below B w w') : KWS PK B w' wb kb P h d s :=
  ⟨⟨k.k.m.frame (fun b hw => hs b (.inr hw)) hb, f.frame k.k.pk (fun b hp => hs b (.inl hp)) hb.size, k.k.hp, k.k.np⟩, k.wd, k.i, k.x, k.snc⟩
theorem KWS.grown (f : KFrame PK) (k : KWS PK B w wb kb P h d s) {w' : World} {o : Option Nat} (hg : w.grownBy w' o) (hv : ∀ g, o = some g → B ≤ g ∧ ¬ P g ∧ ¬ WB wb h g) : KWS PK B w' wb kb P h d s ∧ Below B w w' := by
  have hbz := k.k.m.bsz
  have hb : Below B w w' := ⟨hg.os, hg.tape, hg.output, hg.size, fun b hb => hg.block b (by omega) (fun e => by have := (hv b e.symm).1; omega)⟩
  refine ⟨k.frame f (fun b hb => ?_) hb, hb⟩
  have hl : b < w.heap.size := by
    rcases hb with h1 | h1
    · exact f.lt k.k.pk b h1
    · exact k.k.m.lt b h1
  refine hg.block b hl (fun e => ?_)
  have := hv b e.symm
  rcases hb with h1 | h1
  · exact this.2.1 h1
  · exact this.2.2 h1
/-- A cell of a block of the law's own. -/
theorem KWS.put (f : KFrame PK) (k : KWS PK B w wb kb P h d s) (p : Addr) (u : Value) (hv : B ≤ p.block ∧ ¬ P p.block ∧ ¬ WB wb h p.block) : KWS PK B (w.setCell p u) wb kb P h d s ∧ Below B w (w.setCell p u) := by
  have hb : Below B w (w.setCell p u) := (Below.refl _ _).setCell hv.1 u
  refine ⟨k.frame f (fun b hb => Below.heap_setCell _ _ _ _ (fun e => ?_)) hb, hb⟩
  subst e
  rcases hb with h1 | h1
  · exact hv.2.1 h1
  · exact hv.2.2 h1
/-- What a call has made lies apart. -/
theorem KWS.fresh (f : KFrame PK) (k : KWS PK B w wb kb P h d s) {g : Nat} (hg : w.heap.size ≤ g) : B ≤ g ∧ ¬ P g ∧ ¬ WB wb h g := ⟨by have := k.k.m.bsz; omega, k.free f hg⟩
end
/-- Lists of the law's own: M. -/
theorem frame_row {B : Nat} {e : TypeId} {size n : Nat} {v : Value} {xs : List Value} : FrameM (fun b => v.ownBlock = some b) (fun w => w.ownsRow B e size v n xs) := fun _ _ m hs _ => ownsRow_same m fun g hg => hs g hg
end Go.Proofs.Ytbkfildnijjioab

/-
  A set that came in, opened: what the form's reader reads is plain data in memory.
-/
namespace Go.Proofs.Ytbkfildnijjioab
open Go.ChangeShapes Go.WideShapes Go.ChangeAt Go.RowKit Go.Deep

section
variable {H : Type} {enc : TypeId × Value → H} {w : World} {held : Bool}

/-- Every weight of a datum is within the form's reach. -/
def Light (d : DataW H) (t : TypeId) : Prop := ∀ n ∈ d.weights Try.prog t, n ≤ reachBytes

/-- A list, opened: its elements by R. -/
theorem open_list {α : Type} (d0 : α) {t e : TypeId} {size bytes : Nat} (ht : Try.prog.underlying t = some (.slice e)) (hc : Try.prog.cellsOf e = size) (hby : Try.prog.bytesOf e = bytes) (hpos : 0 < size)
    {R : α → List Value → DataW H → Prop} (hR : ∀ n cs x, DataW.trod enc Try.prog w 0 (fun _ => true) held n e cs = some x → ∃ a, R a cs x.1)
    {fuel : Nat} {cs : List Value} {x : DataW H × List MemPlace} (h : DataW.trod enc Try.prog w 0 (fun _ => true) held fuel t cs = some x) :
    ∃ (ao : Option Addr) (cap : Nat) (l : List α), cs = [.slice ao l.length cap] ∧ (ao = none → cap = 0) ∧
      (∀ i (hi : i < l.length), ∃ b o cs' d, ao = some ⟨b, o, none⟩ ∧ b < w.heap.size ∧ cs'.length = size ∧ (∀ j, j < size → w.cell? ⟨b, o + i * size + j, none⟩ = cs'[j]?) ∧ R l[i] cs' d ∧ (Light x.1 t → Light d e)) ∧
      (Light x.1 t → l.length * bytes ≤ reachBytes) := by
  subst hc; subst hby
  rcases open_slice ht h with ⟨rfl, rfl⟩ | ⟨a, len, cap, m, n, D, Pl, rfl, _, hl, _, hm, rfl, hel⟩
  · exact ⟨none, 0, [], rfl, fun _ => rfl, fun i hi => absurd hi (Nat.not_lt_zero _), fun _ => by simp⟩
  · simp only [if_true] at hm
    subst hm
    have hA : ∀ i, i < len → ∃ y : α, ∀ cs', DataW.trod enc Try.prog w 0 (fun _ => true) held n e cs' = some (D i, Pl i) → w.cells? 0 (a.add (i * Try.prog.cellsOf e)) (Try.prog.cellsOf e) = some cs' → R y cs' (D i) := by
      intro i hi
      obtain ⟨cs', h1, h2⟩ := hel i (by omega)
      obtain ⟨y, hy⟩ := hR n cs' _ h2
      refine ⟨y, fun cs'' _ h4 => ?_⟩
      rw [h1] at h4
      cases h4
      exact hy
    haveI : Inhabited α := ⟨d0⟩
    obtain ⟨A, hA⟩ := choose_lt hA
    refine ⟨some a, m, (List.range len).map A, by simp, fun hh => (by cases hh), fun i hi => ?_, fun hw => ?_⟩
    · have hi' : i < len := by simpa using hi
      obtain ⟨cs', h1, h2⟩ := hel i (by omega)
      obtain ⟨_, hlen, hcell⟩ := World.cells?_some h1
      have h0 := hcell 0 hpos
      rw [add_add, Nat.add_zero, List.getElem?_eq_getElem (by omega)] at h0
      have hspot : (a.add (i * Try.prog.cellsOf e)).spot = none := World.cell?_spot h0
      have hlt := World.block_lt_of_cell? _ _ h0
      obtain ⟨b, o, spot⟩ := a
      have hsp : spot = none := by
        by_cases hz : i * Try.prog.cellsOf e = 0
        · rw [hz, Addr.add_zero'] at h0
          exact World.cell?_spot h0
        · -- the first element tells it
          obtain ⟨cs0, g1, _⟩ := hel 0 (by omega)
          obtain ⟨_, gl, gc⟩ := World.cells?_some g1
          have g0 := gc 0 hpos
          rw [Nat.zero_mul, Addr.add_zero', Addr.add_zero', List.getElem?_eq_getElem (by omega)] at g0
          exact World.cell?_spot g0
      subst hsp
      refine ⟨b, o, cs', D i, rfl, by simpa [Addr.add_lit] using hlt, hlen, fun j hj => ?_, ?_, fun hw => ?_⟩
      · have := hcell j hj
        rw [Addr.add_lit, Addr.add_lit] at this
        exact this
      · have := hA i hi' cs' h2 h1
        simpa using this
      · intro q hq
        refine hw q ?_
        simp only [DataW.weights, ht]
        refine List.mem_cons_of_mem _ (List.mem_append_left _ ?_)
        have mem_all : ∀ (L : List (DataW H)) (d : DataW H), d ∈ L → ∀ q ∈ d.weights Try.prog e, q ∈ DataW.weightsAll Try.prog e L := by
          intro L
          induction L with
          | nil => intro d hd; cases hd
          | cons d0 L ih =>
            intro d hd q hq
            simp only [DataW.weightsAll, List.mem_append]
            rcases List.mem_cons.1 hd with rfl | hd
            · exact Or.inl hq
            · exact Or.inr (ih d hd q hq)
        exact mem_all _ (D i) (List.mem_map.2 ⟨i, List.mem_range.2 hi', rfl⟩) q hq
    · have := hw ((((List.range len).map D).length + ((List.range (m - len)).map fun j => D (len + j)).length) * Try.prog.bytesOf e) (by simp [DataW.weights, ht])
      simp only [List.length_map, List.length_range] at this ⊢
      exact Nat.le_trans (Nat.mul_le_mul_right _ (Nat.le_add_right _ _)) this

theorem c3 : Try.prog.cellsOf 3 = 1 := by kernel_rfl
theorem cMutex : Try.prog.cellsOf 77 = 2 := by kernel_rfl
theorem cSem : Try.prog.cellsOf 56 = 2 := by kernel_rfl
theorem cInstr : Try.prog.cellsOf 46 = 3 := by kernel_rfl
theorem cThread : Try.prog.cellsOf 75 = 5 := by kernel_rfl
theorem cCode : Try.prog.cellsOf 73 = 1 := by kernel_rfl
theorem cSet : Try.prog.cellsOf 27 = 6 := by kernel_rfl
theorem cThreads : Try.prog.cellsOf 22 = 1 := by kernel_rfl
theorem cMutexes : Try.prog.cellsOf 23 = 1 := by kernel_rfl
theorem cSems : Try.prog.cellsOf 24 = 1 := by kernel_rfl
theorem cInts : Try.prog.cellsOf 25 = 1 := by kernel_rfl
theorem b3 : Try.prog.bytesOf 3 = 8 := by kernel_rfl
theorem bMutex : Try.prog.bytesOf 77 = 16 := by kernel_rfl
theorem bSem : Try.prog.bytesOf 56 = 16 := by kernel_rfl
theorem bInstr : Try.prog.bytesOf 46 = 24 := by kernel_rfl
theorem bThread : Try.prog.bytesOf 75 = 56 := by kernel_rfl

theorem list2 {l : List Value} (h : l.length = 2) : ∃ a b, l = [a, b] := by
  match l, h with
  | [a, b], _ => exact ⟨a, b, rfl⟩
theorem list3 {l : List Value} (h : l.length = 3) : ∃ a b c, l = [a, b, c] := by
  match l, h with
  | [a, b, c], _ => exact ⟨a, b, c, rfl⟩
theorem list5 {α : Type} {l : List α} (h : l.length = 5) : ∃ a b c d e, l = [a, b, c, d, e] := by
  match l, h with
  | [a, b, c, d, e], _ => exact ⟨a, b, c, d, e, rfl⟩
theorem list6 {α : Type} {l : List α} (h : l.length = 6) : ∃ a b c d e f, l = [a, b, c, d, e, f] := by
  match l, h with
  | [a, b, c, d, e, f], _ => exact ⟨a, b, c, d, e, f, rfl⟩

theorem open_mutex {n : Nat} {cs : List Value} {x : DataW H × List MemPlace} (h : DataW.trod enc Try.prog w 0 (fun _ => true) held n 77 cs = some x) : ∃ a : PairD, cs = [.int .i64 a.x, .int .i64 a.y] := by
  obtain ⟨y0, y1, m, _, hl, h0, h1⟩ := trod_struct2 Try.underlying77 h
  rw [cMutex] at hl
  obtain ⟨a, b, rfl⟩ := list2 hl
  simp only [c3] at h0 h1
  obtain ⟨p, hp, _⟩ := DataW.trod_int Try.underlying3 h0
  obtain ⟨q, hq, _⟩ := DataW.trod_int Try.underlying3 h1
  simp at hp hq
  exact ⟨⟨p, q⟩, by simp [hp, hq]⟩
theorem open_sem {n : Nat} {cs : List Value} {x : DataW H × List MemPlace} (h : DataW.trod enc Try.prog w 0 (fun _ => true) held n 56 cs = some x) : ∃ a : PairD, cs = [.int .i64 a.x, .int .i64 a.y] := by
  obtain ⟨y0, y1, m, _, hl, h0, h1⟩ := trod_struct2 Try.underlying56 h
  rw [cSem] at hl
  obtain ⟨a, b, rfl⟩ := list2 hl
  simp only [c3] at h0 h1
  obtain ⟨p, hp, _⟩ := DataW.trod_int Try.underlying3 h0
  obtain ⟨q, hq, _⟩ := DataW.trod_int Try.underlying3 h1
  simp at hp hq
  exact ⟨⟨p, q⟩, by simp [hp, hq]⟩
theorem open_instr {n : Nat} {cs : List Value} {x : DataW H × List MemPlace} (h : DataW.trod enc Try.prog w 0 (fun _ => true) held n 46 cs = some x) : ∃ a : InstrD, cs = [.int .i64 a.op, .int .i64 a.a, .int .i64 a.b] := by
  obtain ⟨y0, y1, y2, m, _, hl, h0, h1, h2⟩ := trod_struct3 Try.underlying46 h
  rw [cInstr] at hl
  obtain ⟨a, b, c, rfl⟩ := list3 hl
  simp only [c3] at h0 h1 h2
  obtain ⟨p, hp, _⟩ := DataW.trod_int Try.underlying3 h0
  obtain ⟨q, hq, _⟩ := DataW.trod_int Try.underlying3 h1
  obtain ⟨r, hr, _⟩ := DataW.trod_int Try.underlying3 h2
  simp at hp hq hr
  exact ⟨⟨p, q, r⟩, by simp [hp, hq, hr]⟩

theorem open_code {n : Nat} {cs : List Value} {x : DataW H × List MemPlace} (h : DataW.trod enc Try.prog w 0 (fun _ => true) held n 73 cs = some x) :
    ∃ (ao : Option Addr) (cap : Nat) (l : List InstrD), cs = [.slice ao l.length cap] ∧ (ao = none → cap = 0) ∧ InstrsIn w.heap.size w ao l ∧ (Light x.1 73 → l.length * 24 ≤ reachBytes) := by
  obtain ⟨ao, cap, l, h1, h2, h3, h4⟩ := open_list (α := InstrD) ⟨0, 0, 0⟩ (R := fun a cs _ => cs = [.int .i64 a.op, .int .i64 a.a, .int .i64 a.b]) Try.underlying73 cInstr bInstr (by decide) (fun _ _ _ hh => open_instr hh) h
  refine ⟨ao, cap, l, h1, h2, fun i hi => ?_, h4⟩
  obtain ⟨b, o, cs', d, ha, hb, hl, hc, rfl, _⟩ := h3 i hi
  exact ⟨b, o, ha, hb, by simpa using hc 0 (by decide), by simpa using hc 1 (by decide), by simpa using hc 2 (by decide)⟩

theorem open_pairsM {n : Nat} {cs : List Value} {x : DataW H × List MemPlace} (h : DataW.trod enc Try.prog w 0 (fun _ => true) held n 23 cs = some x) :
    ∃ (ao : Option Addr) (cap : Nat) (l : List PairD), cs = [.slice ao l.length cap] ∧ (ao = none → cap = 0) ∧ PairsIn w.heap.size w ao l ∧ (Light x.1 23 → l.length * 16 ≤ reachBytes) := by
  obtain ⟨ao, cap, l, h1, h2, h3, h4⟩ := open_list (α := PairD) ⟨0, 0⟩ (R := fun a cs _ => cs = [.int .i64 a.x, .int .i64 a.y]) Try.underlying23 cMutex bMutex (by decide) (fun _ _ _ hh => open_mutex hh) h
  refine ⟨ao, cap, l, h1, h2, fun i hi => ?_, h4⟩
  obtain ⟨b, o, cs', d, ha, hb, hl, hc, rfl, _⟩ := h3 i hi
  exact ⟨b, o, ha, hb, by simpa using hc 0 (by decide), by simpa using hc 1 (by decide)⟩
theorem open_pairsS {n : Nat} {cs : List Value} {x : DataW H × List MemPlace} (h : DataW.trod enc Try.prog w 0 (fun _ => true) held n 24 cs = some x) :
    ∃ (ao : Option Addr) (cap : Nat) (l : List PairD), cs = [.slice ao l.length cap] ∧ (ao = none → cap = 0) ∧ PairsIn w.heap.size w ao l ∧ (Light x.1 24 → l.length * 16 ≤ reachBytes) := by
  obtain ⟨ao, cap, l, h1, h2, h3, h4⟩ := open_list (α := PairD) ⟨0, 0⟩ (R := fun a cs _ => cs = [.int .i64 a.x, .int .i64 a.y]) Try.underlying24 cSem bSem (by decide) (fun _ _ _ hh => open_sem hh) h
  refine ⟨ao, cap, l, h1, h2, fun i hi => ?_, h4⟩
  obtain ⟨b, o, cs', d, ha, hb, hl, hc, rfl, _⟩ := h3 i hi
  exact ⟨b, o, ha, hb, by simpa using hc 0 (by decide), by simpa using hc 1 (by decide)⟩
theorem open_numbers {n : Nat} {cs : List Value} {x : DataW H × List MemPlace} (h : DataW.trod enc Try.prog w 0 (fun _ => true) held n 25 cs = some x) :
    ∃ (ao : Option Addr) (cap : Nat) (l : List Int), cs = [.slice ao l.length cap] ∧ (ao = none → cap = 0) ∧ IntsIn w.heap.size w ao l ∧ (Light x.1 25 → l.length * 8 ≤ reachBytes) := by
  obtain ⟨ao, cap, l, h1, h2, h3, h4⟩ := open_list (α := Int) 0 (R := fun a cs _ => cs = [.int .i64 a]) Try.underlying25 c3 b3 (by decide) (fun _ _ _ hh => by obtain ⟨z, hz, _⟩ := DataW.trod_int Try.underlying3 hh; exact ⟨z, hz⟩) h
  refine ⟨ao, cap, l, h1, h2, fun i hi => ?_, h4⟩
  obtain ⟨b, o, cs', d, ha, hb, hl, hc, rfl, _⟩ := h3 i hi
  exact ⟨b, o, ha, hb, by simpa using hc 0 (by decide)⟩

theorem trod_struct5 {t : TypeId} {f0 f1 f2 f3 f4 : Field} {fuel : Nat} {cs : List Value} {x : DataW H × List MemPlace} (ht : Try.prog.underlying t = some (.struct #[f0, f1, f2, f3, f4])) (h : DataW.trod enc Try.prog w 0 (fun _ => true) held fuel t cs = some x) :
    ∃ y0 y1 y2 y3 y4 n, x.1 = .agg [y0.1, y1.1, y2.1, y3.1, y4.1] ∧ cs.length = Try.prog.cellsOf t ∧ DataW.trod enc Try.prog w 0 (fun _ => true) held n f0.type ((cs.drop f0.offset).take (Try.prog.cellsOf f0.type)) = some y0 ∧
      DataW.trod enc Try.prog w 0 (fun _ => true) held n f1.type ((cs.drop f1.offset).take (Try.prog.cellsOf f1.type)) = some y1 ∧ DataW.trod enc Try.prog w 0 (fun _ => true) held n f2.type ((cs.drop f2.offset).take (Try.prog.cellsOf f2.type)) = some y2 ∧
      DataW.trod enc Try.prog w 0 (fun _ => true) held n f3.type ((cs.drop f3.offset).take (Try.prog.cellsOf f3.type)) = some y3 ∧ DataW.trod enc Try.prog w 0 (fun _ => true) held n f4.type ((cs.drop f4.offset).take (Try.prog.cellsOf f4.type)) = some y4 := by
  obtain ⟨xs, n, _, rfl, hl, hlen, hf⟩ := DataW.trod_struct ht h
  obtain ⟨y0, y1, y2, y3, y4, rfl⟩ := list5 (hlen.trans rfl)
  exact ⟨y0, y1, y2, y3, y4, n, by simp, hl, by simpa using hf 0 f0 rfl, by simpa using hf 1 f1 rfl, by simpa using hf 2 f2 rfl, by simpa using hf 3 f3 rfl, by simpa using hf 4 f4 rfl⟩
theorem trod_struct6 {t : TypeId} {f0 f1 f2 f3 f4 f5 : Field} {fuel : Nat} {cs : List Value} {x : DataW H × List MemPlace} (ht : Try.prog.underlying t = some (.struct #[f0, f1, f2, f3, f4, f5])) (h : DataW.trod enc Try.prog w 0 (fun _ => true) held fuel t cs = some x) :
    ∃ y0 y1 y2 y3 y4 y5 n, x.1 = .agg [y0.1, y1.1, y2.1, y3.1, y4.1, y5.1] ∧ cs.length = Try.prog.cellsOf t ∧ DataW.trod enc Try.prog w 0 (fun _ => true) held n f0.type ((cs.drop f0.offset).take (Try.prog.cellsOf f0.type)) = some y0 ∧
      DataW.trod enc Try.prog w 0 (fun _ => true) held n f1.type ((cs.drop f1.offset).take (Try.prog.cellsOf f1.type)) = some y1 ∧ DataW.trod enc Try.prog w 0 (fun _ => true) held n f2.type ((cs.drop f2.offset).take (Try.prog.cellsOf f2.type)) = some y2 ∧
      DataW.trod enc Try.prog w 0 (fun _ => true) held n f3.type ((cs.drop f3.offset).take (Try.prog.cellsOf f3.type)) = some y3 ∧ DataW.trod enc Try.prog w 0 (fun _ => true) held n f4.type ((cs.drop f4.offset).take (Try.prog.cellsOf f4.type)) = some y4 ∧
      DataW.trod enc Try.prog w 0 (fun _ => true) held n f5.type ((cs.drop f5.offset).take (Try.prog.cellsOf f5.type)) = some y5 := by
  obtain ⟨xs, n, _, rfl, hl, hlen, hf⟩ := DataW.trod_struct ht h
  obtain ⟨y0, y1, y2, y3, y4, y5, rfl⟩ := list6 (hlen.trans rfl)
  exact ⟨y0, y1, y2, y3, y4, y5, n, by simp, hl, by simpa using hf 0 f0 rfl, by simpa using hf 1 f1 rfl, by simpa using hf 2 f2 rfl, by simpa using hf 3 f3 rfl, by simpa using hf 4 f4 rfl, by simpa using hf 5 f5 rfl⟩

theorem open_thread {n : Nat} {cs : List Value} {x : DataW H × List MemPlace} (h : DataW.trod enc Try.prog w 0 (fun _ => true) held n 75 cs = some x) :
    ∃ a : ThreadD, ∃ cv cc, cs = [.int .i64 a.base, .int .i64 a.offset, .int .i64 a.period, .int .i64 a.deadline, .slice cv a.code.length cc] ∧ (cv = none → cc = 0) ∧ InstrsIn w.heap.size w cv a.code ∧ (Light x.1 75 → a.code.length * 24 ≤ reachBytes) := by
  obtain ⟨y0, y1, y2, y3, y4, m, hx, hl, h0, h1, h2, h3, h4⟩ := trod_struct5 Try.underlying75 h
  rw [cThread] at hl
  obtain ⟨a, b, c, d, e, rfl⟩ := list5 hl
  simp only [c3, cCode] at h0 h1 h2 h3 h4
  obtain ⟨p0, e0, _⟩ := DataW.trod_int Try.underlying3 h0
  obtain ⟨p1, e1, _⟩ := DataW.trod_int Try.underlying3 h1
  obtain ⟨p2, e2, _⟩ := DataW.trod_int Try.underlying3 h2
  obtain ⟨p3, e3, _⟩ := DataW.trod_int Try.underlying3 h3
  obtain ⟨cv, cc, l, e4, hn, hin, hw⟩ := open_code h4
  simp at e0 e1 e2 e3 e4
  refine ⟨⟨p0, p1, p2, p3, l⟩, cv, cc, by simp [e0, e1, e2, e3, e4], hn, hin, fun hlight => hw ?_⟩
  intro q hq
  refine hlight q ?_
  rw [hx]
  simp only [DataW.weights, Try.underlying75]
  exact DataW.weights_mem_each (j := 4) rfl rfl q hq

theorem open_threads {n : Nat} {cs : List Value} {x : DataW H × List MemPlace} (h : DataW.trod enc Try.prog w 0 (fun _ => true) held n 22 cs = some x) :
    ∃ (ao : Option Addr) (cap : Nat) (l : List ThreadD), cs = [.slice ao l.length cap] ∧ (ao = none → cap = 0) ∧ ThreadsIn w.heap.size w ao l ∧ (Light x.1 22 → l.length * 56 ≤ reachBytes ∧ ∀ j (hj : j < l.length), l[j].code.length * 24 ≤ reachBytes) := by
  obtain ⟨ao, cap, l, h1, h2, h3, h4⟩ := open_list (α := ThreadD) P3.none0 (R := fun a cs d => ∃ cv cc, cs = [.int .i64 a.base, .int .i64 a.offset, .int .i64 a.period, .int .i64 a.deadline, .slice cv a.code.length cc] ∧ (cv = none → cc = 0) ∧ InstrsIn w.heap.size w cv a.code ∧ (Light d 75 → a.code.length * 24 ≤ reachBytes)) Try.underlying22 cThread bThread (by decide) (fun _ _ _ hh => open_thread hh) h
  refine ⟨ao, cap, l, h1, h2, fun i hi => ?_, fun hw => ⟨h4 hw, fun j hj => ?_⟩⟩
  · obtain ⟨b, o, cs', d, ha, hb, hl, hc, ⟨cv, cc, rfl, hn, hin, _⟩, _⟩ := h3 i hi
    exact ⟨b, o, cv, cc, ha, hb, by simpa using hc 0 (by decide), by simpa using hc 1 (by decide), by simpa using hc 2 (by decide), by simpa using hc 3 (by decide), by simpa using hc 4 (by decide), hin, hn⟩
  · obtain ⟨b, o, cs', d, ha, hb, hl, hc, ⟨cv, cc, rfl, hn, hin, hlight⟩, hd⟩ := h3 j hj
    exact hlight (hd hw)

set_option maxRecDepth 100000 in
/-- A SET THAT CAME IN. -/
theorem open_set {r : Reach} {b0 : Nat} {v : Value} {d : DataW H} {p : List MemPlace} (hv : Value.okWide Try.prog w r b0 27 v) (h : DataW.Trod enc Try.prog w 0 (fun _ => true) held 27 v d p) (hw : Light d 27) :
    ∃ (S : SetD) (tv mv sv qv : Option Addr) (tc mc sc qc : Nat), v = .agg #[.int .i64 S.workers, .int .i64 S.start, .slice tv S.threads.length tc, .slice mv S.mutexes.length mc, .slice sv S.sems.length sc, .slice qv S.queues.length qc] ∧
      SetIn w.heap.size w tv mv sv qv S ∧ Fits S ∧ (tv = none → tc = 0) ∧ (mv = none → mc = 0) ∧ (sv = none → sc = 0) ∧ (qv = none → qc = 0) := by
  obtain ⟨cs, rfl, hsz⟩ := okWide_struct Try.underlying27 hv
  obtain ⟨fuel, hf⟩ := h
  obtain ⟨y0, y1, y2, y3, y4, y5, m, hx, hl, h0, h1, h2, h3, h4, h5⟩ := trod_struct6 Try.underlying27 hf
  simp only at hx
  rw [cSet] at hl
  obtain ⟨a, b, c, dd, e, f, hcs⟩ := list6 hl
  have hcs' : cs = #[a, b, c, dd, e, f] := by
    have : cs.toList = [a, b, c, dd, e, f] := by simpa [Value.cells] using hcs
    exact Array.ext' (by simpa using this)
  subst hcs'
  simp only [Value.cells, c3, cThreads, cMutexes, cSems, cInts] at h0 h1 h2 h3 h4 h5
  simp at h0 h1 h2 h3 h4 h5
  obtain ⟨p0, e0, _⟩ := DataW.trod_int Try.underlying3 h0
  obtain ⟨p1, e1, _⟩ := DataW.trod_int Try.underlying3 h1
  obtain ⟨tv, tc, ts, e2, n2, i2, w2⟩ := open_threads h2
  obtain ⟨mv, mc, ms, e3, n3, i3, w3⟩ := open_pairsM h3
  obtain ⟨sv, sc, ss, e4, n4, i4, w4⟩ := open_pairsS h4
  obtain ⟨qv, qc, qs, e5, n5, i5, w5⟩ := open_numbers h5
  simp at e0 e1 e2 e3 e4 e5
  subst e0 e1 e2 e3 e4 e5
  have part : ∀ (j : Nat) (t : TypeId) (y : DataW H), [(3 : TypeId), 3, 22, 23, 24, 25][j]? = some t → [y0.1, y1.1, y2.1, y3.1, y4.1, y5.1][j]? = some y → Light y t := by
    intro j t y hj hy q hq
    refine hw q ?_
    rw [hx]
    simp only [DataW.weights, Try.underlying27]
    exact DataW.weights_mem_each hj hy q hq
  have l2 := w2 (part 2 _ _ rfl rfl)
  have l3 := w3 (part 3 _ _ rfl rfl)
  have l4 := w4 (part 4 _ _ rfl rfl)
  have l5 := w5 (part 5 _ _ rfl rfl)
  exact ⟨⟨p0, p1, ts, ms, ss, qs⟩, tv, mv, sv, qv, tc, mc, sc, qc, rfl, ⟨i2, i3, i4, i5⟩, ⟨l2.1, l3, l4, l5, l2.2⟩, n2, n3, n4, n5⟩

end
end Go.Proofs.Ytbkfildnijjioab

/-
  The arguments of donatekeep's statements: a set, a script.
-/
namespace Go.Proofs.Ytbkfildnijjioab
open Go.ChangeShapes Go.WideShapes Go.ChangeAt Go.RowKit Go.Deep

theorem Try.own : ownKnob Try.prog.godebug = none := by kernel_rfl
theorem Try.laidOut : laidOutB Try.prog = true := by kernel_rfl

set_option maxRecDepth 100000 in
theorem open_script {H : Type} {enc : TypeId × Value → H} {w : World} {held : Bool} {r : Reach} {b0 : Nat} {v : Value} {d : DataW H} {p : List MemPlace} (hv : Value.okWide Try.prog w r b0 25 v) (h : DataW.Trod enc Try.prog w 0 (fun _ => true) held 25 v d p) (hw : Light d 25) :
    ∃ (ao : Option Addr) (cap : Nat) (l : List Int), v = .slice ao l.length cap ∧ IntsIn w.heap.size w ao l ∧ l.length * 8 ≤ reachBytes := by
  obtain ⟨ao', n, c, rfl⟩ := okWide_slice Try.underlying25 hv
  obtain ⟨fuel, hf⟩ := h
  obtain ⟨ao, cap, l, h1, h2, h3, h4⟩ := open_numbers hf
  simp [Value.cells] at h1
  obtain ⟨rfl, rfl, rfl⟩ := h1
  exact ⟨_, _, l, rfl, h3, h4 hw⟩

end Go.Proofs.Ytbkfildnijjioab

/-
  Timely: when waits begin and end, in plain words (P7, P10, P12, P14, P15).
-/
namespace Go.Proofs.Ytbkfildnijjioab
/-- Might the last step give something of that kind to one who waits for it? -/
def freesB (who : Int) (i : InstrD) (a b : Int) : Bool :=
  if i.op = 0 then (who != -1) && (a == 1) else if i.op = 7 then (a == 1) && (i.a == b) else if i.op = 9 then (a == 2) && (i.a == b) else if i.op = 10 then (a == 3) && (i.a == b) else false
structure BeganP (i : InstrD) (c now : Int) (a b : VD) : Prop where
  go : c ≠ 1 → b.last = (if i.op = 3 then a.last else c) ∧ i.op ≠ 5 ∧ b.st ≠ 3 ∧ b.for_ = 0 ∧ b.of_ = 0 ∧ b.until_ = 0
  wt : c = 1 → R.askFor i ≠ 0 ∧ R.askN i ≠ 0 ∧ b.st = 3 ∧ b.last = 1 ∧ b.for_ = R.askFor i ∧ b.of_ = R.askOf i ∧ b.until_ = (if 0 < R.askN i then now + R.askN i else -1)
def StaysP (tick fr : Bool) (now : Int) (a b : VD) : Prop :=
  (a.st ≠ 3 ∧ b.st ≠ 3 ∧ b.last = a.last ∧ b.for_ = 0 ∧ b.of_ = 0 ∧ b.until_ = 0) ∨
  (a.st = 3 ∧ b.st = 3 ∧ (a.until_ = -1 ∨ now < a.until_) ∧ b.last = 1 ∧ b.for_ = a.for_ ∧ b.of_ = a.of_ ∧ b.until_ = a.until_) ∨
  (a.st = 3 ∧ b.st ≠ 3 ∧ b.st ≠ 0 ∧ b.for_ = 0 ∧ b.of_ = 0 ∧ b.until_ = 0 ∧ ((tick = true ∧ a.until_ = now ∧ b.last = if a.for_ = 4 then 0 else 2) ∨ (tick = false ∧ fr = true ∧ b.last = 0)))
section
variable {d : WD} {s s' : RS}
theorem st3 (s : RS) (t : Nat) : (viewD s t).st = 3 ↔ (R.th s.T t).for_ ≠ 0 := by
  show R.stateOf (R.th s.T t) = 3 ↔ _
  unfold R.stateOf
  constructor
  · intro h
    repeat (split at h <;> first | assumption | omega | skip)
  · intro h
    rw [if_pos h]
theorem stays_stay {tick fr : Bool} {now : Int} {t : Nat} (ht : t < s'.T.length) (x : R.Ext0 s') (hn : s'.now = now) (h : R.Stay (R.th s.T t) (R.th s'.T t)) : StaysP tick fr now (viewD s t) (viewD s' t) := by
  by_cases hf : (R.th s.T t).for_ = 0
  · left
    have hf' : (R.th s'.T t).for_ = 0 := h.for_.trans hf
    have a := x.free t ht hf'
    exact ⟨fun e => (st3 s t).1 e hf, fun e => (st3 s' t).1 e hf', h.last, hf', a.1, a.2⟩
  · right; left
    have hf' : (R.th s'.T t).for_ ≠ 0 := by rw [h.for_]; exact hf
    have a := x.wl t ht hf'
    refine ⟨(st3 s t).2 hf, (st3 s' t).2 hf', ?_, a.1, h.for_, h.of_, h.until_⟩
    have := a.2
    rw [h.until_, hn] at this
    exact this
theorem woken_st {c : Int} {t : Nat} (h : R.Woken c (R.th s.T t) (R.th s'.T t)) : (viewD s t).st = 3 ∧ (viewD s' t).st ≠ 3 ∧ (viewD s' t).st ≠ 0 := by
  refine ⟨(st3 s t).2 h.was, fun e => (st3 s' t).1 e h.for_, ?_⟩
  show R.stateOf (R.th s'.T t) ≠ 0
  unfold R.stateOf
  rw [if_neg (fun e => e h.for_)]
  split
  · omega
  · rw [if_pos h.awake]; omega
theorem timely_step {tk wt : List Nat} (i : RInv s) (x : R.Ext s) (a : Ln.Aux s tk wt) (n : Int) (x' : R.Ext (R.entry s n)) (hnow : (stepD d s n).now = (R.entry s n).now) (t : Nat) (ht : t < s.T.length) :
    ((stepD d s n).who = (t : Int) → BeganP (stepD d s n).i (stepD d s n).code (stepD d s n).now (viewD s t) (viewD (R.entry s n) t)) ∧
    ((stepD d s n).who ≠ (t : Int) → StaysP (stepD d s n).tick (freesB (stepD d s n).who (stepD d s n).i (viewD s t).for_ (viewD s t).of_) (stepD d s n).now (viewD s t) (viewD (R.entry s n) t)) := by
  have e1 : (stepD d s n).who = (movedD d s n).who := rfl
  have e2 : (stepD d s n).i = (movedD d s n).i := rfl
  have e3 : (stepD d s n).code = (movedD d s n).code := rfl
  have e4 : (stepD d s n).tick = (movedD d s n).tick := rfl
  rcases moved_cases (d := d) i x.toExt0 n with ⟨e, em⟩ | ⟨_, e, em⟩ | ⟨u, _, p, e, em⟩
  · rw [e1, em]
    refine ⟨fun h => ?_, fun _ => ?_⟩
    · exfalso
      have : (-1 : Int) = (t : Int) := h
      omega
    · rw [e] at x' hnow ⊢
      exact stays_stay ht x'.toExt0 hnow.symm (R.Stay.refl _)
  · rw [e1, em]
    refine ⟨fun h => ?_, fun _ => ?_⟩
    · exfalso
      have : (-1 : Int) = (t : Int) := h
      omega
    · rw [e] at x' hnow ⊢
      have hl : t < (R.tick s).T.length := by rw [R.tick_len]; exact ht
      rcases R.tick_th a (R.RInv.linksOk i) t ht with ⟨_, hu, k⟩ | ⟨_, k⟩
      · right; right
        obtain ⟨a1, a2, a3⟩ := woken_st k
        refine ⟨a1, a2, a3, k.for_, k.of_, k.until_, .inl ⟨?_, ?_, k.last⟩⟩
        · rw [e4, em]
        · rw [hnow, (R.tick_rest s).2.2.2.1]; exact hu
      · exact stays_stay hl x'.toExt0 hnow.symm k
  · have hw : (stepD d s n).who = (u : Int) := by rw [e1, em, doesD_who]
    have hi : (stepD d s n).i = R.instrAt s u := by rw [e2, em, doesD_i]
    have hc : (stepD d s n).code = R.actC s u := by rw [e3, em, doesD_code]
    have ht0 : (stepD d s n).tick = false := by rw [e4, em, doesD_tick]; rfl
    rw [hw, hi, hc, ht0]
    have hlen : (R.settle (R.actS s u)).T.length = s.T.length := (R.settleT_length _ _ _).trans p.cols.1
    rw [e] at x' hnow ⊢
    have hnow' : (stepD d s n).now = s.now := by
      rw [hnow]
      have hol : s.owner.length ≤ 8 := by have := i.good.own; have := i.good.mfew; omega
      exact (like_actS s u hol).now
    have ss := (R.settle_stay (R.actS s u) t)
    refine ⟨fun h => ?_, fun h => ?_⟩
    · have e5 : u = t := by omega
      subst e5
      refine ⟨fun hc1 => ?_, fun hc1 => ?_⟩
      · have g := p.self.2 hc1
        have h0 : (R.th (R.settle (R.actS s u)).T u).for_ = 0 := ss.1.for_.trans g.for_
        refine ⟨ss.1.last.trans g.last, fun h5 => ?_, fun e6 => (st3 _ u).1 e6 h0, h0, ss.1.of_.trans g.of_, ss.1.until_.trans g.until_⟩
        apply hc1
        unfold R.actC
        rw [if_neg (by omega)]
        unfold R.doesC
        rw [if_pos h5]
      · have g := p.self.1 hc1
        have h0 : (R.th (R.settle (R.actS s u)).T u).for_ = R.askFor (R.instrAt s u) := ss.1.for_.trans g.for_
        refine ⟨g.f0, g.n0, (st3 _ u).2 (by rw [h0]; exact g.f0), ss.1.last.trans g.last, h0, ss.1.of_.trans g.of_, ?_⟩
        have h1 : (R.th (R.settle (R.actS s u)).T u).until_ = if 0 ≤ R.askN (R.instrAt s u) then s.now + R.askN (R.instrAt s u) else -1 := ss.1.until_.trans g.until_
        show (R.th (R.settle (R.actS s u)).T u).until_ = _
        rw [h1, hnow']
        have := g.n0
        by_cases h2 : 0 < R.askN (R.instrAt s u)
        · rw [if_pos h2, if_pos (by omega)]
        · rw [if_neg h2, if_neg (by omega)]
    · have hne : t ≠ u := fun e6 => h (by rw [e6])
      rcases p.moved.th t hne with ⟨k, _⟩ | ⟨hf, k⟩
      · exact stays_stay (by omega) x'.toExt0 hnow.symm (k.trans ss.1)
      · right; right
        have k2 := k.stay ss.1 (fun e6 => ss.2.1.trans e6)
        obtain ⟨a1, a2, a3⟩ := woken_st k2
        refine ⟨a1, a2, a3, k2.for_, k2.of_, k2.until_, .inr ⟨rfl, ?_, k2.last⟩⟩
        show freesB (u : Int) (R.instrAt s u) (R.th s.T t).for_ (R.th s.T t).of_ = true
        generalize R.instrAt s u = ii at *
        unfold freesB
        rcases hf with ⟨h0, h1⟩ | ⟨h7, h1, h2⟩ | ⟨h9, h1, h2⟩ | ⟨h10, h1, h2⟩
        · rw [if_pos h0, h1]
          have : ((u : Int) != -1) = true := by simp
          rw [this]; rfl
        · rw [if_neg (by omega), if_pos h7, h1, h2]; simp
        · rw [if_neg (by omega), if_neg (by omega), if_pos h9, h1, h2]; simp
        · rw [if_neg (by omega), if_neg (by omega), if_neg (by omega), if_pos h10, h1, h2]; simp
theorem moved_views (d : WD) (s : RS) (n : Int) : (movedD d s n).views = d.views := by
  unfold movedD tickD pickD
  split
  · split <;> rfl
  · split
    · rfl
    · split
      · rfl
      · exact doesD_views
theorem stepD_was (wd : Wd d s) (n : Int) : (stepD d s n).was = viewsD s := (moved_views d s n).trans wd.views
theorem entry_len (i : RInv s) (x : R.Ext0 s) (n : Int) : (R.entry s n).T.length = s.T.length := by
  rcases moved_cases (d := ⟨s.set, 0, [], [], [], [], [], [], [], 0, false, 0, ⟨0, 0, 0⟩, 0, []⟩) i x n with ⟨e, _⟩ | ⟨_, e, _⟩ | ⟨u, _, p, e, _⟩
  · rw [e]
  · rw [e]; exact R.tick_len s
  · rw [e]; exact (R.settleT_length _ _ _).trans p.cols.1
theorem step_ask (i : RInv s) (x : R.Ext0 s) (n : Int) (h : 0 ≤ (stepD d s n).who) : -1 ≤ R.askN (stepD d s n).i ∧ R.askN (stepD d s n).i ≤ 1000 := by
  have e1 : (stepD d s n).who = (movedD d s n).who := rfl
  have e2 : (stepD d s n).i = (movedD d s n).i := rfl
  rcases moved_cases (d := d) i x n with ⟨_, em⟩ | ⟨_, _, em⟩ | ⟨u, _, p, _, em⟩
  · rw [e1, em] at h
    have : (freshD d).who = -1 := rfl
    omega
  · rw [e1, em] at h
    have : (freshD d).who = -1 := rfl
    have h' : 0 ≤ (freshD d).who := h
    omega
  · rw [e2, em, doesD_i]
    have a := p.sl
    have b := p.wt
    have c := p.ins.sleep
    have e := p.ins.wait
    unfold R.askN
    split
    · rename_i h5
      have := a h5
      have := c h5
      omega
    · split
      · rename_i h6
        have := b h6
        have := e h6
        omega
      · omega
theorem timely_new {S : SetD} (i : RInv (R.new S)) (t : Nat) (ht : t < (R.new S).T.length) : (viewD (R.new S) t).st ≠ 3 ∧ (viewD (R.new S) t).last = 0 := by
  have e1 := (R.settle_stay (R.release (R.bare S)) t).1
  have e2 := (R.releaseTo_stay (R.bare S) (R.bare S).T.length t).1
  have hl : t < S.threads.length := by
    have h1 := i.good.len
    have h2 : (R.new S).set = S := by
      show (R.settle (R.release (R.bare S))).set = S
      exact R.releaseTo_set (R.bare S) _
    rw [h2] at h1
    omega
  have e3 : R.th (R.new S).T t = R.th (R.settle (R.release (R.bare S))).T t := rfl
  have e4 : R.th (R.release (R.bare S)).T t = R.th (R.releaseTo (R.bare S) (R.bare S).T.length).T t := rfl
  refine ⟨fun hh => (st3 _ t).1 hh ?_, ?_⟩
  · rw [e3, e1.for_, e4, e2.for_]
    simp [R.th, R.bare, List.getD, hl, R.rt0]
  · show (R.th (R.new S).T t).last = 0
    rw [e3, e1.last, e4, e2.last]
    simp [R.th, R.bare, List.getD, hl, R.rt0]
end
end Go.Proofs.Ytbkfildnijjioab
