import Derived.Test.YtbkfildnijjioaaA20
import Derived.ProofKit
import Derived.SizedLaws
import Derived.Deep.Slices
import Derived.Deep.Fields
import Derived.Deep.Strs
import Derived.Test.YtbkfildnijjioaaRows
import Derived.Test.YtbkfildnijjioaaA12
/-
  A set that came in, opened: what the form's reader reads is plain data in memory.
-/
namespace Go.Proofs.Ytbkfildnijjioaa
open Go.ChangeShapes Go.WideShapes Go.ChangeAt Go.RowKit Go.Deep

section
variable {H : Type} {enc : TypeId × Value → H} {w : World} {held : Bool}

/-- Every weight of a datum is within the form's reach. -/
def Light (d : DataW H) (t : TypeId) : Prop := ∀ n ∈ d.weights Try.prog t, n ≤ reachBytes

/-- A list, opened: its elements by R. -/
theorem open_list {α : Type} (d0 : α) {t e : TypeId} {size bytes : Nat} (ht : Try.prog.underlying t = some (.slice e)) (hc : Try.prog.cellsOf e = size) (hby : Try.prog.bytesOf e = bytes) (hpos : 0 < size)
    {R : α → List Value → DataW H → Prop} (hR : ∀ n cs x, DataW.trod enc Try.prog w 0 (fun _ => true) held n e cs = some x → ∃ a, R a cs x.1)
    {fuel : Nat} {cs : List Value} {x : DataW H × List MemPlace} (h : DataW.trod enc Try.prog w 0 (fun _ => true) held fuel t cs = some x) :
    ∃ (ao : Option Addr) (cap : Nat) (l : List α), cs = [.slice ao l.length cap] ∧ (ao = none → cap = 0) ∧
      (∀ i (hi : i < l.length), ∃ b o cs' d, ao = some ⟨b, o, none⟩ ∧ b < w.heap.size ∧ cs'.length = size ∧ (∀ j, j < size → w.cell? ⟨b, o + i * size + j, none⟩ = cs'[j]?) ∧ R l[i] cs' d ∧ (Light x.1 t → Light d e)) ∧
      (Light x.1 t → l.length * bytes ≤ reachBytes) := by
  subst hc; subst hby
  rcases open_slice ht h with ⟨rfl, rfl⟩ | ⟨a, len, cap, m, n, D, Pl, rfl, _, hl, _, hm, rfl, hel⟩
  · exact ⟨none, 0, [], rfl, fun _ => rfl, fun i hi => absurd hi (Nat.not_lt_zero _), fun _ => by simp⟩
  · simp only [if_true] at hm
    subst hm
    have hA : ∀ i, i < len → ∃ y : α, ∀ cs', DataW.trod enc Try.prog w 0 (fun _ => true) held n e cs' = some (D i, Pl i) → w.cells? 0 (a.add (i * Try.prog.cellsOf e)) (Try.prog.cellsOf e) = some cs' → R y cs' (D i) := by
      intro i hi
      obtain ⟨cs', h1, h2⟩ := hel i (by omega)
      obtain ⟨y, hy⟩ := hR n cs' _ h2
      refine ⟨y, fun cs'' _ h4 => ?_⟩
      rw [h1] at h4
      cases h4
      exact hy
    haveI : Inhabited α := ⟨d0⟩
    obtain ⟨A, hA⟩ := choose_lt hA
    refine ⟨some a, m, (List.range len).map A, by simp, fun hh => (by cases hh), fun i hi => ?_, fun hw => ?_⟩
    · have hi' : i < len := by simpa using hi
      obtain ⟨cs', h1, h2⟩ := hel i (by omega)
      obtain ⟨_, hlen, hcell⟩ := World.cells?_some h1
      have h0 := hcell 0 hpos
      rw [add_add, Nat.add_zero, List.getElem?_eq_getElem (by omega)] at h0
      have hspot : (a.add (i * Try.prog.cellsOf e)).spot = none := World.cell?_spot h0
      have hlt := World.block_lt_of_cell? _ _ h0
      obtain ⟨b, o, spot⟩ := a
      have hsp : spot = none := by
        by_cases hz : i * Try.prog.cellsOf e = 0
        · rw [hz, Addr.add_zero'] at h0
          exact World.cell?_spot h0
        · -- the first element tells it
          obtain ⟨cs0, g1, _⟩ := hel 0 (by omega)
          obtain ⟨_, gl, gc⟩ := World.cells?_some g1
          have g0 := gc 0 hpos
          rw [Nat.zero_mul, Addr.add_zero', Addr.add_zero', List.getElem?_eq_getElem (by omega)] at g0
          exact World.cell?_spot g0
      subst hsp
      refine ⟨b, o, cs', D i, rfl, by simpa [Addr.add_lit] using hlt, hlen, fun j hj => ?_, ?_, fun hw => ?_⟩
      · have := hcell j hj
        rw [Addr.add_lit, Addr.add_lit] at this
        exact this
      · have := hA i hi' cs' h2 h1
        simpa using this
      · intro q hq
        refine hw q ?_
        simp only [DataW.weights, ht]
        refine List.mem_cons_of_mem _ (List.mem_append_left _ ?_)
        have mem_all : ∀ (L : List (DataW H)) (d : DataW H), d ∈ L → ∀ q ∈ d.weights Try.prog e, q ∈ DataW.weightsAll Try.prog e L := by
          intro L
          induction L with
          | nil => intro d hd; cases hd
          | cons d0 L ih =>
            intro d hd q hq
            simp only [DataW.weightsAll, List.mem_append]
            rcases List.mem_cons.1 hd with rfl | hd
            · exact Or.inl hq
            · exact Or.inr (ih d hd q hq)
        exact mem_all _ (D i) (List.mem_map.2 ⟨i, List.mem_range.2 hi', rfl⟩) q hq
    · have := hw ((((List.range len).map D).length + ((List.range (m - len)).map fun j => D (len + j)).length) * Try.prog.bytesOf e) (by simp [DataW.weights, ht])
      simp only [List.length_map, List.length_range] at this ⊢
      exact Nat.le_trans (Nat.mul_le_mul_right _ (Nat.le_add_right _ _)) this

theorem c3 : Try.prog.cellsOf 3 = 1 := by kernel_rfl
theorem cMutex : Try.prog.cellsOf 66 = 2 := by kernel_rfl
theorem cSem : Try.prog.cellsOf 68 = 2 := by kernel_rfl
theorem cInstr : Try.prog.cellsOf 48 = 3 := by kernel_rfl
theorem cThread : Try.prog.cellsOf 41 = 5 := by kernel_rfl
theorem cCode : Try.prog.cellsOf 39 = 1 := by kernel_rfl
theorem cSet : Try.prog.cellsOf 27 = 6 := by kernel_rfl
theorem cThreads : Try.prog.cellsOf 22 = 1 := by kernel_rfl
theorem cMutexes : Try.prog.cellsOf 23 = 1 := by kernel_rfl
theorem cSems : Try.prog.cellsOf 24 = 1 := by kernel_rfl
theorem cInts : Try.prog.cellsOf 25 = 1 := by kernel_rfl
theorem b3 : Try.prog.bytesOf 3 = 8 := by kernel_rfl
theorem bMutex : Try.prog.bytesOf 66 = 16 := by kernel_rfl
theorem bSem : Try.prog.bytesOf 68 = 16 := by kernel_rfl
theorem bInstr : Try.prog.bytesOf 48 = 24 := by kernel_rfl
theorem bThread : Try.prog.bytesOf 41 = 56 := by kernel_rfl

theorem list2 {l : List Value} (h : l.length = 2) : ∃ a b, l = [a, b] := by
  match l, h with
  | [a, b], _ => exact ⟨a, b, rfl⟩
theorem list3 {l : List Value} (h : l.length = 3) : ∃ a b c, l = [a, b, c] := by
  match l, h with
  | [a, b, c], _ => exact ⟨a, b, c, rfl⟩
theorem list5 {α : Type} {l : List α} (h : l.length = 5) : ∃ a b c d e, l = [a, b, c, d, e] := by
  match l, h with
  | [a, b, c, d, e], _ => exact ⟨a, b, c, d, e, rfl⟩
theorem list6 {α : Type} {l : List α} (h : l.length = 6) : ∃ a b c d e f, l = [a, b, c, d, e, f] := by
  match l, h with
  | [a, b, c, d, e, f], _ => exact ⟨a, b, c, d, e, f, rfl⟩

theorem open_mutex {n : Nat} {cs : List Value} {x : DataW H × List MemPlace} (h : DataW.trod enc Try.prog w 0 (fun _ => true) held n 66 cs = some x) : ∃ a : PairD, cs = [.int .i64 a.x, .int .i64 a.y] := by
  obtain ⟨y0, y1, m, _, hl, h0, h1⟩ := trod_struct2 Try.underlying66 h
  rw [cMutex] at hl
  obtain ⟨a, b, rfl⟩ := list2 hl
  simp only [c3] at h0 h1
  obtain ⟨p, hp, _⟩ := DataW.trod_int Try.underlying3 h0
  obtain ⟨q, hq, _⟩ := DataW.trod_int Try.underlying3 h1
  simp at hp hq
  exact ⟨⟨p, q⟩, by simp [hp, hq]⟩
theorem open_sem {n : Nat} {cs : List Value} {x : DataW H × List MemPlace} (h : DataW.trod enc Try.prog w 0 (fun _ => true) held n 68 cs = some x) : ∃ a : PairD, cs = [.int .i64 a.x, .int .i64 a.y] := by
  obtain ⟨y0, y1, m, _, hl, h0, h1⟩ := trod_struct2 Try.underlying68 h
  rw [cSem] at hl
  obtain ⟨a, b, rfl⟩ := list2 hl
  simp only [c3] at h0 h1
  obtain ⟨p, hp, _⟩ := DataW.trod_int Try.underlying3 h0
  obtain ⟨q, hq, _⟩ := DataW.trod_int Try.underlying3 h1
  simp at hp hq
  exact ⟨⟨p, q⟩, by simp [hp, hq]⟩
theorem open_instr {n : Nat} {cs : List Value} {x : DataW H × List MemPlace} (h : DataW.trod enc Try.prog w 0 (fun _ => true) held n 48 cs = some x) : ∃ a : InstrD, cs = [.int .i64 a.op, .int .i64 a.a, .int .i64 a.b] := by
  obtain ⟨y0, y1, y2, m, _, hl, h0, h1, h2⟩ := trod_struct3 Try.underlying48 h
  rw [cInstr] at hl
  obtain ⟨a, b, c, rfl⟩ := list3 hl
  simp only [c3] at h0 h1 h2
  obtain ⟨p, hp, _⟩ := DataW.trod_int Try.underlying3 h0
  obtain ⟨q, hq, _⟩ := DataW.trod_int Try.underlying3 h1
  obtain ⟨r, hr, _⟩ := DataW.trod_int Try.underlying3 h2
  simp at hp hq hr
  exact ⟨⟨p, q, r⟩, by simp [hp, hq, hr]⟩

theorem open_code {n : Nat} {cs : List Value} {x : DataW H × List MemPlace} (h : DataW.trod enc Try.prog w 0 (fun _ => true) held n 39 cs = some x) :
    ∃ (ao : Option Addr) (cap : Nat) (l : List InstrD), cs = [.slice ao l.length cap] ∧ (ao = none → cap = 0) ∧ InstrsIn w.heap.size w ao l ∧ (Light x.1 39 → l.length * 24 ≤ reachBytes) := by
  obtain ⟨ao, cap, l, h1, h2, h3, h4⟩ := open_list (α := InstrD) ⟨0, 0, 0⟩ (R := fun a cs _ => cs = [.int .i64 a.op, .int .i64 a.a, .int .i64 a.b]) Try.underlying39 cInstr bInstr (by decide) (fun _ _ _ hh => open_instr hh) h
  refine ⟨ao, cap, l, h1, h2, fun i hi => ?_, h4⟩
  obtain ⟨b, o, cs', d, ha, hb, hl, hc, rfl, _⟩ := h3 i hi
  exact ⟨b, o, ha, hb, by simpa using hc 0 (by decide), by simpa using hc 1 (by decide), by simpa using hc 2 (by decide)⟩

theorem open_pairsM {n : Nat} {cs : List Value} {x : DataW H × List MemPlace} (h : DataW.trod enc Try.prog w 0 (fun _ => true) held n 23 cs = some x) :
    ∃ (ao : Option Addr) (cap : Nat) (l : List PairD), cs = [.slice ao l.length cap] ∧ (ao = none → cap = 0) ∧ PairsIn w.heap.size w ao l ∧ (Light x.1 23 → l.length * 16 ≤ reachBytes) := by
  obtain ⟨ao, cap, l, h1, h2, h3, h4⟩ := open_list (α := PairD) ⟨0, 0⟩ (R := fun a cs _ => cs = [.int .i64 a.x, .int .i64 a.y]) Try.underlying23 cMutex bMutex (by decide) (fun _ _ _ hh => open_mutex hh) h
  refine ⟨ao, cap, l, h1, h2, fun i hi => ?_, h4⟩
  obtain ⟨b, o, cs', d, ha, hb, hl, hc, rfl, _⟩ := h3 i hi
  exact ⟨b, o, ha, hb, by simpa using hc 0 (by decide), by simpa using hc 1 (by decide)⟩
theorem open_pairsS {n : Nat} {cs : List Value} {x : DataW H × List MemPlace} (h : DataW.trod enc Try.prog w 0 (fun _ => true) held n 24 cs = some x) :
    ∃ (ao : Option Addr) (cap : Nat) (l : List PairD), cs = [.slice ao l.length cap] ∧ (ao = none → cap = 0) ∧ PairsIn w.heap.size w ao l ∧ (Light x.1 24 → l.length * 16 ≤ reachBytes) := by
  obtain ⟨ao, cap, l, h1, h2, h3, h4⟩ := open_list (α := PairD) ⟨0, 0⟩ (R := fun a cs _ => cs = [.int .i64 a.x, .int .i64 a.y]) Try.underlying24 cSem bSem (by decide) (fun _ _ _ hh => open_sem hh) h
  refine ⟨ao, cap, l, h1, h2, fun i hi => ?_, h4⟩
  obtain ⟨b, o, cs', d, ha, hb, hl, hc, rfl, _⟩ := h3 i hi
  exact ⟨b, o, ha, hb, by simpa using hc 0 (by decide), by simpa using hc 1 (by decide)⟩
theorem open_numbers {n : Nat} {cs : List Value} {x : DataW H × List MemPlace} (h : DataW.trod enc Try.prog w 0 (fun _ => true) held n 25 cs = some x) :
    ∃ (ao : Option Addr) (cap : Nat) (l : List Int), cs = [.slice ao l.length cap] ∧ (ao = none → cap = 0) ∧ IntsIn w.heap.size w ao l ∧ (Light x.1 25 → l.length * 8 ≤ reachBytes) := by
  obtain ⟨ao, cap, l, h1, h2, h3, h4⟩ := open_list (α := Int) 0 (R := fun a cs _ => cs = [.int .i64 a]) Try.underlying25 c3 b3 (by decide) (fun _ _ _ hh => by obtain ⟨z, hz, _⟩ := DataW.trod_int Try.underlying3 hh; exact ⟨z, hz⟩) h
  refine ⟨ao, cap, l, h1, h2, fun i hi => ?_, h4⟩
  obtain ⟨b, o, cs', d, ha, hb, hl, hc, rfl, _⟩ := h3 i hi
  exact ⟨b, o, ha, hb, by simpa using hc 0 (by decide)⟩

theorem trod_struct5 {t : TypeId} {f0 f1 f2 f3 f4 : Field} {fuel : Nat} {cs : List Value} {x : DataW H × List MemPlace} (ht : Try.prog.underlying t = some (.struct #[f0, f1, f2, f3, f4])) (h : DataW.trod enc Try.prog w 0 (fun _ => true) held fuel t cs = some x) :
    ∃ y0 y1 y2 y3 y4 n, x.1 = .agg [y0.1, y1.1, y2.1, y3.1, y4.1] ∧ cs.length = Try.prog.cellsOf t ∧ DataW.trod enc Try.prog w 0 (fun _ => true) held n f0.type ((cs.drop f0.offset).take (Try.prog.cellsOf f0.type)) = some y0 ∧
      DataW.trod enc Try.prog w 0 (fun _ => true) held n f1.type ((cs.drop f1.offset).take (Try.prog.cellsOf f1.type)) = some y1 ∧ DataW.trod enc Try.prog w 0 (fun _ => true) held n f2.type ((cs.drop f2.offset).take (Try.prog.cellsOf f2.type)) = some y2 ∧
      DataW.trod enc Try.prog w 0 (fun _ => true) held n f3.type ((cs.drop f3.offset).take (Try.prog.cellsOf f3.type)) = some y3 ∧ DataW.trod enc Try.prog w 0 (fun _ => true) held n f4.type ((cs.drop f4.offset).take (Try.prog.cellsOf f4.type)) = some y4 := by
  obtain ⟨xs, n, _, rfl, hl, hlen, hf⟩ := DataW.trod_struct ht h
  obtain ⟨y0, y1, y2, y3, y4, rfl⟩ := list5 (hlen.trans rfl)
  exact ⟨y0, y1, y2, y3, y4, n, by simp, hl, by simpa using hf 0 f0 rfl, by simpa using hf 1 f1 rfl, by simpa using hf 2 f2 rfl, by simpa using hf 3 f3 rfl, by simpa using hf 4 f4 rfl⟩
theorem trod_struct6 {t : TypeId} {f0 f1 f2 f3 f4 f5 : Field} {fuel : Nat} {cs : List Value} {x : DataW H × List MemPlace} (ht : Try.prog.underlying t = some (.struct #[f0, f1, f2, f3, f4, f5])) (h : DataW.trod enc Try.prog w 0 (fun _ => true) held fuel t cs = some x) :
    ∃ y0 y1 y2 y3 y4 y5 n, x.1 = .agg [y0.1, y1.1, y2.1, y3.1, y4.1, y5.1] ∧ cs.length = Try.prog.cellsOf t ∧ DataW.trod enc Try.prog w 0 (fun _ => true) held n f0.type ((cs.drop f0.offset).take (Try.prog.cellsOf f0.type)) = some y0 ∧
      DataW.trod enc Try.prog w 0 (fun _ => true) held n f1.type ((cs.drop f1.offset).take (Try.prog.cellsOf f1.type)) = some y1 ∧ DataW.trod enc Try.prog w 0 (fun _ => true) held n f2.type ((cs.drop f2.offset).take (Try.prog.cellsOf f2.type)) = some y2 ∧
      DataW.trod enc Try.prog w 0 (fun _ => true) held n f3.type ((cs.drop f3.offset).take (Try.prog.cellsOf f3.type)) = some y3 ∧ DataW.trod enc Try.prog w 0 (fun _ => true) held n f4.type ((cs.drop f4.offset).take (Try.prog.cellsOf f4.type)) = some y4 ∧
      DataW.trod enc Try.prog w 0 (fun _ => true) held n f5.type ((cs.drop f5.offset).take (Try.prog.cellsOf f5.type)) = some y5 := by
  obtain ⟨xs, n, _, rfl, hl, hlen, hf⟩ := DataW.trod_struct ht h
  obtain ⟨y0, y1, y2, y3, y4, y5, rfl⟩ := list6 (hlen.trans rfl)
  exact ⟨y0, y1, y2, y3, y4, y5, n, by simp, hl, by simpa using hf 0 f0 rfl, by simpa using hf 1 f1 rfl, by simpa using hf 2 f2 rfl, by simpa using hf 3 f3 rfl, by simpa using hf 4 f4 rfl, by simpa using hf 5 f5 rfl⟩

theorem open_thread {n : Nat} {cs : List Value} {x : DataW H × List MemPlace} (h : DataW.trod enc Try.prog w 0 (fun _ => true) held n 41 cs = some x) :
    ∃ a : ThreadD, ∃ cv cc, cs = [.int .i64 a.base, .int .i64 a.offset, .int .i64 a.period, .int .i64 a.deadline, .slice cv a.code.length cc] ∧ (cv = none → cc = 0) ∧ InstrsIn w.heap.size w cv a.code ∧ (Light x.1 41 → a.code.length * 24 ≤ reachBytes) := by
  obtain ⟨y0, y1, y2, y3, y4, m, hx, hl, h0, h1, h2, h3, h4⟩ := trod_struct5 Try.underlying41 h
  rw [cThread] at hl
  obtain ⟨a, b, c, d, e, rfl⟩ := list5 hl
  simp only [c3, cCode] at h0 h1 h2 h3 h4
  obtain ⟨p0, e0, _⟩ := DataW.trod_int Try.underlying3 h0
  obtain ⟨p1, e1, _⟩ := DataW.trod_int Try.underlying3 h1
  obtain ⟨p2, e2, _⟩ := DataW.trod_int Try.underlying3 h2
  obtain ⟨p3, e3, _⟩ := DataW.trod_int Try.underlying3 h3
  obtain ⟨cv, cc, l, e4, hn, hin, hw⟩ := open_code h4
  simp at e0 e1 e2 e3 e4
  refine ⟨⟨p0, p1, p2, p3, l⟩, cv, cc, by simp [e0, e1, e2, e3, e4], hn, hin, fun hlight => hw ?_⟩
  intro q hq
  refine hlight q ?_
  rw [hx]
  simp only [DataW.weights, Try.underlying41]
  exact DataW.weights_mem_each (j := 4) rfl rfl q hq

theorem open_threads {n : Nat} {cs : List Value} {x : DataW H × List MemPlace} (h : DataW.trod enc Try.prog w 0 (fun _ => true) held n 22 cs = some x) :
    ∃ (ao : Option Addr) (cap : Nat) (l : List ThreadD), cs = [.slice ao l.length cap] ∧ (ao = none → cap = 0) ∧ ThreadsIn w.heap.size w ao l ∧ (Light x.1 22 → l.length * 56 ≤ reachBytes ∧ ∀ j (hj : j < l.length), l[j].code.length * 24 ≤ reachBytes) := by
  obtain ⟨ao, cap, l, h1, h2, h3, h4⟩ := open_list (α := ThreadD) P3.none0 (R := fun a cs d => ∃ cv cc, cs = [.int .i64 a.base, .int .i64 a.offset, .int .i64 a.period, .int .i64 a.deadline, .slice cv a.code.length cc] ∧ (cv = none → cc = 0) ∧ InstrsIn w.heap.size w cv a.code ∧ (Light d 41 → a.code.length * 24 ≤ reachBytes)) Try.underlying22 cThread bThread (by decide) (fun _ _ _ hh => open_thread hh) h
  refine ⟨ao, cap, l, h1, h2, fun i hi => ?_, fun hw => ⟨h4 hw, fun j hj => ?_⟩⟩
  · obtain ⟨b, o, cs', d, ha, hb, hl, hc, ⟨cv, cc, rfl, hn, hin, _⟩, _⟩ := h3 i hi
    exact ⟨b, o, cv, cc, ha, hb, by simpa using hc 0 (by decide), by simpa using hc 1 (by decide), by simpa using hc 2 (by decide), by simpa using hc 3 (by decide), by simpa using hc 4 (by decide), hin, hn⟩
  · obtain ⟨b, o, cs', d, ha, hb, hl, hc, ⟨cv, cc, rfl, hn, hin, hlight⟩, hd⟩ := h3 j hj
    exact hlight (hd hw)

set_option maxRecDepth 100000 in
/-- A SET THAT CAME IN. -/
theorem open_set {r : Reach} {b0 : Nat} {v : Value} {d : DataW H} {p : List MemPlace} (hv : Value.okWide Try.prog w r b0 27 v) (h : DataW.Trod enc Try.prog w 0 (fun _ => true) held 27 v d p) (hw : Light d 27) :
    ∃ (S : SetD) (tv mv sv qv : Option Addr) (tc mc sc qc : Nat), v = .agg #[.int .i64 S.workers, .int .i64 S.start, .slice tv S.threads.length tc, .slice mv S.mutexes.length mc, .slice sv S.sems.length sc, .slice qv S.queues.length qc] ∧
      SetIn w.heap.size w tv mv sv qv S ∧ Fits S ∧ (tv = none → tc = 0) ∧ (mv = none → mc = 0) ∧ (sv = none → sc = 0) ∧ (qv = none → qc = 0) := by
  obtain ⟨cs, rfl, hsz⟩ := okWide_struct Try.underlying27 hv
  obtain ⟨fuel, hf⟩ := h
  obtain ⟨y0, y1, y2, y3, y4, y5, m, hx, hl, h0, h1, h2, h3, h4, h5⟩ := trod_struct6 Try.underlying27 hf
  simp only at hx
  rw [cSet] at hl
  obtain ⟨a, b, c, dd, e, f, hcs⟩ := list6 hl
  have hcs' : cs = #[a, b, c, dd, e, f] := by
    have : cs.toList = [a, b, c, dd, e, f] := by simpa [Value.cells] using hcs
    exact Array.ext' (by simpa using this)
  subst hcs'
  simp only [Value.cells, c3, cThreads, cMutexes, cSems, cInts] at h0 h1 h2 h3 h4 h5
  simp at h0 h1 h2 h3 h4 h5
  obtain ⟨p0, e0, _⟩ := DataW.trod_int Try.underlying3 h0
  obtain ⟨p1, e1, _⟩ := DataW.trod_int Try.underlying3 h1
  obtain ⟨tv, tc, ts, e2, n2, i2, w2⟩ := open_threads h2
  obtain ⟨mv, mc, ms, e3, n3, i3, w3⟩ := open_pairsM h3
  obtain ⟨sv, sc, ss, e4, n4, i4, w4⟩ := open_pairsS h4
  obtain ⟨qv, qc, qs, e5, n5, i5, w5⟩ := open_numbers h5
  simp at e0 e1 e2 e3 e4 e5
  subst e0 e1 e2 e3 e4 e5
  have part : ∀ (j : Nat) (t : TypeId) (y : DataW H), [(3 : TypeId), 3, 22, 23, 24, 25][j]? = some t → [y0.1, y1.1, y2.1, y3.1, y4.1, y5.1][j]? = some y → Light y t := by
    intro j t y hj hy q hq
    refine hw q ?_
    rw [hx]
    simp only [DataW.weights, Try.underlying27]
    exact DataW.weights_mem_each hj hy q hq
  have l2 := w2 (part 2 _ _ rfl rfl)
  have l3 := w3 (part 3 _ _ rfl rfl)
  have l4 := w4 (part 4 _ _ rfl rfl)
  have l5 := w5 (part 5 _ _ rfl rfl)
  exact ⟨⟨p0, p1, ts, ms, ss, qs⟩, tv, mv, sv, qv, tc, mc, sc, qc, rfl, ⟨i2, i3, i4, i5⟩, ⟨l2.1, l3, l4, l5, l2.2⟩, n2, n3, n4, n5⟩

end
end Go.Proofs.Ytbkfildnijjioaa

/-
  The arguments of donatekeep's statements: a set, a script.
-/
namespace Go.Proofs.Ytbkfildnijjioaa
open Go.ChangeShapes Go.WideShapes Go.ChangeAt Go.RowKit Go.Deep

theorem Try.own : ownKnob Try.prog.godebug = none := by kernel_rfl
theorem Try.laidOut : laidOutB Try.prog = true := by kernel_rfl

set_option maxRecDepth 100000 in
theorem open_script {H : Type} {enc : TypeId × Value → H} {w : World} {held : Bool} {r : Reach} {b0 : Nat} {v : Value} {d : DataW H} {p : List MemPlace} (hv : Value.okWide Try.prog w r b0 25 v) (h : DataW.Trod enc Try.prog w 0 (fun _ => true) held 25 v d p) (hw : Light d 25) :
    ∃ (ao : Option Addr) (cap : Nat) (l : List Int), v = .slice ao l.length cap ∧ IntsIn w.heap.size w ao l ∧ l.length * 8 ≤ reachBytes := by
  obtain ⟨ao', n, c, rfl⟩ := okWide_slice Try.underlying25 hv
  obtain ⟨fuel, hf⟩ := h
  obtain ⟨ao, cap, l, h1, h2, h3, h4⟩ := open_numbers hf
  simp [Value.cells] at h1
  obtain ⟨rfl, rfl, rfl⟩ := h1
  exact ⟨_, _, l, rfl, h3, h4 hw⟩

end Go.Proofs.Ytbkfildnijjioaa
