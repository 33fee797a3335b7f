import Derived.Test.YtbkfildnijjioabA03
import Derived.Test.YtbkfildnijjioabA17
import Derived.Test.YtbkfildnijjioabA18
import Derived.Test.YtbkfildnijjioabA16
import Derived.Test.YtbkfildnijjioabA01
/-
  Lent (P8): what is reckoned from bases, tops and the levels of those who wait is the level.
-/
namespace Go.Proofs.Ytbkfildnijjioab
namespace R

theorem le_own (s : RS) (g : Nat → Int) (t : Nat) (v : Int) (k : Nat) : v ≤ outerTo s g false t k ↔ v ≤ (th s.T t).base ∨ ∃ m, m < k ∧ s.owner.getD m 0 = (t : Int) ∧ (s.set.mutexes.getD m pair0).x = 1 ∧ v ≤ (s.set.mutexes.getD m pair0).y := by
  induction k with
  | zero => simp [outerTo]
  | succ k ih =>
    have up : ∀ P : Nat → Prop, (∃ m, m < k + 1 ∧ P m) ↔ (∃ m, m < k ∧ P m) ∨ P k := by
      intro P
      constructor
      · rintro ⟨m, h1, h2⟩
        rcases Nat.lt_or_ge m k with h3 | h3
        · exact .inl ⟨m, h3, h2⟩
        · have : m = k := by omega
          subst this
          exact .inr h2
      · rintro (⟨m, h1, h2⟩ | h2)
        · exact ⟨m, by omega, h2⟩
        · exact ⟨k, by omega, h2⟩
    rw [up]
    unfold outerTo
    by_cases ho : s.owner.getD k 0 = (t : Int)
    · have hno : ¬ (s.owner.getD k 0 ≠ (t : Int)) := fun h => h ho
      rw [if_neg hno]
      by_cases hx : (s.set.mutexes.getD k pair0).x = 1
      · rw [if_pos hx, le_maxI, ih]
        constructor
        · rintro ((h1 | h1) | h1)
          · exact .inl h1
          · exact .inr (.inl h1)
          · exact .inr (.inr ⟨ho, hx, h1⟩)
        · rintro (h1 | (h1 | h1))
          · exact .inl (.inl h1)
          · exact .inl (.inr h1)
          · exact .inr h1.2.2
      · rw [if_neg hx, if_neg (by decide), ih]
        constructor
        · rintro (h1 | h1)
          · exact .inl h1
          · exact .inr (.inl h1)
        · rintro (h1 | (h1 | h1))
          · exact .inl h1
          · exact .inr h1
          · exact absurd h1.2.1 hx
    · rw [if_pos ho, ih]
      constructor
      · rintro (h1 | h1)
        · exact .inl h1
        · exact .inr (.inl h1)
      · rintro (h1 | (h1 | h1))
        · exact .inl h1
        · exact .inr h1
        · exact absurd h1.1 ho

/-- The law's own reckoning: want, mutex by mutex, and within one by those who wait. -/
def wantIn (s : RS) (m o : Nat) (l : List Int) : Nat → List Int
  | 0 => l
  | u + 1 => if (s.set.mutexes.getD m pair0).x = 0 ∧ (th s.T u).for_ = 1 ∧ (th s.T u).of_ = (m : Int) ∧ (wantIn s m o l u).getD o 0 < Level s u then (wantIn s m o l u).set o (Level s u) else wantIn s m o l u
def wantTop (s : RS) (m o : Nat) (l : List Int) : List Int := if (s.set.mutexes.getD m pair0).x = 1 ∧ l.getD o 0 < (s.set.mutexes.getD m pair0).y then l.set o (s.set.mutexes.getD m pair0).y else l
def wantTo (s : RS) : Nat → List Int
  | 0 => s.T.map (fun x => x.base)
  | m + 1 => if s.owner.getD m 0 < 0 then wantTo s m else wantIn s m (s.owner.getD m 0).toNat (wantTop s m (s.owner.getD m 0).toNat (wantTo s m)) s.T.length
theorem wantIn_length (s : RS) (m o : Nat) (l : List Int) (u : Nat) : (wantIn s m o l u).length = l.length := by
  induction u with
  | zero => rfl
  | succ u ih => unfold wantIn; split <;> simp [ih]
theorem wantTop_length (s : RS) (m o : Nat) (l : List Int) : (wantTop s m o l).length = l.length := by unfold wantTop; split <;> simp
theorem wantTo_length (s : RS) (m : Nat) : (wantTo s m).length = s.T.length := by
  induction m with
  | zero => simp [wantTo]
  | succ m ih => unfold wantTo; split <;> simp [wantIn_length, wantTop_length, ih]
theorem le_set_getD (l : List Int) (o t : Nat) (x v : Int) (ho : o < l.length) (hx : l.getD o 0 < x) : v ≤ (l.set o x).getD t 0 ↔ v ≤ l.getD t 0 ∨ (t = o ∧ v ≤ x) := by
  by_cases e : o = t
  · subst e
    have : (l.set o x).getD o 0 = x := by simp [List.getD, ho]
    rw [this]
    constructor
    · exact fun h => .inr ⟨rfl, h⟩
    · rintro (h | h)
      · omega
      · exact h.2
  · rw [getD_set_ne _ _ _ _ e]
    constructor
    · exact .inl
    · rintro (h | h)
      · exact h
      · exact absurd h.1.symm e
theorem le_wantIn (s : RS) (m o : Nat) (l : List Int) (ho : o < l.length) (t : Nat) (v : Int) (k : Nat) : v ≤ (wantIn s m o l k).getD t 0 ↔ v ≤ l.getD t 0 ∨ (t = o ∧ (s.set.mutexes.getD m pair0).x = 0 ∧ ∃ u, u < k ∧ (th s.T u).for_ = 1 ∧ (th s.T u).of_ = (m : Int) ∧ v ≤ Level s u) := by
  induction k with
  | zero => simp [wantIn]
  | succ k ih =>
    have hl := wantIn_length s m o l k
    unfold wantIn
    by_cases hc : (s.set.mutexes.getD m pair0).x = 0 ∧ (th s.T k).for_ = 1 ∧ (th s.T k).of_ = (m : Int)
    · by_cases hlt : (wantIn s m o l k).getD o 0 < Level s k
      · rw [if_pos ⟨hc.1, hc.2.1, hc.2.2, hlt⟩, le_set_getD _ _ _ _ _ (by omega) hlt, ih]
        constructor
        · rintro ((h | ⟨h1, h2, u, h3, h4⟩) | ⟨h1, h2⟩)
          · exact .inl h
          · exact .inr ⟨h1, h2, u, by omega, h4⟩
          · exact .inr ⟨h1, hc.1, k, by omega, hc.2.1, hc.2.2, h2⟩
        · rintro (h | ⟨h1, h2, u, h3, h4, h5, h6⟩)
          · exact .inl (.inl h)
          · rcases Nat.lt_or_ge u k with h7 | h7
            · exact .inl (.inr ⟨h1, h2, u, h7, h4, h5, h6⟩)
            · have : u = k := by omega
              subst this
              exact .inr ⟨h1, h6⟩
      · rw [if_neg (fun h => hlt h.2.2.2), ih]
        constructor
        · rintro (h | ⟨h1, h2, u, h3, h4⟩)
          · exact .inl h
          · exact .inr ⟨h1, h2, u, by omega, h4⟩
        · rintro (h | ⟨h1, h2, u, h3, h4, h5, h6⟩)
          · exact .inl h
          · rcases Nat.lt_or_ge u k with h7 | h7
            · exact .inr ⟨h1, h2, u, h7, h4, h5, h6⟩
            · have : u = k := by omega
              subst this
              refine ih.1 ?_
              rw [h1]
              omega
    · rw [if_neg (fun h => hc ⟨h.1, h.2.1, h.2.2.1⟩), ih]
      constructor
      · rintro (h | ⟨h1, h2, u, h3, h4⟩)
        · exact .inl h
        · exact .inr ⟨h1, h2, u, by omega, h4⟩
      · rintro (h | ⟨h1, h2, u, h3, h4, h5, h6⟩)
        · exact .inl h
        · rcases Nat.lt_or_ge u k with h7 | h7
          · exact .inr ⟨h1, h2, u, h7, h4, h5, h6⟩
          · have : u = k := by omega
            subst this
            exact absurd ⟨h2, h4, h5⟩ hc
theorem le_wantTop (s : RS) (m o : Nat) (l : List Int) (ho : o < l.length) (t : Nat) (v : Int) : v ≤ (wantTop s m o l).getD t 0 ↔ v ≤ l.getD t 0 ∨ (t = o ∧ (s.set.mutexes.getD m pair0).x = 1 ∧ v ≤ (s.set.mutexes.getD m pair0).y) := by
  unfold wantTop
  by_cases hx : (s.set.mutexes.getD m pair0).x = 1
  · by_cases hlt : l.getD o 0 < (s.set.mutexes.getD m pair0).y
    · rw [if_pos ⟨hx, hlt⟩, le_set_getD _ _ _ _ _ ho hlt]
      constructor
      · rintro (h | h)
        · exact .inl h
        · exact .inr ⟨h.1, hx, h.2⟩
      · rintro (h | h)
        · exact .inl h
        · exact .inr ⟨h.1, h.2.2⟩
    · rw [if_neg (fun h => hlt h.2)]
      constructor
      · exact .inl
      · rintro (h | ⟨h1, _, h2⟩)
        · exact h
        · rw [h1]; omega
  · rw [if_neg (fun h => hx h.1)]
    constructor
    · exact .inl
    · rintro (h | h)
      · exact h
      · exact absurd h.2.1 hx
theorem le_wantTo {s : RS} (ok : LinksOk s) (t : Nat) (ht : t < s.T.length) (v : Int) (k : Nat) (hk : k ≤ s.owner.length) : v ≤ (wantTo s k).getD t 0 ↔ v ≤ (th s.T t).base ∨ ∃ m, m < k ∧ s.owner.getD m 0 = (t : Int) ∧ (((s.set.mutexes.getD m pair0).x = 1 ∧ v ≤ (s.set.mutexes.getD m pair0).y) ∨ ((s.set.mutexes.getD m pair0).x = 0 ∧ ∃ u, u < s.T.length ∧ (th s.T u).for_ = 1 ∧ (th s.T u).of_ = (m : Int) ∧ v ≤ Level s u)) := by
  induction k with
  | zero =>
    have e : (wantTo s 0).getD t 0 = (th s.T t).base := by simp [wantTo, th, List.getD, ht]
    rw [e]
    constructor
    · exact .inl
    · rintro (h | ⟨m, h, _⟩)
      · exact h
      · omega
  | succ k ih =>
    have ih := ih (by omega)
    have hl := wantTo_length s k
    have hob := ok.own k (by omega)
    have up : ∀ P : Nat → Prop, (∃ m, m < k + 1 ∧ P m) ↔ (∃ m, m < k ∧ P m) ∨ P k := by
      intro P
      constructor
      · rintro ⟨m, h1, h2⟩
        rcases Nat.lt_or_ge m k with h3 | h3
        · exact .inl ⟨m, h3, h2⟩
        · have : m = k := by omega
          subst this
          exact .inr h2
      · rintro (⟨m, h1, h2⟩ | h2)
        · exact ⟨m, by omega, h2⟩
        · exact ⟨k, by omega, h2⟩
    rw [up]
    unfold wantTo
    by_cases hneg : s.owner.getD k 0 < 0
    · rw [if_pos hneg, ih]
      constructor
      · rintro (h | h)
        · exact .inl h
        · exact .inr (.inl h)
      · rintro (h | (h | h))
        · exact .inl h
        · exact .inr h
        · omega
    · rw [if_neg hneg, le_wantIn _ _ _ _ (by rw [wantTop_length, hl]; omega), le_wantTop _ _ _ _ (by rw [hl]; omega), ih]
      have eo : t = (s.owner.getD k 0).toNat ↔ s.owner.getD k 0 = (t : Int) := by omega
      rw [eo]
      constructor
      · rintro (((h | h) | ⟨h1, h2⟩) | ⟨h1, h2⟩)
        · exact .inl h
        · exact .inr (.inl h)
        · exact .inr (.inr ⟨h1, .inl h2⟩)
        · exact .inr (.inr ⟨h1, .inr h2⟩)
      · rintro (h | (h | ⟨h1, h2 | h2⟩))
        · exact .inl (.inl (.inl h))
        · exact .inl (.inl (.inr h))
        · exact .inl (.inr ⟨h1, h2⟩)
        · exact .inr ⟨h1, h2⟩
/-- P8: what the law reckons is the level. -/
theorem wantTo_levels {s : RS} (ok : LinksOk s) : wantTo s s.owner.length = levels s := by
  have hl := wantTo_length s s.owner.length
  apply List.ext_getElem
  · rw [hl]; simp [levels]
  · intro t h1 h2
    rw [hl] at h1
    have e1 : (wantTo s s.owner.length).getD t 0 = (wantTo s s.owner.length)[t] := by simp [List.getD, hl, h1]
    have e2 : (levels s)[t] = Level s t := by simp [levels]
    rw [← e1, e2]
    have key : ∀ v, v ≤ (wantTo s s.owner.length).getD t 0 ↔ v ≤ Level s t := by
      intro v
      rw [le_wantTo ok t h1 v s.owner.length (Nat.le_refl _), le_Level s t h1 v]
      have ho := le_own s (fun _ => 0) t v s.owner.length
      constructor
      · rintro (h | ⟨m, h2, h3, h4 | ⟨h4, u, h5, h6, h7, h8⟩⟩)
        · exact .inl (ho.2 (.inl h))
        · exact .inl (ho.2 (.inr ⟨m, h2, h3, h4⟩))
        · exact .inr ⟨u, ⟨h5, h6, m, h2, h7, h3, by omega⟩, h8⟩
      · rintro (h | ⟨u, ⟨h5, h6, m, h2, h7, h3, h4⟩, h8⟩)
        · rcases ho.1 h with h | ⟨m, h2, h3, h4⟩
          · exact .inl h
          · exact .inr ⟨m, h2, h3, .inl h4⟩
        · exact .inr ⟨m, h2, h3, .inr ⟨by have := ok.kind m h2; omega, u, h5, h6, h7, h8⟩⟩
    have a := (key ((wantTo s s.owner.length).getD t 0)).1 (Int.le_refl _)
    have b := (key (Level s t)).2 (Int.le_refl _)
    omega
end R
end Go.Proofs.Ytbkfildnijjioab

/-
  The world's views in memory, one by one.
-/
namespace Go.Proofs.Ytbkfildnijjioab
open Go.RowKit
theorem view_row {w : World} {B : Nat} {v : Value} {l : List VD} (r : w.ownsRow B 53 11 v l.length (vAll l)) (hl : 0 < l.length) : ∃ g cap, v = .slice (some ⟨g, 0, none⟩) l.length cap ∧ g < w.heap.size ∧ ∀ t (ht : t < l.length) j, j < 11 → w.cell? ⟨g, t * 11 + j, none⟩ = (vCells l[t])[j]? := by
  obtain ⟨ao, cap, rfl, hn, ha⟩ := owns_cells r
  cases ao with
  | none => have := (hn rfl).1; omega
  | some a =>
    obtain ⟨g, rfl, _, hlt, _, hc⟩ := ha a rfl
    refine ⟨g, cap, rfl, hlt, fun t ht j hj => ?_⟩
    have : t * 11 + j < l.length * 11 := by omega
    rw [hc _ this, vAll_get l t j ht hj]
theorem wrow_get {w : World} {base g n cap : Nat} {l : List Int} (h : w.ownsRow base 3 1 (.slice (some ⟨g, 0, none⟩) n cap) n (intCells l)) (hl : l.length = n) {i : Nat} (hi : i < n) : w.cell? ⟨g, i, none⟩ = some (.int .i64 (l.getD i 0)) := by
  rw [h.cellAt i (by omega)]
  have : i < l.length := by omega
  simp [intCells, List.getD, this]
theorem wrow_set {w : World} {base g n cap : Nat} {l : List Int} (h : w.ownsRow base 3 1 (.slice (some ⟨g, 0, none⟩) n cap) n (intCells l)) (i : Nat) (x : Int) : (w.setCell ⟨g, i, none⟩ (.int .i64 x)).ownsRow base 3 1 (.slice (some ⟨g, 0, none⟩) n cap) n (intCells (l.set i x)) := by
  have := (h.stored i (.int .i64 x)).1
  rwa [intCells_set] at this
theorem wrow_keep {w w' : World} {base : Nat} {e : TypeId} {size n : Nat} {v : Value} {xs : List Value} (h : w.ownsRow base e size v n xs) (hb : Below w.heap.size w w') : w'.ownsRow base e size v n xs := ownsRow_same h fun g hg => hb.block g (ownsRow_block h hg).2.1
theorem watTo_map (T : List RT) (f : RT → Int) : R.atTo (fun i => f (R.th T i)) T.length T.length = T.map f := by
  apply List.ext_getElem
  · simp [R.atTo]
  · intro i h1 h2
    have hi : i < T.length := by simpa [R.atTo] using h1
    simp [R.atTo, R.th, List.getD, hi]
/-- What a step makes of the world's own words. -/
theorem moved_cases {d : WD} {s : RS} (i : RInv s) (x : R.Ext0 s) (n : Int) : (R.entry s n = s ∧ movedD d s n = freshD d) ∨ (s.now < 1000000000 ∧ R.entry s n = R.tick s ∧ movedD d s n = { freshD d with now := d.now + 1, tick := true, told := R.late (R.ticked s) }) ∨
    (∃ t : Nat, R.on s.T n = (t : Int) ∧ R.Picked s t ∧ R.entry s n = R.settle (R.actS s t) ∧ movedD d s n = doesD (freshD d) t (R.instrAt s t) (R.actC s t)) := by
  unfold movedD
  rcases R.entry_cases i x n with ⟨hn, hm, e⟩ | ⟨hn, hm, e⟩ | ⟨hn, hw, e⟩ | ⟨hn, hw, ho, e⟩ | ⟨hn, hw, ho, p, e⟩
  · left; refine ⟨e, ?_⟩; rw [if_pos hn]; unfold tickD; rw [if_pos hm]
  · right; left
    have hm' : ¬ s.now = 1000000000 := by omega
    refine ⟨hm, e, ?_⟩; rw [if_pos hn]; unfold tickD R.tickL; rw [if_neg hm', if_neg hm']; rfl
  · left; refine ⟨e, ?_⟩; rw [if_neg hn]; unfold pickD; rw [if_pos hw]
  · left; refine ⟨e, ?_⟩; rw [if_neg hn]; unfold pickD; rw [if_neg hw, if_pos ho]
  · right; right
    refine ⟨(R.on s.T n).toNat, by omega, p, e, ?_⟩
    rw [if_neg hn]; unfold pickD; rw [if_neg hw, if_neg (by omega)]
theorem doesD_since {d : WD} {t : Nat} {ii : InstrD} {c : Int} : (doesD d t ii c).since = if c = 1 then d.since.set t d.steps else d.since := by
  have h1 := (doesB_keeps (doesA d t ii c) t ii).2.2.1
  have h2 := (doesB_keeps (doesA d t ii c) t ii).2.2.2.2.2.2.2.1
  unfold doesD doesS
  split
  · show (doesB (doesA d t ii c) t ii).since.set t (doesB (doesA d t ii c) t ii).steps = _
    rw [h1, h2]
    rfl
  · rw [h1]; rfl
theorem moved_steps (d : WD) (s : RS) (n : Int) : (movedD d s n).steps = d.steps + 1 := by
  unfold movedD tickD pickD
  split
  · split <;> rfl
  · split
    · rfl
    · split
      · rfl
      · exact doesD_steps
theorem stepD_steps (d : WD) (s : RS) (n : Int) : (stepD d s n).steps = d.steps + 1 := moved_steps d s n
/-- The order of waits is told by the steps at which they began. -/
structure Snc (d : WD) (s : RS) : Prop where
  top : ∀ t, t < s.T.length → (R.th s.T t).for_ ≠ 0 → d.since.getD t 0 ≤ d.steps
  ord : ∀ a b, a < s.T.length → b < s.T.length → (R.th s.T a).for_ ≠ 0 → (R.th s.T b).for_ ≠ 0 → Ln.sinceOf s a < Ln.sinceOf s b → d.since.getD a 0 < d.since.getD b 0
theorem Snc.step {d : WD} {s : RS} {tk wt : List Nat} (h : Snc d s) (wd : Wd d s) (i : RInv s) (x : R.Ext0 s) (a : Ln.Aux s tk wt) (n : Int) : Snc (stepD d s n) (R.entry s n) := by
  have est : (stepD d s n).steps = d.steps + 1 := stepD_steps d s n
  have esn : (stepD d s n).since = (movedD d s n).since := rfl
  have stay : ∀ s' : RS, s'.T.length = s.T.length → (movedD d s n).since = d.since → (∀ u, u < s.T.length → (R.th s'.T u).for_ ≠ 0 → R.Stay (R.th s.T u) (R.th s'.T u)) → Snc (stepD d s n) s' := by
    intro s' hl hs hu
    refine ⟨fun t ht hf => ?_, fun u v hu' hv' hfu hfv hlt => ?_⟩
    · rw [est, esn, hs]
      have k := hu t (by omega) hf
      have := h.top t (by omega) (by rw [← k.for_]; exact hf)
      omega
    · rw [esn, hs]
      have k := hu u (by omega) hfu
      have m := hu v (by omega) hfv
      refine h.ord u v (by omega) (by omega) (by rw [← k.for_]; exact hfu) (by rw [← m.for_]; exact hfv) ?_
      unfold Ln.sinceOf at hlt ⊢
      rw [k.since, m.since] at hlt
      exact hlt
  rcases moved_cases (d := d) i x n with ⟨e, em⟩ | ⟨_, e, em⟩ | ⟨t, _, p, e, em⟩
  · rw [e]
    exact stay s rfl (by rw [em]; rfl) (fun _ _ _ => R.Stay.refl _)
  · rw [e]
    refine stay _ (R.tick_len s) (by rw [em]; rfl) (fun u hu hf => ?_)
    rcases R.tick_th a (R.RInv.linksOk i) u hu with ⟨_, _, k⟩ | ⟨_, k⟩
    · exact absurd k.for_ hf
    · exact k
  · have hl : (R.settle (R.actS s t)).T.length = s.T.length := (R.settleT_length _ _ _).trans p.cols.1
    rw [e]
    by_cases hc : R.actC s t = 1
    · have hs : (movedD d s n).since = d.since.set t (d.steps + 1) := by rw [em, doesD_since, if_pos hc]; rfl
      have hsl : t < d.since.length := by rw [wd.since]; exact p.ht
      have old : ∀ u, u ≠ t → (R.th (R.settle (R.actS s t)).T u).for_ ≠ 0 → R.Stay (R.th s.T u) (R.th (R.settle (R.actS s t)).T u) := by
        intro u hne hf
        have k := (R.settle_stay (R.actS s t) u).1
        rw [k.for_] at hf
        rcases p.waits u hf with ⟨_, m⟩ | ⟨e, _⟩
        · exact m.trans k
        · exact absurd e hne
      have me : Ln.sinceOf (R.settle (R.actS s t)) t = s.next + 1 := by
        unfold Ln.sinceOf
        rw [(R.settle_stay (R.actS s t) t).1.since]
        exact (p.self.1 hc).since
      have bel : ∀ u, u < s.T.length → (R.th s.T u).for_ ≠ 0 → Ln.sinceOf s u ≤ s.next := fun u hu hf => a.wt.top u ((a.wt.mem u).2 ⟨hu, hf⟩)
      refine ⟨fun u hu hf => ?_, fun u v hu hv hfu hfv hlt => ?_⟩
      · rw [est, esn, hs]
        by_cases e1 : u = t
        · subst e1
          rw [R.getD_set_self _ _ _ hsl]
          omega
        · rw [R.getD_set_ne _ _ _ _ (fun e2 => e1 e2.symm)]
          have k := old u e1 hf
          have := h.top u (by omega) (by rw [← k.for_]; exact hf)
          omega
      · rw [esn, hs]
        by_cases e1 : u = t
        · exfalso
          subst e1
          by_cases e2 : v = u
          · subst e2; omega
          · have k := old v e2 hfv
            rw [me] at hlt
            have := bel v (by omega) (by rw [← k.for_]; exact hfv)
            have e3 : Ln.sinceOf (R.settle (R.actS s u)) v = Ln.sinceOf s v := k.since
            omega
        · have k := old u e1 hfu
          rw [R.getD_set_ne _ _ _ _ (fun e2 => e1 e2.symm)]
          by_cases e2 : v = t
          · subst e2
            rw [R.getD_set_self _ _ _ hsl]
            have := h.top u (by omega) (by rw [← k.for_]; exact hfu)
            omega
          · rw [R.getD_set_ne _ _ _ _ (fun e3 => e2 e3.symm)]
            have m := old v e2 hfv
            refine h.ord u v (by omega) (by omega) (by rw [← k.for_]; exact hfu) (by rw [← m.for_]; exact hfv) ?_
            unfold Ln.sinceOf at hlt ⊢
            rw [k.since, m.since] at hlt
            exact hlt
    · refine stay _ hl (by rw [em, doesD_since, if_neg hc]; rfl) (fun u hu hf => ?_)
      have k := (R.settle_stay (R.actS s t) u).1
      rw [k.for_] at hf
      rcases p.waits u hf with ⟨_, m⟩ | ⟨_, e2, _⟩
      · exact m.trans k
      · exact absurd e2 hc
/-- What the law's functions want to know: a world, and the document's kernel. -/
structure KWS (PK : KP) (B : Nat) (w : World) (wb kb : Nat) (P : Nat → Prop) (h : WH) (d : WD) (s : RS) : Prop where
  k : KW PK B w wb kb P h d s
  wd : Wd d s
  i : RInv s
  x : R.Ext s
  snc : Snc d s
theorem KWS.below {PK : KP} {B : Nat} {w w' : World} {wb kb : Nat} {P : Nat → Prop} {h : WH} {d : WD} {s : RS} (f : KFrame PK) (k : KWS PK B w wb kb P h d s) (hb : Below w.heap.size w w') : KWS PK B w' wb kb P h d s := ⟨k.k.below f hb, k.wd, k.i, k.x, k.snc⟩
theorem KWS.vlen {PK : KP} {B : Nat} {w : World} {wb kb : Nat} {P : Nat → Prop} {h : WH} {d : WD} {s : RS} (k : KWS PK B w wb kb P h d s) : d.views.length = s.T.length := by rw [k.wd.views, viewsD_length]
theorem KWS.vget {PK : KP} {B : Nat} {w : World} {wb kb : Nat} {P : Nat → Prop} {h : WH} {d : WD} {s : RS} (k : KWS PK B w wb kb P h d s) (t : Nat) (ht : t < s.T.length) : d.views[t]'(by rw [k.vlen]; exact ht) = viewD s t := by
  have := k.wd.views
  simp [this, viewsD_get]
/-- The views' list and its cells. -/
theorem KWS.view {PK : KP} {B : Nat} {w : World} {wb kb : Nat} {P : Nat → Prop} {h : WH} {d : WD} {s : RS} (k : KWS PK B w wb kb P h d s) : ∃ g cap, w.cell? ⟨wb, 12, none⟩ = some (.slice (some ⟨g, 0, none⟩) s.T.length cap) ∧ g < w.heap.size ∧ ∀ t, t < s.T.length → ∀ j, j < 11 → w.cell? ⟨g, t * 11 + j, none⟩ = (vCells (viewD s t))[j]? := by
  have c := k.k.m.blk.cell 12
  simp [wCells] at c
  obtain ⟨g, cap, hv, hg, hc⟩ := view_row k.k.m.views (by rw [k.vlen]; exact k.i.good.pos)
  refine ⟨g, cap, by rw [c, hv, k.vlen], hg, fun t ht j hj => ?_⟩
  rw [hc t (by rw [k.vlen]; exact ht) j hj, k.vget t ht]
end Go.Proofs.Ytbkfildnijjioab

/-
  A law's own lists beside the world: no call touches them.
-/
namespace Go.Proofs.Ytbkfildnijjioab
open Go.RowKit
/-- A kernel, and beside it blocks L of the law's own, of which M tells. -/
structure PKL (PK : KP) (L : Nat → Prop) (M : World → Prop) (Q : Nat → Prop) (w : World) (kb : Nat) (s : RS) : Prop where
  ex : ∃ Q0, PK Q0 w kb s ∧ (∀ b, Q b ↔ (Q0 b ∨ L b)) ∧ (∀ b, L b → ¬ Q0 b)
  lt : ∀ b, L b → b < w.heap.size
  m : M w
/-- M hangs on L alone. -/
def FrameM (L : Nat → Prop) (M : World → Prop) : Prop := ∀ w w', M w → (∀ b, L b → w'.heap[b]? = w.heap[b]?) → w.heap.size ≤ w'.heap.size → M w'
section
variable {PK : KP} {L : Nat → Prop} {M : World → Prop}
theorem KFrame.with (f : KFrame PK) (fm : FrameM L M) : KFrame (PKL PK L M) := by
  refine ⟨fun k b hb => ?_, fun k hs hz => ?_⟩
  · obtain ⟨Q0, pk, hq, _⟩ := k.ex
    rcases (hq b).1 hb with h | h
    · exact f.lt pk b h
    · exact k.lt b h
  · obtain ⟨Q0, pk, hq, hn⟩ := k.ex
    exact ⟨⟨Q0, f.frame pk (fun b hb => hs b ((hq b).2 (.inl hb))) hz, hq, hn⟩, fun b hb => Nat.lt_of_lt_of_le (k.lt b hb) hz, fm _ _ k.m (fun b hb => hs b ((hq b).2 (.inr hb))) hz⟩
theorem PKL.turned (fm : FrameM L M) {Q Q0 Q0' : Nat → Prop} {w w' : World} {kb : Nat} {s' : RS} (lt : ∀ b, L b → b < w.heap.size) (m : M w) (hq : ∀ b, Q b ↔ (Q0 b ∨ L b)) (hn : ∀ b, L b → ¬ Q0 b) (pk : PK Q0' w' kb s') (hs : ∀ b, Q0' b → Q0 b ∨ w.heap.size ≤ b) (t : Turns Q0 w w') :
    PKL PK L M (fun b => Q0' b ∨ L b) w' kb s' ∧ (∀ b, (Q0' b ∨ L b) → Q b ∨ w.heap.size ≤ b) ∧ Turns Q w w' := by
  refine ⟨⟨⟨Q0', pk, fun b => Iff.rfl, fun b hb hc => ?_⟩, fun b hb => Nat.lt_of_lt_of_le (lt b hb) t.size, fm _ _ m (fun b hb => t.block b (lt b hb) (hn b hb)) t.size⟩, fun b hb => ?_, ⟨t.os, t.tape, t.output, t.size, fun b hb hc => t.block b hb (fun e => hc ((hq b).2 (.inl e)))⟩⟩
  · rcases hs b hc with h | h
    · exact hn b hb h
    · have := lt b hb; omega
  · rcases hb with h | h
    · rcases hs b h with h1 | h1
      · exact .inl ((hq b).2 (.inl h1))
      · exact .inr h1
    · exact .inl ((hq b).2 (.inr h))
theorem CAll.with (c : CAll PK) (fm : FrameM L M) : CAll (PKL PK L M) where
  fr := c.fr.with fm
  now := fun Q w kb s k => by obtain ⟨Q0, pk, _⟩ := k.ex; exact c.now Q0 w kb s pk
  run := fun Q w kb s k => by obtain ⟨Q0, pk, _⟩ := k.ex; exact c.run Q0 w kb s pk
  look := fun Q w kb s k => by obtain ⟨Q0, pk, _⟩ := k.ex; exact c.look Q0 w kb s pk
  own := fun Q w kb s k => by obtain ⟨Q0, pk, _⟩ := k.ex; exact c.own Q0 w kb s pk
  wait := fun Q w kb s k => by obtain ⟨Q0, pk, _⟩ := k.ex; exact c.wait Q0 w kb s pk
  cnt := fun Q w kb s k => by obtain ⟨Q0, pk, _⟩ := k.ex; exact c.cnt Q0 w kb s pk
  msg := fun Q w kb s k => by obtain ⟨Q0, pk, _⟩ := k.ex; exact c.msg Q0 w kb s pk
  mis := fun Q w kb s k => by obtain ⟨Q0, pk, _⟩ := k.ex; exact c.mis Q0 w kb s pk
  pick := fun Q w kb s k hn wk => by
    obtain ⟨Q0, pk, hq, hne⟩ := k.ex
    refine (c.pick Q0 w kb s pk hn wk).mono ?_
    rintro e w' ⟨rfl, Q0', pk', hs, t⟩
    obtain ⟨a, b, c⟩ := PKL.turned fm k.lt k.m hq hne pk' hs t
    exact ⟨rfl, _, a, b, c⟩
  tick := fun Q w kb s k hn => by
    obtain ⟨Q0, pk, hq, hne⟩ := k.ex
    refine (c.tick Q0 w kb s pk hn).mono ?_
    rintro e w' ⟨v, Q0', rfl, ho, pk', hs, hv, t⟩
    obtain ⟨a, b, c⟩ := PKL.turned fm k.lt k.m hq hne pk' hs t
    refine ⟨v, _, rfl, ho, a, b, fun g hg => ?_, c⟩
    rintro (h | h)
    · exact hv g hg h
    · have h1 := (ownsRow_block ho hg).1
      have := k.lt g h
      omega
  inv := fun k => by obtain ⟨Q0, pk, _⟩ := k.ex; exact c.inv pk
  aux := fun k => by obtain ⟨Q0, pk, _⟩ := k.ex; exact c.aux pk
end
section
variable {PK : KP} {B : Nat} {w : World} {wb kb : Nat} {P : Nat → Prop} {h : WH} {d : WD} {s : RS} {L : Nat → Prop} {M : World → Prop}
/-- The law's own blocks lie apart from the world's and the kernel's. -/
def Apart (w : World) (wb : Nat) (P : Nat → Prop) (h : WH) (B : Nat) (L : Nat → Prop) : Prop := ∀ b, L b → B ≤ b ∧ b < w.heap.size ∧ ¬ P b ∧ ¬ WB wb h b
theorem Apart.below {w' : World} (a : Apart w wb P h B L) (hz : w.heap.size ≤ w'.heap.size) : Apart w' wb P h B L := fun b hb => ⟨(a b hb).1, Nat.lt_of_lt_of_le (a b hb).2.1 hz, (a b hb).2.2⟩
theorem KWS.free (f : KFrame PK) (k : KWS PK B w wb kb P h d s) {b : Nat} (hb : w.heap.size ≤ b) : ¬ P b ∧ ¬ WB wb h b := ⟨fun e => by have := f.lt k.k.pk b e; omega, fun e => by have := k.k.m.lt b e; omega⟩
theorem KWS.with (k : KWS PK B w wb kb P h d s) (a : Apart w wb P h B L) (m : M w) : KWS (PKL PK L M) B w wb kb (fun b => P b ∨ L b) h d s := by
  refine ⟨⟨k.k.m, ⟨⟨P, k.k.pk, fun _ => Iff.rfl, fun b hb => (a b hb).2.2.1⟩, fun b hb => (a b hb).2.1, m⟩, fun b hb => ?_, fun b hb => ?_⟩, k.wd, k.i, k.x, k.snc⟩
  · rcases hb with h1 | h1
    · exact k.k.hp b h1
    · exact (a b h1).1
  · rcases hb with h1 | h1
    · exact k.k.np b h1
    · exact (a b h1).2.2.2
theorem KWS.without (k : KWS (PKL PK L M) B w wb kb P h d s) : ∃ P0, KWS PK B w wb kb P0 h d s ∧ Apart w wb P0 h B L ∧ M w := by
  obtain ⟨Q0, pk, hq, hn⟩ := k.k.pk.ex
  exact ⟨Q0, ⟨⟨k.k.m, pk, fun b hb => k.k.hp b ((hq b).2 (.inl hb)), fun b hb => k.k.np b ((hq b).2 (.inl hb))⟩, k.wd, k.i, k.x, k.snc⟩, fun b hb => ⟨k.k.hp b ((hq b).2 (.inr hb)), k.k.pk.lt b hb, hn b hb, k.k.np b ((hq b).2 (.inr hb))⟩, k.k.pk.m⟩
end
end Go.Proofs.Ytbkfildnijjioab

/-
  The world in memory: one of its lists grows.
-/
namespace Go.Proofs.Ytbkfildnijjioab
open Go.RowKit
section
variable {PK : KP} {B : Nat} {w w' : World} {wb kb : Nat} {P : Nat → Prop} {h : WH} {d : WD} {s : RS}
theorem KW.grow (f : KFrame PK) (k : KW PK B w wb kb P h d s) {wA w5 : World} {v : Value} {n : Nat} {xs : List Value} (j : Nat) (v' : Value) (hv : ∀ g, v.ownBlock = some g → WB wb h g) (row : w.ownsRow B 3 1 v n xs) (hb : Below w.heap.size w wA) (hg : wA.grownBy w5 v.ownBlock) :
    (∀ (e : TypeId) (size n : Nat) (u : Value) (xs : List Value), w.ownsRow B e size u n xs → (AptV v u ∨ e ≠ 3) → e ≠ 49 → (w5.setCell ⟨wb, j, none⟩ v').ownsRow B e size u n xs) ∧ PK P (w5.setCell ⟨wb, j, none⟩ v') kb s ∧ Below B w (w5.setCell ⟨wb, j, none⟩ v') ∧
      Blk (w5.setCell ⟨wb, j, none⟩ v') wb ((wCells kb h d).setIfInBounds j v') 49 ∧ (∀ (u : Value) (n : Nat) (xs : List Value), w5.ownsRow B 3 1 u n xs → (w5.setCell ⟨wb, j, none⟩ v').ownsRow B 3 1 u n xs) := by
  have hbz := k.m.bsz
  have hszA := hb.size
  have hwne : v.ownBlock ≠ some wb := k.m.wb_ne row (by decide)
  have blk5 : Blk w5 wb (wCells kb h d) 49 := by
    have h1 := k.m.blk
    have hl := k.m.blk.lt
    unfold Blk at h1 ⊢
    rw [hg.block wb (by omega) (fun e => hwne e.symm), hb.block wb hl]
    exact h1
  have old : ∀ b, b < w.heap.size → v.ownBlock ≠ some b → b ≠ wb → (w5.setCell ⟨wb, j, none⟩ v').heap[b]? = w.heap[b]? := by
    intro b hl hn hw
    rw [Below.heap_setCell _ _ _ _ (fun e => hw e), hg.block b (by omega) (fun e => hn e.symm), hb.block b hl]
  refine ⟨fun e size n u xs ho hd he => ownsRow_same ho fun g hgu => old g (ownsRow_block ho hgu).2.1 (fun e' => ?_) (fun e' => ?_), f.frame k.pk (fun b hp => old b (f.lt k.pk b hp) (fun e => k.np b hp (hv b e)) (fun e => k.np b hp (.inl e))) ?_, ?_, blk5.set j v', fun u n xs ho => ownsRow_same ho fun g hgu => Below.heap_setCell _ _ _ _ (fun e => ?_)⟩
  · rcases hd with h1 | h1
    · exact h1 g e' hgu
    · obtain ⟨_, _, cur, hc⟩ := ownsRow_block ho hgu
      obtain ⟨_, _, cur', hc'⟩ := ownsRow_block row e'
      rw [hc] at hc'
      cases hc'
      exact h1 rfl
  · subst e'
    exact k.m.wb_ne ho he hgu
  · have := hg.size
    simp [World.setCell]
    omega
  · refine ⟨?_, ?_, ?_, ?_, fun b hb' => ?_⟩
    · exact hg.os.trans hb.os
    · exact hg.tape.trans hb.tape
    · exact hg.output.trans hb.output
    · have := hg.size
      simp [World.setCell]
      omega
    · have h1 := k.m.hb
      exact old b (by omega) (fun e => by have := (ownsRow_block row e).1; omega) (by omega)
  · have e' : g = wb := e
    subst e'
    obtain ⟨_, _, cur, hc⟩ := ownsRow_block ho hgu
    exact absurd (blk_type blk5 hc) (by decide)
theorem apt_new {v v' u : Value} {N : Nat} (a : AptV v u) (hat : v'.ownBlock = v.ownBlock ∨ v'.ownBlock = some N) (hu : ∀ g, u.ownBlock = some g → g < N) : AptV v' u := by
  intro g h1 h2
  rcases hat with e | e
  · rw [e] at h1
    exact a g h1 h2
  · rw [e] at h1
    have := Option.some.inj h1
    have := hu g h2
    omega
theorem KW.growBase (f : KFrame PK) (k : KW PK B w wb kb P h d s) {wA w5 : World} {v' : Value} {l : List Int} (hb : Below w.heap.size w wA) (hg : wA.grownBy w5 h.vB.ownBlock) (hr : w5.ownsRow B 3 1 v' l.length (intCells l)) (hat : v'.ownBlock = h.vB.ownBlock ∨ v'.ownBlock = some wA.heap.size) :
    ∃ h', KW PK B (w5.setCell ⟨wb, 8, none⟩ v') wb kb P h' { d with base := l } s ∧ Below B w (w5.setCell ⟨wb, 8, none⟩ v') := by
  obtain ⟨g1, g2, g3, g4, g5⟩ := k.grow f 8 v' (fun g hg => .inr (.inl hg)) k.m.base hb hg
  have a := k.m.apt
  have hlt := k.m.lt
  have hsz := hb.size
  refine ⟨{ h with vB := v' }, ⟨⟨by simpa [wCells] using g4, k.m.set.stays g3, g5 _ _ _ hr, g1 _ _ _ _ _ k.m.at_ (.inl a.ba) (by decide), g1 _ _ _ _ _ k.m.ended (.inl a.be) (by decide), g1 _ _ _ _ _ k.m.since (.inl a.bs) (by decide), g1 _ _ _ _ _ k.m.views (.inr (by decide)) (by decide), g1 _ _ _ _ _ k.m.run (.inl a.br) (by decide), g1 _ _ _ _ _ k.m.was (.inr (by decide)) (by decide), g1 _ _ _ _ _ k.m.told (.inr (by decide)) (by decide), ?_, k.m.hb⟩, g2, k.hp, fun b hp hw => ?_⟩, g3⟩
  · exact ⟨apt_new a.ba hat (fun g hg => by have := hlt g (.inr (.inr (.inl hg))); omega), apt_new a.be hat (fun g hg => by have := hlt g (.inr (.inr (.inr (.inl hg)))); omega), apt_new a.bs hat (fun g hg => by have := hlt g (.inr (.inr (.inr (.inr (.inl hg))))); omega), apt_new a.br hat (fun g hg => by have := hlt g (.inr (.inr (.inr (.inr (.inr (.inr (.inl hg))))))); omega), a.ae, a.as_, a.ar, a.es, a.er, a.sr⟩
  · have hpl := f.lt k.pk b hp
    have hn := k.np b hp
    rcases hw with e | e | e | e | e | e | e | e | e
    · exact hn (.inl e)
    · have e : v'.ownBlock = some b := e
      rcases hat with h1 | h1
      · exact hn (.inr (.inl (h1.symm.trans e)))
      · rw [h1] at e
        have := Option.some.inj e
        omega
    · exact hn (.inr (.inr (.inl e)))
    · exact hn (.inr (.inr (.inr (.inl e))))
    · exact hn (.inr (.inr (.inr (.inr (.inl e)))))
    · exact hn (.inr (.inr (.inr (.inr (.inr (.inl e))))))
    · exact hn (.inr (.inr (.inr (.inr (.inr (.inr (.inl e)))))))
    · exact hn (.inr (.inr (.inr (.inr (.inr (.inr (.inr (.inl e))))))))
    · exact hn (.inr (.inr (.inr (.inr (.inr (.inr (.inr (.inr e))))))))
theorem KW.growAt (f : KFrame PK) (k : KW PK B w wb kb P h d s) {wA w5 : World} {v' : Value} {l : List Int} (hb : Below w.heap.size w wA) (hg : wA.grownBy w5 h.vA.ownBlock) (hr : w5.ownsRow B 3 1 v' l.length (intCells l)) (hat : v'.ownBlock = h.vA.ownBlock ∨ v'.ownBlock = some wA.heap.size) :
    ∃ h', KW PK B (w5.setCell ⟨wb, 9, none⟩ v') wb kb P h' { d with at_ := l } s ∧ Below B w (w5.setCell ⟨wb, 9, none⟩ v') := by
  obtain ⟨g1, g2, g3, g4, g5⟩ := k.grow f 9 v' (fun g hg => .inr (.inr (.inl hg))) k.m.at_ hb hg
  have a := k.m.apt
  have hlt := k.m.lt
  have hsz := hb.size
  refine ⟨{ h with vA := v' }, ⟨⟨by simpa [wCells] using g4, k.m.set.stays g3, g1 _ _ _ _ _ k.m.base (.inl a.ba.symm) (by decide), g5 _ _ _ hr, g1 _ _ _ _ _ k.m.ended (.inl a.ae) (by decide), g1 _ _ _ _ _ k.m.since (.inl a.as_) (by decide), g1 _ _ _ _ _ k.m.views (.inr (by decide)) (by decide), g1 _ _ _ _ _ k.m.run (.inl a.ar) (by decide), g1 _ _ _ _ _ k.m.was (.inr (by decide)) (by decide), g1 _ _ _ _ _ k.m.told (.inr (by decide)) (by decide), ?_, k.m.hb⟩, g2, k.hp, fun b hp hw => ?_⟩, g3⟩
  · exact ⟨(apt_new a.ba.symm hat (fun g hg => by have := hlt g (.inr (.inl hg)); omega)).symm, a.be, a.bs, a.br, apt_new a.ae hat (fun g hg => by have := hlt g (.inr (.inr (.inr (.inl hg)))); omega), apt_new a.as_ hat (fun g hg => by have := hlt g (.inr (.inr (.inr (.inr (.inl hg))))); omega), apt_new a.ar hat (fun g hg => by have := hlt g (.inr (.inr (.inr (.inr (.inr (.inr (.inl hg))))))); omega), a.es, a.er, a.sr⟩
  · have hpl := f.lt k.pk b hp
    have hn := k.np b hp
    rcases hw with e | e | e | e | e | e | e | e | e
    · exact hn (.inl e)
    · exact hn (.inr (.inl e))
    · have e : v'.ownBlock = some b := e
      rcases hat with h1 | h1
      · exact hn (.inr (.inr (.inl (h1.symm.trans e))))
      · rw [h1] at e
        have := Option.some.inj e
        omega
    · exact hn (.inr (.inr (.inr (.inl e))))
    · exact hn (.inr (.inr (.inr (.inr (.inl e)))))
    · exact hn (.inr (.inr (.inr (.inr (.inr (.inl e))))))
    · exact hn (.inr (.inr (.inr (.inr (.inr (.inr (.inl e)))))))
    · exact hn (.inr (.inr (.inr (.inr (.inr (.inr (.inr (.inl e))))))))
    · exact hn (.inr (.inr (.inr (.inr (.inr (.inr (.inr (.inr e))))))))
theorem KW.growEnded (f : KFrame PK) (k : KW PK B w wb kb P h d s) {wA w5 : World} {v' : Value} {l : List Int} (hb : Below w.heap.size w wA) (hg : wA.grownBy w5 h.vE.ownBlock) (hr : w5.ownsRow B 3 1 v' l.length (intCells l)) (hat : v'.ownBlock = h.vE.ownBlock ∨ v'.ownBlock = some wA.heap.size) :
    ∃ h', KW PK B (w5.setCell ⟨wb, 10, none⟩ v') wb kb P h' { d with ended := l } s ∧ Below B w (w5.setCell ⟨wb, 10, none⟩ v') := by
  obtain ⟨g1, g2, g3, g4, g5⟩ := k.grow f 10 v' (fun g hg => .inr (.inr (.inr (.inl hg)))) k.m.ended hb hg
  have a := k.m.apt
  have hlt := k.m.lt
  have hsz := hb.size
  refine ⟨{ h with vE := v' }, ⟨⟨by simpa [wCells] using g4, k.m.set.stays g3, g1 _ _ _ _ _ k.m.base (.inl a.be.symm) (by decide), g1 _ _ _ _ _ k.m.at_ (.inl a.ae.symm) (by decide), g5 _ _ _ hr, g1 _ _ _ _ _ k.m.since (.inl a.es) (by decide), g1 _ _ _ _ _ k.m.views (.inr (by decide)) (by decide), g1 _ _ _ _ _ k.m.run (.inl a.er) (by decide), g1 _ _ _ _ _ k.m.was (.inr (by decide)) (by decide), g1 _ _ _ _ _ k.m.told (.inr (by decide)) (by decide), ?_, k.m.hb⟩, g2, k.hp, fun b hp hw => ?_⟩, g3⟩
  · exact ⟨a.ba, (apt_new a.be.symm hat (fun g hg => by have := hlt g (.inr (.inl hg)); omega)).symm, a.bs, a.br, (apt_new a.ae.symm hat (fun g hg => by have := hlt g (.inr (.inr (.inl hg))); omega)).symm, a.as_, a.ar, apt_new a.es hat (fun g hg => by have := hlt g (.inr (.inr (.inr (.inr (.inl hg))))); omega), apt_new a.er hat (fun g hg => by have := hlt g (.inr (.inr (.inr (.inr (.inr (.inr (.inl hg))))))); omega), a.sr⟩
  · have hpl := f.lt k.pk b hp
    have hn := k.np b hp
    rcases hw with e | e | e | e | e | e | e | e | e
    · exact hn (.inl e)
    · exact hn (.inr (.inl e))
    · exact hn (.inr (.inr (.inl e)))
    · have e : v'.ownBlock = some b := e
      rcases hat with h1 | h1
      · exact hn (.inr (.inr (.inr (.inl (h1.symm.trans e)))))
      · rw [h1] at e
        have := Option.some.inj e
        omega
    · exact hn (.inr (.inr (.inr (.inr (.inl e)))))
    · exact hn (.inr (.inr (.inr (.inr (.inr (.inl e))))))
    · exact hn (.inr (.inr (.inr (.inr (.inr (.inr (.inl e)))))))
    · exact hn (.inr (.inr (.inr (.inr (.inr (.inr (.inr (.inl e))))))))
    · exact hn (.inr (.inr (.inr (.inr (.inr (.inr (.inr (.inr e))))))))
theorem KW.growSince (f : KFrame PK) (k : KW PK B w wb kb P h d s) {wA w5 : World} {v' : Value} {l : List Int} (hb : Below w.heap.size w wA) (hg : wA.grownBy w5 h.vS.ownBlock) (hr : w5.ownsRow B 3 1 v' l.length (intCells l)) (hat : v'.ownBlock = h.vS.ownBlock ∨ v'.ownBlock = some wA.heap.size) :
    ∃ h', KW PK B (w5.setCell ⟨wb, 11, none⟩ v') wb kb P h' { d with since := l } s ∧ Below B w (w5.setCell ⟨wb, 11, none⟩ v') := by
  obtain ⟨g1, g2, g3, g4, g5⟩ := k.grow f 11 v' (fun g hg => .inr (.inr (.inr (.inr (.inl hg))))) k.m.since hb hg
  have a := k.m.apt
  have hlt := k.m.lt
  have hsz := hb.size
  refine ⟨{ h with vS := v' }, ⟨⟨by simpa [wCells] using g4, k.m.set.stays g3, g1 _ _ _ _ _ k.m.base (.inl a.bs.symm) (by decide), g1 _ _ _ _ _ k.m.at_ (.inl a.as_.symm) (by decide), g1 _ _ _ _ _ k.m.ended (.inl a.es.symm) (by decide), g5 _ _ _ hr, g1 _ _ _ _ _ k.m.views (.inr (by decide)) (by decide), g1 _ _ _ _ _ k.m.run (.inl a.sr) (by decide), g1 _ _ _ _ _ k.m.was (.inr (by decide)) (by decide), g1 _ _ _ _ _ k.m.told (.inr (by decide)) (by decide), ?_, k.m.hb⟩, g2, k.hp, fun b hp hw => ?_⟩, g3⟩
  · exact ⟨a.ba, a.be, (apt_new a.bs.symm hat (fun g hg => by have := hlt g (.inr (.inl hg)); omega)).symm, a.br, a.ae, (apt_new a.as_.symm hat (fun g hg => by have := hlt g (.inr (.inr (.inl hg))); omega)).symm, a.ar, (apt_new a.es.symm hat (fun g hg => by have := hlt g (.inr (.inr (.inr (.inl hg)))); omega)).symm, a.er, apt_new a.sr hat (fun g hg => by have := hlt g (.inr (.inr (.inr (.inr (.inr (.inr (.inl hg))))))); omega)⟩
  · have hpl := f.lt k.pk b hp
    have hn := k.np b hp
    rcases hw with e | e | e | e | e | e | e | e | e
    · exact hn (.inl e)
    · exact hn (.inr (.inl e))
    · exact hn (.inr (.inr (.inl e)))
    · exact hn (.inr (.inr (.inr (.inl e))))
    · have e : v'.ownBlock = some b := e
      rcases hat with h1 | h1
      · exact hn (.inr (.inr (.inr (.inr (.inl (h1.symm.trans e))))))
      · rw [h1] at e
        have := Option.some.inj e
        omega
    · exact hn (.inr (.inr (.inr (.inr (.inr (.inl e))))))
    · exact hn (.inr (.inr (.inr (.inr (.inr (.inr (.inl e)))))))
    · exact hn (.inr (.inr (.inr (.inr (.inr (.inr (.inr (.inl e))))))))
    · exact hn (.inr (.inr (.inr (.inr (.inr (.inr (.inr (.inr e))))))))
end
end Go.Proofs.Ytbkfildnijjioab

/-
  Walks: the leaves of the document's own check (package donateref).
-/
namespace Go.Proofs.Ytbkfildnijjioab
open Go.RowKit

set_option maxHeartbeats 400000 in
theorem rMutexFits_any (k t : Int) (w : World) :
    Calls Try.prog 68 #[.agg #[.int .i64 k, .int .i64 t]] w fun e w' => e = .returned (.bool (P3.mutexB k t)) ∧ Below w.heap.size w w' := by
  go_enter Try.func68, Try.ntmps68
  go_wp2
  all_goals
    go_ret
    refine ⟨ret_bool ?_, (Below.refl _ _).alloc (Nat.le_refl _) _⟩
    unfold P3.mutexB
    rw [Bool.eq_iff_iff]
    simp_all
    try omega

set_option maxHeartbeats 400000 in
theorem rSizes_any (tv mv sv qv : Option Addr) (tc mc sc qc : Nat) (S : SetD) (w : World) :
    Calls Try.prog 44 #[.agg #[.int .i64 S.workers, .int .i64 S.start, .slice tv S.threads.length tc, .slice mv S.mutexes.length mc, .slice sv S.sems.length sc, .slice qv S.queues.length qc]] w fun e w' => e = .returned (.bool (P3.sizesB S)) ∧ Below w.heap.size w w' := by
  go_enter Try.func44, Try.ntmps44
  go_wp2
  all_goals
    go_ret
    refine ⟨ret_bool ?_, (Below.refl _ _).alloc (Nat.le_refl _) _⟩
    unfold P3.sizesB
    rw [Bool.eq_iff_iff]
    simp
    try omega

set_option maxHeartbeats 400000 in
theorem rThreadFits_any (b o p d : Int) (cv : Option Addr) (cn cc : Nat) (w : World) :
    Calls Try.prog 46 #[.agg #[.int .i64 b, .int .i64 o, .int .i64 p, .int .i64 d, .slice cv cn cc]] w fun e w' => e = .returned (.bool (P3.threadB b o p d cn)) ∧ Below w.heap.size w w' := by
  go_enter Try.func46, Try.ntmps46
  go_wp2
  all_goals
    go_ret
    refine ⟨ret_bool ?_, (Below.refl _ _).alloc (Nat.le_refl _) _⟩
    unfold P3.threadB P3.latest
    rw [Bool.eq_iff_iff]
    simp_all
    try omega

end Go.Proofs.Ytbkfildnijjioab

/-
  Walks: the bounds of an operation (package donateref).
-/
namespace Go.Proofs.Ytbkfildnijjioab
open Go.RowKit

set_option maxHeartbeats 400000 in
theorem rBounds_any (wk st : Int) (tv mv sv qv : Option Addr) (tn tc mn mc sn sc qn qc : Nat) (len op : Int) (w : World) (h1 : (tn : Int) ≤ 16) (h2 : (mn : Int) ≤ 8) (h3 : (sn : Int) ≤ 4) (h4 : (qn : Int) ≤ 4) :
    Calls Try.prog 69 #[.agg #[.int .i64 wk, .int .i64 st, .slice tv tn tc, .slice mv mn mc, .slice sv sn sc, .slice qv qn qc], .int .i64 len, .int .i64 op] w fun e w' =>
      e = .returned (.tuple #[.agg #[.int .i64 (P3.lowA op), .int .i64 (P3.highA tn mn sn qn op), .int .i64 (P3.lowB op), .int .i64 (P3.highB len op)], .bool (P3.known op)]) ∧ Below w.heap.size w w' := by
  go_enter Try.func69, Try.ntmps69
  go_wp2
  all_goals
    refine bodyPost_ret (v := .tuple #[.agg #[.int .i64 (P3.lowA op), .int .i64 (P3.highA tn mn sn qn op), .int .i64 (P3.lowB op), .int .i64 (P3.highB len op)], .bool (P3.known op)]) ?_ rfl ⟨rfl, ((Below.refl _ _).alloc (Nat.le_refl _) _).alloc (by simp) _⟩
    first | (have e : op = 0 := beq_iff_eq.1 ‹_›; subst e) | (have e : op = 1 := beq_iff_eq.1 ‹_›; subst e) | (have e : op = 2 := beq_iff_eq.1 ‹_›; subst e) | (have e : op = 3 := beq_iff_eq.1 ‹_›; subst e) | (have e : op = 4 := beq_iff_eq.1 ‹_›; subst e) | (have e : op = 5 := beq_iff_eq.1 ‹_›; subst e) | (have e : op = 6 := beq_iff_eq.1 ‹_›; subst e) | (have e : op = 7 := beq_iff_eq.1 ‹_›; subst e) | (have e : op = 8 := beq_iff_eq.1 ‹_›; subst e) | (have e : op = 9 := beq_iff_eq.1 ‹_›; subst e) | (have e : op = 10 := beq_iff_eq.1 ‹_›; subst e) | (have e : op = 11 := beq_iff_eq.1 ‹_›; subst e) | skip
    all_goals simp_all [results, Try.results69, go_sem, P3.known, P3.lowA, P3.highA, P3.lowB, P3.highB]
    all_goals try omega

end Go.Proofs.Ytbkfildnijjioab

/-
  Walks: does an instruction fit (package donateref)?
-/
namespace Go.Proofs.Ytbkfildnijjioab
open Go.RowKit

set_option maxHeartbeats 400000 in
theorem rInstrFits_any (wk st : Int) (tv mv sv qv : Option Addr) (tn tc mn mc sn sc qn qc : Nat) (len op a b : Int) (w : World) (h1 : (tn : Int) ≤ 16) (h2 : (mn : Int) ≤ 8) (h3 : (sn : Int) ≤ 4) (h4 : (qn : Int) ≤ 4) :
    Calls Try.prog 47 #[.agg #[.int .i64 wk, .int .i64 st, .slice tv tn tc, .slice mv mn mc, .slice sv sn sc, .slice qv qn qc], .int .i64 len, .agg #[.int .i64 op, .int .i64 a, .int .i64 b]] w fun e w' =>
      e = .returned (.bool (P3.instrB tn mn sn qn len op a b)) ∧ Below w.heap.size w w' := by
  go_enter Try.func47, Try.ntmps47
  go_wp2_with (go_at_call 69; refine (rBounds_any _ _ _ _ _ _ _ _ _ _ _ _ _ _ _ _ _ h1 h2 h3 h4).mono ?_; rintro e w1 ⟨rfl, hb1⟩; obtain ⟨hc1, hf1⟩ := bcell hb1; have hz1 : w.heap.size + 1 < w1.heap.size := (by have := hb1.size; simp at this; omega))
  all_goals
    go_ret
    refine ⟨ret_bool ?_, (via (((Below.refl _ _).alloc (Nat.le_refl _) _).alloc (by simp) _) (by simp; omega) hb1).alloc (by omega) _⟩
    unfold P3.instrB P3.fitsB
    rw [Bool.eq_iff_iff]
    simp_all
    try omega

end Go.Proofs.Ytbkfildnijjioab

/-
  Walks: donateref.tables: P3's mutexes, semaphores and queues.
-/
namespace Go.Proofs.Ytbkfildnijjioab
open Go.RowKit

namespace P3
def terr (S : SetD) : Int := if badOr mutexP S.mutexes ≠ -1 then 2 else if badOr semP S.sems ≠ -1 then 3 else if badOr queueB S.queues ≠ -1 then 4 else 0
def tplace (S : SetD) : Int :=
  if badOr mutexP S.mutexes ≠ -1 then badOr mutexP S.mutexes else if badOr semP S.sems ≠ -1 then badOr semP S.sems else if badOr queueB S.queues ≠ -1 then badOr queueB S.queues else 0
def GoodTo {α : Type} (p : α → Bool) (l : List α) (k : Nat) : Prop := ∀ j (_ : j < k), (hl : j < l.length) → p l[j] = true
theorem GoodTo.zero {α : Type} (p : α → Bool) (l : List α) : GoodTo p l 0 := fun _ h => absurd h (Nat.not_lt_zero _)
theorem GoodTo.step {α : Type} {p : α → Bool} {l : List α} {k : Nat} (h : GoodTo p l k) (hk : k < l.length) (hp : p l[k] = true) : GoodTo p l (k + 1) := by
  intro j hj hl
  rcases Nat.lt_succ_iff_lt_or_eq.1 hj with h1 | rfl
  · exact h j h1 hl
  · exact hp
theorem GoodTo.none {α : Type} {p : α → Bool} {l : List α} {k : Nat} (h : GoodTo p l k) (hk : ¬ k < l.length) : badOr p l = -1 := badOr_none p l (fun j hj => h j (by omega) hj)
theorem GoodTo.at {α : Type} {p : α → Bool} {l : List α} {k : Nat} (h : GoodTo p l k) (hk : k < l.length) (hp : p l[k] = false) : badOr p l = k := badOr_at p l k hk hp (fun j hj => h j hj (by omega))
theorem t_mutex {S : SetD} {k : Nat} (h : badOr mutexP S.mutexes = k) : terr S = 2 ∧ tplace S = k := by
  have e : (k : Int) ≠ -1 := by omega
  simp [terr, tplace, h, e]
theorem t_sem {S : SetD} {k : Nat} (h0 : badOr mutexP S.mutexes = -1) (h : badOr semP S.sems = k) : terr S = 3 ∧ tplace S = k := by
  have e : (k : Int) ≠ -1 := by omega
  simp [terr, tplace, h0, h, e]
theorem t_queue {S : SetD} {k : Nat} (h0 : badOr mutexP S.mutexes = -1) (h1 : badOr semP S.sems = -1) (h : badOr queueB S.queues = k) : terr S = 4 ∧ tplace S = k := by
  have e : (k : Int) ≠ -1 := by omega
  simp [terr, tplace, h0, h1, h, e]
theorem t_ok {S : SetD} (h0 : badOr mutexP S.mutexes = -1) (h1 : badOr semP S.sems = -1) (h : badOr queueB S.queues = -1) : terr S = 0 ∧ tplace S = 0 := by
  simp [terr, tplace, h0, h1, h]
end P3

theorem ret_two {a b c d : Int} (h : a = c ∧ b = d) : Ending.returned (.tuple #[.int .i64 c, .int .i64 d]) = .returned (.tuple #[.int .i64 a, .int .i64 b]) := by rw [h.1, h.2]

set_option maxHeartbeats 1000000 in
theorem rTables_any (tv mv sv qv : Option Addr) (tc mc sc qc : Nat) (S : SetD) (w : World) (hS : SetIn w.heap.size w tv mv sv qv S)
    (n2 : (S.mutexes.length : Int) ≤ 8) (n3 : (S.sems.length : Int) ≤ 4) (n4 : (S.queues.length : Int) ≤ 4) :
    Calls Try.prog 45 #[.agg #[.int .i64 S.workers, .int .i64 S.start, .slice tv S.threads.length tc, .slice mv S.mutexes.length mc, .slice sv S.sems.length sc, .slice qv S.queues.length qc]] w fun e w' =>
      e = .returned (.tuple #[.int .i64 (P3.terr S), .int .i64 (P3.tplace S)]) ∧ Below w.heap.size w w' := by
  have HS : Hid (SetIn w.heap.size w tv mv sv qv S) := hS
  clear hS
  go_enter Try.func45, Try.ntmps45
  go_wp2
  generalize hw0 : w.alloc (.cells #[.int .i64 S.workers, .int .i64 S.start, .slice tv S.threads.length tc, .slice mv S.mutexes.length mc, .slice sv S.sems.length sc, .slice qv S.queues.length qc] 27) = w0
  have hs0 : w.heap.size < w0.heap.size := by rw [← hw0]; simp
  have b3 : w0.cell? ⟨w.heap.size, 3, none⟩ = some (.slice mv S.mutexes.length mc) := by rw [← hw0]; simp
  have b4 : w0.cell? ⟨w.heap.size, 4, none⟩ = some (.slice sv S.sems.length sc) := by rw [← hw0]; simp
  have b5 : w0.cell? ⟨w.heap.size, 5, none⟩ = some (.slice qv S.queues.length qc) := by rw [← hw0]; simp
  have hb0 : Below w.heap.size w w0 := by rw [← hw0]; exact (Below.refl _ _).alloc (Nat.le_refl _) _
  clear hw0
  have HS0 : Hid (SetIn w.heap.size w0 tv mv sv qv S) := HS.out.stays hb0
  clear HS
  go_loopw [4] (fun i wr => ∃ k : Nat, k ≤ S.mutexes.length ∧ i = .int .i64 k ∧ P3.GoodTo P3.mutexP S.mutexes k ∧ Below w0.heap.size w0 wr) (fun i _ => S.mutexes.length - (intOf i).toNat)
  case atStart => exact ⟨0, Nat.zero_le _, rfl, P3.GoodTo.zero _ _, Below.refl _ _⟩
  case round =>
    obtain ⟨k, hk, rfl, hall, hb⟩ := hrel
    have hsz := hb.size
    have q1 : w.heap.size < wr.heap.size := by omega
    have c3 := (hb.cell (p := ⟨w.heap.size, 3, none⟩) hs0).trans b3
    by_cases hlt : k < S.mutexes.length
    · obtain ⟨b, o, rfl, hbb, hx, hy⟩ := HS0.out.mutexes k hlt
      have hx' := (hb.cell (p := ⟨b, o + k * 2, none⟩) (by show b < _; omega)).trans hx
      have hy' := (hb.cell (p := ⟨b, o + k * 2 + 1, none⟩) (by show b < _; omega)).trans hy
      clear hx hy
      go_wp2_with (go_at_call 68; refine (rMutexFits_any _ _ _).mono ?_; rintro e w1 ⟨rfl, hb1⟩)
      · go_ret2
        refine ⟨ret_two (P3.t_mutex (hall.at hlt ?_)), via hb0 (by omega) (via hb hsz hb1)⟩
        simpa [P3.mutexP] using ‹(!P3.mutexB _ _) = true›
      · go_roundw
        case rel =>
          refine ⟨k + 1, by omega, by go_num, hall.step hlt ?_, via hb hsz hb1⟩
          simpa [P3.mutexP] using ‹(!P3.mutexB _ _) = false›
        case measure => simp [intOf]; omega
    · have HM : Hid (P3.badOr P3.mutexP S.mutexes = -1) := hall.none hlt
      clear hall
      go_wp2
      clear c3
      go_loopw [6] (fun i wr => ∃ k : Nat, k ≤ S.sems.length ∧ i = .int .i64 k ∧ P3.GoodTo P3.semP S.sems k ∧ Below w0.heap.size w0 wr) (fun i _ => S.sems.length - (intOf i).toNat)
      case atStart => exact ⟨0, Nat.zero_le _, rfl, P3.GoodTo.zero _ _, hb⟩
      case round =>
        clear hb hsz q1 hlt hk
        obtain ⟨k, hk, rfl, hall, hb⟩ := hrel
        have hsz := hb.size
        have q1 : w.heap.size < wr.heap.size := by omega
        have c4 := (hb.cell (p := ⟨w.heap.size, 4, none⟩) hs0).trans b4
        by_cases hlt : k < S.sems.length
        · obtain ⟨b, o, rfl, hbb, hx, hy⟩ := HS0.out.sems k hlt
          have hx' := (hb.cell (p := ⟨b, o + k * 2, none⟩) (by show b < _; omega)).trans hx
          have hy' := (hb.cell (p := ⟨b, o + k * 2 + 1, none⟩) (by show b < _; omega)).trans hy
          clear hx hy
          cases hok : P3.semB S.sems[k].x S.sems[k].y
          · have HB : Hid (P3.semB S.sems[k].x S.sems[k].y = false) := hok
            clear hok
            have hB := HB.out
            unfold P3.semB at hB
            rw [decide_eq_false_iff_not] at hB
            have hor : S.sems[k].y < 1 ∨ (1 ≤ S.sems[k].y ∧ 100 < S.sems[k].y) ∨ (1 ≤ S.sems[k].y ∧ S.sems[k].y ≤ 100 ∧ S.sems[k].x < 0) ∨ (1 ≤ S.sems[k].y ∧ S.sems[k].y ≤ 100 ∧ 0 ≤ S.sems[k].x ∧ S.sems[k].y < S.sems[k].x) := by omega
            clear hB
            rcases hor with h1 | ⟨h1, h2⟩ | ⟨h1, h2, h3⟩ | ⟨h1, h2, h3, h4⟩
            all_goals
              go_wp2
              go_ret2
              exact ⟨ret_two (P3.t_sem HM.out (hall.at hlt HB.out)), via hb0 (by omega) (hb.alloc hsz _)⟩
          · have HB : Hid (P3.semB S.sems[k].x S.sems[k].y = true) := hok
            clear hok
            have hB := HB.out
            unfold P3.semB at hB
            rw [decide_eq_true_iff] at hB
            obtain ⟨h1, h2, h3, h4⟩ := hB
            go_wp2
            go_roundw
            case rel => exact ⟨k + 1, by omega, by go_num, hall.step hlt HB.out, hb.alloc hsz _⟩
            case measure => simp [intOf]; omega
        · have HN : Hid (P3.badOr P3.semP S.sems = -1) := hall.none hlt
          clear hall
          go_wp2
          clear c4
          go_loopw [8] (fun i wr => ∃ k : Nat, k ≤ S.queues.length ∧ i = .int .i64 k ∧ P3.GoodTo P3.queueB S.queues k ∧ Below w0.heap.size w0 wr) (fun i _ => S.queues.length - (intOf i).toNat)
          case atStart => exact ⟨0, Nat.zero_le _, rfl, P3.GoodTo.zero _ _, hb⟩
          case round =>
            clear hb hsz q1 hlt hk
            obtain ⟨k, hk, rfl, hall, hb⟩ := hrel
            have hsz := hb.size
            have q1 : w.heap.size < wr.heap.size := by omega
            have c5 := (hb.cell (p := ⟨w.heap.size, 5, none⟩) hs0).trans b5
            by_cases hlt : k < S.queues.length
            · obtain ⟨b, o, rfl, hbb, hx⟩ := HS0.out.queues k hlt
              have hx' := (hb.cell (p := ⟨b, o + k, none⟩) (by show b < _; omega)).trans hx
              clear hx
              cases hok : P3.queueB S.queues[k]
              · have HB : Hid (P3.queueB S.queues[k] = false) := hok
                clear hok
                have hB := HB.out
                unfold P3.queueB at hB
                rw [decide_eq_false_iff_not] at hB
                have hor : S.queues[k] < 1 ∨ (1 ≤ S.queues[k] ∧ 8 < S.queues[k]) := by omega
                clear hB
                rcases hor with h1 | ⟨h1, h2⟩
                all_goals
                  go_wp2
                  go_ret2
                  exact ⟨ret_two (P3.t_queue HM.out HN.out (hall.at hlt HB.out)), via hb0 (by omega) hb⟩
              · have HB : Hid (P3.queueB S.queues[k] = true) := hok
                clear hok
                have hB := HB.out
                unfold P3.queueB at hB
                rw [decide_eq_true_iff] at hB
                obtain ⟨h1, h2⟩ := hB
                go_wp2
                go_roundw
                case rel => exact ⟨k + 1, by omega, by go_num, hall.step hlt HB.out, hb⟩
                case measure => simp [intOf]; omega
            · have HQ : Hid (P3.badOr P3.queueB S.queues = -1) := hall.none hlt
              clear hall
              go_wp2
              go_ret2
              exact ⟨ret_two (P3.t_ok HM.out HN.out HQ.out), via hb0 (by omega) hb⟩

end Go.Proofs.Ytbkfildnijjioab
