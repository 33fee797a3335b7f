import Derived.Test.YtbkfildnijjioabA21
import Derived.Test.YtbkfildnijjioabA18
/-
  Who waits for a thing, in plain words (P13).
-/
namespace Go.Proofs.Ytbkfildnijjioab
def waitsB (s : RS) (what i : Int) (t : Nat) : Bool := decide ((R.th s.T t).for_ = what) && decide ((R.th s.T t).of_ = i)
def cntW (s : RS) (what i : Int) (k : Nat) : Nat := (List.range k).countP (waitsB s what i)
theorem cntW_succ (s : RS) (what i : Int) (k : Nat) : cntW s what i (k + 1) = cntW s what i k + if (R.th s.T k).for_ = what ∧ (R.th s.T k).of_ = i then 1 else 0 := by
  unfold cntW
  rw [List.range_succ, List.countP_append]
  by_cases h : (R.th s.T k).for_ = what ∧ (R.th s.T k).of_ = i
  · simp [waitsB, h.1, h.2]
  · rw [if_neg h]
    have : waitsB s what i k = false := by
      unfold waitsB
      rw [Bool.and_eq_false_iff, decide_eq_false_iff_not, decide_eq_false_iff_not]
      by_cases h1 : (R.th s.T k).for_ = what
      · exact .inr (fun h2 => h ⟨h1, h2⟩)
      · exact .inl h1
    simp [this]
theorem cntW_le (s : RS) (what i : Int) (k : Nat) : cntW s what i k ≤ k := by
  have := List.countP_le_length (p := waitsB s what i) (l := List.range k)
  simpa [cntW] using this
/-- A line: who waits, each once, in the right order. -/
structure LineOk (d : WD) (s : RS) (what i : Int) (l : List Int) : Prop where
  len : l.length = cntW s what i s.T.length
  mem : ∀ j (hj : j < l.length), ∃ u : Nat, u < s.T.length ∧ l[j] = (u : Int) ∧ (R.th s.T u).for_ = what ∧ (R.th s.T u).of_ = i
  all : ∀ u : Nat, u < s.T.length → (R.th s.T u).for_ = what → (R.th s.T u).of_ = i → (u : Int) ∈ l
  ord : ∀ j (hj : j + 1 < l.length) (a b : Nat), l[j] = (a : Int) → l[j + 1] = (b : Int) → R.Level s b < R.Level s a ∨ (R.Level s a = R.Level s b ∧ d.since.getD a 0 < d.since.getD b 0)
  give : R.giveT s what i = if h : 0 < l.length then l[0] else -1
theorem line_ok {d : WD} {s : RS} {tk wt : List Nat} (a : Ln.Aux s tk wt) (sn : Snc d s) (what i : Int) (hw : what ≠ 0) : LineOk d s what i (R.waiting s what i) := by
  have e := Ln.waiting_line a.wt what i hw
  have hm := fun u => Ln.lineW_mem a.wt what i hw u
  have hnd := Ln.lineW_nodup a.wt what i
  have hs := Ln.lineW_sorted a.wt what i
  have hg := Ln.giveT_line a.wt what i hw
  rw [e]
  generalize Ln.lineW s wt what i = L at *
  have hint : ∀ j (hj : j < (Ln.ints L).length), (Ln.ints L)[j] = ((L[j]'(by rw [Ln.ints_length] at hj; exact hj) : Nat) : Int) := fun j hj => by simp [Ln.ints]
  refine ⟨?_, fun j hj => ?_, fun u hu h1 h2 => ?_, fun j hj x y hx hy => ?_, ?_⟩
  · rw [Ln.ints_length]
    unfold cntW
    rw [List.countP_eq_length_filter]
    apply Nat.le_antisymm
    · refine Ln.nodup_le' _ _ hnd (fun u hu => ?_)
      obtain ⟨h1, h2, h3⟩ := (hm u).1 hu
      rw [List.mem_filter]
      exact ⟨by simpa using h1, by simp [waitsB, h2, h3]⟩
    · refine Ln.nodup_le' _ _ (List.nodup_range.sublist List.filter_sublist) (fun u hu => ?_)
      obtain ⟨h1, h2⟩ := List.mem_filter.1 hu
      simp [waitsB] at h2
      exact (hm u).2 ⟨by simpa using h1, h2.1, h2.2⟩
  · have hj' : j < L.length := by rw [Ln.ints_length] at hj; exact hj
    obtain ⟨h1, h2, h3⟩ := (hm L[j]).1 (List.getElem_mem hj')
    exact ⟨L[j], h1, hint j hj, h2, h3⟩
  · exact (Ln.mem_ints L u).2 ((hm u).2 ⟨hu, h1, h2⟩)
  · have hj' : j + 1 < L.length := by rw [Ln.ints_length] at hj; exact hj
    rw [hint] at hx hy
    have hx' : L[j] = x := by omega
    have hy' : L[j + 1] = y := by omega
    have hp := List.pairwise_iff_getElem.1 hs j (j + 1) (by omega) hj' (by omega)
    rw [hx', hy'] at hp
    have mx := (hm x).1 (by rw [← hx']; exact List.getElem_mem _)
    have my := (hm y).1 (by rw [← hy']; exact List.getElem_mem _)
    unfold Ln.fine at hp
    simp at hp
    rcases hp with h1 | ⟨h1, h2⟩
    · exact .inl h1
    · exact .inr ⟨h1, sn.ord x y mx.1 my.1 (by rw [mx.2.1]; exact hw) (by rw [my.2.1]; exact hw) h2⟩
  · rw [hg]
    by_cases h0 : 0 < L.length
    · rw [dif_pos h0, dif_pos (by rw [Ln.ints_length]; exact h0), hint]
    · rw [dif_neg h0, dif_neg (by rw [Ln.ints_length]; exact h0)]
end Go.Proofs.Ytbkfildnijjioab

/-
  Who is given the mutexes of a thread whose job ends: those who were first ahead of it (P12, P13).
-/
namespace Go.Proofs.Ytbkfildnijjioab
namespace R
/-- A mutex was given up: what has not changed for those who wait on. -/
structure Gave (s s' : RS) (m : Nat) : Prop where
  set : s'.set = s.set
  len : s'.T.length = s.T.length
  olen : s'.owner.length = s.owner.length
  base : ∀ u, (R.th s'.T u).base = (R.th s.T u).base
  same : ∀ u, (R.th s'.T u).for_ ≠ 0 → (R.th s'.T u).for_ = (R.th s.T u).for_ ∧ (R.th s'.T u).of_ = (R.th s.T u).of_ ∧ (R.th s'.T u).since = (R.th s.T u).since
  oth : ∀ u, (R.th s.T u).for_ = 1 → (R.th s.T u).of_ ≠ (m : Int) → (R.th s'.T u).for_ = 1 ∧ (R.th s'.T u).of_ = (R.th s.T u).of_
  own : ∀ j, j ≠ m → s'.owner.getD j 0 = s.owner.getD j 0
  old : ∀ u : Nat, (R.th s'.T u).for_ ≠ 0 → s.owner.getD m 0 ≠ (u : Int)
  new : ∀ u : Nat, (R.th s'.T u).for_ ≠ 0 → s'.owner.getD m 0 ≠ (u : Int)
section
variable {s s' : RS} {m : Nat}
theorem Gave.inner (g : Gave s s' m) {f f' : Nat → Int} (hf : ∀ u, (R.th s'.T u).for_ ≠ 0 → f' u = f u) (j : Nat) (hj : j ≠ m) (v : Int) (k : Nat) : innerTo s'.T f' j v k = innerTo s.T f j v k := by
  induction k with
  | zero => rfl
  | succ k ih =>
    unfold innerTo
    by_cases h : (R.th s.T k).for_ = 1 ∧ (R.th s.T k).of_ = (j : Int)
    · have h2 := g.oth k h.1 (by rw [h.2]; omega)
      rw [if_pos h, if_pos ⟨h2.1, h2.2.trans h.2⟩, ih, hf k (by rw [h2.1]; decide)]
    · have h2 : ¬ ((R.th s'.T k).for_ = 1 ∧ (R.th s'.T k).of_ = (j : Int)) := by
        rintro ⟨a, b⟩
        have := g.same k (by rw [a]; decide)
        exact h ⟨this.1.symm.trans a, this.2.1.symm.trans b⟩
      rw [if_neg h, if_neg h2, ih]
theorem Gave.outer (g : Gave s s' m) {f f' : Nat → Int} (hf : ∀ u, (R.th s'.T u).for_ ≠ 0 → f' u = f u) (pos : Bool) (u : Nat) (hu : (R.th s'.T u).for_ ≠ 0) (k : Nat) : outerTo s' f' pos u k = outerTo s f pos u k := by
  induction k with
  | zero => exact g.base u
  | succ k ih =>
    unfold outerTo
    by_cases hk : k = m
    · subst hk
      rw [if_pos (g.new u hu), if_pos (g.old u hu), ih]
    · rw [g.own k hk, g.set, ih, g.len]
      split
      · rfl
      · split
        · rfl
        · split
          · exact g.inner hf k hk _ _
          · rfl
theorem Gave.level (g : Gave s s' m) (d : Nat) : ∀ u, (R.th s'.T u).for_ ≠ 0 → level s' d u = level s d u := by
  induction d with
  | zero =>
    intro u hu
    unfold R.level
    rw [g.olen]
    exact g.outer (fun _ _ => rfl) false u hu _
  | succ d ih =>
    intro u hu
    unfold R.level
    rw [g.olen]
    exact g.outer ih true u hu _
theorem Gave.Level (g : Gave s s' m) (u : Nat) (hu : (R.th s'.T u).for_ ≠ 0) : R.Level s' u = R.Level s u := by
  unfold R.Level
  rw [g.len]
  exact g.level _ u hu
theorem firstTo_spec' (s : RS) (what of_ : Int) (k : Nat) (h : 0 ≤ firstTo s what of_ [] k) : (R.th s.T (firstTo s what of_ [] k).toNat).for_ = what ∧ (R.th s.T (firstTo s what of_ [] k).toNat).of_ = of_ := by
  induction k with
  | zero => simp [firstTo] at h
  | succ k ih =>
    unfold firstTo at h ⊢
    by_cases h1 : (R.th s.T k).for_ ≠ what ∨ (R.th s.T k).of_ ≠ of_
    · rw [if_pos h1] at h ⊢
      exact ih h
    · have h2 : (R.th s.T k).for_ = what ∧ (R.th s.T k).of_ = of_ := ⟨Classical.not_not.1 fun e => h1 (.inl e), Classical.not_not.1 fun e => h1 (.inr e)⟩
      rw [if_neg h1] at h ⊢
      have h3 : namedTo ([] : List Int) (k : Int) ([] : List Int).length = false := rfl
      rw [if_neg (by rw [h3]; decide)] at h ⊢
      by_cases h4 : firstTo s what of_ [] k < 0
      · rw [if_pos h4] at h ⊢
        exact h2
      · rw [if_neg h4] at h ⊢
        split
        · exact h2
        · exact ih (by omega)
theorem Gave.firstTo (g : Gave s s' m) (j : Nat) (hj : j ≠ m) (k : Nat) : R.firstTo s' 1 (j : Int) [] k = R.firstTo s 1 (j : Int) [] k := by
  induction k with
  | zero => rfl
  | succ k ih =>
    have hiff : ((R.th s'.T k).for_ ≠ 1 ∨ (R.th s'.T k).of_ ≠ (j : Int)) ↔ ((R.th s.T k).for_ ≠ 1 ∨ (R.th s.T k).of_ ≠ (j : Int)) := by
      constructor
      · intro h
        by_cases h2 : (R.th s.T k).for_ = 1 ∧ (R.th s.T k).of_ = (j : Int)
        · have h3 := g.oth k h2.1 (by rw [h2.2]; omega)
          rcases h with h | h
          · exact absurd h3.1 h
          · exact absurd (h3.2.trans h2.2) h
        · by_cases h4 : (R.th s.T k).for_ = 1
          · exact .inr (fun e => h2 ⟨h4, e⟩)
          · exact .inl h4
      · intro h
        by_cases h2 : (R.th s'.T k).for_ = 1 ∧ (R.th s'.T k).of_ = (j : Int)
        · have h3 := g.same k (by rw [h2.1]; decide)
          rcases h with h | h
          · exact absurd (h3.1.symm.trans h2.1) h
          · exact absurd (h3.2.1.symm.trans h2.2) h
        · by_cases h4 : (R.th s'.T k).for_ = 1
          · exact .inr (fun e => h2 ⟨h4, e⟩)
          · exact .inl h4
    unfold R.firstTo
    rw [ih]
    by_cases h1 : (R.th s.T k).for_ ≠ 1 ∨ (R.th s.T k).of_ ≠ (j : Int)
    · rw [if_pos h1, if_pos (hiff.2 h1)]
    · rw [if_neg h1, if_neg (fun e => h1 (hiff.1 e))]
      have h3 : namedTo ([] : List Int) (k : Int) ([] : List Int).length = false := rfl
      have h3' : ¬ (namedTo ([] : List Int) (k : Int) ([] : List Int).length = true) := by rw [h3]; decide
      simp only [if_neg h3']
      by_cases h4 : R.firstTo s 1 (j : Int) [] k < 0
      · rw [if_pos h4, if_pos h4]
      · rw [if_neg h4, if_neg h4]
        have hw : (R.th s.T k).for_ = 1 ∧ (R.th s.T k).of_ = (j : Int) := ⟨Classical.not_not.1 fun e => h1 (.inl e), Classical.not_not.1 fun e => h1 (.inr e)⟩
        have hk' := g.oth k hw.1 (by rw [hw.2]; omega)
        have hb := firstTo_spec' s 1 (j : Int) k (by omega)
        have hb' := g.oth _ hb.1 (by rw [hb.2]; omega)
        have e1 := g.Level k (by rw [hk'.1]; decide)
        have e2 := g.Level _ (show (R.th s'.T (R.firstTo s 1 (j : Int) [] k).toNat).for_ ≠ 0 by rw [hb'.1]; decide)
        have e3 := (g.same k (by rw [hk'.1]; decide)).2.2
        have e4 := (g.same _ (show (R.th s'.T (R.firstTo s 1 (j : Int) [] k).toNat).for_ ≠ 0 by rw [hb'.1]; decide)).2.2
        unfold goesFirst
        rw [e1, e2, e3, e4]
theorem Gave.giveT (g : Gave s s' m) (j : Nat) (hj : j ≠ m) : R.giveT s' 1 (j : Int) = R.giveT s 1 (j : Int) := by
  unfold R.giveT R.first
  rw [g.len]
  exact g.firstTo j hj _
theorem gave_unlock (s : RS) (t m : Nat) (hm : m < s.owner.length) (hf : (R.th s.T t).for_ = 0) (ho : s.owner.getD m 0 = (t : Int)) : Gave s (unlockS s t m) m := by
  have mv := moved_giveS (F := fun a b => a = 1 ∧ b = (m : Int)) (X := fun _ => False) (s := s) 1 (m : Int) (by decide) ⟨rfl, rfl⟩
  have e : unlockS s t m = { giveS s 1 (m : Int) with owner := s.owner.set m (R.giveT s 1 (m : Int)) } := by unfold unlockS; rw [if_pos ho]
  have eT : (unlockS s t m).T = (giveS s 1 (m : Int)).T := by rw [e]
  have eo : (unlockS s t m).owner = s.owner.set m (R.giveT s 1 (m : Int)) := by rw [e]
  refine ⟨?_, by rw [eT]; exact mv.len, by rw [eo]; simp, fun u => ?_, fun u hu => ?_, fun u h1 h2 => ?_, fun j hj => ?_, fun u hu => ?_, fun u hu => ?_⟩
  · rw [e]
    unfold giveS
    split <;> rfl
  · exact ((cols_unlockS s t m).th u).1
  · rw [eT] at hu ⊢
    rcases mv.th u id with ⟨h, _⟩ | ⟨_, h⟩
    · exact ⟨h.for_, h.of_, h.since⟩
    · exact absurd h.for_ hu
  · rw [eT]
    rcases mv.th u id with ⟨h, _⟩ | ⟨h, _⟩
    · exact ⟨h.for_.trans h1, h.of_⟩
    · exact absurd h.2 h2
  · rw [eo]
    exact getD_set_ne _ _ _ _ (fun e => hj e.symm)
  · rw [ho]
    intro e2
    have e3 : u = t := by omega
    subst e3
    rw [eT] at hu
    rcases mv.th u id with ⟨h, _⟩ | ⟨h, _⟩
    · exact hu (h.for_.trans hf)
    · rw [hf] at h; exact absurd h.1 (by decide)
  · rw [eo]
    intro e2
    have e3 : R.giveT s 1 (m : Int) = (u : Int) := by
      rw [← e2]
      simp [List.getD, hm]
    rw [eT] at hu
    apply hu
    have h1 := giveT_spec s 1 (m : Int) (by omega)
    have e4 : (R.giveT s 1 (m : Int)).toNat = u := by omega
    rw [e4] at h1
    unfold giveS
    rw [if_pos (by omega), e4, Ln.endW_th _ h1.1, if_pos rfl]
theorem alike_stop0 (s : RS) (t : Nat) : Alike s (stop0 s t) := by
  refine ⟨rfl, rfl, by simp [stop0], fun u => ?_⟩
  have e : R.th (stop0 s t).T u = if u = t ∧ t < s.T.length then { R.th s.T u with ended := (R.th s.T u).ended + 1, at_ := 0, last := 0 } else R.th s.T u := Ln.th_modify _ _ _ _
  rw [e]
  split <;> exact ⟨rfl, rfl, rfl, rfl⟩
/-- The heirs of all that a thread owned. -/
theorem heirs (s : RS) (t : Nat) (hf : (R.th s.T t).for_ = 0) (k : Nat) (hk : k ≤ s.owner.length) :
    (R.th (unlocksTo (stop0 s t) t k).T t).for_ = 0 ∧ (unlocksTo (stop0 s t) t k).owner.length = s.owner.length ∧ (∀ j, k ≤ j → j < s.owner.length → (unlocksTo (stop0 s t) t k).owner.getD j 0 = s.owner.getD j 0 ∧ R.giveT (unlocksTo (stop0 s t) t k) 1 (j : Int) = R.giveT s 1 (j : Int)) ∧
    (∀ j, j < k → (unlocksTo (stop0 s t) t k).owner.getD j 0 = if s.owner.getD j 0 = (t : Int) then R.giveT s 1 (j : Int) else s.owner.getD j 0) := by
  induction k with
  | zero =>
    refine ⟨((alike_stop0 s t).th t).2.1.trans hf, rfl, fun j _ _ => ⟨rfl, (alike_stop0 s t).giveT 1 (j : Int)⟩, fun j hj => by omega⟩
  | succ k ih =>
    obtain ⟨h1, h2, h3, h4⟩ := ih (by omega)
    have hkl : k < (unlocksTo (stop0 s t) t k).owner.length := by omega
    obtain ⟨o1, g1⟩ := h3 k (Nat.le_refl _) (by omega)
    show (R.th (unlockS (unlocksTo (stop0 s t) t k) t k).T t).for_ = 0 ∧ _
    by_cases ho : (unlocksTo (stop0 s t) t k).owner.getD k 0 = (t : Int)
    · have g := gave_unlock (unlocksTo (stop0 s t) t k) t k hkl h1 ho
      have hset : (unlockS (unlocksTo (stop0 s t) t k) t k).owner = (unlocksTo (stop0 s t) t k).owner.set k (R.giveT (unlocksTo (stop0 s t) t k) 1 (k : Int)) := by unfold unlockS; rw [if_pos ho]
      refine ⟨Classical.byContradiction fun hc => ?_, g.olen.trans h2, fun j hj hjl => ?_, fun j hj => ?_⟩
      · have := (g.same t hc).1
        rw [h1] at this
        exact hc this
      · show (unlockS (unlocksTo (stop0 s t) t k) t k).owner.getD j 0 = _ ∧ R.giveT (unlockS (unlocksTo (stop0 s t) t k) t k) 1 (j : Int) = _
        obtain ⟨a, b⟩ := h3 j (by omega) hjl
        exact ⟨(g.own j (by omega)).trans a, (g.giveT j (by omega)).trans b⟩
      · show (unlockS (unlocksTo (stop0 s t) t k) t k).owner.getD j 0 = _
        by_cases e : j = k
        · subst e
          rw [← o1, if_pos ho, hset, ← g1]
          simp [List.getD, hkl]
        · rw [g.own j e]
          exact h4 j (by omega)
    · have e : unlockS (unlocksTo (stop0 s t) t k) t k = unlocksTo (stop0 s t) t k := by unfold unlockS; rw [if_neg ho]
      refine ⟨by rw [e]; exact h1, ?_, fun j hj hjl => ?_, fun j hj => ?_⟩
      · show (unlockS (unlocksTo (stop0 s t) t k) t k).owner.length = _
        rw [e]; exact h2
      · show (unlockS (unlocksTo (stop0 s t) t k) t k).owner.getD j 0 = _ ∧ R.giveT (unlockS (unlocksTo (stop0 s t) t k) t k) 1 (j : Int) = _
        rw [e]; exact h3 j (by omega) hjl
      · show (unlockS (unlocksTo (stop0 s t) t k) t k).owner.getD j 0 = _
        rw [e]
        by_cases e2 : j = k
        · subst e2
          rw [o1] at ho ⊢
          rw [if_neg ho]
        · exact h4 j (by omega)
end
end R
end Go.Proofs.Ytbkfildnijjioab

/-
  Chains: owners and ways behind a step, in plain words (P12, P13).
-/
namespace Go.Proofs.Ytbkfildnijjioab
/-- The owner of what a thread waits for, by a list of owners. -/
def onwd (own : List Int) (s : RS) (u : Nat) : Int := if (R.th s.T u).for_ = 1 ∧ 0 ≤ (R.th s.T u).of_ ∧ (R.th s.T u).of_ < own.length then own.getD (R.th s.T u).of_.toNat 0 else -1
def metTo (own : List Int) (s : RS) (t : Nat) : Nat → Int → Bool
  | 0, _ => false
  | n + 1, o => if o = -1 then false else if o = (t : Int) then true else metTo own s t n (onwd own s o.toNat)
def goTo (own : List Int) (s : RS) : Nat → Int → Int
  | 0, o => o
  | n + 1, o => if o = -1 then -1 else goTo own s n (onwd own s o.toNat)
def heirOf (L : List Int) : Int := if h : 0 < L.length then L[0] else -1
/-- What a Lock ends with, and who owns its mutex then. -/
def LockP (who : Int) (b code : Int) (m : Nat) (o o' : Int) (kd tp base : Int) (met : Bool) (fo oo : Int) : Prop :=
  (o = who ∧ o' = o ∧ code = 3) ∨ (o ≠ who ∧ (kd = 1 ∧ tp < base) ∧ o' = o ∧ code = 4) ∨
  (o ≠ who ∧ ¬ (kd = 1 ∧ tp < base) ∧ o = -1 ∧ o' = who ∧ code = 0) ∨ (o ≠ who ∧ ¬ (kd = 1 ∧ tp < base) ∧ o ≠ -1 ∧ met = true ∧ o' = o ∧ code = 5) ∨
  (o ≠ who ∧ ¬ (kd = 1 ∧ tp < base) ∧ o ≠ -1 ∧ met = false ∧ b = 0 ∧ o' = o ∧ code = 2) ∨
  (o ≠ who ∧ ¬ (kd = 1 ∧ tp < base) ∧ o ≠ -1 ∧ met = false ∧ b ≠ 0 ∧ o' = o ∧ code = 1 ∧ fo = 1 ∧ oo = (m : Int))
/-- Who must own a mutex behind a step. -/
def PassP (who : Int) (i : InstrD) (code : Int) (m : Nat) (o o' : Int) (L : List Int) (lock : Prop) : Prop :=
  (who = -1 ∧ o' = o) ∨ (who ≠ -1 ∧ i.op = 6 ∧ i.a = (m : Int) ∧ lock) ∨ (who ≠ -1 ∧ i.op = 7 ∧ i.a = (m : Int) ∧ o = who ∧ o' = heirOf L ∧ code = 0) ∨
  (who ≠ -1 ∧ i.op = 7 ∧ i.a = (m : Int) ∧ o ≠ who ∧ o' = o ∧ code = 6) ∨ (who ≠ -1 ∧ i.op = 0 ∧ o = who ∧ o' = heirOf L ∧ code = 0) ∨
  (who ≠ -1 ∧ i.op = 0 ∧ o ≠ who ∧ o' = o) ∨ (who ≠ -1 ∧ (i.op = 6 ∨ i.op = 7) ∧ i.a ≠ (m : Int) ∧ o' = o) ∨ (who ≠ -1 ∧ i.op ≠ 0 ∧ i.op ≠ 6 ∧ i.op ≠ 7 ∧ o' = o)
section
variable {d : WD} {s : RS}
theorem heir_give {tk wt : List Nat} (a : Ln.Aux s tk wt) (sn : Snc d s) (m : Nat) : R.giveT s 1 (m : Int) = heirOf (R.waiting s 1 (m : Int)) := (line_ok (d := d) a sn 1 (m : Int) (by decide)).give
theorem met_round (s' : RS) (t : Nat) (i : RInv s) (hst : ∀ u, u ≠ t → (R.th s'.T u).for_ = (R.th s.T u).for_ ∧ (R.th s'.T u).of_ = (R.th s.T u).of_) (n : Nat) : ∀ o : Int, -1 ≤ o → o < s.T.length → metTo s.owner s' t n o = R.roundTo s t n o := by
  have ok := R.RInv.linksOk i
  induction n with
  | zero => intro o _ _; rfl
  | succ n ih =>
    intro o h0 h1
    unfold metTo R.roundTo
    by_cases hm : o = -1
    · rw [if_pos hm, if_pos (.inl (by omega))]
      have : ¬ o = (t : Int) := by omega
      simp [this]
    · rw [if_neg hm]
      by_cases ht : o = (t : Int)
      · rw [if_pos ht, if_pos (.inr ht)]
        simp [ht]
      · have hu : o.toNat < s.T.length := by omega
        have hne : o.toNat ≠ t := by omega
        rw [if_neg ht, if_neg (by rintro (h | h); omega; exact ht h)]
        obtain ⟨e1, e2⟩ := hst o.toNat hne
        unfold onwd
        rw [e1, e2]
        by_cases hf : (R.th s.T o.toNat).for_ = 1
        · have hof := ok.of1 _ hu hf
          rw [if_pos ⟨hf, hof.1, hof.2⟩, if_neg (fun e => e hf)]
          have hb := ok.own (R.th s.T o.toNat).of_.toNat (by omega)
          exact ih _ hb.1 hb.2
        · rw [if_neg (fun e => hf e.1), if_pos hf]
          cases n with
          | zero => rfl
          | succ n => unfold metTo; rw [if_pos rfl]
theorem goTo_none (own : List Int) (s : RS) (n : Nat) : goTo own s n (-1) = -1 := by
  cases n with
  | zero => rfl
  | succ n => unfold goTo; rw [if_pos rfl]
theorem open_ends {tk wt : List Nat} (i : RInv s) (a : Ln.Aux s tk wt) (t : Nat) (ht : t < s.T.length) : goTo s.owner s s.T.length (t : Int) = -1 := by
  have ok := R.RInv.linksOk i
  have onw : ∀ u, u < s.T.length → onwd s.owner s u = R.ahd s u := by
    intro u hu
    unfold onwd R.ahd
    by_cases hf : (R.th s.T u).for_ = 1
    · have hof := ok.of1 u hu hf
      rw [if_pos hf, if_pos ⟨hf, hof.1, hof.2⟩]
    · rw [if_neg hf, if_neg (fun e => hf e.1)]
  have key : ∀ k (o : Int), Ln.EndsIn s k o → -1 ≤ o → o < s.T.length → ∀ n, k ≤ n → goTo s.owner s n o = -1 := by
    intro k o he
    induction he with
    | stop o h => intro h0 _ n _; rw [show o = -1 by omega]; exact goTo_none _ _ _
    | step k o h r ih =>
      intro h0 h1 n hn
      cases n with
      | zero => omega
      | succ n =>
        unfold goTo
        rw [if_neg (by omega), onw o.toNat (by omega)]
        have hb := Ln.ahd_bd ok o.toNat (by omega)
        exact ih hb.1 hb.2 n (by omega)
  obtain ⟨k, hk⟩ := a.ch t ht
  exact key k _ hk (by omega) (by omega) _ (hk.le ok (by omega))
theorem seen_ok {tk wt : List Nat} (i : RInv s) (x : R.Ext0 s) (a : Ln.Aux s tk wt) (sn : Snc d s) (m : Nat) (hm : m < s.owner.length) :
    (-1 ≤ s.owner.getD m 0 ∧ s.owner.getD m 0 < s.T.length) ∧ (s.owner.getD m 0 = -1 → (R.waiting s 1 (m : Int)).length = 0) ∧ (s.owner.getD m 0 ≠ -1 → (viewD s (s.owner.getD m 0).toNat).st ≠ 0) := by
  have hb := (R.RInv.linksOk i).own m hm
  refine ⟨hb, fun h => ?_, fun h => ?_⟩
  · have lo := line_ok (d := d) a sn 1 (m : Int) (by decide)
    rcases Nat.eq_zero_or_pos (R.waiting s 1 (m : Int)).length with h1 | h1
    · exact h1
    · obtain ⟨u, hu, _, hf, ho⟩ := lo.mem 0 h1
      have := x.own1 u hu hf
      rw [ho] at this
      have e : ((m : Int)).toNat = m := by omega
      rw [e, h] at this
      omega
  · have hj := x.job m hm (by omega)
    have hu : (s.owner.getD m 0).toNat < s.T.length := by omega
    generalize (s.owner.getD m 0).toNat = u at *
    have tok := i.thr u hu
    rw [← th_ext hu] at tok
    show R.stateOf (R.th s.T u) ≠ 0
    unfold R.stateOf
    by_cases hf : (R.th s.T u).for_ ≠ 0
    · rw [if_pos hf]; omega
    · rw [if_neg hf]
      split
      · omega
      · split
        · omega
        · rename_i ha
          have := tok.id (by simpa using ha) (Classical.not_not.1 hf)
          omega
theorem chains_new (S : SetD) (m : Nat) (hm : m < (R.new S).owner.length) : (R.new S).owner.getD m 0 = -1 := by
  have e : (R.new S).owner = (R.bare S).owner := by
    show (R.settle (R.release (R.bare S))).owner = _
    have ro : ∀ k, (R.releaseTo (R.bare S) k).owner = (R.bare S).owner := by
      intro k
      induction k with
      | zero => rfl
      | succ k ih =>
        unfold R.releaseTo R.releaseOne
        split
        · split
          · exact ih
          · exact ih
        · exact ih
    exact ro _
  rw [e] at hm ⊢
  have hm' : m < S.mutexes.length := by simpa [R.bare] using hm
  simp [R.bare, List.getD, hm']
theorem chains_step {tk wt : List Nat} (i : RInv s) (x : R.Ext0 s) (a : Ln.Aux s tk wt) (sn : Snc d s) (n : Int) (m : Nat) (hm : m < s.owner.length) :
    PassP (stepD d s n).who (stepD d s n).i (stepD d s n).code m (s.owner.getD m 0) ((R.entry s n).owner.getD m 0) (R.waiting s 1 (m : Int))
      (∃ t : Nat, (stepD d s n).who = (t : Int) ∧ t < s.T.length ∧ LockP (t : Int) (stepD d s n).i.b (stepD d s n).code m (s.owner.getD m 0) ((R.entry s n).owner.getD m 0) (s.set.mutexes.getD m R.pair0).x (s.set.mutexes.getD m R.pair0).y (viewD (R.entry s n) t).base (metTo s.owner (R.entry s n) t (s.T.length + 1) (s.owner.getD m 0)) (viewD (R.entry s n) t).for_ (viewD (R.entry s n) t).of_) := by
  have e1 : (stepD d s n).who = (movedD d s n).who := rfl
  have e2 : (stepD d s n).i = (movedD d s n).i := rfl
  have e3 : (stepD d s n).code = (movedD d s n).code := rfl
  rcases moved_cases (d := d) i x n with ⟨e, em⟩ | ⟨_, e, em⟩ | ⟨u, _, p, e, em⟩
  · left
    rw [e1, em, e]
    exact ⟨rfl, rfl⟩
  · left
    rw [e1, em, e, (R.tick_rest s).1]
    exact ⟨rfl, rfl⟩
  · rw [e1, e2, e3, em, doesD_who, doesD_i, doesD_code, e]
    have eo : (R.settle (R.actS s u)).owner = (R.actS s u).owner := rfl
    rw [eo, R.actS_owner]
    have hw : (u : Int) ≠ -1 := by omega
    have ok := R.RInv.linksOk i
    by_cases h0 : (R.instrAt s u).op = 0
    · rw [if_pos h0]
      have hh := (R.heirs s u p.f0 s.owner.length (Nat.le_refl _)).2.2.2 m hm
      rw [hh]
      by_cases ho : s.owner.getD m 0 = (u : Int)
      · right; right; right; right; left
        rw [if_pos ho]
        exact ⟨hw, h0, ho, heir_give a sn m, R.actC_lt s u (.inl h0)⟩
      · right; right; right; right; right; left
        rw [if_neg ho]
        exact ⟨hw, h0, ho, rfl⟩
    rw [if_neg h0]
    by_cases h6 : (R.instrAt s u).op = 6
    · rw [if_pos h6, (R.lockS_rest s u _ _).2.2]
      have ha := p.ins.mtx (.inl h6)
      by_cases hma : (R.instrAt s u).a = (m : Int)
      · right; left
        refine ⟨hw, h6, hma, u, rfl, p.ht, ?_⟩
        have hat : (R.instrAt s u).a.toNat = m := by omega
        have hc : R.actC s u = R.lockC s u m (R.instrAt s u).b := by
          rw [(R.actS_is s u (by omega) (by omega)).2]
          unfold R.doesC
          rw [if_neg (by omega), if_pos h6, hat]
        have hcols := (p.cols.2 u).1
        rw [if_neg (fun h => by omega)] at hcols
        have hbase : (viewD (R.settle (R.actS s u)) u).base = (R.th s.T u).base := by
          obtain ⟨w, hw⟩ := R.settle_eq (R.actS s u) u
          show (R.th (R.settle (R.actS s u)).T u).base = _
          rw [hw]
          exact hcols
        have hst : ∀ v, v ≠ u → (R.th (R.settle (R.actS s u)).T v).for_ = (R.th s.T v).for_ ∧ (R.th (R.settle (R.actS s u)).T v).of_ = (R.th s.T v).of_ := by
          intro v hv
          have ss := (R.settle_stay (R.actS s u) v).1
          rcases p.moved.th v hv with ⟨k, _⟩ | ⟨k, _⟩
          · exact ⟨ss.for_.trans k.for_, ss.of_.trans k.of_⟩
          · exfalso
            rcases k with ⟨k, _⟩ | ⟨k, _⟩ | ⟨k, _⟩ | ⟨k, _⟩ <;> omega
        have hbd := ok.own m hm
        have hmt : metTo s.owner (R.settle (R.actS s u)) u (s.T.length + 1) (s.owner.getD m 0) = R.round s u m := met_round _ u i hst _ _ hbd.1 hbd.2
        rw [hc, hbase, hmt, hat]
        unfold R.lockC
        by_cases q1 : s.owner.getD m 0 = (u : Int)
        · left
          rw [if_pos q1, if_neg (by decide)]
          exact ⟨q1, rfl, rfl⟩
        rw [if_neg q1]
        by_cases q2 : (s.set.mutexes.getD m R.pair0).x = 1 ∧ (s.set.mutexes.getD m R.pair0).y < (R.th s.T u).base
        · right; left
          rw [if_pos q2, if_neg (by decide)]
          exact ⟨q1, q2, rfl, rfl⟩
        rw [if_neg q2]
        by_cases q3 : s.owner.getD m 0 < 0
        · right; right; left
          rw [if_pos q3, if_pos rfl]
          exact ⟨q1, q2, by omega, R.getD_set_self _ _ _ hm, rfl⟩
        rw [if_neg q3]
        by_cases q4 : R.round s u m = true
        · right; right; right; left
          rw [if_pos q4, if_neg (by decide)]
          exact ⟨q1, q2, by omega, q4, rfl, rfl⟩
        have q4' : R.round s u m = false := by simpa using q4
        rw [if_neg q4]
        by_cases q5 : (R.instrAt s u).b = 0
        · right; right; right; right; left
          rw [if_pos q5, if_neg (by decide)]
          exact ⟨q1, q2, by omega, q4', q5, rfl, rfl⟩
        · right; right; right; right; right
          rw [if_neg q5, if_neg (by decide)]
          have hc1 : R.actC s u = 1 := by
            rw [hc]
            unfold R.lockC
            rw [if_neg q1, if_neg q2, if_neg q3, if_neg q4, if_neg q5]
          have wt := p.self.1 hc1
          have ss := (R.settle_stay (R.actS s u) u).1
          refine ⟨q1, q2, by omega, q4', q5, rfl, rfl, ?_, ?_⟩
          · show (R.th (R.settle (R.actS s u)).T u).for_ = 1
            rw [ss.for_, wt.for_]
            unfold R.askFor
            rw [if_neg (by omega), if_pos h6]
          · show (R.th (R.settle (R.actS s u)).T u).of_ = (m : Int)
            rw [ss.of_, wt.of_]
            unfold R.askOf
            rw [if_pos (.inl h6)]
            exact hma
      · right; right; right; right; right; right; left
        refine ⟨hw, .inl h6, hma, ?_⟩
        split
        · rw [R.getD_set_ne _ _ _ _ (by omega)]
        · rfl
    rw [if_neg h6]
    by_cases h7 : (R.instrAt s u).op = 7
    · rw [if_pos h7]
      have ha := p.ins.mtx (.inr h7)
      have hc : R.actC s u = R.unlockC s u (R.instrAt s u).a.toNat := by
        rw [(R.actS_is s u (by omega) (by omega)).2]
        unfold R.doesC
        rw [if_neg (by omega), if_neg (by omega), if_pos h7]
      by_cases hma : (R.instrAt s u).a = (m : Int)
      · have hat : (R.instrAt s u).a.toNat = m := by omega
        rw [hc, hat]
        unfold R.unlockC R.unlockS
        by_cases ho : s.owner.getD m 0 = (u : Int)
        · right; right; left
          rw [if_pos ho, if_pos ho]
          refine ⟨hw, h7, hma, ho, ?_, rfl⟩
          rw [← heir_give a sn m]
          exact R.getD_set_self _ _ _ hm
        · right; right; right; left
          rw [if_neg ho, if_neg ho]
          exact ⟨hw, h7, hma, ho, rfl, rfl⟩
      · right; right; right; right; right; right; left
        refine ⟨hw, .inr h7, hma, ?_⟩
        unfold R.unlockS
        split
        · show (s.owner.set _ _).getD m 0 = _
          rw [R.getD_set_ne _ _ _ _ (by omega)]
        · rfl
    · right; right; right; right; right; right; right
      rw [if_neg h7]
      exact ⟨hw, h0, h6, h7, rfl⟩
end
end Go.Proofs.Ytbkfildnijjioab

/-
  Ceilings: who draws a ticket in a step, in plain words.
-/
namespace Go.Proofs.Ytbkfildnijjioab
namespace R
/-- A thread keeps its ticket, or draws a new one: then it was not awake, or is in X. -/
structure Tkt (X : Nat → Prop) (s s' : RS) : Prop where
  nx : s.next ≤ s'.next
  th : ∀ u, ((R.th s'.T u).tick = (R.th s.T u).tick ∧ ((R.th s'.T u).awake = (R.th s.T u).awake ∨ X u)) ∨ (s.next < (R.th s'.T u).tick ∧ ((R.th s.T u).awake = false ∨ X u))
section
variable {X : Nat → Prop} {s s' s'' : RS}
theorem Tkt.refl (X : Nat → Prop) (s : RS) : Tkt X s s := ⟨Int.le_refl _, fun _ => .inl ⟨rfl, .inl rfl⟩⟩
theorem Tkt.same (h : s'.T = s.T) (hn : s.next ≤ s'.next) : Tkt X s s' := ⟨hn, fun u => by rw [h]; exact .inl ⟨rfl, .inl rfl⟩⟩
theorem Tkt.trans (h : Tkt X s s') (k : Tkt X s' s'') : Tkt X s s'' := by
  refine ⟨Int.le_trans h.nx k.nx, fun u => ?_⟩
  have hn := h.nx
  rcases h.th u with ⟨h1, h2⟩ | ⟨h1, h2⟩
  · rcases k.th u with ⟨k1, k2⟩ | ⟨k1, k2⟩
    · left
      refine ⟨k1.trans h1, ?_⟩
      rcases h2 with h2 | h2
      · rcases k2 with k2 | k2
        · exact .inl (k2.trans h2)
        · exact .inr k2
      · exact .inr h2
    · right
      refine ⟨by omega, ?_⟩
      rcases h2 with h2 | h2
      · rcases k2 with k2 | k2
        · exact .inl (h2.symm.trans k2)
        · exact .inr k2
      · exact .inr h2
  · rcases k.th u with ⟨k1, k2⟩ | ⟨k1, k2⟩
    · exact .inr ⟨by omega, h2⟩
    · exact .inr ⟨by omega, h2⟩
theorem Tkt.quiet (t : Nat) {f : RT → RT} (h : s'.T = s.T.modify t f) (hn : s.next ≤ s'.next) (hf : ∀ x, (f x).tick = x.tick ∧ (f x).awake = x.awake) : Tkt X s s' := by
  refine ⟨hn, fun u => .inl ?_⟩
  rw [h, Ln.th_modify]
  split
  · exact ⟨(hf _).1, .inl (hf _).2⟩
  · exact ⟨rfl, .inl rfl⟩
theorem Tkt.at_ (t : Nat) (hx : X t) {f : RT → RT} (h : s'.T = s.T.modify t f) (hn : s.next ≤ s'.next) (hf : ∀ x, (f x).tick = x.tick ∨ s.next < (f x).tick) : Tkt X s s' := by
  refine ⟨hn, fun u => ?_⟩
  rw [h, Ln.th_modify]
  split
  · rename_i e
    obtain ⟨e, _⟩ := e
    subst e
    rcases hf (R.th s.T u) with h1 | h1
    · exact .inl ⟨h1, .inr hx⟩
    · exact .inr ⟨h1, .inr hx⟩
  · exact .inl ⟨rfl, .inl rfl⟩
theorem tkt_endW (u : Nat) (hu : u < s.T.length) (c : Int) (ha : (R.th s.T u).awake = false) : Tkt X s (endW s u c) := by
  refine ⟨by show s.next ≤ s.next + 1; omega, fun v => ?_⟩
  rw [Ln.endW_th _ hu]
  by_cases e : v = u
  · subst e
    rw [if_pos rfl]
    right
    exact ⟨by show s.next < s.next + 1; omega, .inl ha⟩
  · rw [if_neg e]
    exact .inl ⟨rfl, .inl rfl⟩
/-- Whoever waits is not awake. -/
def Slp (s : RS) : Prop := ∀ u, u < s.T.length → (R.th s.T u).for_ ≠ 0 → (R.th s.T u).awake = false
theorem tkt_giveS (hs : Slp s) (what of_ : Int) (hw : what ≠ 0) : Tkt X s (giveS s what of_) := by
  unfold giveS
  split
  · rename_i h
    obtain ⟨h1, h2, _⟩ := giveT_spec s what of_ h
    exact tkt_endW _ h1 0 (hs _ h1 (by rw [h2]; exact hw))
  · exact Tkt.refl X s
theorem tkt_gets (u : Nat) (v : Int) : Tkt X s (gets s u v) := Tkt.quiet u rfl (Int.le_refl _) (fun _ => ⟨rfl, rfl⟩)
theorem tkt_beginW (t : Nat) (hx : X t) (what of_ n : Int) : Tkt X s (beginW s t what of_ n) := Tkt.at_ t hx rfl (by show s.next ≤ s.next + 1; omega) (fun _ => .inl rfl)
/-- Nobody waits for a mutex: then nobody is given one. -/
theorem unlockS_none (h1 : ∀ u, u < s.T.length → (R.th s.T u).for_ ≠ 1) (t m : Nat) : (unlockS s t m).T = s.T ∧ (unlockS s t m).next = s.next ∧ giveT s 1 (m : Int) < 0 := by
  have hg : giveT s 1 (m : Int) < 0 := by
    by_cases h : 0 ≤ giveT s 1 (m : Int)
    rotate_left
    · omega
    · obtain ⟨a, b, _⟩ := giveT_spec s 1 (m : Int) h
      exact absurd b (h1 _ a)
  refine ⟨?_, ?_, hg⟩
  · unfold unlockS giveS
    have e : ¬ 0 ≤ giveT s 1 (m : Int) := by omega
    rw [if_neg e]
    split <;> rfl
  · unfold unlockS giveS
    have e : ¬ 0 ≤ giveT s 1 (m : Int) := by omega
    rw [if_neg e]
    split <;> rfl
theorem unlocksTo_none (h1 : ∀ u, u < s.T.length → (R.th s.T u).for_ ≠ 1) (t k : Nat) : (unlocksTo s t k).T = s.T ∧ (unlocksTo s t k).next = s.next := by
  induction k with
  | zero => exact ⟨rfl, rfl⟩
  | succ k ih =>
    have := unlockS_none (s := unlocksTo s t k) (by rw [ih.1]; exact h1) t k
    unfold unlocksTo
    exact ⟨this.1.trans ih.1, this.2.1.trans ih.2⟩
theorem tkt_doesS (hs : Slp s) (h1 : ∀ u, u < s.T.length → (R.th s.T u).for_ ≠ 1) (t : Nat) (i : InstrD) (hX : i.op = 2 ∨ doesC s t i = 1 → X t) : Tkt X s (doesS s t i) := by
  unfold doesS
  by_cases h2 : i.op = 2
  · rw [if_pos h2]
    exact Tkt.at_ t (hX (.inl h2)) rfl (by show s.next ≤ s.next + 1; omega) (fun _ => .inr (by show s.next < s.next + 1; omega))
  rw [if_neg h2]
  have hX := fun h => hX (.inr h)
  by_cases h4 : i.op = 4
  · rw [if_pos h4]
    exact Tkt.quiet _ rfl (Int.le_refl _) (fun _ => ⟨rfl, rfl⟩)
  rw [if_neg h4]
  unfold doesC at hX
  by_cases h5 : i.op = 5
  · rw [if_pos h5] at hX ⊢
    exact tkt_beginW t (hX rfl) _ _ _
  rw [if_neg h5] at hX ⊢
  by_cases h6 : i.op = 6
  · rw [if_pos h6] at hX ⊢
    unfold lockS
    split
    · exact Tkt.same rfl (Int.le_refl _)
    · split
      · rename_i h
        exact tkt_beginW t (hX h) _ _ _
      · exact Tkt.refl _ _
  rw [if_neg h6] at hX ⊢
  by_cases h7 : i.op = 7
  · rw [if_pos h7]
    have := unlockS_none h1 t i.a.toNat
    exact Tkt.same this.1 (by rw [this.2.1]; exact Int.le_refl _)
  rw [if_neg h7] at hX ⊢
  by_cases h8 : i.op = 8
  · rw [if_pos h8] at hX ⊢
    unfold downS
    split
    · exact Tkt.same rfl (Int.le_refl _)
    · split
      · rename_i h
        exact tkt_beginW t (hX h) _ _ _
      · exact Tkt.refl _ _
  rw [if_neg h8] at hX ⊢
  by_cases h9 : i.op = 9
  · rw [if_pos h9]
    unfold upS
    split
    · exact tkt_giveS hs 2 _ (by decide)
    · split
      · exact Tkt.refl _ _
      · exact Tkt.same rfl (Int.le_refl _)
  rw [if_neg h9] at hX ⊢
  by_cases h10 : i.op = 10
  · rw [if_pos h10]
    unfold sendS
    split
    · exact (tkt_giveS hs 3 _ (by decide)).trans (tkt_gets _ _)
    · split
      · exact Tkt.refl _ _
      · exact Tkt.same rfl (Int.le_refl _)
  rw [if_neg h10] at hX ⊢
  by_cases h11 : i.op = 11
  · rw [if_pos h11] at hX ⊢
    unfold recvS
    split
    · exact (tkt_gets (s := s) t _).trans (Tkt.same rfl (Int.le_refl _))
    · split
      · rename_i h
        exact tkt_beginW t (hX h) _ _ _
      · exact Tkt.refl _ _
  · rw [if_neg h11]
    exact Tkt.refl _ _
theorem tkt_actS (hs : Slp s) (h1 : ∀ u, u < s.T.length → (R.th s.T u).for_ ≠ 1) (t : Nat) (hX : (instrAt s t).op = 0 ∨ (instrAt s t).op = 2 ∨ actC s t = 1 → X t) : Tkt X s (actS s t) := by
  by_cases h0 : (instrAt s t).op = 0
  · have e1 : actS s t = stop s t := by unfold actS; rw [if_pos h0]
    rw [e1]
    have hx := hX (.inl h0)
    have g1 : Tkt X s (stop0 s t) := Tkt.at_ t hx rfl (Int.le_refl _) (fun _ => .inl rfl)
    have h1' : ∀ u, u < (stop0 s t).T.length → (R.th (stop0 s t).T u).for_ ≠ 1 := by
      intro u hu
      have e : (R.th (stop0 s t).T u).for_ = (R.th s.T u).for_ := by
        show (R.th (s.T.modify t _) u).for_ = _
        rw [Ln.th_modify]
        split <;> rfl
      rw [e]
      exact h1 u (by simpa [stop0] using hu)
    have hu := unlocksTo_none h1' t s.owner.length
    have g2 : Tkt X (stop0 s t) (unlocksTo (stop0 s t) t s.owner.length) := Tkt.same hu.1 (by rw [hu.2]; exact Int.le_refl _)
    have g3 : Tkt X (unlocksTo (stop0 s t) t s.owner.length) (asleep (unlocksTo (stop0 s t) t s.owner.length) t) := Tkt.at_ t hx rfl (Int.le_refl _) (fun _ => .inl rfl)
    unfold stop
    split
    · refine ((g1.trans g2).trans g3).trans ?_
      generalize asleep (unlocksTo (stop0 s t) t s.owner.length) t = q
      exact Tkt.at_ t hx rfl (by show q.next ≤ q.next + 1; omega) (fun _ => .inr (by show q.next < q.next + 1; omega))
    · exact (g1.trans g2).trans g3
  by_cases h3 : (instrAt s t).op = 3
  · unfold actS
    rw [if_neg h0, if_pos h3]
    split
    · exact Tkt.quiet t rfl (Int.le_refl _) (fun _ => ⟨rfl, rfl⟩)
    · exact Tkt.quiet t rfl (Int.le_refl _) (fun _ => ⟨rfl, rfl⟩)
  · have hc : actC s t = doesC s t (instrAt s t) := (actS_is s t h0 h3).2
    rw [(actS_is s t h0 h3).1]
    have a := tkt_doesS (X := X) hs h1 t (instrAt s t) (fun h => hX (by rw [hc]; exact .inr h))
    have b : Tkt X (doesS s t (instrAt s t)) (toAt (doesS s t (instrAt s t)) t ((R.th s.T t).at_ + 1)) := Tkt.quiet t rfl (Int.le_refl _) (fun _ => ⟨rfl, rfl⟩)
    exact (a.trans b).trans (Tkt.quiet t rfl (Int.le_refl _) (fun _ => ⟨rfl, rfl⟩))
theorem tkt_settle (h : Tkt X s s') : Tkt X s (settle s') := by
  refine ⟨h.nx, fun u => ?_⟩
  obtain ⟨w, hw⟩ := settle_eq s' u
  rw [hw]
  exact h.th u
end
end R
end Go.Proofs.Ytbkfildnijjioab

/-
  Ceilings: who draws a ticket in a Tick; levels where all mutexes are Ceiling.
-/
namespace Go.Proofs.Ytbkfildnijjioab
namespace R
/-- Whoever waits has a job and is not awake; whoever is awake has a job. -/
def SlpQ (_ : Nat) (x : RT) : Prop := (x.for_ ≠ 0 → x.ended < x.rel ∧ x.awake = false) ∧ (x.awake = true → x.ended < x.rel)
section
variable {X : Nat → Prop} {s s' : RS}
theorem slpQ_inv (i : RInv s) : AllT SlpQ s.T := fun t ht => ⟨(i.thr t ht).fw, (i.thr t ht).aw⟩
theorem slp_of (h : AllT SlpQ s.T) : Slp s := fun u hu hf => by
  rw [th_ext hu] at hf ⊢
  exact ((h u hu).1 hf).2
theorem slpQ_end (k : Nat) (h : AllT SlpQ s.T) : AllT SlpQ (endsTo s k).T := endsTo_all h k (fun _ _ _ _ hx hf => ⟨fun e => absurd rfl e, fun _ => (hx.1 hf).1⟩)
theorem tkt_endsTo (h : AllT SlpQ s.T) (k : Nat) : Tkt X s (endsTo s k) := by
  induction k with
  | zero => exact Tkt.refl X s
  | succ k ih =>
    have hq := slpQ_end k h
    unfold endsTo endOne
    split
    · exact ih
    · rename_i hd
      have h1 := R.dueTo_spec (R.endsTo s k).T (R.endsTo s k).now (R.endsTo s k).T.length (by unfold R.due at hd; omega)
      have h2 := dueTo_bd (R.endsTo s k).T (R.endsTo s k).now (R.endsTo s k).T.length
      have hlt : (due (endsTo s k)).toNat < (endsTo s k).T.length := by unfold due at hd ⊢; omega
      exact ih.trans (tkt_endW _ hlt _ (slp_of hq _ hlt h1))
theorem tkt_wake (v : RS) (t : Nat) (ha : (R.th v.T t).awake = false ∨ X t) : Tkt X v (wake v t) := by
  refine ⟨by show v.next ≤ v.next + 1; omega, fun u => ?_⟩
  have e : R.th (wake v t).T u = if u = t ∧ t < v.T.length then { R.th v.T u with awake := true, tick := v.next + 1 } else R.th v.T u := Ln.th_modify _ _ _ _
  rw [e]
  split
  · rename_i hu
    have hu1 := hu.1
    subst hu1
    exact .inr ⟨by show v.next < v.next + 1; omega, ha⟩
  · exact .inl ⟨rfl, .inl rfl⟩
theorem releaseTo_ahead (s : RS) (k : Nat) : ∀ j, k ≤ j → R.th (releaseTo s k).T j = R.th s.T j := by
  induction k with
  | zero => intro j _; rfl
  | succ k ih =>
    intro j hj
    have e := ih j (by omega)
    unfold releaseTo releaseOne
    split
    · split
      · unfold wake
        show R.th (((releaseTo s k).T.modify k _).modify k _) j = _
        rw [Ln.th_modify, if_neg (by omega), Ln.th_modify, if_neg (by omega), e]
      · show R.th ((releaseTo s k).T.modify k _) j = _
        rw [Ln.th_modify, if_neg (by omega), e]
    · exact e
theorem tkt_releaseTo (h : AllT SlpQ s.T) (k : Nat) (hk : k ≤ s.T.length) : Tkt X s (releaseTo s k) := by
  induction k with
  | zero => exact Tkt.refl X s
  | succ k ih =>
    have e := releaseTo_ahead s k k (Nat.le_refl _)
    have ih := ih (by omega)
    unfold releaseTo releaseOne
    split
    · have g1 : ∀ r : Int, Tkt X (releaseTo s k) { releaseTo s k with T := (releaseTo s k).T.modify k (fun x => { x with rel := r }) } := fun r => Tkt.quiet k rfl (Int.le_refl _) (fun _ => ⟨rfl, rfl⟩)
      split
      · rename_i hr
        refine (ih.trans (g1 _)).trans (tkt_wake _ k (.inl ?_))
        show (R.th ((releaseTo s k).T.modify k _) k).awake = false
        rw [Ln.th_modify]
        have ha : (R.th (releaseTo s k).T k).awake = false := by
          rw [e] at hr ⊢
          have hq := (h k (by omega)).2
          rw [← th_ext (by omega)] at hq
          by_cases hb : (R.th s.T k).awake = true
          · have := hq hb; omega
          · simpa using hb
        split <;> exact ha
      · exact ih.trans (g1 _)
    · exact ih
theorem tkt_tick (i : RInv s) : Tkt X s (tick s) := by
  have h0 : AllT SlpQ (missing s).T := (slpQ_inv i : AllT SlpQ s.T)
  have g0 : Tkt X s (missing s) := Tkt.same rfl (Int.le_refl _)
  have g1 : Tkt X (missing s) (ends (missing s)) := tkt_endsTo h0 _
  have g2 : Tkt X (ends (missing s)) (release (ends (missing s))) := tkt_releaseTo (slpQ_end _ h0) _ (Nat.le_refl _)
  exact tkt_settle ((g0.trans g1).trans g2)
/-- All mutexes are Ceiling mutexes. -/
def AllCeil (s : RS) : Prop := ∀ m, m < s.owner.length → (s.set.mutexes.getD m pair0).x = 1
/-- The level of a thread where all mutexes are Ceiling: by what it owns. -/
def ceilTo (s : RS) (t : Nat) : Nat → Int
  | 0 => (R.th s.T t).base
  | k + 1 => if s.owner.getD k 0 ≠ (t : Int) then ceilTo s t k else maxI (ceilTo s t k) (s.set.mutexes.getD k pair0).y
theorem outerTo_ceil (h : AllCeil s) (f : Nat → Int) (pos : Bool) (t k : Nat) (hk : k ≤ s.owner.length) : outerTo s f pos t k = ceilTo s t k := by
  induction k with
  | zero => rfl
  | succ k ih =>
    unfold outerTo ceilTo
    rw [ih (by omega), if_pos (h k (by omega))]
theorem Level_ceil (h : AllCeil s) (t : Nat) : Level s t = ceilTo s t s.owner.length := by
  unfold Level
  generalize s.T.length = n
  cases n with
  | zero => exact outerTo_ceil h _ _ t _ (Nat.le_refl _)
  | succ n => exact outerTo_ceil h _ _ t _ (Nat.le_refl _)
theorem ceilTo_base (s : RS) (t k : Nat) : (R.th s.T t).base ≤ ceilTo s t k := by
  induction k with
  | zero => exact Int.le_refl _
  | succ k ih =>
    unfold ceilTo maxI
    split
    · exact ih
    · split <;> omega
theorem ceilTo_top (s : RS) (t k m : Nat) (hm : m < k) (ho : s.owner.getD m 0 = (t : Int)) : (s.set.mutexes.getD m pair0).y ≤ ceilTo s t k := by
  induction k with
  | zero => omega
  | succ k ih =>
    unfold ceilTo maxI
    by_cases e : m = k
    · subst e
      rw [if_neg (fun h => h ho)]
      split <;> omega
    · have := ih (by omega)
      split
      · exact this
      · split <;> omega
theorem ceilTo_none (s : RS) (t k : Nat) (h : ∀ m, m < k → s.owner.getD m 0 ≠ (t : Int)) : ceilTo s t k = (R.th s.T t).base := by
  induction k with
  | zero => rfl
  | succ k ih =>
    unfold ceilTo
    rw [if_pos (h k (by omega))]
    exact ih (fun m hm => h m (by omega))
/-- Who owns less has no higher level. -/
theorem ceilTo_le (s s' : RS) (t k : Nat) (hs : s'.set = s.set) (hb : (R.th s'.T t).base = (R.th s.T t).base) (h : ∀ m, m < k → s'.owner.getD m 0 = (t : Int) → s.owner.getD m 0 = (t : Int)) : ceilTo s' t k ≤ ceilTo s t k := by
  induction k with
  | zero => show (R.th s'.T t).base ≤ (R.th s.T t).base; omega
  | succ k ih =>
    have ih := ih (fun m hm => h m (by omega))
    unfold ceilTo maxI
    rw [hs]
    by_cases e : s'.owner.getD k 0 = (t : Int)
    · rw [if_neg (show ¬ (s'.owner.getD k 0 ≠ (t : Int)) from fun q => q e), if_neg (show ¬ (s.owner.getD k 0 ≠ (t : Int)) from fun q => q (h k (by omega) e))]
      split <;> split <;> omega
    · rw [if_pos e]
      split
      · exact ih
      · split <;> omega
end
end R
end Go.Proofs.Ytbkfildnijjioab

/-
  Ceilings: whoever runs has a base above the levels of all others that own something.
-/
namespace Go.Proofs.Ytbkfildnijjioab
namespace R
def Owns (s : RS) (u : Nat) : Prop := ∃ m, m < s.owner.length ∧ s.owner.getD m 0 = (u : Int)
/-- What holds as long as no owner gives its place away. -/
structure CJ (s : RS) : Prop where
  one : s.set.workers = 1
  ceil : AllCeil s
  noP : ∀ i (hi : i < s.set.threads.length) j (hj : j < (s.set.threads[i]).code.length), ((s.set.threads[i]).code[j]).op ≠ 4
  f0 : ∀ u, Owns s u → (R.th s.T u).for_ = 0
  f1 : ∀ u, u < s.T.length → (R.th s.T u).for_ ≠ 1
  j3 : ∀ u t, Owns s u → t < s.T.length → t ≠ u → (R.th s.T t).awake = true → (R.th s.T t).tick < (R.th s.T u).tick → (R.th s.T t).base < (R.th s.T u).base ∨ Level s u < (R.th s.T t).base
  j4 : ∀ u t, Owns s u → Owns s t → t ≠ u → Level s u < (R.th s.T t).base ∨ Level s t < (R.th s.T u).base
section
variable {s : RS}
theorem first_of (x : Ext s) (h1 : s.set.workers = 1) (t : Nat) (ht : t < s.T.length) (hw : 0 ≤ (R.th s.T t).wkr) (u : Nat) (hu : u < s.T.length) (ha : (R.th s.T u).awake = true) : Level s u < Level s t ∨ (Level s u = Level s t ∧ (R.th s.T t).tick ≤ (R.th s.T u).tick) := by
  have hp := (x.seat t ht).1 hw
  rw [h1] at hp
  have hr : rank (levels s) s.T t = 0 := by
    unfold place at hp
    split at hp
    · split at hp
      · rename_i h2
        have e : ((1 : Int).toNat : Int) = 1 := rfl
        rw [e] at h2
        omega
      · exact absurd rfl hp
    · exact absurd rfl hp
  unfold rank rankTo at hr
  rw [List.countP_eq_zero] at hr
  have h := hr u (by simpa using hu)
  unfold ahead at h
  have eu : (levels s).getD u 0 = Level s u := by simp [levels, List.getD, hu]
  have et : (levels s).getD t 0 = Level s t := by simp [levels, List.getD, ht]
  rw [eu, et, ha] at h
  simp only [Bool.true_and, Bool.or_eq_true, Bool.and_eq_true, decide_eq_true_iff, not_or, not_and] at h
  omega
theorem pair_either {R : Nat → Nat → Prop} : ∀ {l : List Nat}, l.Pairwise R → ∀ {a b : Nat}, a ∈ l → b ∈ l → a ≠ b → R a b ∨ R b a := by
  intro l
  induction l with
  | nil => intro _ a b h; cases h
  | cons x l ih =>
    intro hp a b ha hb hne
    obtain ⟨h1, h2⟩ := List.pairwise_cons.1 hp
    rcases List.mem_cons.1 ha with e | ha'
    · rcases List.mem_cons.1 hb with e2 | hb'
      · exact absurd (e.trans e2.symm) hne
      · subst e; exact .inl (h1 b hb')
    · rcases List.mem_cons.1 hb with e2 | hb'
      · subst e2; exact .inr (h1 a ha')
      · exact ih h2 ha' hb' hne
theorem tick_ne {tk : List Nat} (k : Ln.TkOk s tk) (t u : Nat) (ht : t < s.T.length) (hu : u < s.T.length) (hne : t ≠ u) (ha : (R.th s.T t).awake = true) : (R.th s.T t).tick ≠ (R.th s.T u).tick := by
  have h0 := k.aw t ht ha
  rcases pair_either k.ord ((k.mem t).2 ht) ((k.mem u).2 hu) hne with h | h <;> omega
theorem owner_lt (i : RInv s) {u : Nat} (h : Owns s u) : u < s.T.length := by
  obtain ⟨m, hm, e⟩ := h
  have := (R.RInv.linksOk i).own m hm
  rw [e] at this
  omega
theorem owner_awake (i : RInv s) (x : Ext0 s) (J : CJ s) {u : Nat} (h : Owns s u) : (R.th s.T u).awake = true := by
  have hu := owner_lt i h
  have hf := J.f0 u h
  obtain ⟨m, hm, e⟩ := h
  have hj := x.job m hm (by rw [e]; omega)
  have e2 : (s.owner.getD m 0).toNat = u := by rw [e]; simp
  rw [e2] at hj
  have tok := i.thr u hu
  rw [← th_ext hu] at tok
  by_cases ha : (R.th s.T u).awake = true
  · exact ha
  · have := tok.id (by simpa using ha) hf
    omega
theorem Level_base (J : AllCeil s) (u : Nat) : (R.th s.T u).base ≤ Level s u := by rw [Level_ceil J]; exact ceilTo_base _ _ _
theorem cj_main {tk wt : List Nat} (a : Ln.Aux s tk wt) (i : RInv s) (x : Ext s) (J : CJ s) (t : Nat) (ht : t < s.T.length) (hw : 0 ≤ (R.th s.T t).wkr) (u : Nat) (hu : Owns s u) (hne : t ≠ u) : Level s u < (R.th s.T t).base := by
  have hul := owner_lt i hu
  have hf := first_of x J.one t ht hw u hul (owner_awake i x.toExt0 J hu)
  have hta := i.wk t ht (by rw [← th_ext ht]; exact hw)
  rw [← th_ext ht] at hta
  have hbu := Level_base J.ceil u
  by_cases ho : Owns s t
  · rcases J.j4 u t hu ho hne with h | h
    · exact h
    · omega
  · have hlt : Level s t = (R.th s.T t).base := by
      rw [Level_ceil J.ceil]
      exact ceilTo_none _ _ _ (fun m hm e => ho ⟨m, hm, e⟩)
    rcases hf with h | ⟨h, hk⟩
    · omega
    · rcases Int.lt_or_le (R.th s.T t).tick (R.th s.T u).tick with q | q
      · rcases J.j3 u t hu ht hne hta q with h3 | h3
        · omega
        · exact h3
      · exact absurd (show (R.th s.T t).tick = (R.th s.T u).tick by omega) (tick_ne a.tk t u ht hul hne hta)
/-- A Lock ends with 0, 3 or 4. -/
theorem cj_lock {tk wt : List Nat} (a : Ln.Aux s tk wt) (i : RInv s) (x : Ext s) (J : CJ s) (t : Nat) (ht : t < s.T.length) (hw : 0 ≤ (R.th s.T t).wkr) (m : Nat) (hm : m < s.owner.length) (b : Int) : lockC s t m b = 0 ∨ lockC s t m b = 3 ∨ lockC s t m b = 4 := by
  unfold lockC
  by_cases h1 : s.owner.getD m 0 = (t : Int)
  · rw [if_pos h1]; exact .inr (.inl rfl)
  rw [if_neg h1]
  by_cases h2 : (s.set.mutexes.getD m pair0).x = 1 ∧ (s.set.mutexes.getD m pair0).y < (R.th s.T t).base
  · rw [if_pos h2]; exact .inr (.inr rfl)
  rw [if_neg h2]
  by_cases h3 : s.owner.getD m 0 < 0
  · rw [if_pos h3]; exact .inl rfl
  · exfalso
    obtain ⟨u, hu⟩ := Int.eq_ofNat_of_zero_le (show 0 ≤ s.owner.getD m 0 by omega)
    have hu' : s.owner.getD m 0 = (u : Int) := hu
    have hm1 := cj_main a i x J t ht hw u ⟨m, hm, hu'⟩ (fun e => h1 (by rw [hu', e]))
    have ht1 := ceilTo_top s u s.owner.length m hm hu'
    rw [← Level_ceil J.ceil] at ht1
    exact h2 ⟨J.ceil m hm, by omega⟩
/-- Nobody comes to own more: what is asked of a step. -/
theorem cj_less {s' : RS} {X : Nat → Prop} {tk wt : List Nat} (a : Ln.Aux s tk wt) (i : RInv s) (x : Ext s) (J : CJ s) (hset : s'.set = s.set) (hlen : s'.T.length = s.T.length) (hol : s'.owner.length = s.owner.length) (hb : ∀ u, (R.th s'.T u).base = (R.th s.T u).base) (k : Tkt X s s')
    (hX : ∀ u, X u → ¬ Owns s' u ∧ (R.th s.T u).awake = true) (hf1 : ∀ u, u < s.T.length → (R.th s'.T u).for_ ≠ 1) (hf0 : ∀ u, Owns s' u → (R.th s'.T u).for_ = 0) (ho : ∀ m, m < s.owner.length → ∀ u : Nat, s'.owner.getD m 0 = (u : Int) → s.owner.getD m 0 = (u : Int)) : CJ s' := by
  have hce : AllCeil s' := fun m hm => by rw [hset]; exact J.ceil m (by omega)
  have own : ∀ u, Owns s' u → Owns s u := fun u ⟨m, hm, e⟩ => ⟨m, by omega, ho m (by omega) u e⟩
  have lev : ∀ u, Level s' u ≤ Level s u := fun u => by
    rw [Level_ceil hce, Level_ceil J.ceil, hol]
    exact ceilTo_le s s' u _ hset (hb u) (fun m hm e => ho m hm u e)
  have tks : ∀ u, Owns s' u → (R.th s'.T u).tick = (R.th s.T u).tick := by
    intro u hu
    have ha := owner_awake i x.toExt0 J (own u hu)
    rcases k.th u with ⟨h, _⟩ | ⟨_, h | h⟩
    · exact h
    · rw [ha] at h; cases h
    · exact absurd hu (hX u h).1
  refine ⟨by rw [hset]; exact J.one, hce, by rw [hset]; exact J.noP, hf0, fun u hu => hf1 u (by omega), ?_, ?_⟩
  · intro u t hu ht hne ha hk
    rw [hb, hb]
    rw [tks u hu] at hk
    have hbd := (a.tk.bd u (owner_lt i (own u hu))).2
    have hl := lev u
    have key : (R.th s.T t).awake = true → (R.th s.T t).tick < (R.th s.T u).tick → (R.th s.T t).base < (R.th s.T u).base ∨ Level s' u < (R.th s.T t).base := by
      intro h1 h2
      rcases J.j3 u t (own u hu) (by omega) hne h1 h2 with h | h
      · exact .inl h
      · exact .inr (by omega)
    rcases k.th t with ⟨h1, h2 | h2⟩ | ⟨h1, _⟩
    · exact key (by rw [← h2]; exact ha) (by rw [← h1]; exact hk)
    · exact key (hX t h2).2 (by rw [← h1]; exact hk)
    · omega
  · intro u t hu ht hne
    rw [hb, hb]
    have h1 := lev u
    have h2 := lev t
    rcases J.j4 u t (own u hu) (own t ht) hne with h | h
    · exact .inl (by omega)
    · exact .inr (by omega)
/-- Whoever runs comes to own one mutex more. -/
theorem cj_more {s' : RS} {tk wt : List Nat} (a : Ln.Aux s tk wt) (i : RInv s) (x : Ext s) (J : CJ s) (t : Nat) (ht : t < s.T.length) (hw : 0 ≤ (R.th s.T t).wkr) (hset : s'.set = s.set) (hlen : s'.T.length = s.T.length) (hol : s'.owner.length = s.owner.length) (hb : ∀ u, (R.th s'.T u).base = (R.th s.T u).base)
    (hk : ∀ u, (R.th s'.T u).tick = (R.th s.T u).tick ∧ (R.th s'.T u).awake = (R.th s.T u).awake) (hf1 : ∀ u, u < s.T.length → (R.th s'.T u).for_ ≠ 1) (hf0 : ∀ u, Owns s' u → (R.th s'.T u).for_ = 0) (ho : ∀ m, m < s.owner.length → ∀ u : Nat, u ≠ t → s'.owner.getD m 0 = (u : Int) → s.owner.getD m 0 = (u : Int)) : CJ s' := by
  have hce : AllCeil s' := fun m hm => by rw [hset]; exact J.ceil m (by omega)
  have own : ∀ u, u ≠ t → Owns s' u → Owns s u := fun u hu ⟨m, hm, e⟩ => ⟨m, by omega, ho m (by omega) u hu e⟩
  have lev : ∀ u, u ≠ t → Level s' u ≤ Level s u := fun u hu => by
    rw [Level_ceil hce, Level_ceil J.ceil, hol]
    exact ceilTo_le s s' u _ hset (hb u) (fun m hm e => ho m hm u hu e)
  refine ⟨by rw [hset]; exact J.one, hce, by rw [hset]; exact J.noP, hf0, fun u hu => hf1 u (by omega), ?_, ?_⟩
  · intro u v hu hv hne ha hkv
    rw [hb, hb]
    rw [(hk u).1, (hk v).1] at hkv
    rw [(hk v).2] at ha
    have hv' : v < s.T.length := by omega
    by_cases e : u = t
    · subst e
      left
      have hbv := Level_base J.ceil v
      rcases first_of x J.one u ht hw v hv' ha with h | ⟨_, h⟩
      · by_cases hou : Owns s u
        · rcases J.j3 u v hou hv' hne ha hkv with h3 | h3
          · exact h3
          · omega
        · have : Level s u = (R.th s.T u).base := by
            rw [Level_ceil J.ceil]
            exact ceilTo_none _ _ _ (fun m hm e => hou ⟨m, hm, e⟩)
          omega
      · omega
    · have hl := lev u e
      rcases J.j3 u v (own u e hu) hv' hne ha hkv with h | h
      · exact .inl h
      · exact .inr (by omega)
  · intro u v hu hv hne
    rw [hb, hb]
    by_cases e : u = t
    · subst e
      have h1 := lev v hne
      have h2 := cj_main a i x J u ht hw v (own v hne hv) (fun q => hne q.symm)
      exact .inr (by omega)
    · by_cases e2 : v = t
      · subst e2
        have h1 := lev u e
        have h2 := cj_main a i x J v ht hw u (own u e hu) hne
        exact .inl (by omega)
      · have h1 := lev u e
        have h2 := lev v e2
        rcases J.j4 u v (own u e hu) (own v e2 hv) hne with h | h
        · exact .inl (by omega)
        · exact .inr (by omega)
end
end R
end Go.Proofs.Ytbkfildnijjioab
