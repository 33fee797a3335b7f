import Derived.Test.YtbkfildnijjioabA03
import Derived.Test.YtbkfildnijjioabA02
/-
  Who waits for whom (P12): from every thread the way from owner to owner ends.
-/
namespace Go.Proofs.Ytbkfildnijjioab
namespace Ln

/-- From o the way ends behind k threads. -/
inductive EndsIn (s : RS) : Nat → Int → Prop
  | stop (o : Int) (h : o < 0) : EndsIn s 0 o
  | step (k : Nat) (o : Int) (h : 0 ≤ o) (r : EndsIn s k (R.ahd s o.toNat)) : EndsIn s (k + 1) o
def Chained (s : RS) : Prop := ∀ u : Nat, u < s.T.length → ∃ k, EndsIn s k (u : Int)

theorem EndsIn.one {s : RS} {k k' : Nat} {o : Int} (h : EndsIn s k o) (h' : EndsIn s k' o) : k = k' := by
  induction h generalizing k' with
  | stop o h =>
    cases h' with
    | stop => rfl
    | step k o h0 r => omega
  | step k o h0 r ih =>
    cases h' with
    | stop _ h => omega
    | step k' _ _ r' => rw [ih r']

section
variable {s : RS}
theorem ahd_bd (ok : R.LinksOk s) (u : Nat) (hu : u < s.T.length) : -1 ≤ R.ahd s u ∧ R.ahd s u < s.T.length := by
  unfold R.ahd
  split
  · rename_i h
    have h1 := ok.of1 u hu h
    exact ok.own _ (by omega)
  · omega

theorem EndsIn.nodes (ok : R.LinksOk s) {k : Nat} {o : Int} (h : EndsIn s k o) (hb : o < s.T.length) : ∃ L : List Nat, L.length = k ∧ L.Nodup ∧ (∀ u ∈ L, u < s.T.length) ∧ ∀ u ∈ L, ∃ j, j ≤ k ∧ EndsIn s j (u : Int) := by
  induction h with
  | stop o h => exact ⟨[], rfl, List.nodup_nil, by simp, by simp⟩
  | step k o h0 r ih =>
    have hu : o.toNat < s.T.length := by omega
    obtain ⟨L, h1, h2, h3, h4⟩ := ih (ahd_bd ok _ hu).2
    refine ⟨o.toNat :: L, by simp [h1], List.nodup_cons.2 ⟨fun hm => ?_, h2⟩, fun u hu' => ?_, fun u hu' => ?_⟩
    · obtain ⟨j, hj, hj'⟩ := h4 _ hm
      have e : ((o.toNat : Nat) : Int) = o := by omega
      rw [e] at hj'
      have := EndsIn.one hj' (.step k o h0 r)
      omega
    · rcases List.mem_cons.1 hu' with rfl | hu'
      · exact hu
      · exact h3 u hu'
    · rcases List.mem_cons.1 hu' with rfl | hu'
      · have e : ((o.toNat : Nat) : Int) = o := by omega
        exact ⟨k + 1, Nat.le_refl _, by rw [e]; exact .step k o h0 r⟩
      · obtain ⟨j, hj, hj'⟩ := h4 u hu'
        exact ⟨j, by omega, hj'⟩
theorem EndsIn.le (ok : R.LinksOk s) {k : Nat} {o : Int} (h : EndsIn s k o) (hb : o < s.T.length) : k ≤ s.T.length := by
  obtain ⟨L, h1, h2, h3, _⟩ := h.nodes ok hb
  have := nodup_le' L (List.range s.T.length) h2 (fun x hx => by simpa using h3 x hx)
  simp at this
  omega

theorem roundTo_stop (s : RS) (t f : Nat) (o : Int) (h : o < 0 ∨ o = (t : Int)) : R.roundTo s t (f + 1) o = decide (o = (t : Int)) := by
  unfold R.roundTo
  rw [if_pos h]
theorem roundTo_step (s : RS) (t f : Nat) (o : Int) (h : 0 ≤ o) (hn : o ≠ (t : Int)) : R.roundTo s t (f + 2) o = R.roundTo s t (f + 1) (R.ahd s o.toNat) := by
  rw [R.roundTo, if_neg (by omega)]
  unfold R.ahd
  by_cases h1 : (R.th s.T o.toNat).for_ = 1
  · rw [if_neg (fun h => h h1), if_pos h1]
  · rw [if_pos h1, if_neg h1, roundTo_stop s t f (-1) (.inl (by decide))]
    simp
theorem roundTo_enough (s : RS) (t : Nat) {k : Nat} {o : Int} (h : EndsIn s k o) (f : Nat) : R.roundTo s t (k + 1 + f) o = R.roundTo s t (k + 1) o := by
  induction h with
  | stop o h =>
    rw [show 0 + 1 + f = f + 1 by omega, roundTo_stop s t f o (.inl h), roundTo_stop s t 0 o (.inl h)]
  | step k o h0 r ih =>
    by_cases hn : o = (t : Int)
    · rw [show k + 1 + 1 + f = (k + 1 + f) + 1 by omega, roundTo_stop s t _ o (.inr hn), roundTo_stop s t _ o (.inr hn)]
    · rw [show k + 1 + 1 + f = (k + f) + 2 by omega, roundTo_step s t _ o h0 hn, roundTo_step s t k o h0 hn, show k + f + 1 = k + 1 + f by omega, ih]

/-- The way has an end, and the answer is known by then. -/
theorem round_eq (ok : R.LinksOk s) (ch : Chained s) (t m : Nat) (hm : m < s.owner.length) : ∃ k, EndsIn s k (s.owner.getD m 0) ∧ R.round s t m = R.roundTo s t (k + 1) (s.owner.getD m 0) := by
  have hb := ok.own m hm
  have hex : ∃ k, EndsIn s k (s.owner.getD m 0) := by
    by_cases h : s.owner.getD m 0 < 0
    · exact ⟨0, .stop _ h⟩
    · have := ch (s.owner.getD m 0).toNat (by omega)
      rwa [show (((s.owner.getD m 0).toNat : Nat) : Int) = s.owner.getD m 0 by omega] at this
  obtain ⟨k, hk⟩ := hex
  refine ⟨k, hk, ?_⟩
  have hle := hk.le ok hb.2
  unfold R.round
  have := roundTo_enough s t hk (s.T.length - k)
  rwa [show k + 1 + (s.T.length - k) = s.T.length + 1 by omega] at this
end

/-- Ways that were turned to what ends still end. -/
theorem Chained.turn {s s' : RS} (ch : Chained s) (hl : s'.T.length = s.T.length) (h : ∀ u, u < s.T.length → -1 ≤ R.ahd s u ∧ R.ahd s u < s.T.length) (ht : ∀ u, u < s.T.length → R.ahd s' u = R.ahd s u ∨ ∃ k, EndsIn s' k (R.ahd s' u)) : Chained s' := by
  have key : ∀ k o, EndsIn s k o → o < s.T.length → ∃ k', EndsIn s' k' o := by
    intro k o he
    induction he with
    | stop o h0 => intro _; exact ⟨0, .stop o h0⟩
    | step k o h0 r ih =>
      intro hb
      have hu : o.toNat < s.T.length := by omega
      rcases ht o.toNat hu with e | ⟨k', hk'⟩
      · obtain ⟨k', hk'⟩ := ih (h _ hu).2
        exact ⟨k' + 1, .step k' o h0 (by rw [e]; exact hk')⟩
      · exact ⟨k' + 1, .step k' o h0 hk'⟩
  intro u hu
  rw [hl] at hu
  obtain ⟨k, hk⟩ := ch u hu
  exact key k _ hk (by omega)
/-- A way that does not meet t does not change with t. -/
theorem EndsIn.past {s s' : RS} {t : Nat} (he : ∀ u, u ≠ t → R.ahd s' u = R.ahd s u) {k : Nat} {o : Int} (h : EndsIn s k o) (hr : R.roundTo s t (k + 1) o = false) : EndsIn s' k o := by
  induction h with
  | stop o h => exact .stop o h
  | step k o h0 r ih =>
    by_cases hn : o = (t : Int)
    · rw [roundTo_stop s t _ o (.inr hn)] at hr
      simp [hn] at hr
    · rw [roundTo_step s t k o h0 hn] at hr
      refine .step k o h0 ?_
      rw [he o.toNat (by omega)]
      exact ih hr
end Ln
end Go.Proofs.Ytbkfildnijjioab

/-
  The two orders that a kernel keeps beside the document's numbers: tk, all threads in the order of the last tickets that they drew; wt, those who wait in the order in which they began.
-/
namespace Go.Proofs.Ytbkfildnijjioab
namespace Ln

/-- A list but for an entry. -/
def less (l : List Nat) (t : Nat) : List Nat := l.filter (fun u => decide (u ≠ t))
theorem mem_less {l : List Nat} {t u : Nat} : u ∈ less l t ↔ u ∈ l ∧ u ≠ t := by simp [less]
theorem less_sub (l : List Nat) (t : Nat) : (less l t).Sublist l := List.filter_sublist
theorem less_perm {l : List Nat} {t : Nat} (hn : l.Nodup) (ht : t ∈ l) : (less l t ++ [t]).Perm l := by
  refine (List.perm_append_singleton t _).trans ?_
  induction l with
  | nil => cases ht
  | cons x l ih =>
    obtain ⟨h1, h2⟩ := List.nodup_cons.1 hn
    unfold less
    by_cases e : x = t
    · subst e
      rw [List.filter_cons_of_neg (by simp)]
      have : l.filter (fun u => decide (u ≠ x)) = l := List.filter_eq_self.2 fun a ha => by
        simp
        exact fun e => h1 (e ▸ ha)
      rw [this]
    · rw [List.filter_cons_of_pos (by simpa using e)]
      have hm : t ∈ l := by
        rcases List.mem_cons.1 ht with h | h
        · exact absurd h.symm e
        · exact h
      exact (List.Perm.swap x t _).trans ((ih h2 hm).cons x)

theorem th_modify (T : List RT) (t u : Nat) (f : RT → RT) : R.th (T.modify t f) u = if u = t ∧ t < T.length then f (R.th T u) else R.th T u := by
  unfold R.th
  by_cases h : u < T.length
  · simp only [List.getD_eq_getElem?_getD, List.getElem?_modify]
    by_cases e : t = u
    · subst e; simp [h]
    · have e' : ¬ u = t := fun x => e x.symm
      simp [e, e', h]
  · have h2 : ¬ (u = t ∧ t < T.length) := by omega
    simp [List.getD_eq_getElem?_getD, h, h2]

structure TkOk (s : RS) (tk : List Nat) : Prop where
  perm : tk.Perm (List.range s.T.length)
  ord : tk.Pairwise (fun a b => (R.th s.T a).tick < (R.th s.T b).tick ∨ ((R.th s.T a).tick = 0 ∧ (R.th s.T b).tick = 0))
  bd : ∀ u, u < s.T.length → 0 ≤ (R.th s.T u).tick ∧ (R.th s.T u).tick ≤ s.next
  aw : ∀ u, u < s.T.length → (R.th s.T u).awake = true → 0 < (R.th s.T u).tick

section
variable {s s' : RS} {tk wt : List Nat}
theorem TkOk.mem (h : TkOk s tk) (u : Nat) : u ∈ tk ↔ u < s.T.length := by rw [h.perm.mem_iff]; simp
theorem TkOk.nodup (h : TkOk s tk) : tk.Nodup := h.perm.nodup_iff.2 List.nodup_range
theorem pairwise_mem {α : Type} {R S : α → α → Prop} {l : List α} (h : l.Pairwise R) (f : ∀ a b, a ∈ l → b ∈ l → R a b → S a b) : l.Pairwise S := by
  induction l with
  | nil => exact List.Pairwise.nil
  | cons x l ih =>
    obtain ⟨h1, h2⟩ := List.pairwise_cons.1 h
    exact List.pairwise_cons.2 ⟨fun b hb => f x b (by simp) (by simp [hb]) (h1 b hb), ih h2 fun a b ha hb => f a b (by simp [ha]) (by simp [hb])⟩
theorem TkOk.same (h : TkOk s tk) (hl : s'.T.length = s.T.length) (hn : s.next ≤ s'.next) (ht : ∀ u, u < s.T.length → (R.th s'.T u).tick = (R.th s.T u).tick) (ha : ∀ u, u < s.T.length → (R.th s'.T u).awake = true → (R.th s.T u).awake = true) : TkOk s' tk := by
  refine ⟨by rw [hl]; exact h.perm, ?_, fun u hu => ?_, fun u hu hw => ?_⟩
  · refine pairwise_mem h.ord fun a b ha hb hab => ?_
    rw [ht a ((h.mem a).1 ha), ht b ((h.mem b).1 hb)]
    exact hab
  · rw [hl] at hu
    have := h.bd u hu
    rw [ht u hu]
    omega
  · rw [hl] at hu
    rw [ht u hu]
    exact h.aw u hu (ha u hu hw)
/-- A ticket is drawn. -/
theorem TkOk.draw (h : TkOk s tk) (t : Nat) (htl : t < s.T.length) (h0 : 0 ≤ s.next) (hl : s'.T.length = s.T.length) (hn : s'.next = s.next + 1) (ht : ∀ u, u < s.T.length → (R.th s'.T u).tick = if u = t then s.next + 1 else (R.th s.T u).tick) (ha : ∀ u, u < s.T.length → u ≠ t → (R.th s'.T u).awake = true → (R.th s.T u).awake = true) : TkOk s' (less tk t ++ [t]) := by
  have hnd := h.nodup
  refine ⟨?_, ?_, fun u hu => ?_, fun u hu hw => ?_⟩
  · rw [hl]
    exact (less_perm hnd ((h.mem t).2 htl)).trans h.perm
  · rw [List.pairwise_append]
    refine ⟨?_, List.pairwise_singleton _ _, fun a ha b hb => ?_⟩
    · refine pairwise_mem (h.ord.sublist (less_sub tk t)) fun a b ha hb hab => ?_
      obtain ⟨ha1, ha2⟩ := mem_less.1 ha
      obtain ⟨hb1, hb2⟩ := mem_less.1 hb
      rw [ht a ((h.mem a).1 ha1), ht b ((h.mem b).1 hb1), if_neg ha2, if_neg hb2]
      exact hab
    · obtain ⟨ha1, ha2⟩ := mem_less.1 ha
      have e : b = t := by simpa using hb
      subst e
      have := h.bd a ((h.mem a).1 ha1)
      rw [ht a ((h.mem a).1 ha1), ht b htl, if_neg ha2, if_pos rfl]
      left
      omega
  · rw [hl] at hu
    have := h.bd u hu
    rw [ht u hu]
    split <;> omega
  · rw [hl] at hu
    rw [ht u hu]
    split
    · omega
    · rename_i e
      exact h.aw u hu (ha u hu e hw)

theorem WtOk.same (h : WtOk s wt) (hl : s'.T.length = s.T.length) (hn : s.next ≤ s'.next) (hf : ∀ u, u < s.T.length → (R.th s'.T u).for_ = (R.th s.T u).for_) (hs : ∀ u, u < s.T.length → (R.th s'.T u).since = (R.th s.T u).since) : WtOk s' wt := by
  refine ⟨fun u => ?_, ?_, fun u hu => ?_⟩
  · rw [h.mem u, hl]
    constructor
    · rintro ⟨a, b⟩
      exact ⟨a, by rw [hf u a]; exact b⟩
    · rintro ⟨a, b⟩
      exact ⟨a, by rw [hf u a] at b; exact b⟩
  · refine pairwise_mem h.ord fun a b ha hb hab => ?_
    unfold sinceOf at hab ⊢
    rw [hs a ((h.mem a).1 ha).1, hs b ((h.mem b).1 hb).1]
    exact hab
  · have := h.top u hu
    unfold sinceOf at this ⊢
    rw [hs u ((h.mem u).1 hu).1]
    omega
/-- A wait begins. -/
theorem WtOk.add (h : WtOk s wt) (t : Nat) (htl : t < s.T.length) (h0 : (R.th s.T t).for_ = 0) (hl : s'.T.length = s.T.length) (hn : s'.next = s.next + 1) (hf : ∀ u, u < s.T.length → u ≠ t → (R.th s'.T u).for_ = (R.th s.T u).for_) (hft : (R.th s'.T t).for_ ≠ 0) (hs : ∀ u, u < s.T.length → (R.th s'.T u).since = if u = t then s.next + 1 else (R.th s.T u).since) : WtOk s' (wt ++ [t]) := by
  have hnt : t ∉ wt := fun hm => ((h.mem t).1 hm).2 h0
  have hne : ∀ a, a ∈ wt → a ≠ t := fun a ha e => hnt (e ▸ ha)
  refine ⟨fun u => ?_, ?_, fun u hu => ?_⟩
  · rw [List.mem_append, h.mem u, hl]
    constructor
    · rintro (⟨a, b⟩ | a)
      · by_cases e : u = t
        · subst e; exact absurd h0 b
        · exact ⟨a, by rw [hf u a e]; exact b⟩
      · have e : u = t := by simpa using a
        subst e
        exact ⟨htl, hft⟩
    · rintro ⟨a, b⟩
      by_cases e : u = t
      · exact .inr (by simp [e])
      · exact .inl ⟨a, by rw [hf u a e] at b; exact b⟩
  · rw [List.pairwise_append]
    refine ⟨?_, List.pairwise_singleton _ _, fun a ha b hb => ?_⟩
    · refine pairwise_mem h.ord fun a b ha hb hab => ?_
      unfold sinceOf at hab ⊢
      rw [hs a ((h.mem a).1 ha).1, hs b ((h.mem b).1 hb).1, if_neg (hne a ha), if_neg (hne b hb)]
      exact hab
    · have e : b = t := by simpa using hb
      subst e
      have := h.top a ha
      unfold sinceOf at this ⊢
      rw [hs a ((h.mem a).1 ha).1, hs b htl, if_neg (hne a ha), if_pos rfl]
      omega
  · unfold sinceOf
    rcases List.mem_append.1 hu with hu | hu
    · have := h.top u hu
      unfold sinceOf at this
      rw [hs u ((h.mem u).1 hu).1, if_neg (hne u hu)]
      omega
    · have e : u = t := by simpa using hu
      subst e
      rw [hs u htl, if_pos rfl]
      omega
/-- A wait ends. -/
theorem WtOk.del (h : WtOk s wt) (t : Nat) (hl : s'.T.length = s.T.length) (hn : s.next ≤ s'.next) (hf : ∀ u, u < s.T.length → u ≠ t → (R.th s'.T u).for_ = (R.th s.T u).for_) (hft : (R.th s'.T t).for_ = 0) (hs : ∀ u, u < s.T.length → u ≠ t → (R.th s'.T u).since = (R.th s.T u).since) : WtOk s' (less wt t) := by
  refine ⟨fun u => ?_, ?_, fun u hu => ?_⟩
  · rw [mem_less, h.mem u, hl]
    constructor
    · rintro ⟨⟨a, b⟩, c⟩
      exact ⟨a, by rw [hf u a c]; exact b⟩
    · rintro ⟨a, b⟩
      have c : u ≠ t := fun e => b (e ▸ hft)
      exact ⟨⟨a, by rw [hf u a c] at b; exact b⟩, c⟩
  · refine pairwise_mem (h.ord.sublist (less_sub wt t)) fun a b ha hb hab => ?_
    obtain ⟨ha1, ha2⟩ := mem_less.1 ha
    obtain ⟨hb1, hb2⟩ := mem_less.1 hb
    unfold sinceOf at hab ⊢
    rw [hs a ((h.mem a).1 ha1).1 ha2, hs b ((h.mem b).1 hb1).1 hb2]
    exact hab
  · obtain ⟨hu1, hu2⟩ := mem_less.1 hu
    have := h.top u hu1
    unfold sinceOf at this ⊢
    rw [hs u ((h.mem u).1 hu1).1 hu2]
    omega
end

/-- Both orders, and that ways end. -/
structure Aux (s : RS) (tk wt : List Nat) : Prop where
  tk : TkOk s tk
  wt : WtOk s wt
  ch : Chained s
  n0 : 0 ≤ s.next

section
variable {s s' : RS} {tk wt : List Nat}
theorem ahd_same (ho : s'.owner = s.owner) (u : Nat) (hf : (R.th s'.T u).for_ = (R.th s.T u).for_) (hof : (R.th s'.T u).of_ = (R.th s.T u).of_) : R.ahd s' u = R.ahd s u := by
  unfold R.ahd
  rw [ho, hf, hof]
/-- Nothing that the orders hang on has changed. -/
theorem Aux.same (h : Aux s tk wt) (ok : R.LinksOk s) (hl : s'.T.length = s.T.length) (ho : s'.owner = s.owner) (hn : s.next ≤ s'.next) (ht : ∀ u, u < s.T.length → (R.th s'.T u).tick = (R.th s.T u).tick ∧ (R.th s'.T u).for_ = (R.th s.T u).for_ ∧ (R.th s'.T u).of_ = (R.th s.T u).of_ ∧ (R.th s'.T u).since = (R.th s.T u).since ∧ ((R.th s'.T u).awake = true → (R.th s.T u).awake = true)) : Aux s' tk wt :=
  ⟨h.tk.same hl hn (fun u hu => (ht u hu).1) (fun u hu => (ht u hu).2.2.2.2), h.wt.same hl hn (fun u hu => (ht u hu).2.1) (fun u hu => (ht u hu).2.2.2.1),
    h.ch.turn hl (ahd_bd ok) (fun u hu => .inl (ahd_same ho u (ht u hu).2.1 (ht u hu).2.2.1)), Int.le_trans h.n0 hn⟩
theorem Aux.modify (h : Aux s tk wt) (ok : R.LinksOk s) (t : Nat) (f : RT → RT) (hf : ∀ x, (f x).tick = x.tick ∧ (f x).for_ = x.for_ ∧ (f x).of_ = x.of_ ∧ (f x).since = x.since ∧ ((f x).awake = true → x.awake = true)) : Aux { s with T := s.T.modify t f } tk wt := by
  refine h.same ok (by simp) rfl (Int.le_refl _) fun u hu => ?_
  show (R.th (s.T.modify t f) u).tick = _ ∧ (R.th (s.T.modify t f) u).for_ = _ ∧ (R.th (s.T.modify t f) u).of_ = _ ∧ (R.th (s.T.modify t f) u).since = _ ∧ ((R.th (s.T.modify t f) u).awake = true → _)
  rw [th_modify]
  split
  · exact hf _
  · exact ⟨rfl, rfl, rfl, rfl, id⟩
/-- A thread draws a ticket; whatever else is turned of it, waits are not. -/
theorem Aux.draws (h : Aux s tk wt) (ok : R.LinksOk s) (t : Nat) (htl : t < s.T.length) (f : RT → RT) (hf : ∀ x, (f x).tick = s.next + 1 ∧ (f x).for_ = x.for_ ∧ (f x).of_ = x.of_ ∧ (f x).since = x.since) : Aux { s with next := s.next + 1, T := s.T.modify t f } (less tk t ++ [t]) wt := by
  have hth : ∀ u, R.th (s.T.modify t f) u = if u = t then f (R.th s.T u) else R.th s.T u := by
    intro u
    rw [th_modify]
    simp [htl]
  refine ⟨h.tk.draw t htl h.n0 (by simp) rfl (fun u hu => ?_) (fun u hu hne => ?_), h.wt.same (by simp) (by simp; omega) (fun u hu => ?_) (fun u hu => ?_), h.ch.turn (by simp) (ahd_bd ok) (fun u hu => .inl (ahd_same (by rfl) u ?_ ?_)), by have := h.n0; simp; omega⟩
  all_goals (show _; dsimp only; rw [hth u])
  · split
    · exact (hf _).1
    · rfl
  · rw [if_neg hne]; exact id
  all_goals split
  all_goals first | rfl | exact (hf _).2.1 | exact (hf _).2.2.1 | exact (hf _).2.2.2
theorem Aux.wake (h : Aux s tk wt) (ok : R.LinksOk s) (t : Nat) (htl : t < s.T.length) : Aux (R.wake s t) (less tk t ++ [t]) wt :=
  h.draws ok t htl _ fun _ => ⟨rfl, rfl, rfl, rfl⟩
/-- A wait ends (P10, P12 to P15). -/
theorem Aux.endW (h : Aux s tk wt) (ok : R.LinksOk s) (t : Nat) (htl : t < s.T.length) (c : Int) : Aux (R.endW s t c) (less tk t ++ [t]) (less wt t) := by
  have e : R.endW s t c = { s with next := s.next + 1, T := s.T.modify t (fun x => { x with for_ := 0, of_ := 0, until_ := 0, last := c, awake := true, tick := s.next + 1 }) } := by
    unfold R.endW R.wake
    simp only [List.modify_modify_eq]
    rfl
  rw [e]
  have hth : ∀ u, R.th (s.T.modify t (fun x => { x with for_ := 0, of_ := 0, until_ := 0, last := c, awake := true, tick := s.next + 1 })) u = if u = t then { R.th s.T u with for_ := 0, of_ := 0, until_ := 0, last := c, awake := true, tick := s.next + 1 } else R.th s.T u := by
    intro u
    rw [th_modify]
    simp [htl]
  refine ⟨h.tk.draw t htl h.n0 (by simp) rfl (fun u hu => ?_) (fun u hu hne => ?_), h.wt.del t (by simp) (by simp; omega) (fun u hu hne => ?_) ?_ (fun u hu hne => ?_), h.ch.turn (by simp) (ahd_bd ok) (fun u hu => ?_), by have := h.n0; simp; omega⟩
  · dsimp only
    rw [hth u]
    split <;> rfl
  · dsimp only
    rw [hth u, if_neg hne]; exact id
  · dsimp only
    rw [hth u, if_neg hne]
  · dsimp only
    rw [hth t, if_pos rfl]
  · dsimp only
    rw [hth u, if_neg hne]
  · by_cases e2 : u = t
    · right
      refine ⟨0, .stop _ ?_⟩
      unfold R.ahd
      dsimp only
      rw [hth u, if_pos e2, if_neg (show ¬ (0 : Int) = 1 by decide)]
      decide
    · left
      refine ahd_same (by rfl) u ?_ ?_ <;> dsimp only <;> rw [hth u, if_neg e2]
/-- A wait begins. -/
theorem Aux.beginW (h : Aux s tk wt) (ok : R.LinksOk s) (t : Nat) (htl : t < s.T.length) (h0 : (R.th s.T t).for_ = 0) (what of_ n : Int) (hw : what ≠ 0) (hm : what = 1 → ∃ m : Nat, of_ = (m : Int) ∧ m < s.owner.length ∧ R.round s t m = false) : Aux (R.beginW s t what of_ n) tk (wt ++ [t]) := by
  have hth : ∀ u, R.th (R.beginW s t what of_ n).T u = if u = t then { R.th s.T u with awake := false, wkr := -1, for_ := what, of_ := of_, until_ := if 0 ≤ n then s.now + n else -1, since := s.next + 1 } else R.th s.T u := by
    intro u
    unfold R.beginW
    dsimp only
    rw [th_modify]
    simp [htl]
  have hl : (R.beginW s t what of_ n).T.length = s.T.length := by simp [R.beginW]
  have hn : (R.beginW s t what of_ n).next = s.next + 1 := rfl
  have ho : (R.beginW s t what of_ n).owner = s.owner := rfl
  have hoth : ∀ u, u ≠ t → R.ahd (R.beginW s t what of_ n) u = R.ahd s u := fun u hu => by
    refine ahd_same ho u ?_ ?_ <;> rw [hth u, if_neg hu]
  refine ⟨h.tk.same hl (by omega) (fun u hu => ?_) (fun u hu => ?_), h.wt.add t htl h0 hl hn (fun u hu hne => ?_) ?_ (fun u hu => ?_), h.ch.turn hl (ahd_bd ok) (fun u hu => ?_), by have := h.n0; omega⟩
  · rw [hth u]; split <;> rfl
  · rw [hth u]; split
    · intro e; cases e
    · exact id
  · rw [hth u, if_neg hne]
  · rw [hth t, if_pos rfl]; exact hw
  · rw [hth u]; split <;> rfl
  · by_cases e : u = t
    · right
      subst e
      have ea : R.ahd (R.beginW s u what of_ n) u = if what = 1 then s.owner.getD of_.toNat 0 else -1 := by
        unfold R.ahd
        rw [hth u, if_pos rfl, ho]
      rw [ea]
      by_cases h1 : what = 1
      · rw [if_pos h1]
        obtain ⟨m, rfl, hml, hr⟩ := hm h1
        obtain ⟨k, hk, he⟩ := round_eq ok h.ch u m hml
        rw [he] at hr
        exact ⟨k, hk.past hoth hr⟩
      · rw [if_neg h1]
        exact ⟨0, .stop _ (by decide)⟩
    · exact .inl (hoth u e)
end
end Ln
end Go.Proofs.Ytbkfildnijjioab

/-
  A mutex gets another owner; the waits whose time is now end in the order in which they began (P10).
-/
namespace Go.Proofs.Ytbkfildnijjioab
namespace Ln

section
variable {s s' : RS} {tk wt : List Nat}
/-- A mutex is given to one who does not wait, or to nobody. -/
theorem Aux.setOwner (h : Aux s tk wt) (ok : R.LinksOk s) (m : Nat) (v : Int) (hv : v < 0 ∨ ∃ x : Nat, v = (x : Int) ∧ (R.th s.T x).for_ ≠ 1) : Aux { s with owner := s.owner.set m v } tk wt := by
  refine ⟨h.tk.same rfl (Int.le_refl _) (fun _ _ => rfl) (fun _ _ => id), h.wt.same rfl (Int.le_refl _) (fun _ _ => rfl) (fun _ _ => rfl), h.ch.turn rfl (ahd_bd ok) (fun u hu => ?_), h.n0⟩
  have hend : ∃ k, EndsIn { s with owner := s.owner.set m v } k v := by
    rcases hv with hv | ⟨x, rfl, hx⟩
    · exact ⟨0, .stop _ hv⟩
    · refine ⟨1, .step 0 _ (by omega) (.stop _ ?_)⟩
      unfold R.ahd
      rw [if_neg (by simpa using hx)]
      decide
  unfold R.ahd
  by_cases h1 : (R.th s.T u).for_ = 1
  · have h2 := ok.of1 u hu h1
    by_cases e : (R.th s.T u).of_.toNat = m
    · right
      rw [if_pos (by exact h1)]
      have : (s.owner.set m v).getD (R.th s.T u).of_.toNat 0 = v := by
        rw [e]
        have : m < s.owner.length := by omega
        simp [List.getD, this]
      show ∃ k, EndsIn _ k ((s.owner.set m v).getD (R.th s.T u).of_.toNat 0)
      rw [this]
      exact hend
    · left
      rw [if_pos (by exact h1), if_pos h1]
      exact R.getD_set_ne _ _ _ _ (fun e' => e e'.symm)
  · left
    rw [if_neg (by exact h1), if_neg h1]

/-- Whose wait ends now. -/
def dueB (s : RS) (u : Nat) : Bool := decide ((R.th s.T u).until_ = s.now)
def dues (s : RS) (wt : List Nat) : List Nat := wt.filter (dueB s)
def codeOf (s : RS) (u : Nat) : Int := if (R.th s.T u).for_ = 4 then 0 else 2
def endAll (l : List Nat) (s : RS) : RS := l.foldl (fun s t => R.endW s t (codeOf s t)) s

theorem dueTo_min (h : WtOk s wt) (k : Nat) (hk : k ≤ s.T.length) :
    (R.dueTo s.T s.now k = -1 ∧ ∀ u, u < k → u ∉ dues s wt) ∨ ∃ b : Nat, R.dueTo s.T s.now k = (b : Int) ∧ b < k ∧ b ∈ dues s wt ∧ ∀ u, u < k → u ∈ dues s wt → u ≠ b → sinceOf s b < sinceOf s u := by
  have hmem : ∀ u, u < s.T.length → (u ∈ dues s wt ↔ (R.th s.T u).for_ ≠ 0 ∧ (R.th s.T u).until_ = s.now) := by
    intro u hu
    unfold dues dueB
    rw [List.mem_filter, h.mem, decide_eq_true_eq]
    constructor
    · rintro ⟨⟨_, a⟩, b⟩; exact ⟨a, b⟩
    · rintro ⟨a, b⟩; exact ⟨⟨hu, a⟩, b⟩
  induction k with
  | zero => exact .inl ⟨rfl, fun u hu => by omega⟩
  | succ k ih =>
    have split_lt : ∀ u, u < k + 1 → u < k ∨ u = k := fun u hu => by omega
    unfold R.dueTo
    by_cases hc : k ∈ dues s wt
    · obtain ⟨c1, c2⟩ := (hmem k (by omega)).1 hc
      have hkw : k ∈ wt := (List.mem_filter.1 hc).1
      rcases ih (by omega) with ⟨e, hn⟩ | ⟨b, e, hb, hcb, hmin⟩
      · rw [if_pos ⟨c1, c2, .inl (by omega)⟩]
        refine .inr ⟨k, rfl, by omega, hc, fun u hu hcu hne => ?_⟩
        rcases split_lt u hu with h1 | h1
        · exact absurd hcu (hn u h1)
        · exact absurd h1 hne
      · have hbw : b ∈ wt := (List.mem_filter.1 hcb).1
        have hbn : (Int.toNat (b : Int)) = b := by omega
        rw [e, hbn]
        by_cases hf : (R.th s.T k).since < (R.th s.T b).since
        · rw [if_pos ⟨c1, c2, .inr hf⟩]
          refine .inr ⟨k, rfl, by omega, hc, fun u hu hcu hne => ?_⟩
          rcases split_lt u hu with h1 | h1
          · by_cases e3 : u = b
            · subst e3; exact hf
            · exact Int.lt_trans hf (hmin u h1 hcu e3)
          · exact absurd h1 hne
        · rw [if_neg (by rintro ⟨_, _, h1 | h1⟩; omega; exact hf h1)]
          refine .inr ⟨b, rfl, by omega, hcb, fun u hu hcu hne => ?_⟩
          rcases split_lt u hu with h1 | h1
          · exact hmin u h1 hcu hne
          · subst h1
            have := h.since_ne hbw hkw (Ne.symm hne)
            unfold sinceOf at this ⊢
            omega
    · have hc' : ¬ ((R.th s.T k).for_ ≠ 0 ∧ (R.th s.T k).until_ = s.now ∧ (R.dueTo s.T s.now k < 0 ∨ (R.th s.T k).since < (R.th s.T (R.dueTo s.T s.now k).toNat).since)) := fun hh => hc ((hmem k (by omega)).2 ⟨hh.1, hh.2.1⟩)
      rw [if_neg hc']
      rcases ih (by omega) with ⟨e, hn⟩ | ⟨b, e, hb, hcb, hmin⟩
      · refine .inl ⟨e, fun u hu hcu => ?_⟩
        rcases split_lt u hu with h1 | h1
        · exact hn u h1 hcu
        · subst h1; exact hc hcu
      · refine .inr ⟨b, e, by omega, hcb, fun u hu hcu hne => ?_⟩
        rcases split_lt u hu with h1 | h1
        · exact hmin u h1 hcu hne
        · subst h1; exact absurd hcu hc

theorem due_head (h : WtOk s wt) : R.due s = match dues s wt with | [] => -1 | b :: _ => (b : Int) := by
  have hs : (dues s wt).Pairwise (fun a b => sinceOf s a < sinceOf s b) := h.ord.sublist List.filter_sublist
  have hbd : ∀ u ∈ dues s wt, u < s.T.length := fun u hu => ((h.mem u).1 (List.mem_filter.1 hu).1).1
  unfold R.due
  rcases dueTo_min h s.T.length (Nat.le_refl _) with ⟨e, hn⟩ | ⟨b, e, hb, hcb, hmin⟩
  · rw [e]
    generalize dues s wt = L at *
    cases L with
    | nil => rfl
    | cons x L => exact absurd (List.mem_cons_self) (hn x (hbd x (by simp)))
  · rw [e]
    generalize dues s wt = L at *
    cases L with
    | nil => cases hcb
    | cons x L =>
      by_cases hx : x = b
      · rw [hx]
      · exfalso
        have h1 := hmin x (hbd x (by simp)) (by simp) hx
        rcases List.mem_cons.1 hcb with h2 | h2
        · exact hx h2.symm
        · have := (List.pairwise_cons.1 hs).1 b h2
          omega

theorem endW_length (t : Nat) (c : Int) : (R.endW s t c).T.length = s.T.length := by simp [R.endW, R.wake]
theorem endW_th (t : Nat) (htl : t < s.T.length) (c : Int) (u : Nat) : R.th (R.endW s t c).T u = if u = t then { R.th s.T u with for_ := 0, of_ := 0, until_ := 0, last := c, awake := true, tick := s.next + 1 } else R.th s.T u := by
  unfold R.endW R.wake
  simp only [List.modify_modify_eq]
  rw [th_modify]
  simp only [htl, and_true]
  split <;> rfl
theorem LinksOk.endW (ok : R.LinksOk s) (t : Nat) (htl : t < s.T.length) (c : Int) : R.LinksOk (R.endW s t c) := by
  refine ⟨ok.len, fun i hi => ?_, fun u hu hf => ?_, ok.kind⟩
  · rw [endW_length]
    exact ok.own i hi
  · rw [endW_length] at hu
    rw [endW_th t htl c u] at hf ⊢
    by_cases e : u = t
    · rw [if_pos e] at hf
      cases hf
    · rw [if_neg e] at hf ⊢
      exact ok.of1 u hu hf

/-- The waits whose time is now end one by one: those that the document names, in its order. -/
theorem ends_all (h : Aux s tk wt) (ok : R.LinksOk s) : R.ends s = endAll (dues s wt) s := by
  have key : ∀ (n : Nat) (s : RS) (tk wt : List Nat), Aux s tk wt → R.LinksOk s → (dues s wt).length ≤ n → R.endsTo s n = endAll (dues s wt) s := by
    intro n
    induction n with
    | zero =>
      intro s tk wt _ _ hn
      have : dues s wt = [] := List.length_eq_zero_iff.1 (by omega)
      rw [this]
      rfl
    | succ n ih =>
      intro s tk wt h ok hn
      have hsw : ∀ n s, R.endsTo s (n + 1) = R.endsTo (R.endOne s) n := by
        intro n
        induction n with
        | zero => intro s; rfl
        | succ n ih => intro s; show R.endOne (R.endsTo s (n + 1)) = R.endOne (R.endsTo (R.endOne s) n); rw [ih]
      rw [hsw]
      have hd := due_head h.wt
      cases hD : dues s wt with
      | nil =>
        rw [hD] at hd
        have e : R.endOne s = s := by unfold R.endOne; rw [if_pos (by rw [hd]; decide)]
        rw [e]
        have := ih s tk wt h ok (by rw [hD]; simp)
        rw [this, hD]
      | cons b L =>
        rw [hD] at hd
        have hd' : R.due s = (b : Int) := hd
        have hmem : b ∈ dues s wt := by rw [hD]; simp
        have hbl : b < s.T.length := ((h.wt.mem b).1 (List.mem_filter.1 hmem).1).1
        have e : R.endOne s = R.endW s b (codeOf s b) := by
          unfold R.endOne
          rw [if_neg (by rw [hd']; omega), hd']
          rfl
        rw [e]
        have hnd : (dues s wt).Nodup := h.wt.nodup.sublist List.filter_sublist
        rw [hD] at hnd
        have hD' : dues (R.endW s b (codeOf s b)) (less wt b) = L := by
          have : dues (R.endW s b (codeOf s b)) (less wt b) = less (dues s wt) b := by
            unfold dues less
            rw [List.filter_filter, List.filter_filter]
            refine List.filter_congr fun u hu => ?_
            unfold dueB
            rw [endW_th b hbl]
            by_cases e : u = b
            · simp [e]
            · rw [if_neg e]
              simp [e]
              rfl
          rw [this, hD]
          unfold less
          rw [List.filter_cons_of_neg (by simp)]
          exact List.filter_eq_self.2 fun a ha => by
            simp
            exact fun e => (List.nodup_cons.1 hnd).1 (e ▸ ha)
        have := ih (R.endW s b (codeOf s b)) _ (less wt b) (h.endW ok b hbl _) (LinksOk.endW ok b hbl _) (by rw [hD']; rw [hD] at hn; simp at hn; omega)
        rw [this, hD']
        rfl
  have hle : (dues s wt).length ≤ s.T.length := by
    have := nodup_le' (dues s wt) (List.range s.T.length) (h.wt.nodup.sublist List.filter_sublist) (fun x hx => by simpa using ((h.wt.mem x).1 (List.mem_filter.1 hx).1).1)
    simpa using this
  exact key s.T.length s tk wt h ok hle
end
end Ln
end Go.Proofs.Ytbkfildnijjioab

/-
  Workers given out by the tickets' order put in the order of levels (P5, P6), where a thread that has just begun to wait may still be on its worker.
-/
namespace Go.Proofs.Ytbkfildnijjioab
namespace Ln

/-- As Wk, but that a worker may still name a thread that is not awake. -/
structure WkW (n : Nat) (ws : List Int) (T : List RT) : Prop where
  len : ws.length = n
  tb : ∀ t (ht : t < T.length), -1 ≤ T[t].wkr ∧ T[t].wkr < n
  wb : ∀ w (hw : w < ws.length), -1 ≤ ws[w] ∧ ws[w] < T.length
  eq : ∀ w (hw : w < ws.length) t (ht : t < T.length), T[t].awake = true → (ws[w] = (t : Int) ↔ T[t].wkr = (w : Int))
theorem Wk.weak {n : Nat} {ws : List Int} {T : List RT} (h : Wk n ws T) : WkW n ws T := ⟨h.len, h.tb, h.wb, fun w hw t ht _ => h.eq w hw t ht⟩

section
variable {ah : Nat → Nat → Bool} {l : List Int} {T : List RT} {n : Nat}
theorem WkW.clear {ws : List Int} (h : WkW n ws T) (st : Strict ah T.length) (irr : ∀ a, ah a a = false) (ag : Agrees ah l T) : Wk n (freed (chosen ah T n) ws) (R.clearTo (R.place l T n) n T T.length) ∧ InCh (chosen ah T n) (freed (chosen ah T n) ws) := by
  have hl : (R.clearTo (R.place l T n) n T T.length).length = T.length := R.clearTo_length _ _ _ _
  have hT : ∀ t (ht : t < (R.clearTo (R.place l T n) n T T.length).length), (R.clearTo (R.place l T n) n T T.length)[t].wkr = if R.place l T n t = (n : Int) then -1 else (T[t]'(by rw [← hl]; exact ht)).wkr := by
    intro t ht
    have ht' : t < T.length := by rw [← hl]; exact ht
    have := clearTo_th (R.place l T n) n T T.length t ht'
    rw [th_ext ht, th_ext ht'] at this
    rw [this]
    simp [ht']
  have hw : ∀ w (hw : w < (freed (chosen ah T n) ws).length), (freed (chosen ah T n) ws)[w] = if ∃ t ∈ chosen ah T n, (t : Int) = ws[w]'(by simpa [freed] using hw) then ws[w]'(by simpa [freed] using hw) else -1 := by
    intro w hw
    simp [freed]
  refine ⟨⟨by simp [freed]; exact h.len, fun t ht => ?_, fun w hw' => ?_, fun w hw' t ht => ?_⟩, fun x hx h0 => ?_⟩
  · rw [hT t ht]
    split
    · omega
    · exact h.tb t _
  · have hw2 : w < ws.length := by simpa [freed] using hw'
    rw [hw w hw', hl]
    split
    · exact h.wb w hw2
    · omega
  · have hw2 : w < ws.length := by simpa [freed] using hw'
    have ht' : t < T.length := by rw [← hl]; exact ht
    have hc := mem_chosen (n := n) st irr ag t ht'
    rw [hw w hw', hT t ht]
    by_cases hp : R.place l T n t = (n : Int)
    · rw [if_pos hp]
      have hnc : t ∉ chosen ah T n := fun hm => hc.1 hm hp
      split
      · rename_i hex
        obtain ⟨u, hu, e⟩ := hex
        constructor
        · intro e2
          have : u = t := by omega
          subst this
          exact absurd hu hnc
        · omega
      · constructor <;> omega
    · rw [if_neg hp]
      have hic : t ∈ chosen ah T n := hc.2 hp
      have haw : T[t].awake = true := by
        have := (line_mem.1 (List.mem_of_mem_take hic)).2
        unfold awakes at this
        rwa [th_ext ht'] at this
      have he := h.eq w hw2 t ht' haw
      split
      · exact he
      · rename_i hex
        constructor
        · omega
        · intro e2
          exact absurd ⟨t, hic, (he.2 e2).symm⟩ hex
  · unfold freed at hx
    obtain ⟨y, hy, rfl⟩ := List.mem_map.1 hx
    split at h0
    · rename_i hex
      rw [if_pos hex]
      exact hex
    · omega
theorem giveOut_settleW {ws : List Int} (h : WkW n ws T) (st : Strict ah T.length) (irr : ∀ a, ah a a = false) (ag : Agrees ah l T) : Wk n (giveOut ah T n ws) (R.settleT l T n) := by
  obtain ⟨h1, h2⟩ := h.clear (l := l) st irr ag
  have hl : (R.clearTo (R.place l T n) n T T.length).length = T.length := R.clearTo_length _ _ _ _
  have hcl : (chosen ah T n).length ≤ n := by unfold chosen; simp; omega
  have hs := seats (at_ := R.place l T n) hcl h1 (fun t ht => by
      rw [hl]
      unfold chosen at ht
      exact (line_mem.1 (List.mem_of_mem_take ht)).1) h2 (fun r hr k hk => by
      rw [hl] at hk
      have hr2 : r < n ∧ r < (line ah (awakes T) T.length).length := by unfold chosen at hr; simp at hr; omega
      rw [place_line st irr ag r hr2.1 k hk]
      have e : (chosen ah T n)[r] = (line ah (awakes T) T.length)[r]'hr2.2 := by simp [chosen]
      rw [e]
      constructor
      · rintro ⟨_, e⟩
        exact e.symm
      · intro e
        exact ⟨hr2.2, e.symm⟩) (fun r hr hrn k hk e => by
      rw [hl] at hk
      obtain ⟨h3, _⟩ := (place_line st irr ag r hrn k hk).1 e
      unfold chosen at hr
      simp at hr
      omega) n (Nat.le_refl _)
  have := hs.1
  rw [List.take_of_length_le hcl] at this
  exact this
end

/-- The place of a thread in the tickets' order. -/
def posOf (tk : List Nat) (t : Nat) : Int := (tk.idxOf t : Nat)
theorem posOf_pairwise {tk : List Nat} (hn : tk.Nodup) : tk.Pairwise (fun a b => posOf tk a < posOf tk b) := by
  rw [List.pairwise_iff_getElem]
  intro i j hi hj hij
  unfold posOf
  rw [hn.idxOf_getElem i hi, hn.idxOf_getElem j hj]
  omega

/-- The awake threads, the one that goes ahead of all first. -/
def awakeLine (s : RS) (tk : List Nat) : List Nat := byLv (R.Level s) (tk.filter (awakes s.T))
def seatAll (s : RS) (tk : List Nat) (ws : List Int) : List Int := ((awakeLine s tk).take ws.length).foldl seat (freed ((awakeLine s tk).take ws.length) ws)

section
variable {s : RS} {tk : List Nat}
theorem TkOk.strict (h : TkOk s tk) : Strict (fine (R.Level s) (posOf tk)) s.T.length := by
  refine ⟨fun a b _ _ => fine_asym _ _ a b, fun a b c _ _ _ => fine_trans _ _ a b c, fun a b ha hb hab => fine_total _ _ a b ?_⟩
  unfold posOf
  intro e
  have ha' := (h.mem a).2 ha
  have hb' := (h.mem b).2 hb
  have e' : tk.idxOf a = tk.idxOf b := by omega
  have h1 := List.getElem_idxOf (List.idxOf_lt_length_of_mem ha')
  have h2 := List.getElem_idxOf (List.idxOf_lt_length_of_mem hb')
  apply hab
  rw [← h1, ← h2]
  simp only [e']
theorem TkOk.agrees (h : TkOk s tk) : Agrees (fine (R.Level s) (posOf tk)) (R.levels s) s.T := by
  intro t u ht hu hat hau hne
  have e1 : (R.levels s).getD t 0 = R.Level s t := by simp [R.levels, List.getD, ht]
  have e2 : (R.levels s).getD u 0 = R.Level s u := by simp [R.levels, List.getD, hu]
  rw [e1, e2]
  unfold fine
  have ht' := List.idxOf_lt_length_of_mem ((h.mem t).2 ht)
  have hu' := List.idxOf_lt_length_of_mem ((h.mem u).2 hu)
  have g1 := List.getElem_idxOf ht'
  have g2 := List.getElem_idxOf hu'
  have p1 := h.aw t ht hat
  have p2 := h.aw u hu hau
  have e : (posOf tk u < posOf tk t) ↔ (R.th s.T u).tick < (R.th s.T t).tick := by
    unfold posOf
    rcases Nat.lt_trichotomy (tk.idxOf u) (tk.idxOf t) with h1 | h1 | h1
    · have := List.pairwise_iff_getElem.1 h.ord _ _ hu' ht' h1
      rw [g1, g2] at this
      omega
    · exfalso
      apply hne
      rw [← g1, ← g2]
      simp only [h1]
    · have := List.pairwise_iff_getElem.1 h.ord _ _ ht' hu' h1
      rw [g1, g2] at this
      omega
  rw [decide_eq_decide.2 e]
theorem TkOk.line (h : TkOk s tk) : Ln.line (fine (R.Level s) (posOf tk)) (awakes s.T) s.T.length = awakeLine s tk := by
  refine sorted_eq (R.Level s) (posOf tk) (line_sorted h.strict) (byLv_sorted _ _ _ ((posOf_pairwise h.nodup).sublist List.filter_sublist)) ?_
  exact (line_perm _ _ _).trans ((h.perm.symm.filter _).trans (byLv_perm _ _).symm)
/-- P5, P6. -/
theorem seatAll_settle (h : TkOk s tk) {ws : List Int} (hw : WkW s.set.workers.toNat ws s.T) : Wk s.set.workers.toNat (seatAll s tk ws) (R.settle s).T := by
  have := giveOut_settleW hw h.strict (fine_irr _ _) h.agrees
  unfold giveOut chosen at this
  rw [h.line] at this
  unfold seatAll
  rw [hw.len]
  exact this
end
end Ln
end Go.Proofs.Ytbkfildnijjioab

/-
  The next job's time, and the newest job's deadline, told by the count of released jobs (P10, P11).
-/
namespace Go.Proofs.Ytbkfildnijjioab
namespace Ln

/-- The next job has its time now just if the document names one; it is that one. -/
theorem due_iff (S : SetD) (t : Nat) (now rel : Int) (hp : 0 ≤ (S.threads.getD t P3.none0).period) (hr : rel = R.relBy S t (now - 1)) (h0 : 0 ≤ rel) :
    ((¬ ((S.threads.getD t P3.none0).period = 0 ∧ 0 < rel) ∧ S.start + (S.threads.getD t P3.none0).offset + rel * (S.threads.getD t P3.none0).period = now) ↔ 0 ≤ R.number (S.threads.getD t P3.none0).period (now - S.start - (S.threads.getD t P3.none0).offset - 0)) ∧
    (0 ≤ R.number (S.threads.getD t P3.none0).period (now - S.start - (S.threads.getD t P3.none0).offset - 0) → R.number (S.threads.getD t P3.none0).period (now - S.start - (S.threads.getD t P3.none0).offset - 0) = rel) := by
  have hs := (relBy_step S t now hp).2
  rw [← hr] at hs
  generalize hg : now - S.start - (S.threads.getD t P3.none0).offset - 0 = g at *
  generalize (S.threads.getD t P3.none0).period = p at *
  generalize (S.threads.getD t P3.none0).offset = o at *
  refine ⟨⟨fun ⟨h1, h2⟩ => ?_, fun h => ?_⟩, fun h => (hs h).symm⟩
  · have hgp : g = rel * p := by omega
    unfold R.number
    by_cases hp0 : p = 0
    · subst hp0
      have : rel = 0 := by omega
      subst this
      simp [hgp]
    · have hn : 0 ≤ rel * p := Int.mul_nonneg h0 hp
      have hm : g % p = 0 := by rw [hgp]; exact Int.mul_emod_left rel p
      have hd : g / p = rel := by rw [hgp]; exact Int.mul_ediv_cancel rel hp0
      rw [if_neg (by omega), if_neg hp0, if_neg (by omega), hd]
      exact h0
  · have e := hs h
    rw [← e] at h
    have hnum : R.number p g = rel := e.symm
    unfold R.number at hnum
    by_cases hg0 : g < 0
    · rw [if_pos hg0] at hnum; omega
    · rw [if_neg hg0] at hnum
      by_cases hp0 : p = 0
      · subst hp0
        rw [if_pos rfl] at hnum
        by_cases hz : g = 0
        · rw [if_pos hz] at hnum
          subst hnum
          simp
          omega
        · rw [if_neg hz] at hnum; omega
      · rw [if_neg hp0] at hnum
        by_cases hm : g % p = 0
        · rw [if_neg (by omega)] at hnum
          have := Int.mul_ediv_add_emod g p
          rw [hnum, hm, Int.mul_comm] at this
          exact ⟨fun h' => hp0 h'.1, by omega⟩
        · rw [if_pos hm] at hnum; omega

/-- The newest job's deadline is now, and it has not ended, just if the document tells a miss; it is that of the newest job. -/
theorem late_iff (S : SetD) (t : Nat) (now rel ended : Int) (hp : 0 ≤ (S.threads.getD t P3.none0).period) (hr : rel = R.relBy S t (now - 1)) (he : 0 ≤ ended) (hd0 : 0 < (S.threads.getD t P3.none0).deadline) (hd1 : (S.threads.getD t P3.none0).period ≠ 0 → (S.threads.getD t P3.none0).deadline ≤ (S.threads.getD t P3.none0).period) :
    ((ended < rel ∧ S.start + (S.threads.getD t P3.none0).offset + (rel - 1) * (S.threads.getD t P3.none0).period + (S.threads.getD t P3.none0).deadline = now) ↔
      (0 ≤ R.number (S.threads.getD t P3.none0).period (now - S.start - (S.threads.getD t P3.none0).offset - (S.threads.getD t P3.none0).deadline) ∧ ended ≤ R.number (S.threads.getD t P3.none0).period (now - S.start - (S.threads.getD t P3.none0).offset - (S.threads.getD t P3.none0).deadline))) ∧
    (0 ≤ R.number (S.threads.getD t P3.none0).period (now - S.start - (S.threads.getD t P3.none0).offset - (S.threads.getD t P3.none0).deadline) → R.number (S.threads.getD t P3.none0).period (now - S.start - (S.threads.getD t P3.none0).offset - (S.threads.getD t P3.none0).deadline) = rel - 1) := by
  unfold R.relBy at hr
  generalize (S.threads.getD t P3.none0).period = p at *
  generalize (S.threads.getD t P3.none0).offset = o at *
  generalize (S.threads.getD t P3.none0).deadline = d at *
  have eg : now - 1 - S.start - o = (now - S.start - o - d) + (d - 1) := by omega
  rw [eg] at hr
  have en : ∀ x : Int, S.start + o + x + d = now ↔ now - S.start - o - d = x := fun x => by omega
  rw [en]
  generalize now - S.start - o - d = g at *
  -- what the document's number says of rel
  have key : 0 ≤ R.number p g → R.number p g = rel - 1 ∧ g = (rel - 1) * p := by
    intro h
    unfold R.number at h ⊢
    by_cases hg0 : g < 0
    · rw [if_pos hg0] at h; omega
    · rw [if_neg hg0] at h ⊢
      rw [if_neg (by omega)] at hr
      by_cases hp0 : p = 0
      · subst hp0
        rw [if_pos rfl] at h hr ⊢
        by_cases hz : g = 0
        · rw [if_pos hz, hr]
          simp [hz]
        · rw [if_neg hz] at h; omega
      · rw [if_neg hp0] at h hr ⊢
        have hd1 := hd1 hp0
        by_cases hm : g % p = 0
        · rw [if_neg (by omega)] at h ⊢
          have e1 := Int.mul_ediv_add_emod g p
          rw [hm] at e1
          have e2 : (g + (d - 1)) / p = g / p := by
            have : g + (d - 1) = (d - 1) + p * (g / p) := by omega
            rw [this, Int.add_mul_ediv_left _ _ hp0, Int.ediv_eq_zero_of_lt (by omega) (by omega)]
            omega
          rw [e2] at hr
          have e3 : rel - 1 = g / p := by omega
          rw [e3, Int.mul_comm]
          exact ⟨rfl, by omega⟩
        · rw [if_pos hm] at h; omega
  refine ⟨⟨fun ⟨h1, h2⟩ => ?_, fun ⟨h1, h2⟩ => ?_⟩, fun h => (key h).1⟩
  · have hnn : R.number p g = rel - 1 := by
      unfold R.number
      have hn : 0 ≤ (rel - 1) * p := Int.mul_nonneg (by omega) hp
      rw [if_neg (by omega)]
      by_cases hp0 : p = 0
      · subst hp0
        have hg : g = 0 := by simpa using h2
        rw [if_pos rfl, if_pos hg]
        rw [if_neg (by omega), if_pos rfl] at hr
        omega
      · rw [if_neg hp0]
        have hm : g % p = 0 := by rw [h2]; exact Int.mul_emod_left _ p
        have hd : g / p = rel - 1 := by rw [h2]; exact Int.mul_ediv_cancel _ hp0
        rw [if_neg (by omega), hd]
    omega
  · obtain ⟨k1, k2⟩ := key h1
    exact ⟨by omega, k2⟩
end Ln
end Go.Proofs.Ytbkfildnijjioab
