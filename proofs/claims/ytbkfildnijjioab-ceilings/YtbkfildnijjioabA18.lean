import Derived.Test.YtbkfildnijjioabA17
import Derived.Test.YtbkfildnijjioabA04
import Derived.Test.YtbkfildnijjioabA11
/-
  What a Tick makes of every thread's wait (P10); what a Pick makes of owners, counts, messages.
-/
namespace Go.Proofs.Ytbkfildnijjioab
namespace R
section
variable {s : RS}
theorem endAll_th (l : List Nat) : ∀ (s : RS), l.Nodup → (∀ u ∈ l, u < s.T.length ∧ (R.th s.T u).for_ ≠ 0) → (Ln.endAll l s).T.length = s.T.length ∧ ∀ u, (u ∈ l → Woken (Ln.codeOf s u) (R.th s.T u) (R.th (Ln.endAll l s).T u)) ∧ (u ∉ l → R.th (Ln.endAll l s).T u = R.th s.T u) := by
  induction l with
  | nil => intro s _ _; exact ⟨rfl, fun u => ⟨fun h => by simp at h, fun _ => rfl⟩⟩
  | cons a l ih =>
    intro s hn hl
    obtain ⟨hna, hnl⟩ := List.nodup_cons.1 hn
    obtain ⟨ha, hf⟩ := hl a (by simp)
    have e : Ln.endAll (a :: l) s = Ln.endAll l (endW s a (Ln.codeOf s a)) := rfl
    have eth := fun u => Ln.endW_th (s := s) a ha (Ln.codeOf s a) u
    obtain ⟨h1, h2⟩ := ih (endW s a (Ln.codeOf s a)) hnl (fun u hu => by
      have hne : u ≠ a := fun e => hna (e ▸ hu)
      rw [Ln.endW_length, eth u, if_neg hne]
      exact hl u (by simp [hu]))
    rw [e]
    refine ⟨h1.trans (Ln.endW_length _ _), fun u => ⟨fun hu => ?_, fun hu => ?_⟩⟩
    · by_cases hua : u = a
      · subst hua
        rw [(h2 u).2 hna, eth u, if_pos rfl]
        exact ⟨hf, rfl, rfl, rfl, rfl, rfl⟩
      · have hul : u ∈ l := by simpa [hua] using hu
        have h3 := (h2 u).1 hul
        have ec : Ln.codeOf (endW s a (Ln.codeOf s a)) u = Ln.codeOf s u := by
          show (if (R.th (endW s a (Ln.codeOf s a)).T u).for_ = 4 then (0 : Int) else 2) = _
          rw [eth u, if_neg hua]
          rfl
        rw [ec, eth u, if_neg hua] at h3
        exact h3
    · have hua : u ≠ a := fun e => hu (by simp [e])
      rw [(h2 u).2 (fun h => hu (by simp [h])), eth u, if_neg hua]
theorem releaseTo_stay (s : RS) (k u : Nat) : Stay (R.th s.T u) (R.th (releaseTo s k).T u) ∧ ((R.th s.T u).awake = true → (R.th (releaseTo s k).T u).awake = true) := by
  have wk : ∀ (v : RS) (t : Nat), Stay (R.th v.T u) (R.th (wake v t).T u) ∧ ((R.th v.T u).awake = true → (R.th (wake v t).T u).awake = true) := by
    intro v t
    have e : R.th (wake v t).T u = if u = t ∧ t < v.T.length then { R.th v.T u with awake := true, tick := v.next + 1 } else R.th v.T u := Ln.th_modify _ _ _ _
    rw [e]
    split
    · exact ⟨⟨rfl, rfl, rfl, rfl, rfl⟩, fun _ => rfl⟩
    · exact ⟨Stay.refl _, id⟩
  have rl : ∀ (v : RS) (t : Nat) (r : Int), Stay (R.th v.T u) (R.th (v.T.modify t (fun x => { x with rel := r })) u) ∧ ((R.th v.T u).awake = true → (R.th (v.T.modify t (fun x => { x with rel := r })) u).awake = true) := by
    intro v t r
    rw [Ln.th_modify]
    split
    · exact ⟨⟨rfl, rfl, rfl, rfl, rfl⟩, id⟩
    · exact ⟨Stay.refl _, id⟩
  induction k with
  | zero => exact ⟨Stay.refl _, id⟩
  | succ k ih =>
    unfold releaseTo releaseOne
    split
    · have h1 := rl (releaseTo s k) k (numberAt (releaseTo s k) k 0 + 1)
      split
      · have h2 := wk { releaseTo s k with T := (releaseTo s k).T.modify k (fun x => { x with rel := numberAt (releaseTo s k) k 0 + 1 }) } k
        exact ⟨(ih.1.trans h1.1).trans h2.1, fun h => h2.2 (h1.2 (ih.2 h))⟩
      · exact ⟨ih.1.trans h1.1, fun h => h1.2 (ih.2 h)⟩
    · exact ih
theorem settle_eq (s : RS) (u : Nat) : ∃ w, R.th (settle s).T u = { R.th s.T u with wkr := w } := by
  by_cases hu : u < s.T.length
  · obtain ⟨w, hw, _⟩ := settle_th (levels s) s.T s.set.workers.toNat u hu
    exact ⟨w, hw⟩
  · have e1 : R.th s.T u = rt0 := by simp [R.th, List.getD, hu]
    have e2 : R.th (settle s).T u = rt0 := by
      have : (settle s).T.length = s.T.length := settleT_length _ _ _
      simp [R.th, List.getD, this, hu]
    exact ⟨0, by rw [e1, e2]; rfl⟩
theorem settle_stay (s : RS) (u : Nat) : Stay (R.th s.T u) (R.th (settle s).T u) ∧ (R.th (settle s).T u).awake = (R.th s.T u).awake ∧ (R.th (settle s).T u).got = (R.th s.T u).got := by
  obtain ⟨w, hw⟩ := settle_eq s u
  rw [hw]
  exact ⟨⟨rfl, rfl, rfl, rfl, rfl⟩, rfl, rfl⟩
/-- P10: a Tick ends just the waits whose time is now. -/
theorem tick_th {tk wt : List Nat} (h : Ln.Aux s tk wt) (ok : LinksOk s) (u : Nat) (hu : u < s.T.length) :
    ((R.th s.T u).for_ ≠ 0 ∧ (R.th s.T u).until_ = s.now + 1 ∧ Woken (if (R.th s.T u).for_ = 4 then 0 else 2) (R.th s.T u) (R.th (tick s).T u)) ∨
    (¬ ((R.th s.T u).for_ ≠ 0 ∧ (R.th s.T u).until_ = s.now + 1) ∧ Stay (R.th s.T u) (R.th (tick s).T u)) := by
  have hm : Ln.Aux (missing s) tk wt := h.same ok rfl rfl (Int.le_refl _) (fun _ _ => ⟨rfl, rfl, rfl, rfl, id⟩)
  have okm : LinksOk (missing s) := ⟨ok.len, ok.own, ok.of1, ok.kind⟩
  have e1 := Ln.ends_all hm okm
  have nd : (Ln.dues (missing s) wt).Nodup := hm.wt.nodup.sublist List.filter_sublist
  have mem : ∀ v, v ∈ Ln.dues (missing s) wt ↔ (v < s.T.length ∧ (R.th s.T v).for_ ≠ 0) ∧ (R.th s.T v).until_ = s.now + 1 := by
    intro v
    unfold Ln.dues
    rw [List.mem_filter, hm.wt.mem]
    have : Ln.dueB (missing s) v = decide ((R.th s.T v).until_ = s.now + 1) := rfl
    rw [this, decide_eq_true_iff]
    exact Iff.rfl
  obtain ⟨_, h2⟩ := endAll_th (Ln.dues (missing s) wt) (missing s) nd (fun v hv => ((mem v).1 hv).1)
  rw [← e1] at h2
  have h3 := releaseTo_stay (ends (missing s)) (ends (missing s)).T.length u
  have h4 := settle_stay (release (ends (missing s))) u
  have e : tick s = settle (release (ends (missing s))) := rfl
  rw [e]
  by_cases hd : u ∈ Ln.dues (missing s) wt
  · left
    have h5 := (mem u).1 hd
    exact ⟨h5.1.2, h5.2, (((h2 u).1 hd).stay h3.1 h3.2).stay h4.1 (fun e => h4.2.1.trans e)⟩
  · right
    refine ⟨fun hh => hd ((mem u).2 ⟨⟨hu, hh.1⟩, hh.2⟩), ?_⟩
    have h5 := (h2 u).2 hd
    have h6 : R.th (missing s).T u = R.th s.T u := rfl
    rw [h6] at h5
    have h7 := h3.1
    rw [h5] at h7
    exact h7.trans h4.1
end
section
variable (s : RS) (t : Nat)
theorem endW_rest (u : Nat) (c : Int) : (endW s u c).owner = s.owner ∧ (endW s u c).count = s.count ∧ (endW s u c).box = s.box := ⟨rfl, rfl, rfl⟩
theorem giveS_rest (what of_ : Int) : (giveS s what of_).owner = s.owner ∧ (giveS s what of_).count = s.count ∧ (giveS s what of_).box = s.box := by
  unfold giveS; split <;> exact ⟨rfl, rfl, rfl⟩
theorem unlockS_rest (m : Nat) : (unlockS s t m).count = s.count ∧ (unlockS s t m).box = s.box := by
  unfold unlockS
  split
  · exact (giveS_rest s 1 (m : Int)).2
  · exact ⟨rfl, rfl⟩
theorem unlocksTo_rest (k : Nat) : (unlocksTo s t k).count = s.count ∧ (unlocksTo s t k).box = s.box := by
  induction k with
  | zero => exact ⟨rfl, rfl⟩
  | succ k ih =>
    unfold unlocksTo
    have h := unlockS_rest (unlocksTo s t k) t k
    exact ⟨h.1.trans ih.1, h.2.trans ih.2⟩
theorem stop_rest : (stop s t).count = s.count ∧ (stop s t).box = s.box ∧ (stop s t).owner = (unlocksTo (stop0 s t) t s.owner.length).owner := by
  have h := unlocksTo_rest (stop0 s t) t s.owner.length
  unfold stop
  split
  · exact ⟨h.1, h.2, rfl⟩
  · exact ⟨h.1, h.2, rfl⟩
theorem lockS_rest (m : Nat) (n : Int) : (lockS s t m n).count = s.count ∧ (lockS s t m n).box = s.box ∧ (lockS s t m n).owner = if lockC s t m n = 0 then s.owner.set m (t : Int) else s.owner := by
  unfold lockS
  split
  · exact ⟨rfl, rfl, rfl⟩
  · split <;> exact ⟨rfl, rfl, rfl⟩
theorem downS_rest (a : Nat) (b : Int) : (downS s t a b).owner = s.owner ∧ (downS s t a b).box = s.box ∧ (downS s t a b).count = if downC s a b = 0 then s.count.set a (s.count.getD a 0 - 1) else s.count := by
  unfold downS
  split
  · exact ⟨rfl, rfl, rfl⟩
  · split <;> exact ⟨rfl, rfl, rfl⟩
theorem upS_rest (a : Nat) : (upS s a).owner = s.owner ∧ (upS s a).box = s.box ∧ (upS s a).count = if 0 ≤ giveT s 2 (a : Int) ∨ s.count.getD a 0 = (s.set.sems.getD a pair0).y then s.count else s.count.set a (s.count.getD a 0 + 1) := by
  unfold upS
  have h := giveS_rest s 2 (a : Int)
  by_cases h1 : 0 ≤ giveT s 2 (a : Int)
  · rw [if_pos h1, if_pos (.inl h1)]
    exact ⟨h.1, h.2.2, h.2.1⟩
  · rw [if_neg h1]
    by_cases h2 : s.count.getD a 0 = (s.set.sems.getD a pair0).y
    · rw [if_pos h2, if_pos (.inr h2)]
      exact ⟨rfl, rfl, rfl⟩
    · rw [if_neg h2, if_neg (fun h => h.elim h1 h2)]
      exact ⟨rfl, rfl, rfl⟩
theorem recvS_rest (a : Nat) (b : Int) : (recvS s t a b).owner = s.owner ∧ (recvS s t a b).count = s.count ∧ (recvS s t a b).box = if recvC s a b = 0 then s.box.set a ((boxAt s a).drop 1) else s.box := by
  unfold recvS
  split
  · exact ⟨rfl, rfl, rfl⟩
  · split <;> exact ⟨rfl, rfl, rfl⟩
theorem sendS_rest (a : Nat) (b : Int) : (sendS s a b).owner = s.owner ∧ (sendS s a b).count = s.count ∧ (sendS s a b).box = if 0 ≤ giveT s 3 (a : Int) ∨ ((boxAt s a).length : Int) = s.set.queues.getD a 0 then s.box else s.box.set a (boxAt s a ++ [b]) := by
  unfold sendS
  have h := giveS_rest s 3 (a : Int)
  by_cases h1 : 0 ≤ giveT s 3 (a : Int)
  · rw [if_pos h1, if_pos (.inl h1)]
    exact ⟨h.1, h.2.1, h.2.2⟩
  · rw [if_neg h1]
    by_cases h2 : ((boxAt s a).length : Int) = s.set.queues.getD a 0
    · rw [if_pos h2, if_pos (.inr h2)]
      exact ⟨rfl, rfl, rfl⟩
    · rw [if_neg h2, if_neg (fun h => h.elim h1 h2)]
      exact ⟨rfl, rfl, rfl⟩
/-- Owners, counts and messages behind an instruction. -/
theorem actS_count : (actS s t).count = if (instrAt s t).op = 8 then (downS s t (instrAt s t).a.toNat (instrAt s t).b).count else if (instrAt s t).op = 9 then (upS s (instrAt s t).a.toNat).count else s.count := by
  by_cases h0 : (instrAt s t).op = 0
  · have e1 : actS s t = stop s t := by unfold actS; rw [if_pos h0]
    rw [e1, if_neg (by omega), if_neg (by omega)]
    exact (stop_rest s t).1
  by_cases h3 : (instrAt s t).op = 3
  · rw [if_neg (by omega), if_neg (by omega)]
    unfold actS
    rw [if_neg h0, if_pos h3]
    split <;> rfl
  rw [(actS_is s t h0 h3).1]
  show (doesS s t (instrAt s t)).count = _
  generalize instrAt s t = i at *
  unfold doesS
  by_cases h2 : i.op = 2
  · rw [if_pos h2, if_neg (by omega), if_neg (by omega)]
  rw [if_neg h2]
  by_cases h4 : i.op = 4
  · rw [if_pos h4, if_neg (by omega), if_neg (by omega)]
  rw [if_neg h4]
  by_cases h5 : i.op = 5
  · rw [if_pos h5, if_neg (by omega), if_neg (by omega)]; rfl
  rw [if_neg h5]
  by_cases h6 : i.op = 6
  · rw [if_pos h6, if_neg (by omega), if_neg (by omega)]; exact (lockS_rest s t _ _).1
  rw [if_neg h6]
  by_cases h7 : i.op = 7
  · rw [if_pos h7, if_neg (by omega), if_neg (by omega)]; exact (unlockS_rest s t _).1
  rw [if_neg h7]
  by_cases h8 : i.op = 8
  · rw [if_pos h8, if_pos h8]
  rw [if_neg h8, if_neg h8]
  by_cases h9 : i.op = 9
  · rw [if_pos h9, if_pos h9]
  rw [if_neg h9, if_neg h9]
  by_cases h10 : i.op = 10
  · rw [if_pos h10]; exact (sendS_rest s _ _).2.1
  rw [if_neg h10]
  by_cases h11 : i.op = 11
  · rw [if_pos h11]; exact (recvS_rest s t _ _).2.1
  rw [if_neg h11]
theorem actS_box : (actS s t).box = if (instrAt s t).op = 10 then (sendS s (instrAt s t).a.toNat (instrAt s t).b).box else if (instrAt s t).op = 11 then (recvS s t (instrAt s t).a.toNat (instrAt s t).b).box else s.box := by
  by_cases h0 : (instrAt s t).op = 0
  · have e1 : actS s t = stop s t := by unfold actS; rw [if_pos h0]
    rw [e1, if_neg (by omega), if_neg (by omega)]
    exact (stop_rest s t).2.1
  by_cases h3 : (instrAt s t).op = 3
  · rw [if_neg (by omega), if_neg (by omega)]
    unfold actS
    rw [if_neg h0, if_pos h3]
    split <;> rfl
  rw [(actS_is s t h0 h3).1]
  show (doesS s t (instrAt s t)).box = _
  generalize instrAt s t = i at *
  unfold doesS
  by_cases h2 : i.op = 2
  · rw [if_pos h2, if_neg (by omega), if_neg (by omega)]
  rw [if_neg h2]
  by_cases h4 : i.op = 4
  · rw [if_pos h4, if_neg (by omega), if_neg (by omega)]
  rw [if_neg h4]
  by_cases h5 : i.op = 5
  · rw [if_pos h5, if_neg (by omega), if_neg (by omega)]; rfl
  rw [if_neg h5]
  by_cases h6 : i.op = 6
  · rw [if_pos h6, if_neg (by omega), if_neg (by omega)]; exact (lockS_rest s t _ _).2.1
  rw [if_neg h6]
  by_cases h7 : i.op = 7
  · rw [if_pos h7, if_neg (by omega), if_neg (by omega)]; exact (unlockS_rest s t _).2
  rw [if_neg h7]
  by_cases h8 : i.op = 8
  · rw [if_pos h8, if_neg (by omega), if_neg (by omega)]; exact (downS_rest s t _ _).2.1
  rw [if_neg h8]
  by_cases h9 : i.op = 9
  · rw [if_pos h9, if_neg (by omega), if_neg (by omega)]; exact (upS_rest s _).2.1
  rw [if_neg h9]
  by_cases h10 : i.op = 10
  · rw [if_pos h10, if_pos h10]
  rw [if_neg h10, if_neg h10]
  by_cases h11 : i.op = 11
  · rw [if_pos h11, if_pos h11]
  rw [if_neg h11, if_neg h11]
theorem actS_owner : (actS s t).owner = if (instrAt s t).op = 0 then (unlocksTo (stop0 s t) t s.owner.length).owner else if (instrAt s t).op = 6 then (lockS s t (instrAt s t).a.toNat (instrAt s t).b).owner else if (instrAt s t).op = 7 then (unlockS s t (instrAt s t).a.toNat).owner else s.owner := by
  by_cases h0 : (instrAt s t).op = 0
  · have e1 : actS s t = stop s t := by unfold actS; rw [if_pos h0]
    rw [e1, if_pos h0]
    exact (stop_rest s t).2.2
  rw [if_neg h0]
  by_cases h3 : (instrAt s t).op = 3
  · rw [if_neg (by omega), if_neg (by omega)]
    unfold actS
    rw [if_neg h0, if_pos h3]
    split <;> rfl
  rw [(actS_is s t h0 h3).1]
  show (doesS s t (instrAt s t)).owner = _
  generalize instrAt s t = i at *
  unfold doesS
  by_cases h2 : i.op = 2
  · rw [if_pos h2, if_neg (by omega), if_neg (by omega)]
  rw [if_neg h2]
  by_cases h4 : i.op = 4
  · rw [if_pos h4, if_neg (by omega), if_neg (by omega)]
  rw [if_neg h4]
  by_cases h5 : i.op = 5
  · rw [if_pos h5, if_neg (by omega), if_neg (by omega)]; rfl
  rw [if_neg h5]
  by_cases h6 : i.op = 6
  · rw [if_pos h6, if_pos h6]
  rw [if_neg h6, if_neg h6]
  by_cases h7 : i.op = 7
  · rw [if_pos h7, if_pos h7]
  rw [if_neg h7, if_neg h7]
  by_cases h8 : i.op = 8
  · rw [if_pos h8]; exact (downS_rest s t _ _).1
  rw [if_neg h8]
  by_cases h9 : i.op = 9
  · rw [if_pos h9]; exact (upS_rest s _).1
  rw [if_neg h9]
  by_cases h10 : i.op = 10
  · rw [if_pos h10]; exact (sendS_rest s _ _).1
  rw [if_neg h10]
  by_cases h11 : i.op = 11
  · rw [if_pos h11]; exact (recvS_rest s t _ _).1
  rw [if_neg h11]
end
end R
end Go.Proofs.Ytbkfildnijjioab

/-
  P5: who is seated: just those whose place is among the workers.
-/
namespace Go.Proofs.Ytbkfildnijjioab
namespace R
theorem seatIn_pos (at_ : Nat → Int) (n r : Nat) (T : List RT) (t : Nat) (ht : t < T.length) (ha : at_ t = (r : Int)) (k : Nat) (hk : t < k) : 0 ≤ (R.th (seatIn at_ n r T k) t).wkr := by
  induction k with
  | zero => omega
  | succ k ih =>
    unfold seatIn
    by_cases e : k = t
    · subst e
      by_cases hc : at_ k = (r : Int) ∧ (R.th (seatIn at_ n r T k) k).wkr < 0
      · rw [if_pos hc, th_setW, if_pos ⟨rfl, by rw [seatIn_length]; exact ht⟩]
        exact Int.natCast_nonneg _
      · rw [if_neg hc]
        have : ¬ (R.th (seatIn at_ n r T k) k).wkr < 0 := fun h => hc ⟨ha, h⟩
        omega
    · have h1 := ih (by omega)
      split
      · rw [th_setW, if_neg (fun h => e h.1.symm)]
        exact h1
      · exact h1
theorem seatTo_pos (at_ : Nat → Int) (n : Nat) (T : List RT) (t : Nat) (ht : t < T.length) (r k : Nat) (ha : at_ t = (r : Int)) (hk : r < k) : 0 ≤ (R.th (seatTo at_ n T k) t).wkr := by
  induction k with
  | zero => omega
  | succ k ih =>
    unfold seatTo
    by_cases e : k = r
    · subst e
      exact seatIn_pos at_ n k _ t (by rw [seatTo_length]; exact ht) ha _ ht
    · have h1 := ih (by omega)
      obtain ⟨w, hw, hn⟩ := seatIn_th at_ n k (seatTo at_ n T k) T.length t
      rw [hw]
      have : w = (R.th (seatTo at_ n T k) t).wkr := hn (by rw [ha]; omega)
      show 0 ≤ w
      rw [this]
      exact h1
theorem settleT_seated (l : List Int) (T : List RT) (n t : Nat) (ht : t < T.length) : 0 ≤ (R.th (settleT l T n) t).wkr ↔ place l T n t ≠ (n : Int) := by
  obtain ⟨b0, b1⟩ := Ln.place_bd (l := l) (T := T) (n := n) t
  unfold settleT
  by_cases hp : place l T n t = (n : Int)
  · obtain ⟨w, hw, hn⟩ := seatTo_th (place l T n) n (clearTo (place l T n) n T T.length) n t
    have hc := clearTo_th (place l T n) n T T.length t ht
    have h1 := hn (fun r hr => by rw [hp]; omega)
    rw [hw]
    show 0 ≤ w ↔ _
    rw [h1, hc]
    simp [ht, hp]
  · obtain ⟨r, hr⟩ := Int.eq_ofNat_of_zero_le b0
    have h1 := seatTo_pos (place l T n) n (clearTo (place l T n) n T T.length) t (by rw [clearTo_length]; exact ht) r n hr (by omega)
    exact ⟨fun _ => hp, fun _ => h1⟩
theorem alike_settle (s : RS) : Alike s (settle s) := by
  refine ⟨rfl, rfl, settleT_length _ _ _, fun u => ?_⟩
  obtain ⟨w, hw⟩ := settle_eq s u
  rw [hw]
  exact ⟨rfl, rfl, rfl, rfl⟩
theorem Level_settle (s : RS) (t : Nat) : Level (settle s) t = Level s t := (alike_settle s).Level t
theorem levels_settle (s : RS) : levels (settle s) = levels s := by
  unfold levels
  rw [show (settle s).T.length = s.T.length from settleT_length _ _ _]
  exact List.map_congr_left fun t _ => Level_settle s t
theorem place_settle (l : List Int) (s : RS) (n : Int) (t : Nat) : place l (settle s).T n t = place l s.T n t := by
  have ha : ∀ u, (R.th (settle s).T u).awake = (R.th s.T u).awake ∧ (R.th (settle s).T u).tick = (R.th s.T u).tick := by
    intro u
    obtain ⟨w, hw⟩ := settle_eq s u
    rw [hw]
    exact ⟨rfl, rfl⟩
  have hr : rank l (settle s).T t = rank l s.T t := by
    unfold rank rankTo
    rw [show (settle s).T.length = s.T.length from settleT_length _ _ _]
    refine List.countP_congr fun u _ => ?_
    unfold ahead
    rw [(ha u).1, (ha u).2, (ha t).2]
  unfold place
  rw [(ha t).1, hr]
/-- Those are seated whose place is among the workers. -/
def Seated (s : RS) : Prop := ∀ t, t < s.T.length → (0 ≤ (R.th s.T t).wkr ↔ place (levels s) s.T (s.set.workers.toNat : Int) t ≠ (s.set.workers.toNat : Int))
theorem settle_seated (s : RS) : Seated (settle s) := by
  intro t ht
  have hl : t < s.T.length := by rw [show (settle s).T.length = s.T.length from settleT_length _ _ _] at ht; exact ht
  rw [levels_settle]
  have e : (settle s).set.workers.toNat = s.set.workers.toNat := rfl
  rw [e, place_settle]
  exact settleT_seated (levels s) s.T s.set.workers.toNat t hl
end R
end Go.Proofs.Ytbkfildnijjioab

/-
  What else holds of the document's kernel behind every step: bases, waits, owners, stores.
-/
namespace Go.Proofs.Ytbkfildnijjioab
namespace R
structure Ext0 (s : RS) : Prop where
  low : ∀ t, t < s.T.length → (R.th s.T t).base ≤ 255
  free : ∀ t, t < s.T.length → (R.th s.T t).for_ = 0 → (R.th s.T t).of_ = 0 ∧ (R.th s.T t).until_ = 0
  wl : ∀ t, t < s.T.length → (R.th s.T t).for_ ≠ 0 → (R.th s.T t).last = 1 ∧ ((R.th s.T t).until_ = -1 ∨ s.now < (R.th s.T t).until_)
  dry2 : ∀ a : Nat, 0 < s.count.getD a 0 → ∀ u, u < s.T.length → ¬ ((R.th s.T u).for_ = 2 ∧ (R.th s.T u).of_ = (a : Int))
  dry3 : ∀ a : Nat, boxAt s a ≠ [] → ∀ u, u < s.T.length → ¬ ((R.th s.T u).for_ = 3 ∧ (R.th s.T u).of_ = (a : Int))
  own1 : ∀ u, u < s.T.length → (R.th s.T u).for_ = 1 → 0 ≤ s.owner.getD (R.th s.T u).of_.toNat 0
  job : ∀ m, m < s.owner.length → 0 ≤ s.owner.getD m 0 → (R.th s.T (s.owner.getD m 0).toNat).ended < (R.th s.T (s.owner.getD m 0).toNat).rel
structure Ext (s : RS) : Prop extends Ext0 s where
  seat : Seated s
/-- What holds of a thread whose instruction is done. -/
structure Picked (s : RS) (t : Nat) : Prop where
  ht : t < s.T.length
  aw : (R.th s.T t).awake = true
  job : (R.th s.T t).ended < (R.th s.T t).rel
  f0 : (R.th s.T t).for_ = 0
  o0 : (R.th s.T t).of_ = 0
  u0 : (R.th s.T t).until_ = 0
  ins : RIns s (instrAt s t)
  sl : (instrAt s t).op = 5 → 1 ≤ (instrAt s t).a
  pr : (instrAt s t).op = 4 → (instrAt s t).b ≤ 255
  wt : (instrAt s t).op = 6 ∨ (instrAt s t).op = 8 ∨ (instrAt s t).op = 11 → -1 ≤ (instrAt s t).b
section
variable {s : RS} {t : Nat}
theorem Picked.lo (p : Picked s t) : 5 ≤ (instrAt s t).op → (instrAt s t).op ≤ 11 → 0 ≤ (instrAt s t).a := by
  intro h1 h2
  have a := p.ins.mtx
  have b := p.ins.sem
  have c := p.ins.que
  have d := p.sl
  rcases (show (instrAt s t).op = 5 ∨ (instrAt s t).op = 6 ∨ (instrAt s t).op = 7 ∨ (instrAt s t).op = 8 ∨ (instrAt s t).op = 9 ∨ (instrAt s t).op = 10 ∨ (instrAt s t).op = 11 by omega) with h | h | h | h | h | h | h
  · have := d h; omega
  · exact (a (.inl h)).1
  · exact (a (.inr h)).1
  · exact (b (.inl h)).1
  · exact (b (.inr h)).1
  · exact (c (.inl h)).1
  · exact (c (.inr h)).1
theorem Picked.moved (p : Picked s t) : Moved (freesP (instrAt s t)) (fun u => u = t) s (actS s t) := moved_actS t (fun h => p.lo (by omega) (by omega))
theorem Picked.self (p : Picked s t) : (actC s t = 1 → Waits s (instrAt s t) (R.th (actS s t).T t)) ∧ (actC s t ≠ 1 → Goes (if (instrAt s t).op = 3 then (R.th s.T t).last else actC s t) (R.th (actS s t).T t)) := actS_self p.ht p.f0 p.o0 p.u0 p.lo p.sl
theorem Picked.cols (p : Picked s t) : (actS s t).T.length = s.T.length ∧ ∀ u,
    (R.th (actS s t).T u).base = (if (instrAt s t).op = 4 ∧ u = (instrAt s t).a.toNat then (instrAt s t).b else (R.th s.T u).base) ∧
    (R.th (actS s t).T u).at_ = (if u = t then nextAt s t else (R.th s.T u).at_) ∧
    (R.th (actS s t).T u).ended = (if u = t ∧ (instrAt s t).op = 0 then (R.th s.T u).ended + 1 else (R.th s.T u).ended) := actS_cols s t p.ht (fun h => by have := p.ins.prio h; omega)
theorem picked_of (i : RInv s) (x : Ext0 s) (n : Int) (hn : 0 ≤ n) (hon : 0 ≤ on s.T n) : Picked s (on s.T n).toNat := by
  obtain ⟨o0, o1⟩ := on_bd s.T n
  have hsp := on_spec s.T n hon
  have ht : (on s.T n).toNat < s.T.length := by omega
  generalize (on s.T n).toNat = t at *
  have htc : t < s.set.threads.length := by have := i.good.len; omega
  have haw : (R.th s.T t).awake = true := by
    rw [th_ext ht] at hsp ⊢
    exact i.wk t ht (by rw [hsp]; omega)
  have hx := i.thr t ht
  rw [← th_ext ht] at hx
  have f0 : (R.th s.T t).for_ = 0 := Classical.byContradiction fun hc => by
    have := (hx.fw hc).2
    rw [haw] at this
    cases this
  have eI : instrAt s t = (s.set.threads[t].code)[(R.th s.T t).at_.toNat]?.getD ⟨0, 0, 0⟩ := by
    unfold instrAt
    simp [List.getD, htc]
  have key : RIns s (instrAt s t) ∧ ((instrAt s t).op = 5 → 1 ≤ (instrAt s t).a) ∧ ((instrAt s t).op = 4 → (instrAt s t).b ≤ 255) ∧ ((instrAt s t).op = 6 ∨ (instrAt s t).op = 8 ∨ (instrAt s t).op = 11 → -1 ≤ (instrAt s t).b) := by
    rw [eI]
    rcases Nat.lt_or_ge (R.th s.T t).at_.toNat s.set.threads[t].code.length with h' | h'
    · rw [List.getElem?_eq_getElem h', Option.getD_some]
      have hins := i.toRMid.ins t htc _ (List.getElem_mem h')
      have hok := ok_instr i.ok t htc _ (List.getElem_mem h')
      refine ⟨hins.1, hins.2.2, fun e => ?_, fun e => ?_⟩
      · unfold P3.instrP P3.instrB P3.fitsB P3.known P3.lowA P3.highA P3.lowB P3.highB at hok
        rw [Bool.and_eq_true, decide_eq_true_iff, decide_eq_true_iff] at hok
        obtain ⟨_, _, _, hb0, hb1⟩ := hok
        simp [e] at hb0 hb1
        omega
      · unfold P3.instrP P3.instrB P3.fitsB P3.known P3.lowA P3.highA P3.lowB P3.highB at hok
        rw [Bool.and_eq_true, decide_eq_true_iff, decide_eq_true_iff] at hok
        obtain ⟨_, _, _, hb0, hb1⟩ := hok
        rcases e with e | e | e <;> simp [e] at hb0 hb1 <;> omega
    · rw [List.getElem?_eq_none h', Option.getD_none]
      refine ⟨⟨by decide, by decide, ?_, ?_, ?_, ?_, ?_, ?_⟩, ?_, ?_, ?_⟩
      all_goals intro h; simp at h
  exact ⟨ht, haw, hx.aw haw, f0, (x.free t ht f0).1, (x.free t ht f0).2, key.1, key.2.1, key.2.2.1, key.2.2.2⟩
/-- The steps of a script. -/
theorem entry_cases (i : RInv s) (x : Ext0 s) (n : Int) : (n = -1 ∧ s.now = 1000000000 ∧ entry s n = s) ∨ (n = -1 ∧ s.now < 1000000000 ∧ entry s n = tick s) ∨ (n ≠ -1 ∧ (n < 0 ∨ s.set.workers ≤ n) ∧ entry s n = s) ∨
    (n ≠ -1 ∧ ¬ (n < 0 ∨ s.set.workers ≤ n) ∧ on s.T n < 0 ∧ entry s n = s) ∨ (n ≠ -1 ∧ ¬ (n < 0 ∨ s.set.workers ≤ n) ∧ 0 ≤ on s.T n ∧ Picked s (on s.T n).toNat ∧ entry s n = settle (actS s (on s.T n).toNat)) := by
  have h2 := i.good.now2
  unfold entry tickS pickS
  by_cases hn : n = -1
  · rw [if_pos hn]
    by_cases hm : s.now = 1000000000
    · rw [if_pos hm]; exact .inl ⟨hn, hm, rfl⟩
    · rw [if_neg hm]; exact .inr (.inl ⟨hn, by omega, rfl⟩)
  · rw [if_neg hn]
    by_cases hw : n < 0 ∨ s.set.workers ≤ n
    · rw [if_pos hw]; exact .inr (.inr (.inl ⟨hn, hw, rfl⟩))
    · rw [if_neg hw]
      by_cases ho : on s.T n < 0
      · rw [if_pos ho]; exact .inr (.inr (.inr (.inl ⟨hn, hw, ho, rfl⟩)))
      · rw [if_neg ho]; exact .inr (.inr (.inr (.inr ⟨hn, hw, by omega, picked_of i x n (by omega) (by omega), rfl⟩)))
theorem Ext0.settle (x : Ext0 s) : Ext (settle s) := by
  have hl : (R.settle s).T.length = s.T.length := settleT_length _ _ _
  have e : ∀ u, ∃ w, R.th (R.settle s).T u = { R.th s.T u with wkr := w } := settle_eq s
  refine ⟨⟨fun u hu => ?_, fun u hu => ?_, fun u hu => ?_, fun a ha u hu => ?_, fun a ha u hu => ?_, fun u hu => ?_, fun m hm => ?_⟩, settle_seated s⟩
  · obtain ⟨w, hw⟩ := e u; rw [hw]; exact x.low u (by omega)
  · obtain ⟨w, hw⟩ := e u; rw [hw]; exact x.free u (by omega)
  · obtain ⟨w, hw⟩ := e u; rw [hw]; exact x.wl u (by omega)
  · obtain ⟨w, hw⟩ := e u; rw [hw]; exact x.dry2 a ha u (by omega)
  · obtain ⟨w, hw⟩ := e u; rw [hw]; exact x.dry3 a ha u (by omega)
  · obtain ⟨w, hw⟩ := e u; rw [hw]; exact x.own1 u (by omega)
  · obtain ⟨w, hw⟩ := e (s.owner.getD m 0).toNat
    show 0 ≤ s.owner.getD m 0 → (R.th (R.settle s).T (s.owner.getD m 0).toNat).ended < (R.th (R.settle s).T (s.owner.getD m 0).toNat).rel
    rw [hw]; exact x.job m hm
theorem missing_rest (s : RS) : (missing s).owner = s.owner ∧ (missing s).count = s.count ∧ (missing s).box = s.box ∧ (missing s).T = s.T := ⟨rfl, rfl, rfl, rfl⟩
theorem tick_rest (s : RS) : (tick s).owner = s.owner ∧ (tick s).count = s.count ∧ (tick s).box = s.box ∧ (tick s).now = s.now + 1 ∧ (tick s).set = s.set ∧ (tick s).missed = s.missed ++ late (ticked s) := by
  obtain ⟨a, b, c, _, _, _⟩ := endsTo_set (missing s) (missing s).T.length
  obtain ⟨c1, c2, c3⟩ := endsTo_rest (missing s) (missing s).T.length
  obtain ⟨d1, d2, d3⟩ := releaseTo_rest (ends (missing s)) (ends (missing s)).T.length
  have r1 := releaseTo_set (ends (missing s)) (ends (missing s)).T.length
  have r2 := releaseTo_now (ends (missing s)) (ends (missing s)).T.length
  have r3 : ∀ k, (releaseTo (ends (missing s)) k).owner = (ends (missing s)).owner := by
    intro k
    induction k with
    | zero => rfl
    | succ k ih =>
      unfold releaseTo releaseOne
      split
      · split
        · exact ih
        · exact ih
      · exact ih
  exact ⟨(r3 _).trans c, d1.trans c1, d2.trans c2, r2.trans b, r1.trans a, d3.trans c3⟩
theorem tick_len (s : RS) : (tick s).T.length = s.T.length := (cols_tick s).len
theorem Ext0.tick {tk wt : List Nat} (x : Ext0 s) (a : Ln.Aux s tk wt) (ok : LinksOk s) (i : RInv s) (i' : RInv (R.tick s)) : Ext0 (R.tick s) := by
  obtain ⟨r1, r2, r3, r4, r5, _⟩ := tick_rest s
  have hl := tick_len s
  have hc := cols_tick s
  have th := fun u hu => tick_th a ok u hu
  refine ⟨fun u hu => ?_, fun u hu hf => ?_, fun u hu hf => ?_, fun b hb u hu => ?_, fun b hb u hu => ?_, fun u hu hf => ?_, fun m hm h0 => ?_⟩
  · rw [(hc.th u).1]; exact x.low u (by omega)
  · rcases th u (by omega) with ⟨_, _, h⟩ | ⟨_, h⟩
    · exact ⟨h.of_, h.until_⟩
    · rw [h.for_] at hf
      rw [h.of_, h.until_]
      exact x.free u (by omega) hf
  · rcases th u (by omega) with ⟨_, _, h⟩ | ⟨h1, h⟩
    · exact absurd h.for_ hf
    · rw [h.for_] at hf
      rw [h.last, h.until_, r4]
      have h2 := x.wl u (by omega) hf
      refine ⟨h2.1, ?_⟩
      rcases h2.2 with h3 | h3
      · exact .inl h3
      · right
        have : (R.th s.T u).until_ ≠ s.now + 1 := fun e => h1 ⟨hf, e⟩
        omega
  · rw [r2] at hb
    intro hh
    rcases th u (by omega) with ⟨_, _, h⟩ | ⟨_, h⟩
    · rw [h.for_] at hh; omega
    · rw [h.for_, h.of_] at hh
      exact x.dry2 b hb u (by omega) hh
  · have e : boxAt (R.tick s) b = boxAt s b := by unfold boxAt; rw [r3]
    rw [e] at hb
    intro hh
    rcases th u (by omega) with ⟨_, _, h⟩ | ⟨_, h⟩
    · rw [h.for_] at hh; omega
    · rw [h.for_, h.of_] at hh
      exact x.dry3 b hb u (by omega) hh
  · rcases th u (by omega) with ⟨_, _, h⟩ | ⟨_, h⟩
    · rw [h.for_] at hf; omega
    · rw [h.for_] at hf
      rw [h.of_, r1]
      exact x.own1 u (by omega) hf
  · rw [r1] at hm h0 ⊢
    have h1 := x.job m hm h0
    have h2 := ok.own m hm
    have hu : (s.owner.getD m 0).toNat < s.T.length := by omega
    generalize (s.owner.getD m 0).toNat = u at *
    rw [(hc.th u).2.2]
    have t1 := (i.thr u hu).r0
    have t2 := (i'.thr u (by omega)).r0
    rw [← th_ext hu] at t1
    rw [← th_ext (by omega)] at t2
    rw [t2, r4, r5]
    rw [t1] at h1
    have hp : 0 ≤ (s.set.threads.getD u P3.none0).period := off_all i.good.off u
    obtain ⟨q1, q2⟩ := relBy_step s.set u (s.now + 1) hp
    rw [show s.now + 1 - 1 = s.now by omega] at q1 q2
    rw [q1]
    split
    · rename_i h5
      rw [← q2 h5]
      omega
    · exact h1
/-- One who waits behind an instruction waited for that ahead of it, or it is the instruction's thread. -/
theorem Picked.waits (p : Picked s t) (u : Nat) (hf : (R.th (actS s t).T u).for_ ≠ 0) : (u ≠ t ∧ Stay (R.th s.T u) (R.th (actS s t).T u)) ∨ (u = t ∧ actC s t = 1 ∧ Waits s (instrAt s t) (R.th (actS s t).T t)) := by
  by_cases e : u = t
  · subst e
    right
    by_cases hc : actC s u = 1
    · exact ⟨rfl, hc, p.self.1 hc⟩
    · exact absurd (p.self.2 hc).for_ hf
  · left
    rcases p.moved.th u e with ⟨h, _⟩ | ⟨_, h⟩
    · exact ⟨e, h⟩
    · exact absurd h.for_ hf
theorem actC_op (s : RS) (t : Nat) (h : actC s t = 1) : (instrAt s t).op ≠ 0 ∧ (instrAt s t).op ≠ 3 ∧ doesC s t (instrAt s t) = 1 := by
  by_cases h0 : (instrAt s t).op = 0
  · rw [actC_lt s t (.inl h0)] at h; omega
  by_cases h3 : (instrAt s t).op = 3
  · rw [actC_lt s t (.inr h3)] at h; omega
  exact ⟨h0, h3, by rw [← (actS_is s t h0 h3).2]; exact h⟩
theorem getD_set_self (l : List Int) (i : Nat) (v : Int) (h : i < l.length) : (l.set i v).getD i 0 = v := by simp [List.getD, h]
/-- Own1 is kept by each unlocking. -/
def Own1 (s : RS) : Prop := ∀ u, u < s.T.length → (R.th s.T u).for_ = 1 → (0 ≤ (R.th s.T u).of_ ∧ (R.th s.T u).of_ < s.owner.length) ∧ 0 ≤ s.owner.getD (R.th s.T u).of_.toNat 0
theorem Own1.unlockS (h : Own1 s) (t m : Nat) : Own1 (unlockS s t m) := by
  unfold R.unlockS
  split
  · have mv := moved_giveS (F := fun _ _ => True) (X := fun _ => False) (s := s) 1 (m : Int) (by decide) trivial
    have hall := mv.th
    intro u hu hf
    have hu' : u < s.T.length := by rw [← mv.len]; exact hu
    show (0 ≤ (R.th (giveS s 1 (m : Int)).T u).of_ ∧ (R.th (giveS s 1 (m : Int)).T u).of_ < (s.owner.set m (giveT s 1 (m : Int))).length) ∧ 0 ≤ (s.owner.set m (giveT s 1 (m : Int))).getD (R.th (giveS s 1 (m : Int)).T u).of_.toNat 0
    rcases hall u id with ⟨k, _⟩ | ⟨_, k⟩
    · have hf' : (R.th s.T u).for_ = 1 := by rw [← k.for_]; exact hf
      obtain ⟨h1, h2⟩ := h u hu' hf'
      rw [k.of_, List.length_set]
      refine ⟨h1, ?_⟩
      by_cases e : (R.th s.T u).of_.toNat = m
      · have hg : 0 ≤ giveT s 1 (m : Int) := by
          rcases Int.lt_or_le (giveT s 1 (m : Int)) 0 with h3 | h3
          · exact absurd ⟨hf', by omega⟩ (giveT_none s 1 (m : Int) h3 u hu')
          · exact h3
        rw [e, getD_set_self _ _ _ (by omega)]
        exact hg
      · rw [getD_set_ne _ _ _ _ (fun e' => e e'.symm)]
        exact h2
    · have := k.for_
      have hf' : (R.th (giveS s 1 (m : Int)).T u).for_ = 1 := hf
      omega
  · exact h
theorem Own1.unlocksTo (h : Own1 s) (t k : Nat) : Own1 (unlocksTo s t k) := by
  induction k with
  | zero => exact h
  | succ k ih => unfold R.unlocksTo; exact ih.unlockS t k
theorem Own1.stop0 (h : Own1 s) (t : Nat) : Own1 (stop0 s t) := by
  intro u hu hf
  have hu' : u < s.T.length := by simpa [R.stop0] using hu
  have e : R.th (R.stop0 s t).T u = if u = t ∧ t < s.T.length then { R.th s.T u with ended := (R.th s.T u).ended + 1, at_ := 0, last := 0 } else R.th s.T u := Ln.th_modify _ _ _ _
  have e1 : (R.th (R.stop0 s t).T u).for_ = (R.th s.T u).for_ ∧ (R.th (R.stop0 s t).T u).of_ = (R.th s.T u).of_ := by rw [e]; split <;> exact ⟨rfl, rfl⟩
  rw [e1.1] at hf
  rw [e1.2]
  exact h u hu' hf
/-- Who owns what behind each unlocking: whoever owned it, or one who waited. -/
theorem unlockS_owner (s : RS) (t m j : Nat) : (unlockS s t m).owner.length = s.owner.length ∧ ((unlockS s t m).owner.getD j 0 = s.owner.getD j 0 ∨ (s.owner.getD j 0 = (t : Int) ∧ j = m ∧ (unlockS s t m).owner.getD j 0 = giveT s 1 (m : Int))) ∧ (j = m → j < s.owner.length → s.owner.getD j 0 = (t : Int) → (unlockS s t m).owner.getD j 0 = giveT s 1 (m : Int)) := by
  unfold unlockS
  split
  · rename_i h
    show (s.owner.set m _).length = _ ∧ ((s.owner.set m _).getD j 0 = _ ∨ _) ∧ _
    refine ⟨by simp, ?_, fun e hj _ => ?_⟩
    · by_cases e : j = m
      · subst e
        by_cases hl : j < s.owner.length
        · right
          exact ⟨h, rfl, getD_set_self _ _ _ hl⟩
        · left
          simp [List.getD, hl]
      · left
        exact getD_set_ne _ _ _ _ (fun e' => e e'.symm)
    · subst e
      exact getD_set_self _ _ _ hj
  · rename_i h
    exact ⟨rfl, .inl rfl, fun e _ h2 => absurd (e ▸ h2) h⟩
theorem unlocksTo_len (s : RS) (t k : Nat) : (unlocksTo s t k).owner.length = s.owner.length := by
  induction k with
  | zero => rfl
  | succ k ih => unfold unlocksTo; exact (unlockS_owner _ t k 0).1.trans ih
/-- Who owns a mutex behind an End: whoever owned it, or one who waited for a mutex. -/
theorem unlocksTo_owner (s : RS) (t k j : Nat) (hf : (R.th s.T t).for_ = 0) : ((unlocksTo s t k).owner.getD j 0 = s.owner.getD j 0 ∧ (j < k → j < s.owner.length → s.owner.getD j 0 ≠ (t : Int))) ∨ (s.owner.getD j 0 = (t : Int) ∧ ((unlocksTo s t k).owner.getD j 0 < 0 ∨ ∃ u : Nat, (unlocksTo s t k).owner.getD j 0 = (u : Int) ∧ u ≠ t ∧ (R.th s.T u).for_ = 1)) := by
  induction k with
  | zero => exact .inl ⟨rfl, fun h => by omega⟩
  | succ k ih =>
    unfold unlocksTo
    have mv := moved_unlocksTo (F := fun a _ => a = 1) (X := fun _ => False) (s := s) t k (fun _ => rfl)
    obtain ⟨_, h1, h2⟩ := unlockS_owner (unlocksTo s t k) t k j
    have hg : ∀ g : Int, 0 ≤ g → g = giveT (unlocksTo s t k) 1 (k : Int) → ∃ u : Nat, g = (u : Int) ∧ u ≠ t ∧ (R.th s.T u).for_ = 1 := by
      intro g h0 e
      obtain ⟨u, hu⟩ := Int.eq_ofNat_of_zero_le h0
      have sp := giveT_spec (unlocksTo s t k) 1 (k : Int) (by omega)
      have eu : (giveT (unlocksTo s t k) 1 (k : Int)).toNat = u := by omega
      rw [eu] at sp
      have f1 : (R.th s.T u).for_ = 1 := by
        rcases mv.th u id with ⟨a, _⟩ | ⟨a, _⟩
        · rw [← a.for_]; exact sp.2.1
        · exact a
      exact ⟨u, hu, fun e => by rw [e] at f1; omega, f1⟩
    rcases ih with ⟨a, b⟩ | ⟨a, b⟩
    · rcases h1 with h1 | ⟨c1, c2, c3⟩
      · left
        refine ⟨h1.trans a, fun hj hl => ?_⟩
        by_cases e : j = k
        · intro ht
          have h3 := h2 e (by rw [unlocksTo_len]; exact hl) (a.trans ht)
          rw [h3] at h1
          rw [a, ht] at h1
          obtain ⟨u, hu, hne, _⟩ := hg (t : Int) (by omega) h1.symm
          exact hne (by omega)
        · exact b (by omega) hl
      · right
        refine ⟨by rw [← a]; exact c1, ?_⟩
        rw [c3]
        rcases Int.lt_or_le (giveT (unlocksTo s t k) 1 (k : Int)) 0 with h3 | h3
        · exact .inl h3
        · exact .inr (hg _ h3 rfl)
    · right
      refine ⟨a, ?_⟩
      rcases h1 with h1 | ⟨c1, _, _⟩
      · rw [h1]; exact b
      · rcases b with b | ⟨u, hu, hne, _⟩
        · omega
        · omega
theorem Ext0.act (x : Ext0 s) (i : RInv s) (p : Picked s t) (i' : RInv (R.settle (actS s t))) : Ext0 (actS s t) := by
  have hol : s.owner.length ≤ 8 := by have := i.good.own; have := i.good.mfew; omega
  have lk := like_actS s t hol
  have hl : (actS s t).T.length = s.T.length := p.cols.1
  have hc := p.cols.2
  refine ⟨fun u hu => ?_, fun u hu hf => ?_, fun u hu hf => ?_, fun b hb u hu => ?_, fun b hb u hu => ?_, fun u hu hf => ?_, fun m hm h0 => ?_⟩
  · rw [(hc u).1]
    split
    · rename_i h; exact p.pr h.1
    · exact x.low u (by omega)
  · by_cases e : u = t
    · subst e
      by_cases hc1 : actC s u = 1
      · have := p.self.1 hc1
        rw [this.for_] at hf
        exact absurd hf this.f0
      · have := p.self.2 hc1
        exact ⟨this.of_, this.until_⟩
    · rcases p.moved.th u e with ⟨h, _⟩ | ⟨_, h⟩
      · rw [h.for_] at hf
        rw [h.of_, h.until_]
        exact x.free u (by omega) hf
      · exact ⟨h.of_, h.until_⟩
  · rcases p.waits u hf with ⟨_, h⟩ | ⟨e, _, h⟩
    · rw [h.for_] at hf
      rw [h.last, h.until_, lk.now]
      exact x.wl u (by omega) hf
    · subst e
      refine ⟨h.last, ?_⟩
      rw [h.until_, lk.now]
      have := h.n0
      split
      · right; omega
      · exact .inl rfl
  · rintro ⟨hf, ho⟩
    rw [actS_count] at hb
    rcases p.waits u (by omega) with ⟨hne, h⟩ | ⟨e, hc1, h⟩
    · rw [h.for_] at hf
      rw [h.of_] at ho
      have hz : ¬ 0 < s.count.getD b 0 := fun hh => x.dry2 b hh u (by omega) ⟨hf, ho⟩
      split at hb
      · rw [(downS_rest s t _ _).2.2] at hb
        split at hb
        · by_cases e : (instrAt s t).a.toNat = b
          · by_cases hbl : b < s.count.length
            · rw [e, getD_set_self _ _ _ hbl] at hb; omega
            · simp [List.getD, hbl] at hb
          · rw [getD_set_ne _ _ _ _ e] at hb; exact hz hb
        · exact hz hb
      · split at hb
        · rename_i h9
          rw [(upS_rest s _).2.2] at hb
          split at hb
          · exact hz hb
          · rename_i hg
            by_cases e : (instrAt s t).a.toNat = b
            · have : ¬ 0 ≤ giveT s 2 (b : Int) := fun hh => hg (.inl (by rw [e]; exact hh))
              exact giveT_none s 2 (b : Int) (by omega) u (by omega) ⟨hf, ho⟩
            · rw [getD_set_ne _ _ _ _ e] at hb; exact hz hb
        · exact hz hb
    · subst e
      rw [h.for_] at hf
      rw [h.of_] at ho
      obtain ⟨_, _, hd⟩ := actC_op s u hc1
      have h8 : (instrAt s u).op = 8 := by
        unfold askFor at hf
        repeat (split at hf <;> first | omega | skip)
      have ha : askOf (instrAt s u) = (instrAt s u).a := by unfold askOf; rw [if_pos (.inr (.inl h8))]
      have hdc : downC s (instrAt s u).a.toNat (instrAt s u).b = 1 := by
        unfold doesC at hd
        rw [if_neg (by omega), if_neg (by omega), if_neg (by omega), if_pos h8] at hd
        exact hd
      rw [if_pos h8, (downS_rest s u _ _).2.2, if_neg (by omega)] at hb
      unfold downC at hdc
      have e2 : (instrAt s u).a.toNat = b := by omega
      rw [e2, if_pos hb] at hdc
      omega
  · rintro ⟨hf, ho⟩
    unfold boxAt at hb
    rw [actS_box] at hb
    rcases p.waits u (by omega) with ⟨hne, h⟩ | ⟨e, hc1, h⟩
    · rw [h.for_] at hf
      rw [h.of_] at ho
      have hz : ¬ s.box.getD b [] ≠ [] := fun hh => x.dry3 b hh u (by omega) ⟨hf, ho⟩
      have set_ne : ∀ (j : Nat) (l : List Int), j ≠ b → (s.box.set j l).getD b [] = s.box.getD b [] := fun j l e => by simp [List.getD, e]
      split at hb
      · rename_i h10
        rw [(sendS_rest s _ _).2.2] at hb
        split at hb
        · exact hz hb
        · rename_i hg
          by_cases e : (instrAt s t).a.toNat = b
          · have : ¬ 0 ≤ giveT s 3 (b : Int) := fun hh => hg (.inl (by rw [e]; exact hh))
            exact giveT_none s 3 (b : Int) (by omega) u (by omega) ⟨hf, ho⟩
          · rw [set_ne _ _ e] at hb; exact hz hb
      · split at hb
        · rw [(recvS_rest s t _ _).2.2] at hb
          split at hb
          · by_cases e : (instrAt s t).a.toNat = b
            · have hz' : s.box.getD b [] = [] := Classical.not_not.1 hz
              rw [e] at hb
              have e3 : boxAt s b = [] := hz'
              rw [e3] at hb
              by_cases hbl : b < s.box.length
              · simp [List.getD, hbl] at hb
              · simp [List.getD, hbl] at hb
            · rw [set_ne _ _ e] at hb; exact hz hb
          · exact hz hb
        · exact hz hb
    · subst e
      rw [h.for_] at hf
      rw [h.of_] at ho
      obtain ⟨_, _, hd⟩ := actC_op s u hc1
      have h11 : (instrAt s u).op = 11 := by
        unfold askFor at hf
        repeat (split at hf <;> first | omega | skip)
      have ha : askOf (instrAt s u) = (instrAt s u).a := by unfold askOf; rw [if_pos (.inr (.inr h11))]
      have hdc : recvC s (instrAt s u).a.toNat (instrAt s u).b = 1 := by
        unfold doesC at hd
        rw [if_neg (by omega), if_neg (by omega), if_neg (by omega), if_neg (by omega), if_neg (by omega), if_neg (by omega), if_pos h11] at hd
        exact hd
      rw [if_neg (by omega), if_pos h11, (recvS_rest s u _ _).2.2, if_neg (by omega)] at hb
      unfold recvC at hdc
      have e2 : (instrAt s u).a.toNat = b := by omega
      have hb' : 0 < (boxAt s b).length := List.length_pos_iff.2 hb
      rw [e2, if_pos hb'] at hdc
      omega
  · have o1 : Own1 s := fun v hv hfv => ⟨by have := (i.thr v hv).of1 (by rw [← th_ext hv]; exact hfv); rw [th_ext hv]; exact this, x.own1 v hv hfv⟩
    rw [actS_owner]
    rcases p.waits u (by omega) with ⟨hne, h⟩ | ⟨e, hc1, h⟩
    · rw [h.for_] at hf
      rw [h.of_]
      have h1 := o1 u (by omega) hf
      split
      · have o2 := (o1.stop0 t).unlocksTo t s.owner.length
        have e : actS s t = stop s t := by unfold actS; rw [if_pos (by assumption)]
        have fu : (R.th (unlocksTo (R.stop0 s t) t s.owner.length).T u).for_ = 1 ∧ (R.th (unlocksTo (R.stop0 s t) t s.owner.length).T u).of_ = (R.th s.T u).of_ := by
          have h2 := h
          rw [e] at h2
          have e3 : R.th (stop s t).T u = R.th (unlocksTo (R.stop0 s t) t s.owner.length).T u := by
            have as_ : R.th (asleep (unlocksTo (R.stop0 s t) t s.owner.length) t).T u = R.th (unlocksTo (R.stop0 s t) t s.owner.length).T u := by
              show R.th ((unlocksTo (R.stop0 s t) t s.owner.length).T.modify t _) u = _
              rw [Ln.th_modify, if_neg (fun e => hne e.1)]
            unfold stop
            split
            · show R.th ((asleep (unlocksTo (R.stop0 s t) t s.owner.length) t).T.modify t _) u = _
              rw [Ln.th_modify, if_neg (fun e => hne e.1), as_]
            · exact as_
          rw [e3] at h2
          exact ⟨h2.for_.trans hf, h2.of_⟩
        have hlen : u < (unlocksTo (R.stop0 s t) t s.owner.length).T.length := by
          have mv := moved_unlocksTo (F := fun a _ => a = 1) (X := fun _ => False) (s := R.stop0 s t) t s.owner.length (fun _ => rfl)
          rw [mv.len]
          simp [R.stop0]
          omega
        have := (o2 u hlen fu.1).2
        rw [fu.2] at this
        exact this
      · split
        · rw [(lockS_rest s t _ _).2.2]
          split
          · by_cases e : (instrAt s t).a.toNat = (R.th s.T u).of_.toNat
            · rw [e, getD_set_self _ _ _ (by omega)]; omega
            · rw [getD_set_ne _ _ _ _ e]; exact h1.2
          · exact h1.2
        · split
          · rename_i h7
            obtain ⟨_, hh, _⟩ := unlockS_owner s t (instrAt s t).a.toNat (R.th s.T u).of_.toNat
            rcases hh with hh | ⟨_, hj, hh⟩
            · rw [hh]; exact h1.2
            · rw [hh]
              rcases Int.lt_or_le (giveT s 1 ((instrAt s t).a.toNat : Int)) 0 with h3 | h3
              · exact absurd ⟨hf, by omega⟩ (giveT_none s 1 _ h3 u (by omega))
              · exact h3
          · exact h1.2
    · subst e
      rw [h.for_] at hf
      rw [h.of_]
      obtain ⟨_, _, hd⟩ := actC_op s u hc1
      have h6 : (instrAt s u).op = 6 := by
        unfold askFor at hf
        repeat (split at hf <;> first | omega | skip)
      have ha : askOf (instrAt s u) = (instrAt s u).a := by unfold askOf; rw [if_pos (.inl h6)]
      have hdc : lockC s u (instrAt s u).a.toNat (instrAt s u).b = 1 := by
        unfold doesC at hd
        rw [if_neg (by omega), if_pos h6] at hd
        exact hd
      rw [if_neg (by omega), if_pos h6, (lockS_rest s u _ _).2.2, if_neg (by omega), ha]
      unfold lockC at hdc
      repeat (split at hdc <;> first | omega | skip)
  · have hlo : (actS s t).owner.length = s.owner.length := lk.own
    rw [hlo] at hm
    have rels : ∀ v, v < s.T.length → (R.th (actS s t).T v).rel = (R.th s.T v).rel := by
      intro v hv
      have l1 : (R.settle (actS s t)).T.length = s.T.length := (settleT_length _ _ _).trans hl
      have t1 := (i.thr v hv).r0
      have t2 := (i'.thr v (by omega)).r0
      rw [← th_ext hv] at t1
      rw [← th_ext (by omega)] at t2
      obtain ⟨w, hw⟩ := settle_eq (actS s t) v
      rw [hw] at t2
      have e1 : (R.settle (actS s t)).set = s.set := lk.set
      have e2 : (R.settle (actS s t)).now = s.now := lk.now
      rw [e1, e2] at t2
      rw [t1]
      exact t2
    have jb : ∀ v : Nat, v ≠ t → v < s.T.length → (R.th s.T v).ended < (R.th s.T v).rel → (R.th (actS s t).T v).ended < (R.th (actS s t).T v).rel := by
      intro v hv hvl h1
      rw [(hc v).2.2, if_neg (fun e => hv e.1), rels v hvl]
      exact h1
    have own : ∀ v : Nat, v < s.T.length → s.owner.getD m 0 = (v : Int) → (R.th s.T v).ended < (R.th s.T v).rel := by
      intro v hv e
      have := x.job m hm (by omega)
      rw [e] at this
      exact this
    have bd : -1 ≤ s.owner.getD m 0 ∧ s.owner.getD m 0 < s.T.length := by
      have := i.own m hm
      simpa [List.getD, hm] using this
    have wj : ∀ v : Nat, v < s.T.length → (R.th s.T v).for_ ≠ 0 → (R.th s.T v).ended < (R.th s.T v).rel := by
      intro v hv hf
      have := ((i.thr v hv).fw (by rw [← th_ext hv]; exact hf)).1
      rw [th_ext hv]
      exact this
    have wb : ∀ v : Nat, (R.th s.T v).for_ ≠ 0 → v < s.T.length := by
      intro v hf
      rcases Nat.lt_or_ge v s.T.length with h | h
      · exact h
      · exfalso
        apply hf
        simp [R.th, List.getD, h, rt0]
    have tj : (instrAt s t).op ≠ 0 → (R.th (actS s t).T t).ended < (R.th (actS s t).T t).rel := by
      intro h
      rw [(hc t).2.2, if_neg (fun e => h e.2), rels t p.ht]
      exact p.job
    rw [actS_owner] at h0 ⊢
    split at h0
    · rename_i hop
      rw [if_pos hop]
      have hf0 : (R.th (R.stop0 s t).T t).for_ = 0 := by
        have : R.th (R.stop0 s t).T t = { R.th s.T t with ended := (R.th s.T t).ended + 1, at_ := 0, last := 0 } := th_at t p.ht _
        rw [this]
        exact p.f0
      have e0 : (R.stop0 s t).owner = s.owner := rfl
      rcases unlocksTo_owner (R.stop0 s t) t s.owner.length m hf0 with ⟨a, b⟩ | ⟨_, b⟩
      · rw [e0] at a b
        rw [a] at h0 ⊢
        obtain ⟨v, hv⟩ := Int.eq_ofNat_of_zero_le h0
        have hne : v ≠ t := fun e => b hm hm (by rw [hv, e])
        have ev : (s.owner.getD m 0).toNat = v := by omega
        rw [ev]
        exact jb v hne (by omega) (own v (by omega) hv)
      · rcases b with b | ⟨v, hv, hne, hf⟩
        · omega
        · rw [hv]
          have e1 : R.th (R.stop0 s t).T v = R.th s.T v := by
            show R.th (s.T.modify t _) v = _
            rw [Ln.th_modify, if_neg (fun e => hne e.1)]
          rw [e1] at hf
          have ev : ((v : Nat) : Int).toNat = v := by omega
          rw [ev]
          exact jb v hne (wb v (by omega)) (wj v (wb v (by omega)) (by omega))
    · rename_i hop
      rw [if_neg hop]
      have keep : 0 ≤ s.owner.getD m 0 → (R.th (actS s t).T (s.owner.getD m 0).toNat).ended < (R.th (actS s t).T (s.owner.getD m 0).toNat).rel := by
        intro h
        obtain ⟨v, hv⟩ := Int.eq_ofNat_of_zero_le h
        have ev : (s.owner.getD m 0).toNat = v := by omega
        rw [ev]
        by_cases e : v = t
        · rw [e]; exact tj hop
        · exact jb v e (by omega) (own v (by omega) hv)
      split at h0
      · rename_i h6
        rw [if_pos h6]
        rw [(lockS_rest s t _ _).2.2] at h0 ⊢
        split at h0
        · rename_i hc0
          rw [if_pos hc0]
          by_cases e : (instrAt s t).a.toNat = m
          · rw [e, getD_set_self _ _ _ hm]
            exact tj hop
          · rw [getD_set_ne _ _ _ _ e] at h0 ⊢
            exact keep h0
        · rename_i hc0
          rw [if_neg hc0]
          exact keep h0
      · rename_i h6
        rw [if_neg h6]
        split at h0
        · rename_i h7
          rw [if_pos h7]
          obtain ⟨_, hh, _⟩ := unlockS_owner s t (instrAt s t).a.toNat m
          rcases hh with hh | ⟨_, hj, hh⟩
          · rw [hh] at h0 ⊢; exact keep h0
          · rw [hh] at h0 ⊢
            have sp := giveT_spec s 1 _ h0
            generalize (giveT s 1 ((instrAt s t).a.toNat : Int)).toNat = v at *
            refine jb v (fun e => ?_) sp.1 (wj v sp.1 (by omega))
            rw [e, p.f0] at sp
            omega
        · rename_i h7
          rw [if_neg h7]
          exact keep h0
theorem RInv.linksOk (h : RInv s) : LinksOk s := by
  refine ⟨h.good.own, fun i hi => ?_, fun t ht hf => ?_, fun i hi => ?_⟩
  · have e : s.owner.getD i 0 = s.owner[i] := by simp [List.getD, hi]
    rw [e]
    exact h.own i hi
  · rw [th_ext ht] at hf ⊢
    exact (h.thr t ht).of1 hf
  · have hk : i < s.set.mutexes.length := by rw [← h.good.own]; exact hi
    have := badOr_good (ok_parts h.ok).2.1 s.set.mutexes[i] (List.getElem_mem hk)
    have e : s.set.mutexes.getD i pair0 = s.set.mutexes[i] := by simp [List.getD, hk]
    rw [e]
    unfold P3.mutexP P3.mutexB at this
    rw [decide_eq_true_iff] at this
    omega
theorem Ext.entry {tk wt : List Nat} (x : Ext s) (i : RInv s) (a : Ln.Aux s tk wt) (n : Int) (i' : RInv (R.entry s n)) : Ext (R.entry s n) := by
  rcases entry_cases i x.toExt0 n with ⟨_, _, e⟩ | ⟨_, _, e⟩ | ⟨_, _, e⟩ | ⟨_, _, _, e⟩ | ⟨_, _, _, p, e⟩
  · rw [e]; exact x
  · rw [e] at i' ⊢
    exact ⟨x.toExt0.tick a (RInv.linksOk i) i i', settle_seated _⟩
  · rw [e]; exact x
  · rw [e]; exact x
  · rw [e] at i' ⊢
    exact (x.toExt0.act i p i').settle
theorem ext_new {S : SetD} (h : P3.err S = 0) : Ext (R.new S) := by
  have st := fun u => releaseTo_stay (bare S) (bare S).T.length u
  have hc := cols_releaseTo (bare S) (bare S).T.length
  obtain ⟨d1, d2, _⟩ := releaseTo_rest (bare S) (bare S).T.length
  have ro : ∀ k, (releaseTo (bare S) k).owner = (bare S).owner := by
    intro k
    induction k with
    | zero => rfl
    | succ k ih =>
      unfold releaseTo releaseOne
      split
      · split
        · exact ih
        · exact ih
      · exact ih
  have lb : (bare S).T.length = S.threads.length := by simp [bare]
  have bt : ∀ u, u < S.threads.length → R.th (bare S).T u = { rt0 with base := (S.threads.getD u P3.none0).base, wkr := -1 } := by
    intro u hu
    simp [R.th, bare, List.getD, hu]
  have f0 : ∀ u, u < (release (bare S)).T.length → (R.th (release (bare S)).T u).for_ = 0 ∧ (R.th (release (bare S)).T u).of_ = 0 ∧ (R.th (release (bare S)).T u).until_ = 0 := by
    intro u hu
    have hu' : u < S.threads.length := by rw [← lb, ← hc.len]; exact hu
    have := (st u).1
    have e1 : R.th (release (bare S)).T u = R.th (releaseTo (bare S) (bare S).T.length).T u := rfl
    rw [e1, this.for_, this.of_, this.until_, bt u hu']
    exact ⟨rfl, rfl, rfl⟩
  refine Ext0.settle ⟨fun u hu => ?_, fun u hu _ => (f0 u hu).2, fun u hu hf => absurd (f0 u hu).1 hf, fun b _ u hu hh => by have := (f0 u hu).1; omega, fun b _ u hu hh => by have := (f0 u hu).1; omega, fun u hu hf => by have := (f0 u hu).1; omega, fun m hm h0 => ?_⟩
  · have hu' : u < S.threads.length := by rw [← lb, ← hc.len]; exact hu
    have e1 : R.th (release (bare S)).T u = R.th (releaseTo (bare S) (bare S).T.length).T u := rfl
    rw [e1, (hc.th u).1, bt u hu']
    have := badOr_good (ok_parts h).2.2.2.2.1 S.threads[u] (List.getElem_mem hu')
    unfold P3.threadP P3.threadB at this
    rw [decide_eq_true_iff] at this
    have e2 : S.threads.getD u P3.none0 = S.threads[u] := by simp [List.getD, hu']
    rw [e2]
    show S.threads[u].base ≤ 255
    omega
  · exfalso
    have e1 : (release (bare S)).owner = (bare S).owner := ro _
    rw [e1] at hm h0
    have hm' : m < S.mutexes.length := by simpa [bare] using hm
    simp [bare, List.getD, hm'] at h0
end
end R
end Go.Proofs.Ytbkfildnijjioab
