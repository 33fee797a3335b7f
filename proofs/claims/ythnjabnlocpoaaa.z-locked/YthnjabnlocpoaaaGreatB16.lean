import Derived.Test.YthnjabnlocpoaaaGreatB15
import Derived.Test.YthnjabnlocpoaaaGreatB11
import Derived.Test.YthnjabnlocpoaaaGreatB12
import Derived.Test.YthnjabnlocpoaaaGreatB09
import Derived.Test.YthnjabnlocpoaaaGreatB02
import Derived.Deep.QuietTactic
import Derived.BigQuiet
/-
  What holds of the document's kernel behind every step: Pick keeps it.
-/
namespace Go.Proofs.YthnjabnlocpoaaaGreat

section
variable {s : RS}

theorem RMid.like {s' : RS} {n : Int} (h : RMid s) (l : RLike s s' n) (hn : s.next + n ≤ 4611686018427387904) (b : RBounds s') (o : OwnOk s') (t : AllT (TOk s.set s.now s.owner.length) s'.T) : RMid s' := by
  refine ⟨l.good h.good hn, b, by rw [l.set]; exact h.ok, o, by rw [l.set, l.now, l.own]; exact t, ?_⟩
  rw [l.mis, l.now, l.set]
  exact h.mis

theorem RMid.modify (h : RMid s) (t : Nat) (f : RT → RT) (hf : ∀ (ht : t < s.T.length), TOk s.set s.now s.owner.length t s.T[t] → TOk s.set s.now s.owner.length t (f s.T[t])) : RMid { s with T := s.T.modify t f } := by
  refine h.like (like_modify s t f) (by have := h.good.nxt1; omega) ⟨h.bnd.cs, h.bnd.cb, h.bnd.qs, h.bnd.qb⟩ (fun i hi => ?_) (h.thr.modify (fun _ _ _ hx => hx) hf)
  have := h.own i hi
  have e : (s.T.modify t f).length = s.T.length := by simp
  show -1 ≤ s.owner[i] ∧ s.owner[i] < ((s.T.modify t f).length : Int)
  rw [e]
  exact this

theorem RMid.begins (h : RMid s) (hnx : s.next ≤ 4611686018427387000) (t : Nat) (haw : ∀ (ht : t < s.T.length), s.T[t].awake = true) (what of_ n : Int) (h1 : 1 ≤ what) (h4 : what ≤ 4) (ho : what = 1 → 0 ≤ of_ ∧ of_ < s.owner.length) : RMid (R.beginW s t what of_ n) := by
  refine h.like (like_beginW s t what of_ n) (by omega) ⟨h.bnd.cs, h.bnd.cb, h.bnd.qs, h.bnd.qb⟩ (fun i hi => ?_) (h.thr.modify (fun _ _ _ hx => hx) (fun ht hx => hx.waits (haw ht) what of_ _ _ h1 h4 ho))
  have := h.own i hi
  have e : (R.beginW s t what of_ n).T.length = s.T.length := by simp [R.beginW]
  show -1 ≤ s.owner[i] ∧ s.owner[i] < ((R.beginW s t what of_ n).T.length : Int)
  rw [e]
  exact this

theorem RMid.gives (h : RMid s) (hnx : s.next ≤ 4611686018427387000) (what of_ : Int) (h1 : what ≠ 0) : RMid (R.giveS s what of_) := by
  obtain ⟨p1, p2, p3, p4, p5, p6, p7, p8, p9⟩ := giveS_parts s what of_
  refine h.like (like_giveS s what of_) (by omega) ⟨by rw [p7, p1]; exact h.bnd.cs, ?_, by rw [p8, p1]; exact h.bnd.qs, ?_⟩ ?_ (give_all h.thr (fun u x n hx hf => hx.awoken (by rw [hf]; exact h1) 0 n))
  · rw [p1]
    intro k hk
    simp only [p7] at hk ⊢
    exact h.bnd.cb k hk
  · rw [p1]
    intro k hk
    simp only [p8] at hk ⊢
    exact h.bnd.qb k hk
  · intro i hi
    rw [p4]
    simp only [p3] at hi ⊢
    exact h.own i hi

theorem RMid.setOwner (h : RMid s) (k : Nat) (v : Int) (h0 : -1 ≤ v) (h1 : v < s.T.length) : RMid { s with owner := s.owner.set k v } := by
  refine h.like (n := 0) ⟨rfl, rfl, by simp, rfl, Int.le_refl _, by simp, rfl, rfl, rfl⟩ (by have := h.good.nxt1; omega) ⟨h.bnd.cs, h.bnd.cb, h.bnd.qs, h.bnd.qb⟩ (OwnOk.set h.own k v h0 h1) h.thr
theorem RMid.setCount (h : RMid s) (k : Nat) (v : Int) (h0 : 0 ≤ v) (h1 : v ≤ (s.set.sems.getD k R.pair0).y) : RMid { s with count := s.count.set k v } := by
  refine h.like (n := 0) ⟨rfl, rfl, rfl, rfl, Int.le_refl _, by simp, by simp, rfl, rfl⟩ (by have := h.good.nxt1; omega) ⟨by simp; exact h.bnd.cs, fun i hi => ?_, h.bnd.qs, h.bnd.qb⟩ h.own h.thr
  simp only [List.getElem_set]
  split
  · rename_i e
    subst e
    exact ⟨h0, h1⟩
  · exact h.bnd.cb i (by simpa using hi)
theorem RMid.setBox (h : RMid s) (k : Nat) (l : List Int) (h1 : (l.length : Int) ≤ s.set.queues.getD k 0) : RMid { s with box := s.box.set k l } := by
  refine h.like (n := 0) ⟨rfl, rfl, rfl, rfl, Int.le_refl _, by simp, rfl, by simp, rfl⟩ (by have := h.good.nxt1; omega) ⟨h.bnd.cs, h.bnd.cb, by simp; exact h.bnd.qs, fun i hi => ?_⟩ h.own h.thr
  simp only [List.getElem_set]
  split
  · rename_i e
    subst e
    exact h1
  · exact h.bnd.qb i (by simpa using hi)

theorem RMid.unlocks (h : RMid s) (hnx : s.next ≤ 4611686018427387000) (t k : Nat) : RMid (R.unlockS s t k) := by
  have hg := h.gives hnx 1 (k : Int) (by decide)
  have hb := giveT_bd s 1 (k : Int)
  obtain ⟨p1, p2, p3, p4, p5, p6, p7, p8, p9⟩ := giveS_parts s 1 (k : Int)
  unfold R.unlockS
  split
  · have := hg.setOwner k (R.giveT s 1 (k : Int)) hb.1 (by rw [p4]; exact hb.2)
    rw [p3] at this
    exact this
  · exact h

theorem RMid.does (h : RMid s) (hnx : s.next ≤ 4611686018427387000) (t : Nat) (ht : t < s.T.length) (haw : s.T[t].awake = true) (i : InstrD) (hi : RIns s i) : RMid (R.doesS s t i) := by
  unfold R.doesS
  split
  · refine h.like (n := 1) ⟨rfl, rfl, rfl, by simp, by simp; omega, by simp, rfl, rfl, rfl⟩ (by omega) ⟨h.bnd.cs, h.bnd.cb, h.bnd.qs, h.bnd.qb⟩ (fun j hj => ?_) (h.thr.modify (fun _ _ _ hx => hx) (fun _ hx => hx.tick _))
    have := h.own j hj
    simpa using this
  split
  · exact h.modify _ _ (fun _ hx => hx.base _)
  split
  · exact h.begins hnx t (fun _ => haw) 4 0 i.a (by decide) (by decide) (fun e => absurd e (by decide))
  split
  · rename_i e
    obtain ⟨a0, a1⟩ := hi.mtx (.inl e)
    unfold R.lockS
    split
    · exact h.setOwner _ _ (by omega) (by omega)
    · split
      · exact h.begins hnx t (fun _ => haw) 1 _ i.b (by decide) (by decide) (fun _ => by omega)
      · exact h
  split
  · exact h.unlocks hnx t _
  split
  · rename_i e
    obtain ⟨a0, a1⟩ := hi.sem (.inl e)
    have hk : i.a.toNat < s.count.length := by omega
    have hcb := h.bnd.cb i.a.toNat hk
    have eg : s.count.getD i.a.toNat 0 = s.count[i.a.toNat] := by simp [List.getD, hk]
    unfold R.downS
    split
    · rename_i e2
      refine h.setCount _ _ ?_ (by rw [eg]; omega)
      unfold R.downC at e2
      split at e2
      · omega
      · split at e2 <;> simp at e2
    · split
      · exact h.begins hnx t (fun _ => haw) 2 _ i.b (by decide) (by decide) (fun e => absurd e (by decide))
      · exact h
  split
  · rename_i e
    obtain ⟨a0, a1⟩ := hi.sem (.inr e)
    have hk : i.a.toNat < s.count.length := by omega
    have hcb := h.bnd.cb i.a.toNat hk
    have eg : s.count.getD i.a.toNat 0 = s.count[i.a.toNat] := by simp [List.getD, hk]
    unfold R.upS
    split
    · exact h.gives hnx 2 _ (by decide)
    · split
      · exact h
      · rename_i e2
        exact h.setCount _ _ (by omega) (by omega)
  split
  · rename_i e
    obtain ⟨a0, a1⟩ := hi.que (.inl e)
    have hk : i.a.toNat < s.box.length := by omega
    have hqb := h.bnd.qb i.a.toNat hk
    have eg : R.boxAt s i.a.toNat = s.box[i.a.toNat] := by simp [R.boxAt, List.getD, hk]
    unfold R.sendS
    split
    · exact (h.gives hnx 3 _ (by decide)).modify _ _ (fun _ hx => hx.got _)
    · split
      · exact h
      · rename_i e2
        refine h.setBox _ _ ?_
        rw [eg] at e2 ⊢
        rw [List.length_append, List.length_singleton]
        omega
  split
  · rename_i e
    obtain ⟨a0, a1⟩ := hi.que (.inr e)
    have hk : i.a.toNat < s.box.length := by omega
    have hqb := h.bnd.qb i.a.toNat hk
    have eg : R.boxAt s i.a.toNat = s.box[i.a.toNat] := by simp [R.boxAt, List.getD, hk]
    unfold R.recvS
    split
    · have := (h.modify t (fun x => { x with got := (R.boxAt s i.a.toNat).getD 0 0 }) (fun _ hx => hx.got _)).setBox i.a.toNat ((R.boxAt s i.a.toNat).drop 1) (by rw [eg]; simp; show _ ≤ s.set.queues.getD _ 0; omega)
      exact this
    · split
      · exact h.begins hnx t (fun _ => haw) 3 _ i.b (by decide) (by decide) (fun e => absurd e (by decide))
      · exact h
  · exact h

theorem RMid.stops (h : RMid s) (hnx : s.next ≤ 4611686018427386000) (t : Nat) (ht : t < s.T.length) (haw : s.T[t].awake = true) : RMid (R.stop s t) := by
  have hx := h.thr t ht
  have hf0 : s.T[t].for_ = 0 := Decidable.byContradiction fun hh => by have := (hx.fw hh).2; rw [haw] at this; cases this
  have hol : s.owner.length ≤ 8 := by have := h.good.own; have := h.good.mfew; omega
  generalize hy : ({ s.T[t] with ended := s.T[t].ended + 1, at_ := 0, last := 0 } : RT) = y
  have hQ : AllT (fun i x => if i = t then x = y else TOk s.set s.now s.owner.length i x) (R.stop0 s t).T := by
    refine AllT.modify h.thr (fun i x hi hx => by rw [if_neg hi]; exact hx) (fun _ _ => ?_)
    rw [if_pos rfl]
    exact hy
  have ho : OwnOk (R.stop0 s t) := by
    intro i hi
    have := h.own i hi
    have e : (R.stop0 s t).T.length = s.T.length := by simp [R.stop0]
    rw [e]
    exact this
  obtain ⟨hQ1, ho1⟩ := unlocksTo_all hQ ho t s.owner.length (fun u x n hx hf => by
    by_cases e : u = t
    · rw [if_pos e] at hx
      rw [hx, ← hy] at hf
      simp [hf0] at hf
    · rw [if_neg e] at hx ⊢
      exact hx.awoken (by rw [hf]; decide) 0 n)
  have L1 : RLike s (R.unlocksTo (R.stop0 s t) t s.owner.length) s.owner.length := by
    have h0 : RLike s (R.stop0 s t) 0 := like_modify _ _ _
    exact (h0.trans (like_unlocksTo _ t _)).mono (by omega)
  have B1 : RBounds (R.unlocksTo (R.stop0 s t) t s.owner.length) := by
    have hc : ∀ k, (R.unlocksTo (R.stop0 s t) t k).count = s.count ∧ (R.unlocksTo (R.stop0 s t) t k).box = s.box := by
      intro k
      induction k with
      | zero => exact ⟨rfl, rfl⟩
      | succ k ih =>
        unfold R.unlocksTo R.unlockS
        split
        · obtain ⟨p1, p2, p3, p4, p5, p6, p7, p8, p9⟩ := giveS_parts (R.unlocksTo (R.stop0 s t) t k) 1 (k : Int)
          exact ⟨p7.trans ih.1, p8.trans ih.2⟩
        · exact ih
    obtain ⟨c1, c2⟩ := hc s.owner.length
    refine ⟨by rw [c1, L1.set]; exact h.bnd.cs, ?_, by rw [c2, L1.set]; exact h.bnd.qs, ?_⟩
    · rw [L1.set]
      intro k hk
      simp only [c1] at hk ⊢
      exact h.bnd.cb k hk
    · rw [L1.set]
      intro k hk
      simp only [c2] at hk ⊢
      exact h.bnd.qb k hk
  unfold R.stop
  generalize R.unlocksTo (R.stop0 s t) t s.owner.length = s1 at *
  have ht1 : t < s1.T.length := by rw [L1.len]; exact ht
  have hy1 : s1.T[t] = y := by have := hQ1 t ht1; simp only [if_pos] at this; exact this
  have hea : (R.th (R.asleep s1 t).T t) = { y with awake := false } := by
    have ht2 : t < (R.asleep s1 t).T.length := by simp [R.asleep]; exact ht1
    rw [th_ext ht2]
    simp [R.asleep, hy1]
  rw [hea]
  have hae := hx.aw haw
  have h0 := hx.e0
  have LA : RLike s (R.asleep s1 t) s.owner.length := (L1.trans (like_modify s1 t _)).mono (by omega)
  have BA : RBounds (R.asleep s1 t) := ⟨B1.cs, B1.cb, B1.qs, B1.qb⟩
  have OA : OwnOk (R.asleep s1 t) := by
    intro i hi
    have := ho1 i hi
    have e : (R.asleep s1 t).T.length = s1.T.length := by simp [R.asleep]
    rw [e]
    exact this
  split
  · rename_i hlt
    have L2 := (LA.trans (like_wake (R.asleep s1 t) t)).mono (show (s.owner.length : Int) + 1 ≤ 9 by omega)
    refine h.like L2 (by omega) ⟨BA.cs, BA.cb, BA.qs, BA.qb⟩ ?_ ?_
    · intro i hi
      have := OA i hi
      have e : (R.wake (R.asleep s1 t) t).T.length = (R.asleep s1 t).T.length := by simp [R.wake]
      rw [e]
      exact this
    · have e : (R.wake (R.asleep s1 t) t).T = s1.T.modify t (fun x => { x with awake := true, tick := s1.next + 1 }) := by
        simp only [R.wake, R.asleep, List.modify_modify_eq]
        rfl
      rw [e]
      refine AllT.modify hQ1 (fun i x hi hx => by rw [if_neg hi] at hx; exact hx) (fun _ hx1 => ?_)
      rw [hy1, ← hy]
      rw [← hy] at hlt
      have hlt' : s.T[t].ended + 1 < s.T[t].rel := hlt
      exact ⟨Int.le_refl _, by simp, by show 0 ≤ s.T[t].ended + 1; omega, by show s.T[t].ended + 1 ≤ s.T[t].rel; omega, hx.r0, fun _ => hlt', fun hh => absurd hf0 hh, fun hh => (by cases hh), hx.of1, hx.fr⟩
  · rename_i hlt
    refine h.like (LA.mono (show (s.owner.length : Int) ≤ 9 by omega)) (by omega) BA OA ?_
    refine AllT.modify hQ1 (fun i x hi hx => by rw [if_neg hi] at hx; exact hx) (fun _ hx1 => ?_)
    rw [hy1, ← hy]
    rw [← hy] at hlt
    have hlt' : ¬ s.T[t].ended + 1 < s.T[t].rel := hlt
    exact ⟨Int.le_refl _, by simp, by show 0 ≤ s.T[t].ended + 1; omega, by show s.T[t].ended + 1 ≤ s.T[t].rel; omega, hx.r0, fun hh => (by cases hh), fun hh => absurd hf0 hh, fun _ _ => (by show s.T[t].ended + 1 = s.T[t].rel; omega), hx.of1, hx.fr⟩
end

end Go.Proofs.YthnjabnlocpoaaaGreat

/-
  What holds of the document's kernel behind every step: New, Pick, Tick.
-/
namespace Go.Proofs.YthnjabnlocpoaaaGreat

theorem R.on_spec (T : List RT) (w : Int) (h : 0 ≤ R.on T w) : (R.th T (R.on T w).toNat).wkr = w := by
  unfold R.on P3.badOr at h ⊢
  split at h
  · rename_i hl
    rw [if_pos hl]
    have := List.findIdx_getElem (p := fun x : RT => !(x.wkr != w)) (xs := T) (w := hl)
    have e : ((P3.bad (fun x : RT => x.wkr != w) T : Int)).toNat = P3.bad (fun x : RT => x.wkr != w) T := by omega
    rw [e, th_ext hl]
    have h3 : (!((T[P3.bad (fun x : RT => x.wkr != w) T]'hl).wkr != w)) = true := this
    simpa using h3
  · omega

theorem RInv.pick {s : RS} (h : RInv s) (wk : Int) (hnx : s.next ≤ 4611686018427386000) : RInv (R.pickS s wk) := by
  unfold R.pickS
  split
  · exact h
  split
  · exact h
  · rename_i hw hon
    obtain ⟨o0, o1⟩ := R.on_bd s.T wk
    have hsp := R.on_spec s.T wk (by omega)
    have ht : (R.on s.T wk).toNat < s.T.length := by omega
    generalize (R.on s.T wk).toNat = t at *
    rw [th_ext ht] at hsp
    have haw : s.T[t].awake = true := h.wk t ht (by rw [hsp]; omega)
    have hx := h.thr t ht
    have hol : s.owner.length ≤ 8 := by have := h.good.own; have := h.good.mfew; omega
    have htc : t < s.set.threads.length := by have := h.good.len; omega
    have ecl : R.codeLen s.set t = s.set.threads[t].code.length := by simp [R.codeLen, List.getD, htc]
    have eI : R.instrAt s t = (s.set.threads[t].code)[s.T[t].at_.toNat]?.getD ⟨0, 0, 0⟩ := by
      unfold R.instrAt
      rw [th_ext ht]
      simp [List.getD, htc]
    refine RMid.settle ?_
    unfold R.actS
    split
    · exact h.toRMid.stops hnx t ht haw
    · rename_i hop
      have hlt : s.T[t].at_.toNat < s.set.threads[t].code.length := by
        rcases Nat.lt_or_ge s.T[t].at_.toNat s.set.threads[t].code.length with h' | h'
        · exact h'
        · rw [eI, List.getElem?_eq_none h'] at hop
          exact absurd rfl hop
      have eI2 : R.instrAt s t = s.set.threads[t].code[s.T[t].at_.toNat] := by rw [eI]; simp [hlt]
      have hins := h.toRMid.ins t htc _ (List.getElem_mem hlt)
      rw [← eI2] at hins
      have h0 := hx.at0
      have hat : ∀ v : Int, 0 ≤ v → v ≤ R.codeLen s.set t → RMid (R.toAt s t v) := fun v a b => h.toRMid.modify t _ (fun _ hx => hx.at_ v a b)
      rw [th_ext ht]
      split
      · rename_i h3
        obtain ⟨b0, b1⟩ := hins.2.1 h3
        split
        · exact hat _ b0 (by rw [ecl]; exact b1)
        · exact hat _ (by omega) (by rw [ecl]; omega)
      · have hm := hat (s.T[t].at_ + 1) (by omega) (by rw [ecl]; omega)
        have ht2 : t < (R.toAt s t (s.T[t].at_ + 1)).T.length := by simp [R.toAt]; exact ht
        have haw2 : (R.toAt s t (s.T[t].at_ + 1)).T[t].awake = true := by simp [R.toAt]; exact haw
        exact (hm.does (by show s.next ≤ _; omega) t ht2 haw2 _ (hins.1.like (like_toAt s t _))).modify t _ (fun _ hx => hx.last _)

theorem R.dueTo_spec (T : List RT) (now : Int) (k : Nat) (h : 0 ≤ R.dueTo T now k) : (R.th T (R.dueTo T now k).toNat).for_ ≠ 0 := by
  induction k with
  | zero => simp [R.dueTo] at h
  | succ k ih =>
    unfold R.dueTo at h ⊢
    split at h
    · rename_i hc
      rw [if_pos hc]
      simpa using hc.1
    · rename_i hc
      rw [if_neg hc]
      exact ih h

theorem endsTo_all {Q : Nat → RT → Prop} {s : RS} (h : AllT Q s.T) (k : Nat) (step : ∀ (u : Nat) (x : RT) (c n : Int), Q u x → x.for_ ≠ 0 → Q u { x with for_ := 0, of_ := 0, until_ := 0, last := c, awake := true, tick := n }) : AllT Q (R.endsTo s k).T := by
  induction k with
  | zero => exact h
  | succ k ih =>
    unfold R.endsTo R.endOne
    split
    · exact ih
    · rename_i hd
      refine endW_all ih fun ht n hx => step _ _ _ n hx ?_
      have := R.dueTo_spec (R.endsTo s k).T (R.endsTo s k).now (R.endsTo s k).T.length (by unfold R.due at hd; omega)
      rw [← th_ext ht]
      exact this
theorem endsTo_rest (s : RS) (k : Nat) : (R.endsTo s k).count = s.count ∧ (R.endsTo s k).box = s.box ∧ (R.endsTo s k).missed = s.missed := by
  induction k with
  | zero => exact ⟨rfl, rfl, rfl⟩
  | succ k ih =>
    unfold R.endsTo R.endOne
    split
    · exact ih
    · obtain ⟨h1, h2, h3, h4, h5, h6, h7, h8⟩ := endW_parts (R.endsTo s k) (R.due (R.endsTo s k)).toNat (if (R.th (R.endsTo s k).T (R.due (R.endsTo s k)).toNat).for_ = 4 then 0 else 2)
      exact ⟨h6.trans ih.1, h7.trans ih.2.1, h8.trans ih.2.2⟩
theorem releaseTo_rest (s : RS) (k : Nat) : (R.releaseTo s k).count = s.count ∧ (R.releaseTo s k).box = s.box ∧ (R.releaseTo s k).missed = s.missed := by
  induction k with
  | zero => exact ⟨rfl, rfl, rfl⟩
  | succ k ih =>
    unfold R.releaseTo R.releaseOne R.wake
    split
    · split
      · exact ih
      · exact ih
    · exact ih

/-- release: from the time ahead to now. -/
theorem releaseTo_all {s : RS} {S : SetD} {now : Int} {nO : Nat} (hS : s.set = S) (hn : s.now = now) (hoff : ∀ t, 0 ≤ (S.threads.getD t P3.none0).period) (h : AllT (TOk S (now - 1) nO) s.T) (k : Nat) :
    AllT (fun t x => if t < k then TOk S now nO t x else TOk S (now - 1) nO t x) (R.releaseTo s k).T := by
  induction k with
  | zero => exact h.mono (fun t x hx => by rw [if_neg (by omega)]; exact hx)
  | succ k ih =>
    unfold R.releaseTo
    have hset : (R.releaseTo s k).set = S := (R.releaseTo_set s k).trans hS
    have hnow : (R.releaseTo s k).now = now := (R.releaseTo_now s k).trans hn
    have other : ∀ i x, i ≠ k → (if i < k then TOk S now nO i x else TOk S (now - 1) nO i x) → (if i < k + 1 then TOk S now nO i x else TOk S (now - 1) nO i x) := by
      intro i x hi hx
      by_cases e : i < k
      · rw [if_pos e] at hx
        rw [if_pos (by omega)]
        exact hx
      · rw [if_neg e] at hx
        rw [if_neg (by omega)]
        exact hx
    obtain ⟨st1, st2⟩ := relBy_step S k now (hoff k)
    generalize R.releaseTo s k = sk at *
    unfold R.releaseOne R.numberAt
    rw [hset, hnow]
    split
    · rename_i hp
      rw [if_pos hp] at st1
      have hrel := st2 hp
      generalize R.number (S.threads.getD k P3.none0).period (now - S.start - (S.threads.getD k P3.none0).offset - 0) = num at *
      by_cases hl : k < sk.T.length
      · rw [th_ext hl]
        split
        · rename_i he
          have e : (R.wake { sk with T := sk.T.modify k (fun x => { x with rel := num + 1 }) } k).T = sk.T.modify k (fun x => { x with rel := num + 1, awake := true, tick := sk.next + 1 }) := by
            simp only [R.wake, List.modify_modify_eq]
            rfl
          show AllT _ (R.wake { sk with T := sk.T.modify k (fun x => { x with rel := num + 1 }) } k).T
          rw [e]
          refine ih.modify other (fun _ hx => ?_)
          rw [if_neg (by omega)] at hx
          rw [if_pos (by omega)]
          have hr := hx.r0
          have he1 := hx.e1
          refine ⟨hx.at0, hx.at1, hx.e0, by show sk.T[k].ended ≤ num + 1; omega, by show num + 1 = _; omega, fun _ => (by show sk.T[k].ended < num + 1; omega), fun hf => ?_, fun hh => (by cases hh), hx.of1, hx.fr⟩
          have := (hx.fw hf).1
          omega
        · rename_i hne
          refine ih.modify other (fun _ hx => ?_)
          rw [if_neg (by omega)] at hx
          rw [if_pos (by omega)]
          have hr := hx.r0
          have he1 := hx.e1
          refine ⟨hx.at0, hx.at1, hx.e0, by show sk.T[k].ended ≤ num + 1; omega, by show num + 1 = _; omega, fun _ => (by show sk.T[k].ended < num + 1; omega), fun hf => ⟨(by show sk.T[k].ended < num + 1; omega), (hx.fw hf).2⟩, fun ha hf => ?_, hx.of1, hx.fr⟩
          have := hx.id ha hf
          exact absurd this.symm hne
      · have em : ∀ f : RT → RT, sk.T.modify k f = sk.T := by
          intro f
          apply List.ext_getElem
          · simp
          · intro i h1 h2
            rw [List.getElem_modify, if_neg (by omega)]
        split
        · show AllT _ ((sk.T.modify k _).modify k _)
          rw [em, em]
          intro i hi
          exact other i _ (by omega) (ih i hi)
        · show AllT _ (sk.T.modify k _)
          rw [em]
          intro i hi
          exact other i _ (by omega) (ih i hi)
    · rename_i hp
      rw [if_neg hp] at st1
      intro i hi
      by_cases e : i = k
      · subst e
        have hx : TOk S (now - 1) nO i sk.T[i] := by
          have := ih i hi
          simp only [Nat.lt_irrefl, if_false] at this
          exact this
        rw [if_pos (by omega)]
        exact ⟨hx.at0, hx.at1, hx.e0, hx.e1, by rw [st1]; exact hx.r0, hx.aw, hx.fw, hx.id, hx.of1, hx.fr⟩
      · exact other i _ e (ih i hi)

theorem off_all {S : SetD} (h : ∀ t ∈ S.threads, 0 ≤ t.offset ∧ t.offset ≤ 1000 ∧ 0 ≤ t.period ∧ t.period ≤ 1000 ∧ 0 ≤ t.deadline ∧ t.deadline ≤ 1000) (t : Nat) : 0 ≤ (S.threads.getD t P3.none0).period := by
  by_cases ht : t < S.threads.length
  · have e : S.threads.getD t P3.none0 = S.threads[t] := by simp [List.getD, ht]
    rw [e]
    exact (h _ (List.getElem_mem ht)).2.2.1
  · simp [List.getD, ht, P3.none0]

/-- release and settle, of a kernel whose threads stand as at the time ahead. -/
theorem released {s : RS} (g : RGood s) (hnx : s.next ≤ 4611686018427387000) (b : RBounds s) (ok : P3.err s.set = 0) (o : OwnOk s) (t : AllT (TOk s.set (s.now - 1) s.owner.length) s.T) (m : (s.missed.length : Int) ≤ 16 * (s.now - s.set.start)) : RInv (R.settle (R.release s)) := by
  have hs : (R.release s).set = s.set := R.releaseTo_set _ _
  have hn : (R.release s).now = s.now := R.releaseTo_now _ _
  have hl : (R.release s).T.length = s.T.length := R.releaseTo_len _ _
  have ho : (R.release s).owner = s.owner := releaseTo_owner _ _
  obtain ⟨c1, c2, c3⟩ := releaseTo_rest s s.T.length
  have c1' : (R.release s).count = s.count := c1
  have c2' : (R.release s).box = s.box := c2
  have c3' : (R.release s).missed = s.missed := c3
  have ha := releaseTo_all (s := s) rfl rfl (off_all g.off) t s.T.length
  refine RMid.settle ⟨good_release g hnx, ⟨by rw [c1', hs]; exact b.cs, ?_, by rw [c2', hs]; exact b.qs, ?_⟩, by rw [hs]; exact ok, ?_, ?_, by rw [c3', hn, hs]; exact m⟩
  · rw [hs]
    intro k hk
    simp only [c1'] at hk ⊢
    exact b.cb k hk
  · rw [hs]
    intro k hk
    simp only [c2'] at hk ⊢
    exact b.qb k hk
  · intro i hi
    rw [hl]
    simp only [ho] at hi ⊢
    exact o i hi
  · rw [hs, hn, ho]
    intro i hi
    have := ha i hi
    have hl' : i < s.T.length := by rw [← hl]; exact hi
    simp only [if_pos hl'] at this
    exact this

theorem RInv.tick {s : RS} (h : RInv s) (hnow : s.now < 1000000000) (hnx : s.next ≤ 4611686018427386000) : RInv (R.tick s) := by
  have g0 := good_missing h.good hnow
  have hfew := h.good.few
  obtain ⟨a, b, c, d, e, f⟩ := R.endsTo_set (R.missing s) (R.missing s).T.length
  obtain ⟨c1, c2, c3⟩ := endsTo_rest (R.missing s) (R.missing s).T.length
  have hnx1 : (R.missing s).next = s.next := rfl
  have hl1 : (R.missing s).T.length = s.T.length := rfl
  have ha : AllT (TOk s.set s.now s.owner.length) (R.endsTo (R.missing s) (R.missing s).T.length).T   := endsTo_all (s := R.missing s) (show AllT (TOk s.set s.now s.owner.length) (R.missing s).T from h.thr) _ (fun u x c n hx hf => hx.awoken hf c n)
  have hll := R.lateTo_len (R.ticked s) s.T.length
  unfold R.tick R.ends
  refine released (good_endsTo g0 (by omega) _ (by omega)) (by omega) ⟨by rw [c1, a]; exact h.bnd.cs, ?_, by rw [c2, a]; exact h.bnd.qs, ?_⟩ (by rw [a]; exact h.ok) ?_ ?_ ?_
  · rw [a]
    intro k hk
    simp only [c1] at hk ⊢
    exact h.bnd.cb k hk
  · rw [a]
    intro k hk
    simp only [c2] at hk ⊢
    exact h.bnd.qb k hk
  · intro i hi
    rw [d]
    simp only [c] at hi ⊢
    exact h.own i hi
  · rw [a, b, c]
    have e1 : (R.missing s).now - 1 = s.now := by show s.now + 1 - 1 = s.now; omega
    rw [e1]
    exact ha
  · rw [c3, b, a]
    have e2 : (R.missing s).missed = s.missed ++ R.lateTo (R.ticked s) s.T.length := rfl
    have e3 : (R.missing s).now = s.now + 1 := rfl
    have e4 : (R.missing s).set = s.set := rfl
    rw [e2, e3, e4, List.length_append]
    have := h.mis
    omega

theorem inv_new {S : SetD} (h : P3.err S = 0) : RInv (R.new S) := by
  have g := good_bare h
  have hx : (R.bare S).next = 0 := rfl
  unfold R.new
  refine released g (by rw [hx]; decide) ⟨by simp [R.bare], fun k hk => ?_, by simp [R.bare], fun k hk => ?_⟩ h (fun i hi => ?_) ?_ ?_
  · have hk' : k < S.sems.length := by simpa [R.bare] using hk
    have := ok_sem (s := R.bare S) h k hk'
    have e : (R.bare S).count[k] = (S.sems.getD k R.pair0).x := by simp [R.bare, List.getD, hk']
    rw [e]
    exact ⟨this.2.2.1, this.2.2.2⟩
  · have hk' : k < S.queues.length := by simpa [R.bare] using hk
    have := ok_queue (s := R.bare S) h k hk'
    have e : (R.bare S).box[k] = [] := by simp [R.bare]
    rw [e]
    simp only [List.length_nil]
    have h2 := this.1
    show (0 : Int) ≤ (R.bare S).set.queues.getD k 0
    omega
  · have e : (R.bare S).owner[i] = -1 := by simp [R.bare]
    rw [e]
    exact ⟨Int.le_refl _, by omega⟩
  · intro t ht
    have ht' : t < S.threads.length := by simpa [R.bare] using ht
    have ho := g.off S.threads[t] (List.getElem_mem ht')
    have ed : S.threads.getD t P3.none0 = S.threads[t] := by simp [List.getD, ht']
    have hr : R.relBy (R.bare S).set t ((R.bare S).now - 1) = 0 := by
      unfold R.relBy
      rw [if_pos]
      show S.start - 1 - S.start - (S.threads.getD t P3.none0).offset < 0
      rw [ed]
      omega
    have e : (R.bare S).T[t] = { R.rt0 with base := S.threads[t].base, wkr := -1 } := by simp [R.bare]
    rw [e]
    refine ⟨Int.le_refl _, ?_, Int.le_refl _, Int.le_refl _, hr.symm, fun hh => ?_, fun hh => absurd rfl hh, fun _ _ => rfl, fun hh => ?_, by simp [R.rt0]⟩
    · show (0 : Int) ≤ (R.codeLen S t : Int)
      omega
    · simp [R.rt0] at hh
    · simp [R.rt0] at hh
  · show ((([] : List MissD)).length : Int) ≤ 16 * (S.start - S.start)
    simp

end Go.Proofs.YthnjabnlocpoaaaGreat

/-
  Walks over package donateref: Waiting.
-/
namespace Go.Proofs.YthnjabnlocpoaaaGreat
open Go.RowKit

/-- How many things there are of a kind that can be waited for. -/
def R.things (s : RS) (what : Int) : Int := if what = 1 then s.owner.length else if what = 2 then s.count.length else if what = 3 then s.box.length else 0
def lenV : Value → Nat
  | .slice _ n _ => n
  | _ => 0

theorem R.waitTo_stop (s : RS) (what of_ : Int) (k : Nat) (h : R.first s what of_ (R.waitTo s what of_ k) < 0) (j : Nat) : R.waitTo s what of_ (k + j) = R.waitTo s what of_ k := by
  induction j with
  | zero => rfl
  | succ j ih =>
    show (if R.first s what of_ (R.waitTo s what of_ (k + j)) < 0 then R.waitTo s what of_ (k + j) else R.waitTo s what of_ (k + j) ++ [R.first s what of_ (R.waitTo s what of_ (k + j))]) = _
    rw [ih, if_pos h]

set_option maxRecDepth 100000 in
set_option maxHeartbeats 2000000 in
theorem rWaiting_any (F : Nat → Prop) (w : World) (sb : Nat) (h : RH) (s : RS) (m : RMem F w sb h s) (g : RGood s) (hc4 : s.count.length ≤ 4) (hq4 : s.box.length ≤ 4) (what i : Int) :
    Calls Tryz.prog 80 #[.pointer (some ⟨sb, 0, none⟩), .int .i64 what, .int .i64 i] w fun e w' => Below w.heap.size w w' ∧
      (((i < 0 ∨ R.things s what ≤ i) ∧ e = .returned (.tuple #[.slice none 0 0, .int .i64 7])) ∨
      (¬ (i < 0 ∨ R.things s what ≤ i) ∧ ∃ v, e = .returned (.tuple #[v, .int .i64 0]) ∧ w'.ownsRow w.heap.size 3 1 v (R.waiting s what i).length (intCells (R.waiting s what i)))) := by
  have hfew := g.few
  have hol := g.own
  have hmf := g.mfew
  have c8 := m.blk.cell 8
  have c9 := m.blk.cell 9
  have c10 := m.blk.cell 10
  have c11 := m.blk.cell 11
  simp [rsCells] at c8 c9 c10 c11
  obtain ⟨ao, co, hvO, _, _⟩ := owns_cells m.oth.own
  obtain ⟨ac, cc, hvC, _, _⟩ := owns_cells m.oth.cnt
  obtain ⟨ab, cb, hvB, _, _⟩ := owns_cells m.oth.box.1
  rw [hvO] at c9
  rw [hvC] at c10
  rw [hvB] at c11
  have M := hid m
  have G := hid g
  have ETH : Hid (R.things s what = if what = 1 then (s.owner.length : Int) else if what = 2 then (s.count.length : Int) else if what = 3 then (s.box.length : Int) else 0) := rfl
  clear m g hvO hvC hvB
  generalize R.things s what = n at *
  obtain ⟨i3, hi3, hz30, hz31, hz32⟩ := info_parts Tryz.infoInt
  have HI3 := hid (And.intro hi3 (And.intro hz30 (And.intro hz31 hz32)))
  clear hi3 hz30 hz31 hz32
  have hn : n ≤ 8 ∧ 0 ≤ n := by
    have := ETH.out
    split at this
    · omega
    · split at this
      · omega
      · split at this <;> omega
  go_enter Tryz.func80, Tryz.ntmps80
  by_cases h1 : what = 1
  · subst h1
    have HN : Hid (n = (s.owner.length : Int)) := by rw [ETH.out]; exact hid rfl
    clear ETH
    by_cases hneg : i < 0
    · go_wp2
      go_ret2
      exact ⟨Below.refl _ _, .inl ⟨.inl hneg, rfl⟩⟩
    · by_cases hge : (s.owner.length : Int) ≤ i
      · go_wp2
        go_ret2
        exact ⟨Below.refl _ _, .inl ⟨.inr (by rw [HN.out]; exact hge), rfl⟩⟩
      · have hno : ¬ (i < 0 ∨ n ≤ i) := by rw [HN.out]; omega
        have HNO := hid hno
        clear hno
        go_wp2
        go_loopw [9] (fun v wr => ∃ j : Nat, j ≤ s.T.length + 1 ∧ (R.waitTo s 1 i j).length = j ∧ wr.ownsRow w.heap.size 3 1 v j (intCells (R.waitTo s 1 i j)) ∧ Below w.heap.size w wr) (fun v _ => s.T.length + 1 - lenV v)
        case atStart => exact ⟨0, Nat.zero_le _, rfl, World.ownsRow_nil _ _ _ _, Below.refl _ _⟩
        case round =>
          obtain ⟨j, hj, hlen, hrow, hb⟩ := hrel
          have hrow' : wr.ownsRow w.heap.size 3 1 u9 (R.waitTo s 1 i j).length (intCells (R.waitTo s 1 i j)) := by rw [hlen]; exact hrow
          obtain ⟨lv, lc, rfl, hln, hli, hla⟩ := IntsIn.of_owns hrow'
          have HLI := hid hli
          have ROW := hid hrow
          have HB := hid hb
          have hsz := hb.size
          have MK := hid (M.out.below hb)
          have c8' := MK.out.blk.cell 8
          simp [rsCells] at c8'
          have ES : Hid (R.waitTo s 1 i (j + 1) = if R.first s 1 i (R.waitTo s 1 i j) < 0 then R.waitTo s 1 i j else R.waitTo s 1 i j ++ [R.first s 1 i (R.waitTo s 1 i j)]) := rfl
          have STOP := hid (R.waitTo_stop s 1 i j)
          have FB := R.firstTo_bd s 1 i (R.waitTo s 1 i j) s.T.length
          have HFB := hid FB
          have FR := hid (rFirst_any F wr sb h s MK.out G.out 1 i lv lc (R.waitTo s 1 i j) hli (by omega))
          have EF : R.first s 1 i (R.waitTo s 1 i j) = R.firstTo s 1 i (R.waitTo s 1 i j) s.T.length := rfl
          rw [← EF] at FB
          have EW : Hid (R.waiting s 1 i = R.waitTo s 1 i (s.T.length + 1)) := rfl
          clear hrow hrow' hli hla hb EF
          generalize hL : R.waitTo s 1 i j = L at *
          have HL := hid hL
          clear hL
          subst hlen
          have hLI : (L.length : Int) ≤ 17 := by omega
          by_cases hjl : L.length < s.T.length + 1
          · have hjI : (L.length : Int) ≤ (s.T.length : Int) := by omega
            go_wp2_with fail
            refine FR.out.mono ?_
            rintro e w1 ⟨rfl, nd, rfl⟩
            have ROW1 : Hid ((wr.drewN nd).ownsRow w.heap.size 3 1 (.slice lv L.length lc) L.length (intCells L)) := ROW.out
            have HB1 : Hid (Below w.heap.size w (wr.drewN nd)) := bdrewN HB.out nd
            have hsz1 : w.heap.size ≤ (wr.drewN nd).heap.size := hsz
            clear ROW HB c8' FR HLI MK
            generalize wr.drewN nd = w1 at *
            generalize hfi : R.first s 1 i L = fi at *
            have HFI := hid hfi
            clear hfi
            by_cases hfn : fi < 0
            · rw [if_pos hfn] at ES
              go_wp2
              go_ret2
              have e : R.waiting s 1 i = L := by
                rw [EW.out]
                have hst := STOP.out hfn (s.T.length + 1 - L.length)
                rw [show L.length + (s.T.length + 1 - L.length) = s.T.length + 1 by omega] at hst
                exact hst
              refine ⟨HB1.out, .inr ⟨HNO.out, .slice lv L.length lc, rfl, ?_⟩⟩
              rw [e]
              exact ROW1.out
            · rw [if_neg hfn] at ES
              go_wp2_with (at_builtin; refine wpList_append_src rfl (.tmp 55) (.tmp 57) 25 rfl w.heap.size 3 i3 (.int .i64 0) 1 8 Tryz.underlying25 HI3.out.1 HI3.out.2.1 HI3.out.2.2.1 HI3.out.2.2.2 rfl (by decide) (.slice lv L.length lc) L.length (intCells L) rfl (ROW1.out.alloc _) (some ⟨w1.heap.size, 0, none⟩) 1 1 [.int .i64 fi] rfl rfl (fun h => (by cases h)) (fun j u hj => ⟨_, rfl, (by rw [Addr.add_lit, Nat.zero_add, (Blk.new w1 #[.int .i64 fi] 3).cell]; simpa using hj)⟩) (by intro u hu; simp at hu; subst hu; rfl) (by unfold maxLen; omega) (by omega) (by simp; omega) ?_; intro v' w2 hown2 hg2; obtain ⟨tv5, tc5, rfl, _, _⟩ := owns_cells hown2; have O2 := hid hown2; have G2 := hid hg2; clear hown2 hg2)
              go_roundw
              case rel =>
                refine ⟨L.length + 1, by omega, by rw [ES.out]; simp, ?_, (HB1.out.alloc (by omega) _).grown G2.out (by simp; omega) (fun g hg => (ownsRow_block ROW1.out hg).1)⟩
                rw [ES.out, intCells_append]
                exact O2.out
              case measure => simp [lenV]; omega
          · have e : L.length = s.T.length + 1 := by omega
            have e2 : R.waiting s 1 i = L := by
              rw [EW.out, ← e]
              exact HL.out
            go_wp2
            go_ret2
            refine ⟨HB.out, .inr ⟨HNO.out, .slice lv L.length lc, rfl, ?_⟩⟩
            rw [e2]
            exact ROW.out
  by_cases h2 : what = 2
  · subst h2
    have HN : Hid (n = (s.count.length : Int)) := by rw [ETH.out]; exact hid rfl
    clear ETH
    by_cases hneg : i < 0
    · go_wp2
      go_ret2
      exact ⟨Below.refl _ _, .inl ⟨.inl hneg, rfl⟩⟩
    · by_cases hge : (s.count.length : Int) ≤ i
      · go_wp2
        go_ret2
        exact ⟨Below.refl _ _, .inl ⟨.inr (by rw [HN.out]; exact hge), rfl⟩⟩
      · have hno : ¬ (i < 0 ∨ n ≤ i) := by rw [HN.out]; omega
        have HNO := hid hno
        clear hno
        go_wp2
        go_loopw [9] (fun v wr => ∃ j : Nat, j ≤ s.T.length + 1 ∧ (R.waitTo s 2 i j).length = j ∧ wr.ownsRow w.heap.size 3 1 v j (intCells (R.waitTo s 2 i j)) ∧ Below w.heap.size w wr) (fun v _ => s.T.length + 1 - lenV v)
        case atStart => exact ⟨0, Nat.zero_le _, rfl, World.ownsRow_nil _ _ _ _, Below.refl _ _⟩
        case round =>
          obtain ⟨j, hj, hlen, hrow, hb⟩ := hrel
          have hrow' : wr.ownsRow w.heap.size 3 1 u9 (R.waitTo s 2 i j).length (intCells (R.waitTo s 2 i j)) := by rw [hlen]; exact hrow
          obtain ⟨lv, lc, rfl, hln, hli, hla⟩ := IntsIn.of_owns hrow'
          have HLI := hid hli
          have ROW := hid hrow
          have HB := hid hb
          have hsz := hb.size
          have MK := hid (M.out.below hb)
          have c8' := MK.out.blk.cell 8
          simp [rsCells] at c8'
          have ES : Hid (R.waitTo s 2 i (j + 1) = if R.first s 2 i (R.waitTo s 2 i j) < 0 then R.waitTo s 2 i j else R.waitTo s 2 i j ++ [R.first s 2 i (R.waitTo s 2 i j)]) := rfl
          have STOP := hid (R.waitTo_stop s 2 i j)
          have FB := R.firstTo_bd s 2 i (R.waitTo s 2 i j) s.T.length
          have HFB := hid FB
          have FR := hid (rFirst_any F wr sb h s MK.out G.out 2 i lv lc (R.waitTo s 2 i j) hli (by omega))
          have EF : R.first s 2 i (R.waitTo s 2 i j) = R.firstTo s 2 i (R.waitTo s 2 i j) s.T.length := rfl
          rw [← EF] at FB
          have EW : Hid (R.waiting s 2 i = R.waitTo s 2 i (s.T.length + 1)) := rfl
          clear hrow hrow' hli hla hb EF
          generalize hL : R.waitTo s 2 i j = L at *
          have HL := hid hL
          clear hL
          subst hlen
          have hLI : (L.length : Int) ≤ 17 := by omega
          by_cases hjl : L.length < s.T.length + 1
          · have hjI : (L.length : Int) ≤ (s.T.length : Int) := by omega
            go_wp2_with fail
            refine FR.out.mono ?_
            rintro e w1 ⟨rfl, nd, rfl⟩
            have ROW1 : Hid ((wr.drewN nd).ownsRow w.heap.size 3 1 (.slice lv L.length lc) L.length (intCells L)) := ROW.out
            have HB1 : Hid (Below w.heap.size w (wr.drewN nd)) := bdrewN HB.out nd
            have hsz1 : w.heap.size ≤ (wr.drewN nd).heap.size := hsz
            clear ROW HB c8' FR HLI MK
            generalize wr.drewN nd = w1 at *
            generalize hfi : R.first s 2 i L = fi at *
            have HFI := hid hfi
            clear hfi
            by_cases hfn : fi < 0
            · rw [if_pos hfn] at ES
              go_wp2
              go_ret2
              have e : R.waiting s 2 i = L := by
                rw [EW.out]
                have hst := STOP.out hfn (s.T.length + 1 - L.length)
                rw [show L.length + (s.T.length + 1 - L.length) = s.T.length + 1 by omega] at hst
                exact hst
              refine ⟨HB1.out, .inr ⟨HNO.out, .slice lv L.length lc, rfl, ?_⟩⟩
              rw [e]
              exact ROW1.out
            · rw [if_neg hfn] at ES
              go_wp2_with (at_builtin; refine wpList_append_src rfl (.tmp 55) (.tmp 57) 25 rfl w.heap.size 3 i3 (.int .i64 0) 1 8 Tryz.underlying25 HI3.out.1 HI3.out.2.1 HI3.out.2.2.1 HI3.out.2.2.2 rfl (by decide) (.slice lv L.length lc) L.length (intCells L) rfl (ROW1.out.alloc _) (some ⟨w1.heap.size, 0, none⟩) 1 1 [.int .i64 fi] rfl rfl (fun h => (by cases h)) (fun j u hj => ⟨_, rfl, (by rw [Addr.add_lit, Nat.zero_add, (Blk.new w1 #[.int .i64 fi] 3).cell]; simpa using hj)⟩) (by intro u hu; simp at hu; subst hu; rfl) (by unfold maxLen; omega) (by omega) (by simp; omega) ?_; intro v' w2 hown2 hg2; obtain ⟨tv5, tc5, rfl, _, _⟩ := owns_cells hown2; have O2 := hid hown2; have G2 := hid hg2; clear hown2 hg2)
              go_roundw
              case rel =>
                refine ⟨L.length + 1, by omega, by rw [ES.out]; simp, ?_, (HB1.out.alloc (by omega) _).grown G2.out (by simp; omega) (fun g hg => (ownsRow_block ROW1.out hg).1)⟩
                rw [ES.out, intCells_append]
                exact O2.out
              case measure => simp [lenV]; omega
          · have e : L.length = s.T.length + 1 := by omega
            have e2 : R.waiting s 2 i = L := by
              rw [EW.out, ← e]
              exact HL.out
            go_wp2
            go_ret2
            refine ⟨HB.out, .inr ⟨HNO.out, .slice lv L.length lc, rfl, ?_⟩⟩
            rw [e2]
            exact ROW.out
  by_cases h3 : what = 3
  · subst h3
    have HN : Hid (n = (s.box.length : Int)) := by rw [ETH.out]; exact hid rfl
    clear ETH
    by_cases hneg : i < 0
    · go_wp2
      go_ret2
      exact ⟨Below.refl _ _, .inl ⟨.inl hneg, rfl⟩⟩
    · by_cases hge : (s.box.length : Int) ≤ i
      · go_wp2
        go_ret2
        exact ⟨Below.refl _ _, .inl ⟨.inr (by rw [HN.out]; exact hge), rfl⟩⟩
      · have hno : ¬ (i < 0 ∨ n ≤ i) := by rw [HN.out]; omega
        have HNO := hid hno
        clear hno
        go_wp2
        go_loopw [9] (fun v wr => ∃ j : Nat, j ≤ s.T.length + 1 ∧ (R.waitTo s 3 i j).length = j ∧ wr.ownsRow w.heap.size 3 1 v j (intCells (R.waitTo s 3 i j)) ∧ Below w.heap.size w wr) (fun v _ => s.T.length + 1 - lenV v)
        case atStart => exact ⟨0, Nat.zero_le _, rfl, World.ownsRow_nil _ _ _ _, Below.refl _ _⟩
        case round =>
          obtain ⟨j, hj, hlen, hrow, hb⟩ := hrel
          have hrow' : wr.ownsRow w.heap.size 3 1 u9 (R.waitTo s 3 i j).length (intCells (R.waitTo s 3 i j)) := by rw [hlen]; exact hrow
          obtain ⟨lv, lc, rfl, hln, hli, hla⟩ := IntsIn.of_owns hrow'
          have HLI := hid hli
          have ROW := hid hrow
          have HB := hid hb
          have hsz := hb.size
          have MK := hid (M.out.below hb)
          have c8' := MK.out.blk.cell 8
          simp [rsCells] at c8'
          have ES : Hid (R.waitTo s 3 i (j + 1) = if R.first s 3 i (R.waitTo s 3 i j) < 0 then R.waitTo s 3 i j else R.waitTo s 3 i j ++ [R.first s 3 i (R.waitTo s 3 i j)]) := rfl
          have STOP := hid (R.waitTo_stop s 3 i j)
          have FB := R.firstTo_bd s 3 i (R.waitTo s 3 i j) s.T.length
          have HFB := hid FB
          have FR := hid (rFirst_any F wr sb h s MK.out G.out 3 i lv lc (R.waitTo s 3 i j) hli (by omega))
          have EF : R.first s 3 i (R.waitTo s 3 i j) = R.firstTo s 3 i (R.waitTo s 3 i j) s.T.length := rfl
          rw [← EF] at FB
          have EW : Hid (R.waiting s 3 i = R.waitTo s 3 i (s.T.length + 1)) := rfl
          clear hrow hrow' hli hla hb EF
          generalize hL : R.waitTo s 3 i j = L at *
          have HL := hid hL
          clear hL
          subst hlen
          have hLI : (L.length : Int) ≤ 17 := by omega
          by_cases hjl : L.length < s.T.length + 1
          · have hjI : (L.length : Int) ≤ (s.T.length : Int) := by omega
            go_wp2_with fail
            refine FR.out.mono ?_
            rintro e w1 ⟨rfl, nd, rfl⟩
            have ROW1 : Hid ((wr.drewN nd).ownsRow w.heap.size 3 1 (.slice lv L.length lc) L.length (intCells L)) := ROW.out
            have HB1 : Hid (Below w.heap.size w (wr.drewN nd)) := bdrewN HB.out nd
            have hsz1 : w.heap.size ≤ (wr.drewN nd).heap.size := hsz
            clear ROW HB c8' FR HLI MK
            generalize wr.drewN nd = w1 at *
            generalize hfi : R.first s 3 i L = fi at *
            have HFI := hid hfi
            clear hfi
            by_cases hfn : fi < 0
            · rw [if_pos hfn] at ES
              go_wp2
              go_ret2
              have e : R.waiting s 3 i = L := by
                rw [EW.out]
                have hst := STOP.out hfn (s.T.length + 1 - L.length)
                rw [show L.length + (s.T.length + 1 - L.length) = s.T.length + 1 by omega] at hst
                exact hst
              refine ⟨HB1.out, .inr ⟨HNO.out, .slice lv L.length lc, rfl, ?_⟩⟩
              rw [e]
              exact ROW1.out
            · rw [if_neg hfn] at ES
              go_wp2_with (at_builtin; refine wpList_append_src rfl (.tmp 55) (.tmp 57) 25 rfl w.heap.size 3 i3 (.int .i64 0) 1 8 Tryz.underlying25 HI3.out.1 HI3.out.2.1 HI3.out.2.2.1 HI3.out.2.2.2 rfl (by decide) (.slice lv L.length lc) L.length (intCells L) rfl (ROW1.out.alloc _) (some ⟨w1.heap.size, 0, none⟩) 1 1 [.int .i64 fi] rfl rfl (fun h => (by cases h)) (fun j u hj => ⟨_, rfl, (by rw [Addr.add_lit, Nat.zero_add, (Blk.new w1 #[.int .i64 fi] 3).cell]; simpa using hj)⟩) (by intro u hu; simp at hu; subst hu; rfl) (by unfold maxLen; omega) (by omega) (by simp; omega) ?_; intro v' w2 hown2 hg2; obtain ⟨tv5, tc5, rfl, _, _⟩ := owns_cells hown2; have O2 := hid hown2; have G2 := hid hg2; clear hown2 hg2)
              go_roundw
              case rel =>
                refine ⟨L.length + 1, by omega, by rw [ES.out]; simp, ?_, (HB1.out.alloc (by omega) _).grown G2.out (by simp; omega) (fun g hg => (ownsRow_block ROW1.out hg).1)⟩
                rw [ES.out, intCells_append]
                exact O2.out
              case measure => simp [lenV]; omega
          · have e : L.length = s.T.length + 1 := by omega
            have e2 : R.waiting s 3 i = L := by
              rw [EW.out, ← e]
              exact HL.out
            go_wp2
            go_ret2
            refine ⟨HB.out, .inr ⟨HNO.out, .slice lv L.length lc, rfl, ?_⟩⟩
            rw [e2]
            exact ROW.out
  · have HN : Hid (n = 0) := by rw [ETH.out, if_neg h1, if_neg h2, if_neg h3]; exact hid rfl
    have e1 : (what == 1) = false := by simpa using h1
    have e2 : (what == 2) = false := by simpa using h2
    have e3 : (what == 3) = false := by simpa using h3
    clear ETH
    by_cases hneg : i < 0
    · go_wp2
      go_ret2
      exact ⟨Below.refl _ _, .inl ⟨.inl hneg, rfl⟩⟩
    · have hge : (0 : Int) ≤ i := by omega
      go_wp2
      go_ret2
      exact ⟨Below.refl _ _, .inl ⟨.inr (by rw [HN.out]; exact hge), rfl⟩⟩

end Go.Proofs.YthnjabnlocpoaaaGreat

/-
  The document's kernel as a whole: its memory, what holds of it, and its calls.
-/
namespace Go.Proofs.YthnjabnlocpoaaaGreat
open Go.RowKit

/-- The blocks of a kernel. -/
def Kb (F : Nat → Prop) (sb : Nat) (h : RH) (b : Nat) : Prop := F b ∨ b ∈ sb :: h.foot ∨ h.vM.ownBlock = some b

/-- The document's kernel s lies at sb, in blocks of Q. -/
structure RK (Q : Nat → Prop) (w : World) (sb : Nat) (s : RS) : Prop where
  mem : ∃ F h, RMem F w sb h s ∧ RApart F h ∧ ∀ b, Kb F sb h b → Q b
  lt : ∀ b, Q b → b < w.heap.size
  inv : RInv s

theorem Kb.lt {F : Nat → Prop} {w : World} {sb : Nat} {h : RH} {s : RS} (m : RMem F w sb h s) : ∀ b, Kb F sb h b → b < w.heap.size := by
  rintro b (hb | hb | hb)
  · exact m.lt b hb
  · exact m.foot_lt b hb
  · exact (ownsRow_block m.oth.mis hb).2.1

theorem RMem.frame {F : Nat → Prop} {w w' : World} {sb : Nat} {h : RH} {s : RS} (m : RMem F w sb h s) (hs : ∀ b, Kb F sb h b → w'.heap[b]? = w.heap[b]?) (hz : w.heap.size ≤ w'.heap.size) : RMem F w' sb h s := by
  have foot : ∀ b, b ∈ sb :: h.foot → w'.heap[b]? = w.heap[b]? := fun b hb => hs b (.inr (.inl hb))
  refine ⟨?_, ?_, m.set.same fun b hb => hs b (.inl hb), ⟨?_, ?_, ?_, ?_, fun i hi => ?_⟩, m.nsb, m.nT, fun b hb => Nat.lt_of_lt_of_le (m.lt b hb) hz⟩
  · have := m.blk
    unfold Blk at this ⊢
    rw [foot sb (by simp)]
    exact this
  · refine ownsRow_same m.rows fun g hg => ?_
    cases hg
    exact foot _ (by simp [RH.foot])
  · exact ownsRow_same m.oth.own fun g hg => foot g (by simp [RH.foot, hg])
  · exact ownsRow_same m.oth.cnt fun g hg => foot g (by simp [RH.foot, hg])
  · exact ownsRow_same m.oth.mis fun g hg => hs g (.inr (.inr hg))
  · exact ownsRow_same m.oth.box.1 fun g hg => foot g (by simp [RH.foot, hg])
  · obtain ⟨v, hv, hr⟩ := m.oth.box.2 i hi
    refine ⟨v, hv, ownsRow_same hr fun g hg => foot g ?_⟩
    simp only [RH.foot, List.mem_cons, List.mem_append, List.mem_flatMap, Option.mem_toList]
    exact .inr (.inr (.inr ⟨v, List.mem_of_getElem? hv, hg⟩))

section
variable {Q : Nat → Prop} {w w' : World} {sb : Nat} {s : RS}
theorem RK.frame (k : RK Q w sb s) (hs : ∀ b, Q b → w'.heap[b]? = w.heap[b]?) (hz : w.heap.size ≤ w'.heap.size) : RK Q w' sb s := by
  obtain ⟨F, h, m, a, hq⟩ := k.mem
  exact ⟨⟨F, h, m.frame (fun b hb => hs b (hq b hb)) hz, a, hq⟩, fun b hb => Nat.lt_of_lt_of_le (k.lt b hb) hz, k.inv⟩
theorem RK.below (k : RK Q w sb s) (hb : Below w.heap.size w w') : RK Q w' sb s := k.frame (fun b h => hb.block b (k.lt b h)) hb.size
end

theorem rkNew_any (tv mv sv qv : Option Addr) (tc mc sc qc : Nat) (S : SetD) (w : World) (hS : SetIn w.heap.size w tv mv sv qv S) (hF : Fits S) (hnil : (tv = none → tc = 0) ∧ (mv = none → mc = 0) ∧ (sv = none → sc = 0) ∧ (qv = none → qc = 0)) (hok : P3.err S = 0) :
    Calls Tryz.prog 18 #[.agg #[.int .i64 S.workers, .int .i64 S.start, .slice tv S.threads.length tc, .slice mv S.mutexes.length mc, .slice sv S.sems.length sc, .slice qv S.queues.length qc]] w fun e w' =>
      ∃ sb Q, e = .returned (.pointer (some ⟨sb, 0, none⟩)) ∧ RK Q w' sb (R.new S) ∧ (∀ b, Q b → w.heap.size ≤ b) ∧ Below w.heap.size w w' := by
  refine (rNew_any tv mv sv qv tc mc sc qc S w hS hF hnil hok).mono ?_
  rintro e w' ⟨sb, h, F, rfl, m, a, r, hb⟩
  refine ⟨sb, Kb F sb h, rfl, ⟨⟨F, h, m, a, fun b hb => hb⟩, Kb.lt m, inv_new hok⟩, fun b hb => ?_, hb⟩
  rcases hb with hb | hb | hb
  · exact r.f b hb
  · simp only [RH.foot, List.mem_cons, List.mem_append, List.mem_flatMap, Option.mem_toList] at hb
    rcases hb with rfl | rfl | ((hb | hb) | hb) | ⟨u, hu, hb⟩
    · exact r.sb
    · exact r.t
    · exact r.o b hb
    · exact r.c b hb
    · exact r.b b hb
    · obtain ⟨j, hj, e⟩ := List.getElem_of_mem hu
      exact r.bs j u b (by rw [List.getElem?_eq_getElem hj, e]) hb
  · exact r.m b hb

theorem rkPick_any (Q : Nat → Prop) (w : World) (sb : Nat) (s : RS) (k : RK Q w sb s) (wk : Int) (hnx : s.next ≤ 4611686018427386000) :
    Calls Tryz.prog 53 #[.pointer (some ⟨sb, 0, none⟩), .int .i64 wk] w fun e w' =>
      e = .returned (.tuple #[.agg #[.int .i64 (R.pickT s wk), .int .i64 (R.pickA s wk), .int .i64 (R.pickC s wk)], .int .i64 (R.pickE s wk)]) ∧
      ∃ Q', RK Q' w' sb (R.pickS s wk) ∧ (∀ b, Q' b → Q b ∨ w.heap.size ≤ b) ∧ Turns Q w w' := by
  obtain ⟨F, h, m, a, hq⟩ := k.mem
  have inv := k.inv.toRMid
  refine (rPick_any F w sb h s m a inv.good inv.links inv.store inv.code wk hnx).mono ?_
  rintro e w' ⟨rfl, h', m', a', nx, ho⟩
  refine ⟨rfl, Kb F sb h', ⟨⟨F, h', m', a', fun b hb => hb⟩, Kb.lt m', k.inv.pick wk hnx⟩, fun b hb => ?_, Turns.of_only ho (fun b hb => hq b (.inr (.inl hb)))⟩
  rcases hb with hb | hb | hb
  · exact .inl (hq b (.inl hb))
  · rcases List.mem_cons.1 hb with rfl | hb
    · exact .inl (hq b (.inr (.inl (by simp))))
    · rcases nx.all b hb with h1 | h1
      · exact .inl (hq b (.inr (.inl (List.mem_cons_of_mem _ h1))))
      · exact .inr h1
  · rcases nx.m b hb with h1 | h1
    · exact .inl (hq b (.inr (.inr h1)))
    · exact .inr h1

theorem rkTick_any (Q : Nat → Prop) (w : World) (sb : Nat) (s : RS) (k : RK Q w sb s) (hnx : s.next ≤ 4611686018427386000) :
    Calls Tryz.prog 51 #[.pointer (some ⟨sb, 0, none⟩)] w fun e w' =>
      (s.now = 1000000000 ∧ e = .returned (.tuple #[.slice none 0 0, .int .i64 8]) ∧ w' = w) ∨
      (s.now < 1000000000 ∧ ∃ l Q', e = .returned (.tuple #[l, .int .i64 0]) ∧ w'.ownsRow w.heap.size 110 3 l (R.late (R.ticked s)).length (missCells (R.late (R.ticked s))) ∧ RK Q' w' sb (R.tick s) ∧
        (∀ b, Q' b → Q b ∨ w.heap.size ≤ b) ∧ (∀ b, l.ownBlock = some b → ¬ Q' b) ∧ Turns Q w w') := by
  obtain ⟨F, h, m, a, hq⟩ := k.mem
  have inv := k.inv.toRMid
  have hmis : s.missed.length ≤ 16000000000 := by
    have := inv.mis
    have := inv.good.now0
    have := inv.good.now1
    have := inv.good.now2
    omega
  refine (rTick_any F w sb h s m a inv.good hmis hnx).mono ?_
  rintro e w' (⟨h1, rfl, rfl⟩ | ⟨h1, l, vM, rfl, hl, m', hv, ho⟩)
  · exact .inl ⟨h1, rfl, rfl⟩
  · refine .inr ⟨h1, l, Kb F sb { h with vM := vM }, rfl, hl, ⟨⟨F, _, m', ⟨a.o, a.c, fun g hg => ?_, a.b, a.bs⟩, fun b hb => hb⟩, Kb.lt m', k.inv.tick h1 hnx⟩, fun b hb => ?_, fun b hb hk => ?_, ?_⟩
    · rcases hv with hv | ⟨b, hv, hb, _⟩
      · rw [hv] at hg
        exact a.m g hg
      · intro hf
        rw [hv] at hg
        cases hg
        have := m.lt _ hf
        omega
    · rcases hb with hb | hb | hb
      · exact .inl (hq b (.inl hb))
      · exact .inl (hq b (.inr (.inl hb)))
      · rcases hv with hv | ⟨b', hv, hb', _⟩
        · have hb2 : vM.ownBlock = some b := hb
          rw [hv] at hb2
          exact .inl (hq b (.inr (.inr hb2)))
        · have hb2 : vM.ownBlock = some b := hb
          rw [hv] at hb2
          cases hb2
          exact .inr hb'
    · have hge := (ownsRow_block hl hb).1
      rcases hk with hk | hk | hk
      · have := m.lt b hk
        omega
      · have := m.foot_lt b hk
        omega
      · have hb2 : vM.ownBlock = some b := hk
        rcases hv with hv | ⟨b', hv, _, hn⟩
        · rw [hv] at hb2
          have := (ownsRow_block m.oth.mis hb2).2.1
          omega
        · rw [hv] at hb2
          cases hb2
          exact hn hb
    · refine Turns.of_only ho fun b hb => ?_
      simp at hb
      rcases hb with rfl | rfl | hb
      · exact hq b (.inr (.inl (by simp)))
      · exact hq _ (.inr (.inl (by simp [RH.foot])))
      · exact hq b (.inr (.inr hb))

end Go.Proofs.YthnjabnlocpoaaaGreat

/-
  Walks over package donatelaw: what is alike is told alike: sameInts, sameMisses, sameReport, sameView.
-/
namespace Go.Proofs.YthnjabnlocpoaaaGreat
open Go.RowKit

def MissesIn (B : Nat) (w : World) (ao : Option Addr) (l : List MissD) : Prop :=
  ∀ i (h : i < l.length), ∃ b o, ao = some ⟨b, o, none⟩ ∧ b < B ∧ w.cell? ⟨b, o + i * 3, none⟩ = some (.int .i64 l[i].thread) ∧ w.cell? ⟨b, o + i * 3 + 1, none⟩ = some (.int .i64 l[i].job) ∧
    w.cell? ⟨b, o + i * 3 + 2, none⟩ = some (.int .i64 l[i].time)

set_option maxHeartbeats 400000 in
theorem sameInts_eq (w : World) (ao bo : Option Addr) (ca cb : Nat) (l : List Int) (ha : IntsIn w.heap.size w ao l) (hb : IntsIn w.heap.size w bo l) (hl : l.length ≤ 1099511627776) :
    Calls Tryz.prog 44 #[.slice ao l.length ca, .slice bo l.length cb] w fun e w' => e = .returned (.bool true) ∧ ∃ n, w' = w.drewN n := by
  have HA := hid ha
  have HB := hid hb
  clear ha hb
  go_enter Tryz.func44, Tryz.ntmps44
  go_wp2
  go_loopw [5] (fun i wr => ∃ k : Nat, k ≤ l.length ∧ i = .int .i64 k ∧ ∃ n, wr = w.drewN n) (fun i _ => l.length - (intOf i).toNat)
  case atStart => exact ⟨0, Nat.zero_le _, rfl, 0, rfl⟩
  case round =>
    obtain ⟨k, hk, rfl, n, rfl⟩ := hrel
    by_cases hlt : k < l.length
    · obtain ⟨b1, o1, rfl, _, x1⟩ := HA.out k hlt
      obtain ⟨b2, o2, rfl, _, x2⟩ := HB.out k hlt
      have hkI : (k : Int) < (l.length : Int) := by omega
      go_wp2_with fail
      go_quiet (fail)
      go_wp2
      go_roundw
      case rel => exact ⟨k + 1, by omega, by go_num, _, rfl⟩
      case measure => simp [intOf]; omega
    · go_wp2
      go_ret
      exact ⟨rfl, _, rfl⟩

set_option maxHeartbeats 400000 in
theorem sameMisses_eq (w : World) (ao bo : Option Addr) (ca cb : Nat) (l : List MissD) (ha : MissesIn w.heap.size w ao l) (hb : MissesIn w.heap.size w bo l) (hl : l.length ≤ 1099511627776) :
    Calls Tryz.prog 41 #[.slice ao l.length ca, .slice bo l.length cb] w fun e w' => e = .returned (.bool true) ∧ ∃ n, w' = w.drewN n := by
  have HA := hid ha
  have HB := hid hb
  clear ha hb
  go_enter Tryz.func41, Tryz.ntmps41
  go_wp2
  go_loopw [5] (fun i wr => ∃ k : Nat, k ≤ l.length ∧ i = .int .i64 k ∧ ∃ n, wr = w.drewN n) (fun i _ => l.length - (intOf i).toNat)
  case atStart => exact ⟨0, Nat.zero_le _, rfl, 0, rfl⟩
  case round =>
    obtain ⟨k, hk, rfl, n, rfl⟩ := hrel
    by_cases hlt : k < l.length
    · obtain ⟨b1, o1, rfl, _, x1, y1, z1⟩ := HA.out k hlt
      obtain ⟨b2, o2, rfl, _, x2, y2, z2⟩ := HB.out k hlt
      have hkI : (k : Int) < (l.length : Int) := by omega
      generalize l[k] = m at *
      go_wp2_with fail
      go_quiet (fail)
      go_wp2
      go_roundw
      case rel => exact ⟨k + 1, by omega, by go_num, _, rfl⟩
      case measure => simp [intOf]; omega
    · go_wp2
      go_ret
      exact ⟨rfl, _, rfl⟩

set_option maxHeartbeats 400000 in
theorem sameReport_eq (w : World) (a b c : Int) :
    Calls Tryz.prog 54 #[.agg #[.int .i64 a, .int .i64 b, .int .i64 c], .agg #[.int .i64 a, .int .i64 b, .int .i64 c]] w fun e w' => e = .returned (.bool true) ∧ Below w.heap.size w w' := by
  go_enter Tryz.func54, Tryz.ntmps54
  go_wp2
  go_ret
  exact ⟨rfl, ((Below.refl _ _).alloc (Nat.le_refl _) _).alloc (by simp) _⟩

set_option maxHeartbeats 400000 in
theorem sameView_eq (w : World) (v0 v1 v2 v3 v4 v5 v6 v7 v8 v9 v10 : Int) :
    Calls Tryz.prog 77 #[.agg #[.int .i64 v0, .int .i64 v1, .int .i64 v2, .int .i64 v3, .int .i64 v4, .int .i64 v5, .int .i64 v6, .int .i64 v7, .int .i64 v8, .int .i64 v9, .int .i64 v10], .agg #[.int .i64 v0, .int .i64 v1, .int .i64 v2, .int .i64 v3, .int .i64 v4, .int .i64 v5, .int .i64 v6, .int .i64 v7, .int .i64 v8, .int .i64 v9, .int .i64 v10]] w fun e w' => e = .returned (.bool true) ∧ Below w.heap.size w w' := by
  go_enter Tryz.func77, Tryz.ntmps77
  go_wp2
  go_ret
  exact ⟨rfl, ((Below.refl _ _).alloc (Nat.le_refl _) _).alloc (by simp) _⟩

end Go.Proofs.YthnjabnlocpoaaaGreat
