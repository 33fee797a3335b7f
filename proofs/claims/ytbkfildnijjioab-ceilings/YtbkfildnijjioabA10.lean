import Derived.Test.YtbkfildnijjioabA09
import Derived.Test.YtbkfildnijjioabA02
import Derived.Deep.QuietTactic
import Derived.BigQuiet
/-
  What holds of the document's kernel behind every step: Pick.
-/
namespace Go.Proofs.Ytbkfildnijjioab
/-- Counts and messages within what the set allows. -/
structure RBounds (s : RS) : Prop where
  cs : s.count.length = s.set.sems.length
  cb : ∀ k (hk : k < s.count.length), 0 ≤ s.count[k] ∧ s.count[k] ≤ (s.set.sems.getD k R.pair0).y
  qs : s.box.length = s.set.queues.length
  qb : ∀ k (hk : k < s.box.length), (s.box[k].length : Int) ≤ s.set.queues.getD k 0
/-- Between two parts of a step; behind a step the workers hold threads that are awake. -/
structure RMid (s : RS) : Prop where
  good : RGood s
  bnd : RBounds s
  ok : P3.err s.set = 0
  own : OwnOk s
  thr : AllT (TOk s.set s.now s.owner.length) s.T
  mis : (s.missed.length : Int) ≤ 16 * (s.now - s.set.start)
structure RInv (s : RS) : Prop extends RMid s where
  wk : AllT (fun _ x => 0 ≤ x.wkr → x.awake = true) s.T
theorem RMid.settle {s : RS} (h : RMid s) : RInv (R.settle s) := by
  have hl : (R.settle s).T.length = s.T.length := R.settleT_length _ _ _
  have ha : AllT (fun t x => TOk s.set s.now s.owner.length t x ∧ (0 ≤ x.wkr → x.awake = true)) (R.settle s).T := settle_all h.thr (fun t x w hx => hx.wkr w)
  refine ⟨⟨good_settle h.good, ⟨h.bnd.cs, h.bnd.cb, h.bnd.qs, h.bnd.qb⟩, h.ok, fun i hi => ?_, ha.mono (fun _ _ hx => hx.1), h.mis⟩, ha.mono (fun _ _ hx => hx.2)⟩
  rw [hl]
  exact h.own i hi
section
variable {s : RS}
theorem ok_sizes (h : P3.err s.set = 0) : s.set.sems.length ≤ 4 ∧ s.set.queues.length ≤ 4 := by
  have hz := (ok_parts h).1
  unfold P3.sizesB at hz
  rw [decide_eq_true_iff] at hz
  omega
theorem ok_sem (h : P3.err s.set = 0) (k : Nat) (hk : k < s.set.sems.length) : 1 ≤ (s.set.sems.getD k R.pair0).y ∧ (s.set.sems.getD k R.pair0).y ≤ 100 ∧ 0 ≤ (s.set.sems.getD k R.pair0).x ∧ (s.set.sems.getD k R.pair0).x ≤ (s.set.sems.getD k R.pair0).y := by
  have := badOr_good (ok_parts h).2.2.1 s.set.sems[k] (List.getElem_mem hk)
  have e : s.set.sems.getD k R.pair0 = s.set.sems[k] := by simp [List.getD, hk]
  rw [e]
  unfold P3.semP P3.semB at this
  rw [decide_eq_true_iff] at this
  omega
theorem ok_queue (h : P3.err s.set = 0) (k : Nat) (hk : k < s.set.queues.length) : 1 ≤ s.set.queues.getD k 0 ∧ s.set.queues.getD k 0 ≤ 8 := by
  have := badOr_good (ok_parts h).2.2.2.1 s.set.queues[k] (List.getElem_mem hk)
  have e : s.set.queues.getD k 0 = s.set.queues[k] := by simp [List.getD, hk]
  rw [e]
  unfold P3.queueB at this
  rw [decide_eq_true_iff] at this
  omega
theorem RMid.store (h : RMid s) : RStore s := by
  obtain ⟨h1, h2⟩ := ok_sizes h.ok
  refine ⟨by rw [h.bnd.cs]; exact h1, h.bnd.cs, fun k hk => ?_, by rw [h.bnd.qs]; exact h2, h.bnd.qs, fun k hk => ?_⟩
  · have := h.bnd.cb k hk
    have := ok_sem h.ok k (by rw [← h.bnd.cs]; exact hk)
    omega
  · have := h.bnd.qb k hk
    have := ok_queue h.ok k (by rw [← h.bnd.qs]; exact hk)
    omega
theorem RMid.links (h : RMid s) : RLinks s := ⟨h.own, fun i hi hf => (h.thr i hi).of1 hf⟩
theorem ok_instr (h : P3.err s.set = 0) (t : Nat) (ht : t < s.set.threads.length) (i : InstrD) (hi : i ∈ s.set.threads[t].code) : P3.instrP s.set s.set.threads[t].code.length i = true := by
  have hb := (ok_parts h).2.2.2.2.2
  unfold P3.badCode at hb
  split at hb
  · omega
  · rename_i hn
    have hle := P3.bad_le (P3.codeP s.set) s.set.threads
    have hall : P3.badOr (P3.codeP s.set) s.set.threads = -1 := by
      unfold P3.badOr
      rw [if_neg hn]
    have hc := badOr_good hall s.set.threads[t] (List.getElem_mem ht)
    unfold P3.codeP at hc
    rw [decide_eq_true_iff] at hc
    have hall2 : P3.badOr (P3.instrP s.set s.set.threads[t].code.length) s.set.threads[t].code = -1 := by
      unfold P3.badOr
      rw [hc, if_neg (by omega)]
    exact badOr_good hall2 i hi
theorem RMid.ins (h : RMid s) (t : Nat) (ht : t < s.set.threads.length) (i : InstrD) (hi : i ∈ s.set.threads[t].code) : RIns s i ∧ (i.op = 3 → 0 ≤ i.b ∧ i.b ≤ s.set.threads[t].code.length) ∧ (i.op = 5 → 1 ≤ i.a) := by
  have := ok_instr h.ok t ht i hi
  unfold P3.instrP P3.instrB P3.fitsB P3.known P3.lowA P3.highA P3.lowB P3.highB at this
  rw [Bool.and_eq_true, decide_eq_true_iff, decide_eq_true_iff] at this
  obtain ⟨⟨o0, o1⟩, ha0, ha1, hb0, hb1⟩ := this
  have l1 := h.good.len
  have l2 := h.good.own
  have l3 := h.bnd.cs
  have l4 := h.bnd.qs
  refine ⟨⟨o0, o1, fun e => ?_, fun e => ?_, fun e => ?_, fun e => ?_, fun e => ?_, fun e => ?_⟩, fun e => ?_, fun e => ?_⟩
  · simp [e] at ha0 ha1; omega
  · simp [e] at ha0 ha1; omega
  · rcases e with e | e <;> simp [e] at ha0 ha1 <;> omega
  · rcases e with e | e <;> simp [e] at ha0 ha1 <;> omega
  · rcases e with e | e <;> simp [e] at ha0 ha1 <;> omega
  · rcases e with e | e | e <;> simp [e] at hb0 hb1 <;> omega
  · simp [e] at hb0 hb1; omega
  · simp [e] at ha0 ha1; omega
theorem RMid.code (h : RMid s) : RCode s := by
  have hcl : ∀ t (ht : t < s.set.threads.length), s.set.threads[t].code.length ≤ 32 := by
    intro t ht
    have := badOr_good (ok_parts h.ok).2.2.2.2.1 s.set.threads[t] (List.getElem_mem ht)
    unfold P3.threadP P3.threadB at this
    rw [decide_eq_true_iff] at this
    omega
  refine ⟨fun t ht => ?_, fun t ht => ?_, fun t ht => ⟨hcl t ht, fun i hi => (h.ins t ht i hi).1⟩⟩
  · have ht' : t < s.set.threads.length := by have := h.good.len; omega
    have h1 := (h.thr t ht).at1
    have e : R.codeLen s.set t = s.set.threads[t].code.length := by simp [R.codeLen, List.getD, ht']
    rw [e] at h1
    have := hcl t ht'
    exact ⟨(h.thr t ht).at0, by omega⟩
  · have ht' : t < s.set.threads.length := by have := h.good.len; omega
    have ho := h.good.off s.set.threads[t] (List.getElem_mem ht')
    have e : s.set.threads.getD t P3.none0 = s.set.threads[t] := by simp [List.getD, ht']
    have hb := relBy_bd (S := s.set) (t := t) (now := s.now) h.good.now0 (by have := h.good.now1; omega) h.good.now2 (by rw [e]; omega) (by rw [e]; omega)
    have h1 := (h.thr t ht).e1
    have h2 := (h.thr t ht).r0
    exact ⟨(h.thr t ht).e0, by omega⟩
end
end Go.Proofs.Ytbkfildnijjioab

/-
  What holds of the document's kernel behind every step: Pick keeps it.
-/
namespace Go.Proofs.Ytbkfildnijjioab
section
variable {s : RS}
theorem RMid.like {s' : RS} {n : Int} (h : RMid s) (l : RLike s s' n) (hn : s.next + n ≤ 4611686018427387904) (b : RBounds s') (o : OwnOk s') (t : AllT (TOk s.set s.now s.owner.length) s'.T) : RMid s' := by
  refine ⟨l.good h.good hn, b, by rw [l.set]; exact h.ok, o, by rw [l.set, l.now, l.own]; exact t, ?_⟩
  rw [l.mis, l.now, l.set]
  exact h.mis
theorem RMid.modify (h : RMid s) (t : Nat) (f : RT → RT) (hf : ∀ (ht : t < s.T.length), TOk s.set s.now s.owner.length t s.T[t] → TOk s.set s.now s.owner.length t (f s.T[t])) : RMid { s with T := s.T.modify t f } := by
  refine h.like (like_modify s t f) (by have := h.good.nxt1; omega) ⟨h.bnd.cs, h.bnd.cb, h.bnd.qs, h.bnd.qb⟩ (fun i hi => ?_) (h.thr.modify (fun _ _ _ hx => hx) hf)
  have := h.own i hi
  have e : (s.T.modify t f).length = s.T.length := by simp
  show -1 ≤ s.owner[i] ∧ s.owner[i] < ((s.T.modify t f).length : Int)
  rw [e]
  exact this
theorem RMid.begins (h : RMid s) (hnx : s.next ≤ 4611686018427387000) (t : Nat) (haw : ∀ (ht : t < s.T.length), s.T[t].awake = true) (what of_ n : Int) (h1 : 1 ≤ what) (h4 : what ≤ 4) (ho : what = 1 → 0 ≤ of_ ∧ of_ < s.owner.length) : RMid (R.beginW s t what of_ n) := by
  refine h.like (like_beginW s t what of_ n) (by omega) ⟨h.bnd.cs, h.bnd.cb, h.bnd.qs, h.bnd.qb⟩ (fun i hi => ?_) (h.thr.modify (fun _ _ _ hx => hx) (fun ht hx => hx.waits (haw ht) what of_ _ _ h1 h4 ho))
  have := h.own i hi
  have e : (R.beginW s t what of_ n).T.length = s.T.length := by simp [R.beginW]
  show -1 ≤ s.owner[i] ∧ s.owner[i] < ((R.beginW s t what of_ n).T.length : Int)
  rw [e]
  exact this
theorem RMid.gives (h : RMid s) (hnx : s.next ≤ 4611686018427387000) (what of_ : Int) (h1 : what ≠ 0) : RMid (R.giveS s what of_) := by
  obtain ⟨p1, p2, p3, p4, p5, p6, p7, p8, p9⟩ := giveS_parts s what of_
  refine h.like (like_giveS s what of_) (by omega) ⟨by rw [p7, p1]; exact h.bnd.cs, ?_, by rw [p8, p1]; exact h.bnd.qs, ?_⟩ ?_ (give_all h.thr (fun u x n hx hf => hx.awoken (by rw [hf]; exact h1) 0 n))
  · rw [p1]
    intro k hk
    simp only [p7] at hk ⊢
    exact h.bnd.cb k hk
  · rw [p1]
    intro k hk
    simp only [p8] at hk ⊢
    exact h.bnd.qb k hk
  · intro i hi
    rw [p4]
    simp only [p3] at hi ⊢
    exact h.own i hi
theorem RMid.setOwner (h : RMid s) (k : Nat) (v : Int) (h0 : -1 ≤ v) (h1 : v < s.T.length) : RMid { s with owner := s.owner.set k v } := by
  refine h.like (n := 0) ⟨rfl, rfl, by simp, rfl, Int.le_refl _, by simp, rfl, rfl, rfl⟩ (by have := h.good.nxt1; omega) ⟨h.bnd.cs, h.bnd.cb, h.bnd.qs, h.bnd.qb⟩ (OwnOk.set h.own k v h0 h1) h.thr
theorem RMid.setCount (h : RMid s) (k : Nat) (v : Int) (h0 : 0 ≤ v) (h1 : v ≤ (s.set.sems.getD k R.pair0).y) : RMid { s with count := s.count.set k v } := by
  refine h.like (n := 0) ⟨rfl, rfl, rfl, rfl, Int.le_refl _, by simp, by simp, rfl, rfl⟩ (by have := h.good.nxt1; omega) ⟨by simp; exact h.bnd.cs, fun i hi => ?_, h.bnd.qs, h.bnd.qb⟩ h.own h.thr
  simp only [List.getElem_set]
  split
  · rename_i e
    subst e
    exact ⟨h0, h1⟩
  · exact h.bnd.cb i (by simpa using hi)
theorem RMid.setBox (h : RMid s) (k : Nat) (l : List Int) (h1 : (l.length : Int) ≤ s.set.queues.getD k 0) : RMid { s with box := s.box.set k l } := by
  refine h.like (n := 0) ⟨rfl, rfl, rfl, rfl, Int.le_refl _, by simp, rfl, by simp, rfl⟩ (by have := h.good.nxt1; omega) ⟨h.bnd.cs, h.bnd.cb, by simp; exact h.bnd.qs, fun i hi => ?_⟩ h.own h.thr
  simp only [List.getElem_set]
  split
  · rename_i e
    subst e
    exact h1
  · exact h.bnd.qb i (by simpa using hi)
theorem RMid.unlocks (h : RMid s) (hnx : s.next ≤ 4611686018427387000) (t k : Nat) : RMid (R.unlockS s t k) := by
  have hg := h.gives hnx 1 (k : Int) (by decide)
  have hb := giveT_bd s 1 (k : Int)
  obtain ⟨p1, p2, p3, p4, p5, p6, p7, p8, p9⟩ := giveS_parts s 1 (k : Int)
  unfold R.unlockS
  split
  · have := hg.setOwner k (R.giveT s 1 (k : Int)) hb.1 (by rw [p4]; exact hb.2)
    rw [p3] at this
    exact this
  · exact h
theorem RMid.does (h : RMid s) (hnx : s.next ≤ 4611686018427387000) (t : Nat) (ht : t < s.T.length) (haw : s.T[t].awake = true) (i : InstrD) (hi : RIns s i) : RMid (R.doesS s t i) := by
  unfold R.doesS
  split
  · refine h.like (n := 1) ⟨rfl, rfl, rfl, by simp, by simp; omega, by simp, rfl, rfl, rfl⟩ (by omega) ⟨h.bnd.cs, h.bnd.cb, h.bnd.qs, h.bnd.qb⟩ (fun j hj => ?_) (h.thr.modify (fun _ _ _ hx => hx) (fun _ hx => hx.tick _))
    have := h.own j hj
    simpa using this
  split
  · exact h.modify _ _ (fun _ hx => hx.base _)
  split
  · exact h.begins hnx t (fun _ => haw) 4 0 i.a (by decide) (by decide) (fun e => absurd e (by decide))
  split
  · rename_i e
    obtain ⟨a0, a1⟩ := hi.mtx (.inl e)
    unfold R.lockS
    split
    · exact h.setOwner _ _ (by omega) (by omega)
    · split
      · exact h.begins hnx t (fun _ => haw) 1 _ i.b (by decide) (by decide) (fun _ => by omega)
      · exact h
  split
  · exact h.unlocks hnx t _
  split
  · rename_i e
    obtain ⟨a0, a1⟩ := hi.sem (.inl e)
    have hk : i.a.toNat < s.count.length := by omega
    have hcb := h.bnd.cb i.a.toNat hk
    have eg : s.count.getD i.a.toNat 0 = s.count[i.a.toNat] := by simp [List.getD, hk]
    unfold R.downS
    split
    · rename_i e2
      refine h.setCount _ _ ?_ (by rw [eg]; omega)
      unfold R.downC at e2
      split at e2
      · omega
      · split at e2 <;> simp at e2
    · split
      · exact h.begins hnx t (fun _ => haw) 2 _ i.b (by decide) (by decide) (fun e => absurd e (by decide))
      · exact h
  split
  · rename_i e
    obtain ⟨a0, a1⟩ := hi.sem (.inr e)
    have hk : i.a.toNat < s.count.length := by omega
    have hcb := h.bnd.cb i.a.toNat hk
    have eg : s.count.getD i.a.toNat 0 = s.count[i.a.toNat] := by simp [List.getD, hk]
    unfold R.upS
    split
    · exact h.gives hnx 2 _ (by decide)
    · split
      · exact h
      · rename_i e2
        exact h.setCount _ _ (by omega) (by omega)
  split
  · rename_i e
    obtain ⟨a0, a1⟩ := hi.que (.inl e)
    have hk : i.a.toNat < s.box.length := by omega
    have hqb := h.bnd.qb i.a.toNat hk
    have eg : R.boxAt s i.a.toNat = s.box[i.a.toNat] := by simp [R.boxAt, List.getD, hk]
    unfold R.sendS
    split
    · exact (h.gives hnx 3 _ (by decide)).modify _ _ (fun _ hx => hx.got _)
    · split
      · exact h
      · rename_i e2
        refine h.setBox _ _ ?_
        rw [eg] at e2 ⊢
        rw [List.length_append, List.length_singleton]
        omega
  split
  · rename_i e
    obtain ⟨a0, a1⟩ := hi.que (.inr e)
    have hk : i.a.toNat < s.box.length := by omega
    have hqb := h.bnd.qb i.a.toNat hk
    have eg : R.boxAt s i.a.toNat = s.box[i.a.toNat] := by simp [R.boxAt, List.getD, hk]
    unfold R.recvS
    split
    · have := (h.modify t (fun x => { x with got := (R.boxAt s i.a.toNat).getD 0 0 }) (fun _ hx => hx.got _)).setBox i.a.toNat ((R.boxAt s i.a.toNat).drop 1) (by rw [eg]; simp; show _ ≤ s.set.queues.getD _ 0; omega)
      exact this
    · split
      · exact h.begins hnx t (fun _ => haw) 3 _ i.b (by decide) (by decide) (fun e => absurd e (by decide))
      · exact h
  · exact h
theorem RMid.stops (h : RMid s) (hnx : s.next ≤ 4611686018427386000) (t : Nat) (ht : t < s.T.length) (haw : s.T[t].awake = true) : RMid (R.stop s t) := by
  have hx := h.thr t ht
  have hf0 : s.T[t].for_ = 0 := Decidable.byContradiction fun hh => by have := (hx.fw hh).2; rw [haw] at this; cases this
  have hol : s.owner.length ≤ 8 := by have := h.good.own; have := h.good.mfew; omega
  generalize hy : ({ s.T[t] with ended := s.T[t].ended + 1, at_ := 0, last := 0 } : RT) = y
  have hQ : AllT (fun i x => if i = t then x = y else TOk s.set s.now s.owner.length i x) (R.stop0 s t).T := by
    refine AllT.modify h.thr (fun i x hi hx => by rw [if_neg hi]; exact hx) (fun _ _ => ?_)
    rw [if_pos rfl]
    exact hy
  have ho : OwnOk (R.stop0 s t) := by
    intro i hi
    have := h.own i hi
    have e : (R.stop0 s t).T.length = s.T.length := by simp [R.stop0]
    rw [e]
    exact this
  obtain ⟨hQ1, ho1⟩ := unlocksTo_all hQ ho t s.owner.length (fun u x n hx hf => by
    by_cases e : u = t
    · rw [if_pos e] at hx
      rw [hx, ← hy] at hf
      simp [hf0] at hf
    · rw [if_neg e] at hx ⊢
      exact hx.awoken (by rw [hf]; decide) 0 n)
  have L1 : RLike s (R.unlocksTo (R.stop0 s t) t s.owner.length) s.owner.length := by
    have h0 : RLike s (R.stop0 s t) 0 := like_modify _ _ _
    exact (h0.trans (like_unlocksTo _ t _)).mono (by omega)
  have B1 : RBounds (R.unlocksTo (R.stop0 s t) t s.owner.length) := by
    have hc : ∀ k, (R.unlocksTo (R.stop0 s t) t k).count = s.count ∧ (R.unlocksTo (R.stop0 s t) t k).box = s.box := by
      intro k
      induction k with
      | zero => exact ⟨rfl, rfl⟩
      | succ k ih =>
        unfold R.unlocksTo R.unlockS
        split
        · obtain ⟨p1, p2, p3, p4, p5, p6, p7, p8, p9⟩ := giveS_parts (R.unlocksTo (R.stop0 s t) t k) 1 (k : Int)
          exact ⟨p7.trans ih.1, p8.trans ih.2⟩
        · exact ih
    obtain ⟨c1, c2⟩ := hc s.owner.length
    refine ⟨by rw [c1, L1.set]; exact h.bnd.cs, ?_, by rw [c2, L1.set]; exact h.bnd.qs, ?_⟩
    · rw [L1.set]
      intro k hk
      simp only [c1] at hk ⊢
      exact h.bnd.cb k hk
    · rw [L1.set]
      intro k hk
      simp only [c2] at hk ⊢
      exact h.bnd.qb k hk
  unfold R.stop
  generalize R.unlocksTo (R.stop0 s t) t s.owner.length = s1 at *
  have ht1 : t < s1.T.length := by rw [L1.len]; exact ht
  have hy1 : s1.T[t] = y := by have := hQ1 t ht1; simp only [if_pos] at this; exact this
  have hea : (R.th (R.asleep s1 t).T t) = { y with awake := false } := by
    have ht2 : t < (R.asleep s1 t).T.length := by simp [R.asleep]; exact ht1
    rw [th_ext ht2]
    simp [R.asleep, hy1]
  rw [hea]
  have hae := hx.aw haw
  have h0 := hx.e0
  have LA : RLike s (R.asleep s1 t) s.owner.length := (L1.trans (like_modify s1 t _)).mono (by omega)
  have BA : RBounds (R.asleep s1 t) := ⟨B1.cs, B1.cb, B1.qs, B1.qb⟩
  have OA : OwnOk (R.asleep s1 t) := by
    intro i hi
    have := ho1 i hi
    have e : (R.asleep s1 t).T.length = s1.T.length := by simp [R.asleep]
    rw [e]
    exact this
  split
  · rename_i hlt
    have L2 := (LA.trans (like_wake (R.asleep s1 t) t)).mono (show (s.owner.length : Int) + 1 ≤ 9 by omega)
    refine h.like L2 (by omega) ⟨BA.cs, BA.cb, BA.qs, BA.qb⟩ ?_ ?_
    · intro i hi
      have := OA i hi
      have e : (R.wake (R.asleep s1 t) t).T.length = (R.asleep s1 t).T.length := by simp [R.wake]
      rw [e]
      exact this
    · have e : (R.wake (R.asleep s1 t) t).T = s1.T.modify t (fun x => { x with awake := true, tick := s1.next + 1 }) := by
        simp only [R.wake, R.asleep, List.modify_modify_eq]
        rfl
      rw [e]
      refine AllT.modify hQ1 (fun i x hi hx => by rw [if_neg hi] at hx; exact hx) (fun _ hx1 => ?_)
      rw [hy1, ← hy]
      rw [← hy] at hlt
      have hlt' : s.T[t].ended + 1 < s.T[t].rel := hlt
      exact ⟨Int.le_refl _, by simp, by show 0 ≤ s.T[t].ended + 1; omega, by show s.T[t].ended + 1 ≤ s.T[t].rel; omega, hx.r0, fun _ => hlt', fun hh => absurd hf0 hh, fun hh => (by cases hh), hx.of1, hx.fr⟩
  · rename_i hlt
    refine h.like (LA.mono (show (s.owner.length : Int) ≤ 9 by omega)) (by omega) BA OA ?_
    refine AllT.modify hQ1 (fun i x hi hx => by rw [if_neg hi] at hx; exact hx) (fun _ hx1 => ?_)
    rw [hy1, ← hy]
    rw [← hy] at hlt
    have hlt' : ¬ s.T[t].ended + 1 < s.T[t].rel := hlt
    exact ⟨Int.le_refl _, by simp, by show 0 ≤ s.T[t].ended + 1; omega, by show s.T[t].ended + 1 ≤ s.T[t].rel; omega, hx.r0, fun hh => (by cases hh), fun hh => absurd hf0 hh, fun _ _ => (by show s.T[t].ended + 1 = s.T[t].rel; omega), hx.of1, hx.fr⟩
end
end Go.Proofs.Ytbkfildnijjioab

/-
  What holds of the document's kernel behind every step: New, Pick, Tick.
-/
namespace Go.Proofs.Ytbkfildnijjioab
theorem R.on_spec (T : List RT) (w : Int) (h : 0 ≤ R.on T w) : (R.th T (R.on T w).toNat).wkr = w := by
  unfold R.on P3.badOr at h ⊢
  split at h
  · rename_i hl
    rw [if_pos hl]
    have := List.findIdx_getElem (p := fun x : RT => !(x.wkr != w)) (xs := T) (w := hl)
    have e : ((P3.bad (fun x : RT => x.wkr != w) T : Int)).toNat = P3.bad (fun x : RT => x.wkr != w) T := by omega
    rw [e, th_ext hl]
    have h3 : (!((T[P3.bad (fun x : RT => x.wkr != w) T]'hl).wkr != w)) = true := this
    simpa using h3
  · omega
theorem RInv.pick {s : RS} (h : RInv s) (wk : Int) (hnx : s.next ≤ 4611686018427386000) : RInv (R.pickS s wk) := by
  unfold R.pickS
  split
  · exact h
  split
  · exact h
  · rename_i hw hon
    obtain ⟨o0, o1⟩ := R.on_bd s.T wk
    have hsp := R.on_spec s.T wk (by omega)
    have ht : (R.on s.T wk).toNat < s.T.length := by omega
    generalize (R.on s.T wk).toNat = t at *
    rw [th_ext ht] at hsp
    have haw : s.T[t].awake = true := h.wk t ht (by rw [hsp]; omega)
    have hx := h.thr t ht
    have hol : s.owner.length ≤ 8 := by have := h.good.own; have := h.good.mfew; omega
    have htc : t < s.set.threads.length := by have := h.good.len; omega
    have ecl : R.codeLen s.set t = s.set.threads[t].code.length := by simp [R.codeLen, List.getD, htc]
    have eI : R.instrAt s t = (s.set.threads[t].code)[s.T[t].at_.toNat]?.getD ⟨0, 0, 0⟩ := by
      unfold R.instrAt
      rw [th_ext ht]
      simp [List.getD, htc]
    refine RMid.settle ?_
    unfold R.actS
    split
    · exact h.toRMid.stops hnx t ht haw
    · rename_i hop
      have hlt : s.T[t].at_.toNat < s.set.threads[t].code.length := by
        rcases Nat.lt_or_ge s.T[t].at_.toNat s.set.threads[t].code.length with h' | h'
        · exact h'
        · rw [eI, List.getElem?_eq_none h'] at hop
          exact absurd rfl hop
      have eI2 : R.instrAt s t = s.set.threads[t].code[s.T[t].at_.toNat] := by rw [eI]; simp [hlt]
      have hins := h.toRMid.ins t htc _ (List.getElem_mem hlt)
      rw [← eI2] at hins
      have h0 := hx.at0
      have hat : ∀ v : Int, 0 ≤ v → v ≤ R.codeLen s.set t → RMid (R.toAt s t v) := fun v a b => h.toRMid.modify t _ (fun _ hx => hx.at_ v a b)
      rw [th_ext ht]
      split
      · rename_i h3
        obtain ⟨b0, b1⟩ := hins.2.1 h3
        split
        · exact hat _ b0 (by rw [ecl]; exact b1)
        · exact hat _ (by omega) (by rw [ecl]; omega)
      · have hm := hat (s.T[t].at_ + 1) (by omega) (by rw [ecl]; omega)
        have ht2 : t < (R.toAt s t (s.T[t].at_ + 1)).T.length := by simp [R.toAt]; exact ht
        have haw2 : (R.toAt s t (s.T[t].at_ + 1)).T[t].awake = true := by simp [R.toAt]; exact haw
        exact (hm.does (by show s.next ≤ _; omega) t ht2 haw2 _ (hins.1.like (like_toAt s t _))).modify t _ (fun _ hx => hx.last _)
theorem R.dueTo_spec (T : List RT) (now : Int) (k : Nat) (h : 0 ≤ R.dueTo T now k) : (R.th T (R.dueTo T now k).toNat).for_ ≠ 0 := by
  induction k with
  | zero => simp [R.dueTo] at h
  | succ k ih =>
    unfold R.dueTo at h ⊢
    split at h
    · rename_i hc
      rw [if_pos hc]
      simpa using hc.1
    · rename_i hc
      rw [if_neg hc]
      exact ih h
theorem endsTo_all {Q : Nat → RT → Prop} {s : RS} (h : AllT Q s.T) (k : Nat) (step : ∀ (u : Nat) (x : RT) (c n : Int), Q u x → x.for_ ≠ 0 → Q u { x with for_ := 0, of_ := 0, until_ := 0, last := c, awake := true, tick := n }) : AllT Q (R.endsTo s k).T := by
  induction k with
  | zero => exact h
  | succ k ih =>
    unfold R.endsTo R.endOne
    split
    · exact ih
    · rename_i hd
      refine endW_all ih fun ht n hx => step _ _ _ n hx ?_
      have := R.dueTo_spec (R.endsTo s k).T (R.endsTo s k).now (R.endsTo s k).T.length (by unfold R.due at hd; omega)
      rw [← th_ext ht]
      exact this
theorem endsTo_rest (s : RS) (k : Nat) : (R.endsTo s k).count = s.count ∧ (R.endsTo s k).box = s.box ∧ (R.endsTo s k).missed = s.missed := by
  induction k with
  | zero => exact ⟨rfl, rfl, rfl⟩
  | succ k ih =>
    unfold R.endsTo R.endOne
    split
    · exact ih
    · obtain ⟨h1, h2, h3, h4, h5, h6, h7, h8⟩ := endW_parts (R.endsTo s k) (R.due (R.endsTo s k)).toNat (if (R.th (R.endsTo s k).T (R.due (R.endsTo s k)).toNat).for_ = 4 then 0 else 2)
      exact ⟨h6.trans ih.1, h7.trans ih.2.1, h8.trans ih.2.2⟩
theorem releaseTo_rest (s : RS) (k : Nat) : (R.releaseTo s k).count = s.count ∧ (R.releaseTo s k).box = s.box ∧ (R.releaseTo s k).missed = s.missed := by
  induction k with
  | zero => exact ⟨rfl, rfl, rfl⟩
  | succ k ih =>
    unfold R.releaseTo R.releaseOne R.wake
    split
    · split
      · exact ih
      · exact ih
    · exact ih
/-- release: from the time ahead to now. -/
theorem releaseTo_all {s : RS} {S : SetD} {now : Int} {nO : Nat} (hS : s.set = S) (hn : s.now = now) (hoff : ∀ t, 0 ≤ (S.threads.getD t P3.none0).period) (h : AllT (TOk S (now - 1) nO) s.T) (k : Nat) :
    AllT (fun t x => if t < k then TOk S now nO t x else TOk S (now - 1) nO t x) (R.releaseTo s k).T := by
  induction k with
  | zero => exact h.mono (fun t x hx => by rw [if_neg (by omega)]; exact hx)
  | succ k ih =>
    unfold R.releaseTo
    have hset : (R.releaseTo s k).set = S := (R.releaseTo_set s k).trans hS
    have hnow : (R.releaseTo s k).now = now := (R.releaseTo_now s k).trans hn
    have other : ∀ i x, i ≠ k → (if i < k then TOk S now nO i x else TOk S (now - 1) nO i x) → (if i < k + 1 then TOk S now nO i x else TOk S (now - 1) nO i x) := by
      intro i x hi hx
      by_cases e : i < k
      · rw [if_pos e] at hx
        rw [if_pos (by omega)]
        exact hx
      · rw [if_neg e] at hx
        rw [if_neg (by omega)]
        exact hx
    obtain ⟨st1, st2⟩ := relBy_step S k now (hoff k)
    generalize R.releaseTo s k = sk at *
    unfold R.releaseOne R.numberAt
    rw [hset, hnow]
    split
    · rename_i hp
      rw [if_pos hp] at st1
      have hrel := st2 hp
      generalize R.number (S.threads.getD k P3.none0).period (now - S.start - (S.threads.getD k P3.none0).offset - 0) = num at *
      by_cases hl : k < sk.T.length
      · rw [th_ext hl]
        split
        · rename_i he
          have e : (R.wake { sk with T := sk.T.modify k (fun x => { x with rel := num + 1 }) } k).T = sk.T.modify k (fun x => { x with rel := num + 1, awake := true, tick := sk.next + 1 }) := by
            simp only [R.wake, List.modify_modify_eq]
            rfl
          show AllT _ (R.wake { sk with T := sk.T.modify k (fun x => { x with rel := num + 1 }) } k).T
          rw [e]
          refine ih.modify other (fun _ hx => ?_)
          rw [if_neg (by omega)] at hx
          rw [if_pos (by omega)]
          have hr := hx.r0
          have he1 := hx.e1
          refine ⟨hx.at0, hx.at1, hx.e0, by show sk.T[k].ended ≤ num + 1; omega, by show num + 1 = _; omega, fun _ => (by show sk.T[k].ended < num + 1; omega), fun hf => ?_, fun hh => (by cases hh), hx.of1, hx.fr⟩
          have := (hx.fw hf).1
          omega
        · rename_i hne
          refine ih.modify other (fun _ hx => ?_)
          rw [if_neg (by omega)] at hx
          rw [if_pos (by omega)]
          have hr := hx.r0
          have he1 := hx.e1
          refine ⟨hx.at0, hx.at1, hx.e0, by show sk.T[k].ended ≤ num + 1; omega, by show num + 1 = _; omega, fun _ => (by show sk.T[k].ended < num + 1; omega), fun hf => ⟨(by show sk.T[k].ended < num + 1; omega), (hx.fw hf).2⟩, fun ha hf => ?_, hx.of1, hx.fr⟩
          have := hx.id ha hf
          exact absurd this.symm hne
      · have em : ∀ f : RT → RT, sk.T.modify k f = sk.T := by
          intro f
          apply List.ext_getElem
          · simp
          · intro i h1 h2
            rw [List.getElem_modify, if_neg (by omega)]
        split
        · show AllT _ ((sk.T.modify k _).modify k _)
          rw [em, em]
          intro i hi
          exact other i _ (by omega) (ih i hi)
        · show AllT _ (sk.T.modify k _)
          rw [em]
          intro i hi
          exact other i _ (by omega) (ih i hi)
    · rename_i hp
      rw [if_neg hp] at st1
      intro i hi
      by_cases e : i = k
      · subst e
        have hx : TOk S (now - 1) nO i sk.T[i] := by
          have := ih i hi
          simp only [Nat.lt_irrefl, if_false] at this
          exact this
        rw [if_pos (by omega)]
        exact ⟨hx.at0, hx.at1, hx.e0, hx.e1, by rw [st1]; exact hx.r0, hx.aw, hx.fw, hx.id, hx.of1, hx.fr⟩
      · exact other i _ e (ih i hi)
theorem off_all {S : SetD} (h : ∀ t ∈ S.threads, 0 ≤ t.offset ∧ t.offset ≤ 1000 ∧ 0 ≤ t.period ∧ t.period ≤ 1000 ∧ 0 ≤ t.deadline ∧ t.deadline ≤ 1000) (t : Nat) : 0 ≤ (S.threads.getD t P3.none0).period := by
  by_cases ht : t < S.threads.length
  · have e : S.threads.getD t P3.none0 = S.threads[t] := by simp [List.getD, ht]
    rw [e]
    exact (h _ (List.getElem_mem ht)).2.2.1
  · simp [List.getD, ht, P3.none0]
/-- release and settle, of a kernel whose threads stand as at the time ahead. -/
theorem released {s : RS} (g : RGood s) (hnx : s.next ≤ 4611686018427387000) (b : RBounds s) (ok : P3.err s.set = 0) (o : OwnOk s) (t : AllT (TOk s.set (s.now - 1) s.owner.length) s.T) (m : (s.missed.length : Int) ≤ 16 * (s.now - s.set.start)) : RInv (R.settle (R.release s)) := by
  have hs : (R.release s).set = s.set := R.releaseTo_set _ _
  have hn : (R.release s).now = s.now := R.releaseTo_now _ _
  have hl : (R.release s).T.length = s.T.length := R.releaseTo_len _ _
  have ho : (R.release s).owner = s.owner := releaseTo_owner _ _
  obtain ⟨c1, c2, c3⟩ := releaseTo_rest s s.T.length
  have c1' : (R.release s).count = s.count := c1
  have c2' : (R.release s).box = s.box := c2
  have c3' : (R.release s).missed = s.missed := c3
  have ha := releaseTo_all (s := s) rfl rfl (off_all g.off) t s.T.length
  refine RMid.settle ⟨good_release g hnx, ⟨by rw [c1', hs]; exact b.cs, ?_, by rw [c2', hs]; exact b.qs, ?_⟩, by rw [hs]; exact ok, ?_, ?_, by rw [c3', hn, hs]; exact m⟩
  · rw [hs]
    intro k hk
    simp only [c1'] at hk ⊢
    exact b.cb k hk
  · rw [hs]
    intro k hk
    simp only [c2'] at hk ⊢
    exact b.qb k hk
  · intro i hi
    rw [hl]
    simp only [ho] at hi ⊢
    exact o i hi
  · rw [hs, hn, ho]
    intro i hi
    have := ha i hi
    have hl' : i < s.T.length := by rw [← hl]; exact hi
    simp only [if_pos hl'] at this
    exact this
theorem RInv.tick {s : RS} (h : RInv s) (hnow : s.now < 1000000000) (hnx : s.next ≤ 4611686018427386000) : RInv (R.tick s) := by
  have g0 := good_missing h.good hnow
  have hfew := h.good.few
  obtain ⟨a, b, c, d, e, f⟩ := R.endsTo_set (R.missing s) (R.missing s).T.length
  obtain ⟨c1, c2, c3⟩ := endsTo_rest (R.missing s) (R.missing s).T.length
  have hnx1 : (R.missing s).next = s.next := rfl
  have hl1 : (R.missing s).T.length = s.T.length := rfl
  have ha : AllT (TOk s.set s.now s.owner.length) (R.endsTo (R.missing s) (R.missing s).T.length).T   := endsTo_all (s := R.missing s) (show AllT (TOk s.set s.now s.owner.length) (R.missing s).T from h.thr) _ (fun u x c n hx hf => hx.awoken hf c n)
  have hll := R.lateTo_len (R.ticked s) s.T.length
  unfold R.tick R.ends
  refine released (good_endsTo g0 (by omega) _ (by omega)) (by omega) ⟨by rw [c1, a]; exact h.bnd.cs, ?_, by rw [c2, a]; exact h.bnd.qs, ?_⟩ (by rw [a]; exact h.ok) ?_ ?_ ?_
  · rw [a]
    intro k hk
    simp only [c1] at hk ⊢
    exact h.bnd.cb k hk
  · rw [a]
    intro k hk
    simp only [c2] at hk ⊢
    exact h.bnd.qb k hk
  · intro i hi
    rw [d]
    simp only [c] at hi ⊢
    exact h.own i hi
  · rw [a, b, c]
    have e1 : (R.missing s).now - 1 = s.now := by show s.now + 1 - 1 = s.now; omega
    rw [e1]
    exact ha
  · rw [c3, b, a]
    have e2 : (R.missing s).missed = s.missed ++ R.lateTo (R.ticked s) s.T.length := rfl
    have e3 : (R.missing s).now = s.now + 1 := rfl
    have e4 : (R.missing s).set = s.set := rfl
    rw [e2, e3, e4, List.length_append]
    have := h.mis
    omega
theorem inv_new {S : SetD} (h : P3.err S = 0) : RInv (R.new S) := by
  have g := good_bare h
  have hx : (R.bare S).next = 0 := rfl
  unfold R.new
  refine released g (by rw [hx]; decide) ⟨by simp [R.bare], fun k hk => ?_, by simp [R.bare], fun k hk => ?_⟩ h (fun i hi => ?_) ?_ ?_
  · have hk' : k < S.sems.length := by simpa [R.bare] using hk
    have := ok_sem (s := R.bare S) h k hk'
    have e : (R.bare S).count[k] = (S.sems.getD k R.pair0).x := by simp [R.bare, List.getD, hk']
    rw [e]
    exact ⟨this.2.2.1, this.2.2.2⟩
  · have hk' : k < S.queues.length := by simpa [R.bare] using hk
    have := ok_queue (s := R.bare S) h k hk'
    have e : (R.bare S).box[k] = [] := by simp [R.bare]
    rw [e]
    simp only [List.length_nil]
    have h2 := this.1
    show (0 : Int) ≤ (R.bare S).set.queues.getD k 0
    omega
  · have e : (R.bare S).owner[i] = -1 := by simp [R.bare]
    rw [e]
    exact ⟨Int.le_refl _, by omega⟩
  · intro t ht
    have ht' : t < S.threads.length := by simpa [R.bare] using ht
    have ho := g.off S.threads[t] (List.getElem_mem ht')
    have ed : S.threads.getD t P3.none0 = S.threads[t] := by simp [List.getD, ht']
    have hr : R.relBy (R.bare S).set t ((R.bare S).now - 1) = 0 := by
      unfold R.relBy
      rw [if_pos]
      show S.start - 1 - S.start - (S.threads.getD t P3.none0).offset < 0
      rw [ed]
      omega
    have e : (R.bare S).T[t] = { R.rt0 with base := S.threads[t].base, wkr := -1 } := by simp [R.bare]
    rw [e]
    refine ⟨Int.le_refl _, ?_, Int.le_refl _, Int.le_refl _, hr.symm, fun hh => ?_, fun hh => absurd rfl hh, fun _ _ => rfl, fun hh => ?_, by simp [R.rt0]⟩
    · show (0 : Int) ≤ (R.codeLen S t : Int)
      omega
    · simp [R.rt0] at hh
    · simp [R.rt0] at hh
  · show ((([] : List MissD)).length : Int) ≤ 16 * (S.start - S.start)
    simp
end Go.Proofs.Ytbkfildnijjioab

/-
  Walks over package donateref: Waiting.
-/
namespace Go.Proofs.Ytbkfildnijjioab
open Go.RowKit
/-- How many things there are of a kind that can be waited for. -/
def R.things (s : RS) (what : Int) : Int := if what = 1 then s.owner.length else if what = 2 then s.count.length else if what = 3 then s.box.length else 0
def lenV : Value → Nat
  | .slice _ n _ => n
  | _ => 0
theorem R.waitTo_stop (s : RS) (what of_ : Int) (k : Nat) (h : R.first s what of_ (R.waitTo s what of_ k) < 0) (j : Nat) : R.waitTo s what of_ (k + j) = R.waitTo s what of_ k := by
  induction j with
  | zero => rfl
  | succ j ih =>
    show (if R.first s what of_ (R.waitTo s what of_ (k + j)) < 0 then R.waitTo s what of_ (k + j) else R.waitTo s what of_ (k + j) ++ [R.first s what of_ (R.waitTo s what of_ (k + j))]) = _
    rw [ih, if_pos h]
end Go.Proofs.Ytbkfildnijjioab

/-
  Walks over package donatelaw: what is alike is told alike: sameInts, sameMisses, sameReport, sameView.
-/
namespace Go.Proofs.Ytbkfildnijjioab
open Go.RowKit
def MissesIn (B : Nat) (w : World) (ao : Option Addr) (l : List MissD) : Prop :=
  ∀ i (h : i < l.length), ∃ b o, ao = some ⟨b, o, none⟩ ∧ b < B ∧ w.cell? ⟨b, o + i * 3, none⟩ = some (.int .i64 l[i].thread) ∧ w.cell? ⟨b, o + i * 3 + 1, none⟩ = some (.int .i64 l[i].job) ∧
    w.cell? ⟨b, o + i * 3 + 2, none⟩ = some (.int .i64 l[i].time)
end Go.Proofs.Ytbkfildnijjioab

/-
  The law's own functions, over any program whose kernel stands for the document's: what can be seen.
-/
namespace Go.Proofs.Ytbkfildnijjioab
open Go.RowKit
/-- How a program's kernel stands for the document's: in blocks of a set, in a world, at a block. -/
abbrev KP := (Nat → Prop) → World → Nat → RS → Prop
structure KFrame (PK : KP) : Prop where
  lt : ∀ {Q : Nat → Prop} {w : World} {kb : Nat} {s : RS}, PK Q w kb s → ∀ b, Q b → b < w.heap.size
  frame : ∀ {Q : Nat → Prop} {w w' : World} {kb : Nat} {s : RS}, PK Q w kb s → (∀ b, Q b → w'.heap[b]? = w.heap[b]?) → w.heap.size ≤ w'.heap.size → PK Q w' kb s
theorem KFrame.below {PK : KP} (f : KFrame PK) {Q : Nat → Prop} {w w' : World} {kb : Nat} {s : RS} (k : PK Q w kb s) (hb : Below w.heap.size w w') : PK Q w' kb s := f.frame k (fun b h => hb.block b (f.lt k b h)) hb.size
namespace R
def lookV (s : RS) (t : Int) : Value := if 0 ≤ t ∧ t < s.T.length then viewV (th s.T t.toNat) (Level s t.toNat) else noView
def lookE (s : RS) (t : Int) : Int := if 0 ≤ t ∧ t < s.T.length then 0 else 7
def tickS (s : RS) : RS := if s.now = 1000000000 then s else tick s
def tickE (s : RS) : Int := if s.now = 1000000000 then 8 else 0
def tickL (s : RS) : List MissD := if s.now = 1000000000 then [] else late (ticked s)
end R
/-- What the program promises of its calls. -/
def CNow (PK : KP) : Prop := ∀ Q w kb s, PK Q w kb s → Calls Try.prog 57 #[.pointer (some ⟨kb, 0, none⟩)] w fun e w' => e = .returned (.int .i64 s.now) ∧ Below w.heap.size w w'
def CRunning (PK : KP) : Prop := ∀ Q w kb s, PK Q w kb s → Calls Try.prog 60 #[.pointer (some ⟨kb, 0, none⟩)] w fun e w' => ∃ v, e = .returned v ∧ w'.ownsRow w.heap.size 3 1 v (R.running s).length (intCells (R.running s)) ∧ Below w.heap.size w w'
def CMisses (PK : KP) : Prop := ∀ Q w kb s, PK Q w kb s → Calls Try.prog 18 #[.pointer (some ⟨kb, 0, none⟩)] w fun e w' => ∃ v, e = .returned v ∧ w'.ownsRow w.heap.size 82 3 v s.missed.length (missCells s.missed) ∧ Below w.heap.size w w'
def CLook (PK : KP) : Prop := ∀ Q w kb s, PK Q w kb s → ∀ t : Int, Calls Try.prog 58 #[.pointer (some ⟨kb, 0, none⟩), .int .i64 t] w fun e w' => e = .returned (.tuple #[R.lookV s t, .int .i64 (R.lookE s t)]) ∧ Below w.heap.size w w'
def CPick (PK : KP) : Prop := ∀ Q w kb s, PK Q w kb s → s.next ≤ 4611686018427386000 → ∀ wk : Int, Calls Try.prog 62 #[.pointer (some ⟨kb, 0, none⟩), .int .i64 wk] w fun e w' =>
  e = .returned (.tuple #[.agg #[.int .i64 (R.pickT s wk), .int .i64 (R.pickA s wk), .int .i64 (R.pickC s wk)], .int .i64 (R.pickE s wk)]) ∧ ∃ Q', PK Q' w' kb (R.pickS s wk) ∧ (∀ b, Q' b → Q b ∨ w.heap.size ≤ b) ∧ Turns Q w w'
def CTick (PK : KP) : Prop := ∀ Q w kb s, PK Q w kb s → s.next ≤ 4611686018427386000 → Calls Try.prog 61 #[.pointer (some ⟨kb, 0, none⟩)] w fun e w' =>
  ∃ v Q', e = .returned (.tuple #[v, .int .i64 (R.tickE s)]) ∧ w'.ownsRow w.heap.size 82 3 v (R.tickL s).length (missCells (R.tickL s)) ∧ PK Q' w' kb (R.tickS s) ∧ (∀ b, Q' b → Q b ∨ w.heap.size ≤ b) ∧ (∀ b, v.ownBlock = some b → ¬ Q' b) ∧ Turns Q w w'
section
variable {PK : KP} {B : Nat} {w : World} {bb kb sb : Nat} {P Q : Nat → Prop} {s : RS}
theorem MissesIn.of_owns {w : World} {base : Nat} {v : Value} {l : List MissD} (h : w.ownsRow base 82 3 v l.length (missCells l)) :
    ∃ ao cap, v = .slice ao l.length cap ∧ (ao = none → cap = 0) ∧ MissesIn w.heap.size w ao l := by
  obtain ⟨ao, cap, rfl, hn, ha⟩ := owns_cells h
  refine ⟨ao, cap, rfl, fun hh => (hn hh).2, fun i hi => ?_⟩
  cases ao with
  | none => have := (hn rfl).1; omega
  | some a =>
    obtain ⟨g, rfl, _, hlt, _, hc⟩ := ha a rfl
    have hm : ∀ j, j < 3 → (missCells l)[i * 3 + j]? = [Value.int .i64 l[i].thread, .int .i64 l[i].job, .int .i64 l[i].time][j]? := by
      clear hc ha h hn
      induction l generalizing i with
      | nil => simp at hi
      | cons x l ih =>
        intro j hj
        cases i with
        | zero =>
          simp only [missCells, List.flatMap_cons, Nat.zero_mul, Nat.zero_add, List.getElem_cons_zero]
          rw [List.getElem?_append_left (by simp; omega)]
        | succ i =>
          have := ih i (by simpa using hi) j hj
          simp only [missCells, List.flatMap_cons, List.getElem_cons_succ] at this ⊢
          rw [List.getElem?_append_right (by simp; omega)]
          simpa [show (i + 1) * 3 + j - 3 = i * 3 + j by omega] using this
    refine ⟨g, 0, rfl, hlt, ?_, ?_, ?_⟩
    · have := hm 0 (by omega)
      rw [Nat.zero_add, hc _ (by omega)]
      simpa using this
    · have := hm 1 (by omega)
      rw [Nat.zero_add, hc _ (by omega)]
      simpa using this
    · have := hm 2 (by omega)
      rw [Nat.zero_add, hc _ (by omega)]
      simpa using this
theorem IntsIn.on {w w' : World} {ao : Option Addr} {l : List Int} (h : IntsIn w.heap.size w ao l) (hb : Below w.heap.size w w') : IntsIn w'.heap.size w' ao l := by
  intro i hi
  obtain ⟨b, o, ha, hl, hc⟩ := h i hi
  exact ⟨b, o, ha, Nat.lt_of_lt_of_le hl hb.size, (hb.cell (p := ⟨b, o + i, none⟩) hl).trans hc⟩
theorem MissesIn.on {w w' : World} {ao : Option Addr} {l : List MissD} (h : MissesIn w.heap.size w ao l) (hb : Below w.heap.size w w') : MissesIn w'.heap.size w' ao l := by
  intro i hi
  obtain ⟨b, o, ha, hl, h0, h1, h2⟩ := h i hi
  exact ⟨b, o, ha, Nat.lt_of_lt_of_le hl hb.size, (hb.cell (p := ⟨b, o + i * 3, none⟩) hl).trans h0, (hb.cell (p := ⟨b, o + i * 3 + 1, none⟩) hl).trans h1, (hb.cell (p := ⟨b, o + i * 3 + 2, none⟩) hl).trans h2⟩
theorem running_len (s : RS) : (R.running s).length = s.set.workers.toNat := by simp [R.running]
theorem lookV_shape (s : RS) (t : Int) : ∃ v0 v1 v2 v3 v4 v5 v6 v7 v8 v9 v10 : Int, R.lookV s t = .agg #[.int .i64 v0, .int .i64 v1, .int .i64 v2, .int .i64 v3, .int .i64 v4, .int .i64 v5, .int .i64 v6, .int .i64 v7, .int .i64 v8, .int .i64 v9, .int .i64 v10] := by
  unfold R.lookV
  split
  · exact ⟨_, _, _, _, _, _, _, _, _, _, _, rfl⟩
  · exact ⟨_, _, _, _, _, _, _, _, _, _, _, rfl⟩
end
end Go.Proofs.Ytbkfildnijjioab

/-
  The law's own functions, over any program: owners, counts, messages, who waits.
-/
namespace Go.Proofs.Ytbkfildnijjioab
open Go.RowKit
namespace R
def ownerV (s : RS) (m : Int) : Int := if 0 ≤ m ∧ m < s.owner.length then s.owner.getD m.toNat 0 else 0
def ownerE (s : RS) (m : Int) : Int := if 0 ≤ m ∧ m < s.owner.length then 0 else 7
def countV (s : RS) (m : Int) : Int := if 0 ≤ m ∧ m < s.count.length then s.count.getD m.toNat 0 else 0
def countE (s : RS) (m : Int) : Int := if 0 ≤ m ∧ m < s.count.length then 0 else 7
def boxL (s : RS) (m : Int) : List Int := if 0 ≤ m ∧ m < s.box.length then s.box.getD m.toNat [] else []
def boxE (s : RS) (m : Int) : Int := if 0 ≤ m ∧ m < s.box.length then 0 else 7
def waitL (s : RS) (what i : Int) : List Int := if i < 0 ∨ R.things s what ≤ i then [] else R.waiting s what i
def waitE (s : RS) (what i : Int) : Int := if i < 0 ∨ R.things s what ≤ i then 7 else 0
end R
def COwner (PK : KP) : Prop := ∀ Q w kb s, PK Q w kb s → ∀ m : Int, Calls Try.prog 34 #[.pointer (some ⟨kb, 0, none⟩), .int .i64 m] w fun e w' => e = .returned (.tuple #[.int .i64 (R.ownerV s m), .int .i64 (R.ownerE s m)]) ∧ Below w.heap.size w w'
def CCount (PK : KP) : Prop := ∀ Q w kb s, PK Q w kb s → ∀ m : Int, Calls Try.prog 25 #[.pointer (some ⟨kb, 0, none⟩), .int .i64 m] w fun e w' => e = .returned (.tuple #[.int .i64 (R.countV s m), .int .i64 (R.countE s m)]) ∧ Below w.heap.size w w'
def CMessages (PK : KP) : Prop := ∀ Q w kb s, PK Q w kb s → ∀ m : Int, Calls Try.prog 42 #[.pointer (some ⟨kb, 0, none⟩), .int .i64 m] w fun e w' => ∃ v, e = .returned (.tuple #[v, .int .i64 (R.boxE s m)]) ∧ w'.ownsRow w.heap.size 3 1 v (R.boxL s m).length (intCells (R.boxL s m)) ∧ Below w.heap.size w w'
def CWaiting (PK : KP) : Prop := ∀ Q w kb s, PK Q w kb s → ∀ what i : Int, Calls Try.prog 64 #[.pointer (some ⟨kb, 0, none⟩), .int .i64 what, .int .i64 i] w fun e w' => ∃ v, e = .returned (.tuple #[v, .int .i64 (R.waitE s what i)]) ∧ w'.ownsRow w.heap.size 3 1 v (R.waitL s what i).length (intCells (R.waitL s what i)) ∧ Below w.heap.size w w'
theorem waitTo_len (s : RS) (what i : Int) (k : Nat) : (R.waitTo s what i k).length ≤ k := by
  induction k with
  | zero => simp [R.waitTo]
  | succ k ih =>
    unfold R.waitTo
    split
    · omega
    · simp
      omega
theorem waitL_len (s : RS) (what i : Int) (h : s.T.length ≤ 16) : (R.waitL s what i).length ≤ 17 := by
  unfold R.waitL
  split
  · simp
  · have := waitTo_len s what i (s.T.length + 1)
    unfold R.waiting
    omega
section
variable {PK : KP} {B : Nat} {w : World} {bb kb sb : Nat} {P Q : Nat → Prop} {s : RS}
end
end Go.Proofs.Ytbkfildnijjioab

/-
  Walks over package donate: Owner, Waiting.
-/
namespace Go.Proofs.Ytbkfildnijjioab
open Go.RowKit

section
variable {F : Nat → Prop} {w : World} {kb : Nat} {h : KH} {s : RS} {tk wt : List Nat} {ws : List Int}

set_option maxHeartbeats 1000000 in
theorem kOwner_any (m : KMem F w kb h s tk wt ws) (f : KFit s) (i : Int) :
    Calls Try.prog 34 #[.pointer (some ⟨kb, 0, none⟩), .int .i64 i] w fun e w' => e = .returned (.tuple #[.int .i64 (R.ownerV s i), .int .i64 (R.ownerE s i)]) ∧ Below w.heap.size w w' := by
  have c2 := m.blk.cell 2
  simp [kCells] at c2
  have hm8 := f.m8
  have M := hid m
  clear m f
  by_cases hin : 0 ≤ i ∧ i < s.owner.length
  · have E1 : R.ownerV s i = s.owner.getD i.toNat 0 := by unfold R.ownerV; rw [if_pos hin]
    have E2 : R.ownerE s i = 0 := by unfold R.ownerE; rw [if_pos hin]
    rw [E1, E2]
    clear E1 E2
    obtain ⟨h0, h1⟩ := hin
    obtain ⟨k, rfl⟩ := Int.eq_ofNat_of_zero_le h0
    have hk : k < s.owner.length := by omega
    have ek : s.owner.getD (Int.toNat (k : Int)) 0 = s.owner[k] := by simp [List.getD, hk]
    rw [ek]
    have b2 := M.out.mcell hk 2 (by decide)
    simp [kmCells] at b2
    generalize s.owner[k] = ow at *
    go_enter Try.func34, Try.ntmps34
    go_wp2
    exact bodyPost_ret (v := .tuple #[.int .i64 ow, .int .i64 0]) (by simp [results, Try.results34, go_sem]) rfl ⟨rfl, Below.refl _ _⟩
  · have E1 : R.ownerV s i = 0 := by unfold R.ownerV; rw [if_neg hin]
    have E2 : R.ownerE s i = 7 := by unfold R.ownerE; rw [if_neg hin]
    rw [E1, E2]
    clear E1 E2
    go_enter Try.func34, Try.ntmps34
    by_cases hneg : i < 0
    · go_wp2
      exact bodyPost_ret (v := .tuple #[.int .i64 0, .int .i64 7]) (by simp [results, Try.results34, go_sem]) rfl ⟨rfl, Below.refl _ _⟩
    · have hge : (s.owner.length : Int) ≤ i := by omega
      go_wp2
      exact bodyPost_ret (v := .tuple #[.int .i64 0, .int .i64 7]) (by simp [results, Try.results34, go_sem]) rfl ⟨rfl, Below.refl _ _⟩

def K.things (s : RS) (what : Int) : Int := if what = 1 then (s.owner.length : Int) else if what = 2 then (s.count.length : Int) else if what = 3 then (s.box.length : Int) else 0
set_option maxHeartbeats 1000000 in
theorem kHowMany_any (m : KMem F w kb h s tk wt ws) (f : KFit s) (what : Int) :
    Calls Try.prog 87 #[.pointer (some ⟨kb, 0, none⟩), .int .i64 what] w fun e w' => e = .returned (.int .i64 (K.things s what)) ∧ w' = w := by
  have c2 := m.blk.cell 2
  have c3 := m.blk.cell 3
  have c4 := m.blk.cell 4
  simp [kCells] at c2 c3 c4
  have hm8 := f.m8
  have ET : Hid (K.things s what = if what = 1 then (s.owner.length : Int) else if what = 2 then (s.count.length : Int) else if what = 3 then (s.box.length : Int) else 0) := rfl
  clear m f
  generalize K.things s what = res at *
  go_enter Try.func87, Try.ntmps87
  by_cases h1 : what = 1
  · have HE : Hid (res = (s.owner.length : Int)) := by rw [ET.out, if_pos h1]; exact hid rfl
    subst h1
    clear ET
    go_wp2
    go_ret
    exact ⟨ret_int HE.out.symm, rfl⟩
  · have h1' : (what == 1) = false := by simpa using h1
    rw [if_neg h1] at ET
    by_cases h2 : what = 2
    · have HE : Hid (res = (s.count.length : Int)) := by rw [ET.out, if_pos h2]; exact hid rfl
      subst h2
      clear ET
      go_wp2
      go_ret
      exact ⟨ret_int HE.out.symm, rfl⟩
    · have h2' : (what == 2) = false := by simpa using h2
      rw [if_neg h2] at ET
      by_cases h3 : what = 3
      · have HE : Hid (res = (s.box.length : Int)) := by rw [ET.out, if_pos h3]; exact hid rfl
        subst h3
        clear ET
        go_wp2
        go_ret
        exact ⟨ret_int HE.out.symm, rfl⟩
      · have h3' : (what == 3) = false := by simpa using h3
        rw [if_neg h3] at ET
        go_wp2
        go_ret
        exact ⟨ret_int ET.out.symm, rfl⟩

set_option maxHeartbeats 1000000 in
theorem kWaiting_any (m : KMem F w kb h s tk wt ws) (f : KFit s) (a : Ln.WtOk s wt) (what i : Int) :
    Calls Try.prog 64 #[.pointer (some ⟨kb, 0, none⟩), .int .i64 what, .int .i64 i] w fun e w' =>
      if 0 ≤ i ∧ i < K.things s what then ∃ v, e = .returned (.tuple #[v, .int .i64 0]) ∧ w'.ownsRow w.heap.size 3 1 v (Ln.lineW s wt what i).length (intCells (Ln.ints (Ln.lineW s wt what i))) ∧ Below w.heap.size w w'
      else e = .returned (.tuple #[.slice none 0 0, .int .i64 7]) ∧ Below w.heap.size w w' := by
  have HM := hid (kHowMany_any m f what)
  have WO := hid (kWaitersInOrder_any m f.few f.ok f.m8 a what i)
  clear m f a
  generalize K.things s what = th at *
  generalize Ln.lineW s wt what i = L at *
  by_cases hin : 0 ≤ i ∧ i < th
  · simp only [if_pos hin]
    obtain ⟨h0, h1⟩ := hin
    have hn0 : (decide (i < 0)) = false := by simpa using h0
    have hn1 : (decide (th ≤ i)) = false := by simpa using h1
    go_enter Try.func64, Try.ntmps64
    go_wp2_with fail
    refine HM.out.mono ?_
    rintro e w1 ⟨rfl, hw1⟩
    have hw2 := hw1.symm
    subst hw2
    clear hw1 HM
    go_wp2_with fail
    refine WO.out.mono ?_
    rintro e w1 ⟨v, rfl, hr1, hb1⟩
    obtain ⟨tv5, tc5, rfl, _, _⟩ := owns_cells hr1
    have R1 := hid hr1
    have HB1 := hid hb1
    clear hr1 hb1 WO
    go_wp2
    exact bodyPost_ret (v := .tuple #[.slice tv5 L.length tc5, .int .i64 0]) (by simp [results, Try.results64, go_sem]) rfl ⟨_, rfl, R1.out, HB1.out⟩
  · simp only [if_neg hin]
    go_enter Try.func64, Try.ntmps64
    by_cases hneg : i < 0
    · go_wp2
      exact bodyPost_ret (v := .tuple #[.slice none 0 0, .int .i64 7]) (by simp [results, Try.results64, go_sem]) rfl ⟨rfl, Below.refl _ _⟩
    · have hge : th ≤ i := by omega
      have hn0 : (decide (i < 0)) = false := by simpa using hneg
      go_wp2_with fail
      refine HM.out.mono ?_
      rintro e w1 ⟨rfl, hw1⟩
      have hw2 := hw1.symm
      subst hw2
      clear hw1 HM
      go_wp2
      exact bodyPost_ret (v := .tuple #[.slice none 0 0, .int .i64 7]) (by simp [results, Try.results64, go_sem]) rfl ⟨rfl, Below.refl _ _⟩

set_option maxHeartbeats 1000000 in
theorem kCount_any (m : KMem F w kb h s tk wt ws) (_hc8 : s.count.length ≤ 8) (i : Int) :
    Calls Try.prog 25 #[.pointer (some ⟨kb, 0, none⟩), .int .i64 i] w fun e w' => e = .returned (.tuple #[.int .i64 (R.countV s i), .int .i64 (R.countE s i)]) ∧ Below w.heap.size w w' := by
  have c3 := m.blk.cell 3
  simp [kCells] at c3
  have M := hid m
  clear m
  by_cases hin : 0 ≤ i ∧ i < s.count.length
  · have E1 : R.countV s i = s.count.getD i.toNat 0 := by unfold R.countV; rw [if_pos hin]
    have E2 : R.countE s i = 0 := by unfold R.countE; rw [if_pos hin]
    rw [E1, E2]
    clear E1 E2
    obtain ⟨h0, h1⟩ := hin
    obtain ⟨k, rfl⟩ := Int.eq_ofNat_of_zero_le h0
    have hk : k < s.count.length := by omega
    have ek : s.count.getD (Int.toNat (k : Int)) 0 = s.count[k] := by simp [List.getD, hk]
    rw [ek]
    have b2 := M.out.scell hk 0 (by decide)
    simp [ksCells] at b2
    generalize s.count[k] = ow at *
    go_enter Try.func25, Try.ntmps25
    go_wp2
    exact bodyPost_ret (v := .tuple #[.int .i64 ow, .int .i64 0]) (by simp [results, Try.results25, go_sem]) rfl ⟨rfl, Below.refl _ _⟩
  · have E1 : R.countV s i = 0 := by unfold R.countV; rw [if_neg hin]
    have E2 : R.countE s i = 7 := by unfold R.countE; rw [if_neg hin]
    rw [E1, E2]
    clear E1 E2
    go_enter Try.func25, Try.ntmps25
    by_cases hneg : i < 0
    · go_wp2
      exact bodyPost_ret (v := .tuple #[.int .i64 0, .int .i64 7]) (by simp [results, Try.results25, go_sem]) rfl ⟨rfl, Below.refl _ _⟩
    · have hge : (s.count.length : Int) ≤ i := by omega
      go_wp2
      exact bodyPost_ret (v := .tuple #[.int .i64 0, .int .i64 7]) (by simp [results, Try.results25, go_sem]) rfl ⟨rfl, Below.refl _ _⟩

set_option maxHeartbeats 1000000 in
theorem kMessages_any (m : KMem F w kb h s tk wt ws) (_hq8 : s.box.length ≤ 8) (hbf : ∀ i (hi : i < s.box.length), s.box[i].length ≤ 1000) (i : Int) :
    Calls Try.prog 42 #[.pointer (some ⟨kb, 0, none⟩), .int .i64 i] w fun e w' => ∃ v, e = .returned (.tuple #[v, .int .i64 (R.boxE s i)]) ∧ w'.ownsRow w.heap.size 3 1 v (R.boxL s i).length (intCells (R.boxL s i)) ∧ Below w.heap.size w w' := by
  have c3 := m.blk.cell 4
  simp [kCells] at c3
  have M := hid m
  clear m
  by_cases hin : 0 ≤ i ∧ i < s.box.length
  · have E1 : R.boxL s i = s.box.getD i.toNat [] := by unfold R.boxL; rw [if_pos hin]
    have E2 : R.boxE s i = 0 := by unfold R.boxE; rw [if_pos hin]
    rw [E1, E2]
    clear E1 E2
    obtain ⟨h0, h1⟩ := hin
    obtain ⟨k, rfl⟩ := Int.eq_ofNat_of_zero_le h0
    have hk : k < s.box.length := by omega
    have ek : s.box.getD (Int.toNat (k : Int)) [] = s.box[k] := by simp [List.getD, hk]
    rw [ek]
    have b2 := M.out.qcell hk 1 (by decide)
    simp [kqCells] at b2
    obtain ⟨ao, ca, hv, hla, hna⟩ := ListAt.of_row (M.out.st.boxes k hk)
    rw [hv] at b2
    have CO := hid (kCopyOf_any w ao ca s.box[k] hla hna (hbf k hk))
    clear hla hna hv hbf
    generalize s.box[k] = bx at *
    go_enter Try.func42, Try.ntmps42
    go_wp2_with fail
    refine CO.out.mono ?_
    rintro e w1 ⟨v, rfl, hr1, hb1⟩
    obtain ⟨tv5, tc5, rfl, _, _⟩ := owns_cells hr1
    have R1 := hid hr1
    have HB1 := hid hb1
    clear hr1 hb1 CO
    go_wp2
    exact bodyPost_ret (v := .tuple #[.slice tv5 bx.length tc5, .int .i64 0]) (by simp [results, Try.results42, go_sem]) rfl ⟨_, rfl, R1.out, HB1.out⟩
  · have E1 : R.boxL s i = [] := by unfold R.boxL; rw [if_neg hin]
    have E2 : R.boxE s i = 7 := by unfold R.boxE; rw [if_neg hin]
    rw [E1, E2]
    clear E1 E2
    go_enter Try.func42, Try.ntmps42
    by_cases hneg : i < 0
    · go_wp2
      exact bodyPost_ret (v := .tuple #[.slice none 0 0, .int .i64 7]) (by simp [results, Try.results42, go_sem]) rfl ⟨_, rfl, World.ownsRow_nil _ _ _ _, Below.refl _ _⟩
    · have hge : (s.box.length : Int) ≤ i := by omega
      go_wp2
      exact bodyPost_ret (v := .tuple #[.slice none 0 0, .int .i64 7]) (by simp [results, Try.results42, go_sem]) rfl ⟨_, rfl, World.ownsRow_nil _ _ _ _, Below.refl _ _⟩
end

end Go.Proofs.Ytbkfildnijjioab
