import Derived.Test.YtbkfildnijjioabA21
import Derived.BigQuiet
import Derived.Test.YtbkfildnijjioabA12
/-
  Who waits for a thing, in plain words (P13).
-/
namespace Go.Proofs.Ytbkfildnijjioab
def waitsB (s : RS) (what i : Int) (t : Nat) : Bool := decide ((R.th s.T t).for_ = what) && decide ((R.th s.T t).of_ = i)
def cntW (s : RS) (what i : Int) (k : Nat) : Nat := (List.range k).countP (waitsB s what i)
theorem cntW_succ (s : RS) (what i : Int) (k : Nat) : cntW s what i (k + 1) = cntW s what i k + if (R.th s.T k).for_ = what ∧ (R.th s.T k).of_ = i then 1 else 0 := by
  unfold cntW
  rw [List.range_succ, List.countP_append]
  by_cases h : (R.th s.T k).for_ = what ∧ (R.th s.T k).of_ = i
  · simp [waitsB, h.1, h.2]
  · rw [if_neg h]
    have : waitsB s what i k = false := by
      unfold waitsB
      rw [Bool.and_eq_false_iff, decide_eq_false_iff_not, decide_eq_false_iff_not]
      by_cases h1 : (R.th s.T k).for_ = what
      · exact .inr (fun h2 => h ⟨h1, h2⟩)
      · exact .inl h1
    simp [this]
theorem cntW_le (s : RS) (what i : Int) (k : Nat) : cntW s what i k ≤ k := by
  have := List.countP_le_length (p := waitsB s what i) (l := List.range k)
  simpa [cntW] using this
/-- A line: who waits, each once, in the right order. -/
structure LineOk (d : WD) (s : RS) (what i : Int) (l : List Int) : Prop where
  len : l.length = cntW s what i s.T.length
  mem : ∀ j (hj : j < l.length), ∃ u : Nat, u < s.T.length ∧ l[j] = (u : Int) ∧ (R.th s.T u).for_ = what ∧ (R.th s.T u).of_ = i
  all : ∀ u : Nat, u < s.T.length → (R.th s.T u).for_ = what → (R.th s.T u).of_ = i → (u : Int) ∈ l
  ord : ∀ j (hj : j + 1 < l.length) (a b : Nat), l[j] = (a : Int) → l[j + 1] = (b : Int) → R.Level s b < R.Level s a ∨ (R.Level s a = R.Level s b ∧ d.since.getD a 0 < d.since.getD b 0)
  give : R.giveT s what i = if h : 0 < l.length then l[0] else -1
theorem line_ok {d : WD} {s : RS} {tk wt : List Nat} (a : Ln.Aux s tk wt) (sn : Snc d s) (what i : Int) (hw : what ≠ 0) : LineOk d s what i (R.waiting s what i) := by
  have e := Ln.waiting_line a.wt what i hw
  have hm := fun u => Ln.lineW_mem a.wt what i hw u
  have hnd := Ln.lineW_nodup a.wt what i
  have hs := Ln.lineW_sorted a.wt what i
  have hg := Ln.giveT_line a.wt what i hw
  rw [e]
  generalize Ln.lineW s wt what i = L at *
  have hint : ∀ j (hj : j < (Ln.ints L).length), (Ln.ints L)[j] = ((L[j]'(by rw [Ln.ints_length] at hj; exact hj) : Nat) : Int) := fun j hj => by simp [Ln.ints]
  refine ⟨?_, fun j hj => ?_, fun u hu h1 h2 => ?_, fun j hj x y hx hy => ?_, ?_⟩
  · rw [Ln.ints_length]
    unfold cntW
    rw [List.countP_eq_length_filter]
    apply Nat.le_antisymm
    · refine Ln.nodup_le' _ _ hnd (fun u hu => ?_)
      obtain ⟨h1, h2, h3⟩ := (hm u).1 hu
      rw [List.mem_filter]
      exact ⟨by simpa using h1, by simp [waitsB, h2, h3]⟩
    · refine Ln.nodup_le' _ _ (List.nodup_range.sublist List.filter_sublist) (fun u hu => ?_)
      obtain ⟨h1, h2⟩ := List.mem_filter.1 hu
      simp [waitsB] at h2
      exact (hm u).2 ⟨by simpa using h1, h2.1, h2.2⟩
  · have hj' : j < L.length := by rw [Ln.ints_length] at hj; exact hj
    obtain ⟨h1, h2, h3⟩ := (hm L[j]).1 (List.getElem_mem hj')
    exact ⟨L[j], h1, hint j hj, h2, h3⟩
  · exact (Ln.mem_ints L u).2 ((hm u).2 ⟨hu, h1, h2⟩)
  · have hj' : j + 1 < L.length := by rw [Ln.ints_length] at hj; exact hj
    rw [hint] at hx hy
    have hx' : L[j] = x := by omega
    have hy' : L[j + 1] = y := by omega
    have hp := List.pairwise_iff_getElem.1 hs j (j + 1) (by omega) hj' (by omega)
    rw [hx', hy'] at hp
    have mx := (hm x).1 (by rw [← hx']; exact List.getElem_mem _)
    have my := (hm y).1 (by rw [← hy']; exact List.getElem_mem _)
    unfold Ln.fine at hp
    simp at hp
    rcases hp with h1 | ⟨h1, h2⟩
    · exact .inl h1
    · exact .inr ⟨h1, sn.ord x y mx.1 my.1 (by rw [mx.2.1]; exact hw) (by rw [my.2.1]; exact hw) h2⟩
  · rw [hg]
    by_cases h0 : 0 < L.length
    · rw [dif_pos h0, dif_pos (by rw [Ln.ints_length]; exact h0), hint]
    · rw [dif_neg h0, dif_neg (by rw [Ln.ints_length]; exact h0)]
end Go.Proofs.Ytbkfildnijjioab

/-
  Tokens, Delivered: what a step makes of counts and messages, in plain words (P14, P15).
-/
namespace Go.Proofs.Ytbkfildnijjioab
/-- What must be counted behind a step. -/
def TokP (who : Int) (i : InstrD) (code : Int) (a : Nat) (n most : Int) (L : List Int) (len : Nat) (vw : Nat → VD) (c : Int) : Prop :=
  ((who = -1 ∨ i.a ≠ (a : Int)) ∧ c = n) ∨
  (who ≠ -1 ∧ i.a = (a : Int) ∧
    ((i.op = 8 ∧ 0 < n ∧ c = n - 1 ∧ code = 0) ∨ (i.op = 8 ∧ ¬ 0 < n ∧ i.b = 0 ∧ c = 0 ∧ code = 2) ∨ (i.op = 8 ∧ ¬ 0 < n ∧ i.b ≠ 0 ∧ c = 0 ∧ code = 1) ∨
      (i.op = 9 ∧ (∃ u : Nat, ∃ h : 0 < L.length, L[0] = (u : Int) ∧ u < len ∧ (vw u).st ≠ 3 ∧ (vw u).last = 0) ∧ c = n ∧ code = 0) ∨
      (i.op = 9 ∧ L.length = 0 ∧ n = most ∧ c = n ∧ code = 7) ∨ (i.op = 9 ∧ L.length = 0 ∧ n ≠ most ∧ c = n + 1 ∧ code = 0) ∨
      (i.op ≠ 8 ∧ i.op ≠ 9 ∧ c = n)))
section
variable {d : WD} {s : RS}
theorem act_other (s : RS) (u g : Nat) (h0 : (R.instrAt s u).op ≠ 0) (h3 : (R.instrAt s u).op ≠ 3) (hne : g ≠ u) : R.th (R.actS s u).T g = R.th (R.doesS s u (R.instrAt s u)).T g := by
  rw [(R.actS_is s u h0 h3).1]
  have e1 : ∀ (v : RS) (c : Int), R.th (R.toLast v u c).T g = R.th v.T g := fun v c => by
    show R.th (v.T.modify u _) g = _
    rw [Ln.th_modify, if_neg (fun e => hne e.1)]
  have e2 : ∀ (v : RS) (c : Int), R.th (R.toAt v u c).T g = R.th v.T g := fun v c => by
    show R.th (v.T.modify u _) g = _
    rw [Ln.th_modify, if_neg (fun e => hne e.1)]
  rw [e1, e2]
theorem give_th (s : RS) (what of_ : Int) (h : 0 ≤ R.giveT s what of_) : (R.th (R.giveS s what of_).T (R.giveT s what of_).toNat).for_ = 0 ∧ (R.th (R.giveS s what of_).T (R.giveT s what of_).toNat).last = 0 := by
  obtain ⟨h1, _, _⟩ := R.giveT_spec s what of_ h
  unfold R.giveS
  rw [if_pos h, Ln.endW_th _ h1, if_pos rfl]
  exact ⟨rfl, rfl⟩
theorem tok_step {tk wt : List Nat} (i : RInv s) (x : R.Ext0 s) (a : Ln.Aux s tk wt) (sn : Snc d s) (n : Int) (b : Nat) (hb : b < s.count.length) :
    TokP (stepD d s n).who (stepD d s n).i (stepD d s n).code b (s.count.getD b 0) (s.set.sems.getD b R.pair0).y (R.waiting s 2 (b : Int)) s.T.length (viewD (R.entry s n)) ((R.entry s n).count.getD b 0) := by
  have e1 : (stepD d s n).who = (movedD d s n).who := rfl
  have e2 : (stepD d s n).i = (movedD d s n).i := rfl
  have e3 : (stepD d s n).code = (movedD d s n).code := rfl
  have c0 : 0 ≤ s.count.getD b 0 := by
    have := (i.bnd.cb b hb).1
    simpa [List.getD, hb] using this
  rcases moved_cases (d := d) i x n with ⟨e, em⟩ | ⟨_, e, em⟩ | ⟨u, _, p, e, em⟩
  · left
    rw [e1, em, e]
    exact ⟨.inl rfl, rfl⟩
  · left
    rw [e1, em, e, (R.tick_rest s).2.1]
    exact ⟨.inl rfl, rfl⟩
  · rw [e1, e2, e3, em, doesD_who, doesD_i, doesD_code, e]
    have ec : (R.settle (R.actS s u)).count = (R.actS s u).count := rfl
    rw [ec, R.actS_count]
    have lo := line_ok (d := d) a sn 2 (b : Int) (by decide)
    by_cases ha : (R.instrAt s u).a = (b : Int)
    · right
      refine ⟨by omega, ha, ?_⟩
      have hat : (R.instrAt s u).a.toNat = b := by omega
      by_cases h8 : (R.instrAt s u).op = 8
      · have hc : R.actC s u = R.downC s b (R.instrAt s u).b := by
          rw [(R.actS_is s u (by omega) (by omega)).2]
          unfold R.doesC
          rw [if_neg (by omega), if_neg (by omega), if_neg (by omega), if_pos h8, hat]
        rw [hc, if_pos h8, (R.downS_rest s u _ _).2.2, hat]
        unfold R.downC
        by_cases hp : 0 < s.count.getD b 0
        · left
          rw [if_pos hp, if_pos rfl]
          exact ⟨h8, hp, R.getD_set_self _ _ _ hb, rfl⟩
        · rw [if_neg hp]
          by_cases hz : (R.instrAt s u).b = 0
          · right; left
            rw [if_pos hz, if_neg (by decide)]
            exact ⟨h8, hp, hz, by omega, rfl⟩
          · right; right; left
            rw [if_neg hz, if_neg (by decide)]
            exact ⟨h8, hp, hz, by omega, rfl⟩
      · rw [if_neg h8]
        by_cases h9 : (R.instrAt s u).op = 9
        · have hc : R.actC s u = R.upC s b := by
            rw [(R.actS_is s u (by omega) (by omega)).2]
            unfold R.doesC
            rw [if_neg (by omega), if_neg (by omega), if_neg (by omega), if_neg (by omega), if_pos h9, hat]
          rw [hc, if_pos h9, (R.upS_rest s _).2.2, hat]
          unfold R.upC
          by_cases hg : 0 ≤ R.giveT s 2 (b : Int)
          · right; right; right; left
            rw [if_pos hg, if_pos (.inl hg)]
            refine ⟨h9, ?_, rfl, rfl⟩
            have hgv := lo.give
            have hlen : 0 < (R.waiting s 2 (b : Int)).length := by
              rcases Nat.eq_zero_or_pos (R.waiting s 2 (b : Int)).length with h | h
              · rw [dif_neg (by omega)] at hgv; omega
              · exact h
            rw [dif_pos hlen] at hgv
            obtain ⟨g1, g2, _⟩ := R.giveT_spec s 2 (b : Int) hg
            have hne : (R.giveT s 2 (b : Int)).toNat ≠ u := fun e5 => by rw [e5, p.f0] at g2; omega
            have ht := act_other s u _ (by omega) (by omega) hne
            have ed : R.doesS s u (R.instrAt s u) = R.giveS s 2 (b : Int) := by
              unfold R.doesS
              rw [if_neg (by omega), if_neg (by omega), if_neg (by omega), if_neg (by omega), if_neg (by omega), if_neg (by omega), if_pos h9, hat]
              unfold R.upS
              rw [if_pos hg]
            rw [ed] at ht
            have gt := give_th s 2 (b : Int) hg
            rw [← ht] at gt
            have ss := (R.settle_stay (R.actS s u) (R.giveT s 2 (b : Int)).toNat).1
            exact ⟨(R.giveT s 2 (b : Int)).toNat, hlen, by omega, g1, fun e5 => (st3 _ _).1 e5 (ss.for_.trans gt.1), ss.last.trans gt.2⟩
          · have hlen : (R.waiting s 2 (b : Int)).length = 0 := by
              have hgv := lo.give
              rcases Nat.eq_zero_or_pos (R.waiting s 2 (b : Int)).length with h | h
              · exact h
              · exfalso
                rw [dif_pos h] at hgv
                obtain ⟨v, _, hv, _⟩ := lo.mem 0 h
                omega
            rw [if_neg hg]
            by_cases hm : s.count.getD b 0 = (s.set.sems.getD b R.pair0).y
            · right; right; right; right; left
              rw [if_pos hm, if_pos (.inr hm)]
              exact ⟨h9, hlen, hm, rfl, rfl⟩
            · right; right; right; right; right; left
              rw [if_neg hm, if_neg (fun h => h.elim hg hm)]
              exact ⟨h9, hlen, hm, R.getD_set_self _ _ _ hb, rfl⟩
        · right; right; right; right; right; right
          rw [if_neg h9]
          exact ⟨h8, h9, rfl⟩
    · left
      refine ⟨.inr ha, ?_⟩
      by_cases h8 : (R.instrAt s u).op = 8
      · have := p.lo (by omega) (by omega)
        rw [if_pos h8, (R.downS_rest s u _ _).2.2]
        split
        · rw [R.getD_set_ne _ _ _ _ (by omega)]
        · rfl
      · rw [if_neg h8]
        by_cases h9 : (R.instrAt s u).op = 9
        · have := p.lo (by omega) (by omega)
          rw [if_pos h9, (R.upS_rest s _).2.2]
          split
          · rfl
          · rw [R.getD_set_ne _ _ _ _ (by omega)]
        · rw [if_neg h9]
theorem tok_new {S : SetD} : (R.new S).count = S.sems.map (fun m => m.x) := by
  show (R.settle (R.release (R.bare S))).count = _
  exact (releaseTo_rest (R.bare S) (R.bare S).T.length).1
/-- What is counted, and who waits. -/
theorem tok_dry {tk wt : List Nat} (x : R.Ext0 s) (a : Ln.Aux s tk wt) (sn : Snc d s) (b : Nat) (h : 0 < s.count.getD b 0) : (R.waiting s 2 (b : Int)).length = 0 := by
  have lo := line_ok (d := d) a sn 2 (b : Int) (by decide)
  rcases Nat.eq_zero_or_pos (R.waiting s 2 (b : Int)).length with h1 | h1
  · exact h1
  · obtain ⟨u, hu, _, hf, ho⟩ := lo.mem 0 h1
    exact absurd ⟨hf, ho⟩ (x.dry2 b h u hu)
end
end Go.Proofs.Ytbkfildnijjioab

/-
  Delivered: what a step makes of messages, in plain words (P15).
-/
namespace Go.Proofs.Ytbkfildnijjioab
/-- What must lie in a queue behind a step. -/
def MailP (who : Int) (i : InstrD) (code : Int) (q : Nat) (bx : List Int) (room : Int) (L : List Int) (len : Nat) (vw : Nat → VD) (bx' : List Int) : Prop :=
  ((who = -1 ∨ i.a ≠ (q : Int)) ∧ bx' = bx) ∨
  (who ≠ -1 ∧ i.a = (q : Int) ∧
    ((i.op = 10 ∧ (∃ u : Nat, ∃ h : 0 < L.length, L[0] = (u : Int) ∧ u < len ∧ (vw u).got = i.b ∧ (vw u).st ≠ 3 ∧ (vw u).last = 0) ∧ bx' = bx ∧ code = 0) ∨
      (i.op = 10 ∧ L.length = 0 ∧ (bx.length : Int) = room ∧ bx' = bx ∧ code = 7) ∨ (i.op = 10 ∧ L.length = 0 ∧ (bx.length : Int) ≠ room ∧ bx' = bx ++ [i.b] ∧ code = 0) ∨
      (i.op = 11 ∧ (∃ t : Nat, who = (t : Int) ∧ t < len ∧ ∃ h : 0 < bx.length, (vw t).got = bx[0]) ∧ bx' = bx.drop 1 ∧ code = 0) ∨
      (i.op = 11 ∧ bx.length = 0 ∧ i.b = 0 ∧ bx' = bx ∧ code = 2) ∨ (i.op = 11 ∧ bx.length = 0 ∧ i.b ≠ 0 ∧ bx' = bx ∧ code = 1) ∨
      (i.op ≠ 10 ∧ i.op ≠ 11 ∧ bx' = bx)))
section
variable {d : WD} {s : RS}
theorem box_set_ne (l : List (List Int)) (i t : Nat) (v : List Int) (h : i ≠ t) : (l.set i v).getD t [] = l.getD t [] := by simp [List.getD, h]
theorem box_set_self (l : List (List Int)) (i : Nat) (v : List Int) (h : i < l.length) : (l.set i v).getD i [] = v := by simp [List.getD, h]
theorem mail_step {tk wt : List Nat} (i : RInv s) (x : R.Ext0 s) (a : Ln.Aux s tk wt) (sn : Snc d s) (n : Int) (b : Nat) (hb : b < s.box.length) :
    MailP (stepD d s n).who (stepD d s n).i (stepD d s n).code b (s.box.getD b []) (s.set.queues.getD b 0) (R.waiting s 3 (b : Int)) s.T.length (viewD (R.entry s n)) ((R.entry s n).box.getD b []) := by
  have e1 : (stepD d s n).who = (movedD d s n).who := rfl
  have e2 : (stepD d s n).i = (movedD d s n).i := rfl
  have e3 : (stepD d s n).code = (movedD d s n).code := rfl
  rcases moved_cases (d := d) i x n with ⟨e, em⟩ | ⟨_, e, em⟩ | ⟨u, _, p, e, em⟩
  · left
    rw [e1, em, e]
    exact ⟨.inl rfl, rfl⟩
  · left
    rw [e1, em, e, (R.tick_rest s).2.2.1]
    exact ⟨.inl rfl, rfl⟩
  · rw [e1, e2, e3, em, doesD_who, doesD_i, doesD_code, e]
    have ec : (R.settle (R.actS s u)).box = (R.actS s u).box := rfl
    rw [ec, R.actS_box]
    have lo := line_ok (d := d) a sn 3 (b : Int) (by decide)
    by_cases ha : (R.instrAt s u).a = (b : Int)
    · right
      refine ⟨by omega, ha, ?_⟩
      have hat : (R.instrAt s u).a.toNat = b := by omega
      by_cases h10 : (R.instrAt s u).op = 10
      · have hc : R.actC s u = R.sendC s b := by
          rw [(R.actS_is s u (by omega) (by omega)).2]
          unfold R.doesC
          rw [if_neg (by omega), if_neg (by omega), if_neg (by omega), if_neg (by omega), if_neg (by omega), if_pos h10, hat]
        rw [hc, if_pos h10, (R.sendS_rest s _ _).2.2, hat]
        unfold R.sendC
        have ebx : R.boxAt s b = s.box.getD b [] := rfl
        by_cases hg : 0 ≤ R.giveT s 3 (b : Int)
        · left
          rw [if_pos hg, if_pos (.inl hg)]
          refine ⟨h10, ?_, rfl, rfl⟩
          have hgv := lo.give
          have hlen : 0 < (R.waiting s 3 (b : Int)).length := by
            rcases Nat.eq_zero_or_pos (R.waiting s 3 (b : Int)).length with h | h
            · rw [dif_neg (by omega)] at hgv; omega
            · exact h
          rw [dif_pos hlen] at hgv
          obtain ⟨g1, g2, _⟩ := R.giveT_spec s 3 (b : Int) hg
          have hne : (R.giveT s 3 (b : Int)).toNat ≠ u := fun e5 => by rw [e5, p.f0] at g2; omega
          have ht := act_other s u _ (by omega) (by omega) hne
          have ed : R.doesS s u (R.instrAt s u) = R.gets (R.giveS s 3 (b : Int)) (R.giveT s 3 (b : Int)).toNat (R.instrAt s u).b := by
            unfold R.doesS
            rw [if_neg (by omega), if_neg (by omega), if_neg (by omega), if_neg (by omega), if_neg (by omega), if_neg (by omega), if_neg (by omega), if_pos h10, hat]
            unfold R.sendS
            rw [if_pos hg]
          have hgl : (R.giveT s 3 (b : Int)).toNat < (R.giveS s 3 (b : Int)).T.length := by
            rw [(R.moved_giveS (F := fun _ _ => True) (X := fun _ => False) (s := s) 3 (b : Int) (by decide) trivial).len]
            exact g1
          have eg : R.th (R.gets (R.giveS s 3 (b : Int)) (R.giveT s 3 (b : Int)).toNat (R.instrAt s u).b).T (R.giveT s 3 (b : Int)).toNat = { R.th (R.giveS s 3 (b : Int)).T (R.giveT s 3 (b : Int)).toNat with got := (R.instrAt s u).b } := R.th_at (s := R.giveS s 3 (b : Int)) _ hgl _
          rw [ed, eg] at ht
          have gt := give_th s 3 (b : Int) hg
          have ss := R.settle_stay (R.actS s u) (R.giveT s 3 (b : Int)).toNat
          have f0 : (R.th (R.actS s u).T (R.giveT s 3 (b : Int)).toNat).for_ = 0 := by rw [ht]; exact gt.1
          have l0 : (R.th (R.actS s u).T (R.giveT s 3 (b : Int)).toNat).last = 0 := by rw [ht]; exact gt.2
          have o0 : (R.th (R.actS s u).T (R.giveT s 3 (b : Int)).toNat).got = (R.instrAt s u).b := by rw [ht]
          exact ⟨(R.giveT s 3 (b : Int)).toNat, hlen, by omega, g1, ss.2.2.trans o0, fun e5 => (st3 _ _).1 e5 (ss.1.for_.trans f0), ss.1.last.trans l0⟩
        · have hlen : (R.waiting s 3 (b : Int)).length = 0 := by
            have hgv := lo.give
            rcases Nat.eq_zero_or_pos (R.waiting s 3 (b : Int)).length with h | h
            · exact h
            · exfalso
              rw [dif_pos h] at hgv
              obtain ⟨v, _, hv, _⟩ := lo.mem 0 h
              omega
          rw [if_neg hg]
          by_cases hm : ((R.boxAt s b).length : Int) = s.set.queues.getD b 0
          · right; left
            rw [if_pos hm, if_pos (.inr hm)]
            exact ⟨h10, hlen, hm, rfl, rfl⟩
          · right; right; left
            rw [if_neg hm, if_neg (fun h => h.elim hg hm)]
            exact ⟨h10, hlen, hm, box_set_self _ _ _ hb, rfl⟩
      · rw [if_neg h10]
        by_cases h11 : (R.instrAt s u).op = 11
        · have hc : R.actC s u = R.recvC s b (R.instrAt s u).b := by
            rw [(R.actS_is s u (by omega) (by omega)).2]
            unfold R.doesC
            rw [if_neg (by omega), if_neg (by omega), if_neg (by omega), if_neg (by omega), if_neg (by omega), if_neg (by omega), if_pos h11, hat]
          rw [hc, if_pos h11, (R.recvS_rest s u _ _).2.2, hat]
          unfold R.recvC
          by_cases hp : 0 < (R.boxAt s b).length
          · right; right; right; left
            rw [if_pos hp, if_pos rfl]
            refine ⟨h11, ⟨u, rfl, p.ht, hp, ?_⟩, box_set_self _ _ _ hb, rfl⟩
            have ed : R.doesS s u (R.instrAt s u) = { R.gets s u ((R.boxAt s b).getD 0 0) with box := s.box.set b ((R.boxAt s b).drop 1) } := by
              unfold R.doesS
              rw [if_neg (by omega), if_neg (by omega), if_neg (by omega), if_neg (by omega), if_neg (by omega), if_neg (by omega), if_neg (by omega), if_neg (by omega), if_pos h11, hat]
              unfold R.recvS R.recvC
              rw [if_pos hp, if_pos rfl]
            have es := (R.actS_is s u (by omega) (by omega)).1
            rw [ed] at es
            have e6 : (R.th (R.actS s u).T u).got = (R.boxAt s b).getD 0 0 := by
              rw [es]
              have k1 : R.th (R.gets s u ((R.boxAt s b).getD 0 0)).T u = { R.th s.T u with got := (R.boxAt s b).getD 0 0 } := R.th_at u p.ht _
              have hl1 : u < ({ R.gets s u ((R.boxAt s b).getD 0 0) with box := s.box.set b ((R.boxAt s b).drop 1) } : RS).T.length := by simp [R.gets]; exact p.ht
              have k2 : R.th (R.toAt { R.gets s u ((R.boxAt s b).getD 0 0) with box := s.box.set b ((R.boxAt s b).drop 1) } u ((R.th s.T u).at_ + 1)).T u = { R.th (R.gets s u ((R.boxAt s b).getD 0 0)).T u with at_ := (R.th s.T u).at_ + 1 } := R.th_at (s := { R.gets s u ((R.boxAt s b).getD 0 0) with box := s.box.set b ((R.boxAt s b).drop 1) }) u hl1 _
              have k3 := R.th_at (s := R.toAt { R.gets s u ((R.boxAt s b).getD 0 0) with box := s.box.set b ((R.boxAt s b).drop 1) } u ((R.th s.T u).at_ + 1)) u (by simp [R.toAt]; exact hl1) (fun x => { x with last := R.doesC s u (R.instrAt s u) })
              show (R.th ((R.toAt { R.gets s u ((R.boxAt s b).getD 0 0) with box := s.box.set b ((R.boxAt s b).drop 1) } u ((R.th s.T u).at_ + 1)).T.modify u _) u).got = _
              rw [k3, k2, k1]
            have ss := R.settle_stay (R.actS s u) u
            show (R.th (R.settle (R.actS s u)).T u).got = _
            rw [ss.2.2, e6]
            have hp' : 0 < (s.box.getD b []).length := hp
            show (s.box.getD b []).getD 0 0 = _
            rw [List.getD_eq_getElem?_getD, List.getElem?_eq_getElem hp']
            rfl
          · have hz : (s.box.getD b []).length = 0 := by have : ¬ 0 < (s.box.getD b []).length := hp; omega
            rw [if_neg hp]
            by_cases hb0 : (R.instrAt s u).b = 0
            · right; right; right; right; left
              rw [if_pos hb0, if_neg (by decide)]
              exact ⟨h11, hz, hb0, rfl, rfl⟩
            · right; right; right; right; right; left
              rw [if_neg hb0, if_neg (by decide)]
              exact ⟨h11, hz, hb0, rfl, rfl⟩
        · right; right; right; right; right; right
          rw [if_neg h11]
          exact ⟨h10, h11, rfl⟩
    · left
      refine ⟨.inr ha, ?_⟩
      by_cases h10 : (R.instrAt s u).op = 10
      · have := p.lo (by omega) (by omega)
        rw [if_pos h10, (R.sendS_rest s _ _).2.2]
        split
        · rfl
        · rw [box_set_ne _ _ _ _ (by omega)]
      · rw [if_neg h10]
        by_cases h11 : (R.instrAt s u).op = 11
        · have := p.lo (by omega) (by omega)
          rw [if_pos h11, (R.recvS_rest s u _ _).2.2]
          split
          · rw [box_set_ne _ _ _ _ (by omega)]
          · rfl
        · rw [if_neg h11]
theorem mail_dry {tk wt : List Nat} (x : R.Ext0 s) (a : Ln.Aux s tk wt) (sn : Snc d s) (b : Nat) (h : 0 < (s.box.getD b []).length) : (R.waiting s 3 (b : Int)).length = 0 := by
  have lo := line_ok (d := d) a sn 3 (b : Int) (by decide)
  rcases Nat.eq_zero_or_pos (R.waiting s 3 (b : Int)).length with h1 | h1
  · exact h1
  · obtain ⟨u, hu, _, hf, ho⟩ := lo.mem 0 h1
    exact absurd ⟨hf, ho⟩ (x.dry3 b (List.length_pos_iff.1 h) u hu)
end
end Go.Proofs.Ytbkfildnijjioab

/-
  Walks over package donatekeep: mail.
-/
namespace Go.Proofs.Ytbkfildnijjioab
open Go.RowKit
/-- A list of numbers that is only read: perhaps a part of another. -/
structure IL (B : Nat) (w : World) (ao : Option Addr) (cap : Nat) (l : List Int) : Prop where
  fit : l.length ≤ cap
  nil : ao = none → cap = 0
  some_ : ∀ a, ao = some a → ∃ g o cur, a = ⟨g, o, none⟩ ∧ B ≤ g ∧ w.heap[g]? = some (.cells cur 3 (0, 0)) ∧ ∀ j (hj : j < l.length), w.cell? ⟨g, o + j, none⟩ = some (.int .i64 l[j])
def blkOf (ao : Option Addr) : Option Nat := ao.map (·.block)
section
variable {B : Nat} {w w' : World} {ao : Option Addr} {cap : Nat} {l : List Int}
theorem IL.frame (m : IL B w ao cap l) (hs : ∀ b, blkOf ao = some b → w'.heap[b]? = w.heap[b]?) : IL B w' ao cap l := by
  refine ⟨m.fit, m.nil, fun a ha => ?_⟩
  obtain ⟨g, o, cur, rfl, h1, h2, h3⟩ := m.some_ a ha
  have e := hs g (by rw [ha]; rfl)
  refine ⟨g, o, cur, rfl, h1, by rw [e]; exact h2, fun j hj => ?_⟩
  rw [World.cell?_of_block e]
  exact h3 j hj
theorem IL.lt (m : IL B w ao cap l) (b : Nat) (h : blkOf ao = some b) : B ≤ b ∧ b < w.heap.size := by
  cases ao with
  | none => cases h
  | some a =>
    obtain ⟨g, o, cur, rfl, h1, h2, _⟩ := m.some_ a rfl
    have e : g = b := Option.some.inj h
    subst e
    refine ⟨h1, ?_⟩
    rcases Nat.lt_or_ge g w.heap.size with h' | h'
    · exact h'
    · rw [Array.getElem?_eq_none h'] at h2; cases h2
theorem IL.below (m : IL B w ao cap l) (hb : Below w.heap.size w w') : IL B w' ao cap l := m.frame fun b h => hb.block b (m.lt b h).2
theorem IL.of_owns {v : Value} (h : w.ownsRow B 3 1 v l.length (intCells l)) : ∃ ao cap, v = .slice ao l.length cap ∧ IL B w ao cap l ∧ ∀ b, blkOf ao = some b → v.ownBlock = some b := by
  have h0 := h
  obtain ⟨_, ⟨rfl, hl⟩ | ⟨g, cap, cur, rfl, hbg, hg, hcap, _, _, _⟩⟩ := h
  · refine ⟨none, 0, by rw [hl], ⟨by omega, fun _ => rfl, fun a ha => (by cases ha)⟩, fun b hb => (by cases hb)⟩
  · refine ⟨some ⟨g, 0, none⟩, cap, rfl, ⟨hcap, fun hh => (by cases hh), fun a ha => ?_⟩, fun b hb => hb⟩
    cases ha
    refine ⟨g, 0, cur, rfl, hbg, hg, fun j hj => ?_⟩
    rw [Nat.zero_add, h0.cellAt j (by omega)]
    simp [intCells, hj]
theorem IL.ints (m : IL B w ao cap l) : IntsIn w.heap.size w ao l := by
  intro i hi
  cases ao with
  | none => have := m.nil rfl; have := m.fit; omega
  | some a =>
    have hl := m.lt
    obtain ⟨g, o, cur, rfl, _, _, h3⟩ := m.some_ a rfl
    exact ⟨g, o, rfl, (hl g rfl).2, h3 i hi⟩
end
section
variable {PK : KP} {B : Nat} {w : World} {wb kb : Nat} {P : Nat → Prop} {h : WH} {d : WD} {s : RS}
set_option maxRecDepth 100000 in
set_option maxHeartbeats 4000000 in
theorem wMail_any (c : CAll PK) (k : KWS PK B w wb kb P h d s) (q : Nat) (hq : q < s.set.queues.length) (N : Nat) (hNz : N ≤ w.heap.size) (ao : Option Addr) (ca : Nat) (bx bx' : List Int) (hbx : IL N w ao ca bx) (hbl : bx.length ≤ 1000) (ar : Option Addr) (cr : Nat) (L : List Int) (hL : w.ownsRow N 3 1 (.slice ar L.length cr) L.length (intCells L)) (hLl : L.length ≤ 1000)
    (tp : MailP d.who d.i d.code q bx (s.set.queues.getD q 0) L s.T.length (viewD s) bx') :
    Calls Try.prog 28 #[.pointer (some ⟨wb, 0, none⟩), .int .i64 q, .slice ao bx.length ca, .slice ar L.length cr] w fun e w' => ∃ ao' ca', e = .returned (.tuple #[.slice ao' bx'.length ca', .bool true]) ∧ IL N w' ao' ca' bx' ∧ (∀ g, blkOf ao' = some g → blkOf ao = some g ∨ w.heap.size ≤ g) ∧ Below w.heap.size w w' := by
  have hfew := k.i.good.few
  have K := hid k
  have ROW := hid hL
  have BOX := hid hbx
  have ES0 := hid k.wd.co.set
  have y17 := k.k.m.blk.cell 17
  have y18 := k.k.m.blk.cell 18
  have y19 := k.k.m.blk.cell 19
  have y20 := k.k.m.blk.cell 20
  have y21 := k.k.m.blk.cell 21
  simp [wCells] at y17 y18 y19 y20 y21
  have TP := hid tp
  obtain ⟨i3, hi3, hz30, hz31, hz32⟩ := info_parts Try.infoInt
  have HI3 := hid (And.intro hi3 (And.intro hz30 (And.intro hz31 hz32)))
  clear k hL tp hbx hi3 hz30 hz31 hz32
  go_enter Try.func28, Try.ntmps28
  rcases TP.out with ⟨h1, h2⟩ | ⟨hw, hia, h1⟩
  · subst h2
    by_cases hw : d.who = -1
    · rw [hw] at y17
      clear TP h1 hw
      go_wp2
      go_ret2
      exact ⟨ao, ca, rfl, BOX.out, fun g hg => .inl hg, Below.refl _ _⟩
    · have hia : d.i.a ≠ (q : Int) := h1.resolve_left hw
      have b1 : (d.who == -1) = false := by simpa using hw
      have b2 : (d.i.a != (q : Int)) = true := by simpa using hia
      generalize d.who = who at *
      generalize d.i.a = ia at *
      clear TP h1 hw hia
      go_wp2
      go_ret2
      exact ⟨ao, ca, rfl, BOX.out, fun g hg => .inl hg, Below.refl _ _⟩
  · have b1 : (d.who == -1) = false := by simpa using hw
    have b2 : ((q : Int) != (q : Int)) = false := by simp
    rw [hia] at y19
    generalize hwho : d.who = who at *
    have HWHO := hid hwho
    clear TP hw hia hwho
    rcases h1 with ⟨q1, ⟨u, hl0, q2, q3, q35, q4, q5⟩, q6, q7⟩ | ⟨q1, q2, q3, q4, q5⟩ | ⟨q1, q2, q3, q4, q5⟩ | ⟨q1, ⟨t, q2, q3, hp0, q4⟩, q5, q6⟩ | ⟨q1, q2, q3, q4, q5⟩ | ⟨q1, q2, q3, q4, q5⟩ | ⟨q1, q2, q3⟩
    · rw [q1] at y18
      rw [q7] at y21
      subst q6
      have hlI : (0 : Int) < (L.length : Int) := by omega
      obtain ⟨gl, cl, hvl, hgl, zl, _⟩ := row_at ROW.out hl0
      simp at hvl
      obtain ⟨har, _⟩ := hvl
      subst har
      have z0 := zl 0 hl0
      rw [q2] at z0
      obtain ⟨gv, cv, cw, hgv, zv⟩ := K.out.view
      have b00 := zv u q3 0 (by decide)
      have b10 := zv u q3 1 (by decide)
      have b20 := zv u q3 2 (by decide)
      have b30 := zv u q3 3 (by decide)
      have b40 := zv u q3 4 (by decide)
      have b50 := zv u q3 5 (by decide)
      have b60 := zv u q3 6 (by decide)
      have b70 := zv u q3 7 (by decide)
      have b80 := zv u q3 8 (by decide)
      have b90 := zv u q3 9 (by decide)
      have b100 := zv u q3 10 (by decide)
      simp [vCells] at b00 b10 b20 b30 b40 b50 b60 b70 b80 b90 b100
      have Q35 := hid q35
      have Q4 := hid q4
      have Q5 := hid q5
      generalize viewD s u = xb at *
      have huI : (u : Int) < (s.T.length : Int) := by omega
      have hwl := K.out.k.m.blk.lt
      have n1 : wb ≠ w.heap.size := by omega
      have n2 : gv ≠ w.heap.size := by omega
      have n3 : gl ≠ w.heap.size := by omega
      clear q1 q7 q2 q4 q5 q35 zl zv
      go_wp2_with fail
      go_region_held3 (fun w' => w'.cell? ⟨wb, 12, none⟩ = some (.slice (some ⟨gv, 0, none⟩) s.T.length cv) ∧ w'.cell? ⟨gl, 0, none⟩ = some (.int .i64 (u : Int)) ∧ w'.cell? ⟨gv, u * 11, none⟩ = some (.int .i64 xb.st) ∧ w'.cell? ⟨gv, u * 11 + 1, none⟩ = some (.int .i64 xb.base) ∧ w'.cell? ⟨gv, u * 11 + 2, none⟩ = some (.int .i64 xb.lv) ∧ w'.cell? ⟨gv, u * 11 + 3, none⟩ = some (.int .i64 xb.at_) ∧ w'.cell? ⟨gv, u * 11 + 4, none⟩ = some (.int .i64 xb.last) ∧ w'.cell? ⟨gv, u * 11 + 5, none⟩ = some (.int .i64 xb.got) ∧ w'.cell? ⟨gv, u * 11 + 6, none⟩ = some (.int .i64 xb.rel) ∧ w'.cell? ⟨gv, u * 11 + 7, none⟩ = some (.int .i64 xb.ended) ∧ w'.cell? ⟨gv, u * 11 + 8, none⟩ = some (.int .i64 xb.for_) ∧ w'.cell? ⟨gv, u * 11 + 9, none⟩ = some (.int .i64 xb.of_) ∧ w'.cell? ⟨gv, u * 11 + 10, none⟩ = some (.int .i64 xb.until_)) (go_keep) (fail)
      have hbA : Below w.heap.size w (w.alloc (.cells #[.int .i64 xb.st, .int .i64 xb.base, .int .i64 xb.lv, .int .i64 xb.at_, .int .i64 xb.last, .int .i64 xb.got, .int .i64 xb.rel, .int .i64 xb.ended, .int .i64 xb.for_, .int .i64 xb.of_, .int .i64 xb.until_] 53)).drew := ((Below.refl _ _).alloc (Nat.le_refl _) _).drew
      have bA : Blk (w.alloc (.cells #[.int .i64 xb.st, .int .i64 xb.base, .int .i64 xb.lv, .int .i64 xb.at_, .int .i64 xb.last, .int .i64 xb.got, .int .i64 xb.rel, .int .i64 xb.ended, .int .i64 xb.for_, .int .i64 xb.of_, .int .i64 xb.until_] 53)).drew w.heap.size #[.int .i64 xb.st, .int .i64 xb.base, .int .i64 xb.lv, .int .i64 xb.at_, .int .i64 xb.last, .int .i64 xb.got, .int .i64 xb.rel, .int .i64 xb.ended, .int .i64 xb.for_, .int .i64 xb.of_, .int .i64 xb.until_] 53 := Blk.new w #[.int .i64 xb.st, .int .i64 xb.base, .int .i64 xb.lv, .int .i64 xb.at_, .int .i64 xb.last, .int .i64 xb.got, .int .i64 xb.rel, .int .i64 xb.ended, .int .i64 xb.for_, .int .i64 xb.of_, .int .i64 xb.until_] 53
      generalize (w.alloc (.cells #[.int .i64 xb.st, .int .i64 xb.base, .int .i64 xb.lv, .int .i64 xb.at_, .int .i64 xb.last, .int .i64 xb.got, .int .i64 xb.rel, .int .i64 xb.ended, .int .i64 xb.for_, .int .i64 xb.of_, .int .i64 xb.until_] 53)).drew = wA at hbA bA ⊢
      have BOXA := hid (BOX.out.below hbA)
      have HBA := hid hbA
      have p0 := bA.cell 0
      have p4 := bA.cell 4
      have p5 := bA.cell 5
      simp at p0 p4 p5
      have y21 := (hbA.cell (p := ⟨wb, 21, none⟩) hwl).trans y21
      have y20 := (hbA.cell (p := ⟨wb, 20, none⟩) hwl).trans y20
      clear hbA bA cw z0 y17 y18 y19 n1 n2 n3 hgv hgl b00 b10 b20 b30 b40 b50 b60 b70 b80 b90 b100
      rw [Q5.out] at p4
      rw [Q35.out] at p5
      have g1 : (xb.st != 3) = true := by simpa using Q4.out
      have g2 : (d.i.b == d.i.b) = true := by simp
      generalize d.i.b = ib at *
      go_wp2_with fail
      go_quiet (fail)
      go_wp2
      go_ret2
      exact ⟨ao, ca, rfl, BOXA.out.below (bdrewN (Below.refl _ _) _), fun g hg => .inl hg, bdrewN HBA.out _⟩
    · rw [q1] at y18
      rw [q5] at y21
      subst q4
      have y5 := K.out.k.m.blk.cell 5
      simp [wCells] at y5
      have hsm := K.out.k.m.set
      rw [ES0.out] at y5 hsm
      obtain ⟨bm, om, ham, hbm, z0⟩ := hsm.queues q hq
      rw [ham] at y5
      have epr : s.set.queues.getD q 0 = s.set.queues[q] := by simp [List.getD, hq]
      rw [← epr] at z0
      have hqI : (q : Int) < (s.set.queues.length : Int) := by omega
      have q3' : ((bx'.length : Int) == s.set.queues.getD q 0) = true := by simpa using q3
      have q2' : decide (0 < L.length) = false := by rw [decide_eq_false_iff_not]; omega
      generalize s.set.queues.getD q 0 = room at *
      generalize L.length = ln at *
      clear q1 q5 q3 epr hsm q2
      go_wp2_with fail
      go_quiet (fail)
      go_wp2
      go_ret2
      exact ⟨ao, ca, rfl, BOX.out.below (bdrewN (Below.refl _ _) _), fun g hg => .inl hg, bdrewN (Below.refl _ _) _⟩
    · rw [q1] at y18
      rw [q5] at y21
      have Q5c := hid q5
      subst q4
      have y5 := K.out.k.m.blk.cell 5
      simp [wCells] at y5
      have hsm := K.out.k.m.set
      rw [ES0.out] at y5 hsm
      obtain ⟨bm, om, ham, hbm, z0⟩ := hsm.queues q hq
      rw [ham] at y5
      have epr : s.set.queues.getD q 0 = s.set.queues[q] := by simp [List.getD, hq]
      rw [← epr] at z0
      have hqI : (q : Int) < (s.set.queues.length : Int) := by omega
      have q3' : ((bx.length : Int) == s.set.queues.getD q 0) = false := by simpa using q3
      have q2' : decide (0 < L.length) = false := by rw [decide_eq_false_iff_not]; omega
      have HSRC : Hid (∀ (j : Nat) (u : Value), (intCells bx)[j]? = some u → ∃ ad, ao = some ad ∧ w.cell? (ad.add j) = some u) := by
        refine hid fun j u hj => ?_
        have hjl : j < bx.length := by
          have := (List.getElem?_eq_some_iff.1 hj).1
          simpa [intCells] using this
        obtain ⟨b, o, ha, _, hcell⟩ := BOX.out.ints j hjl
        refine ⟨_, ha, ?_⟩
        rw [Addr.add_lit, hcell]
        simp [intCells, hjl] at hj
        rw [← hj]
      have HCN := hid BOX.out.nil
      have hwl := K.out.k.m.blk.lt
      generalize s.set.queues.getD q 0 = room at *
      clear q1 q5 q3 epr hsm q2
      go_upto_region 12 with (at_builtin; refine wpList_append_src_at rfl (.tmp 89) (.tmp 90) 25 rfl w.heap.size 3 i3 (.int .i64 0) 1 8 Try.underlying25 HI3.out.1 HI3.out.2.1 HI3.out.2.2.1 HI3.out.2.2.2 rfl (by decide) (.slice none 0 0) 0 [] rfl (World.ownsRow_nil _ _ _ _) ao bx.length ca (intCells bx) rfl (by simp [intCells]) (fun hh => HCN.out hh) HSRC.out (by intro u hu; simp [intCells] at hu; obtain ⟨x, _, rfl⟩ := hu; rfl) (by unfold maxLen; omega) (by omega) (Nat.le_refl _) ?_; intro v5 w5 hown5 hg5 hat5; have O5 := hid hown5; have G5 := hid hg5; clear hown5 hg5 hat5)
      have hb5 : Below w.heap.size w w5 := (Below.refl _ _).grown G5.out (Nat.le_refl _) (fun g hg => (by cases hg))
      have K5 := hid (K.out.below c.fr hb5)
      have HB5 := hid hb5
      have r5 : w5.ownsRow w.heap.size 3 1 v5 bx.length (intCells bx) := by
        have := O5.out
        rw [Nat.zero_add, List.nil_append] at this
        exact this
      have R5 := hid r5
      have hsz5 := hb5.size
      clear hb5 r5 O5 G5 y17 y18 y19 y20 y21 y5 z0
      have y20 := K5.out.k.m.blk.cell 20
      simp [wCells] at y20
      obtain ⟨ib, hib⟩ : ∃ y, Hid (d.i.b = y) := ⟨_, hid rfl⟩
      rw [hib.out] at y20
      go_upto_region 13 with (at_builtin; refine wpList_append_src_at rfl (.tmp 92) (.tmp 98) 25 rfl w.heap.size 3 i3 (.int .i64 0) 1 8 Try.underlying25 HI3.out.1 HI3.out.2.1 HI3.out.2.2.1 HI3.out.2.2.2 rfl (by decide) v5 bx.length (intCells bx) rfl (R5.out.alloc _) (some ⟨w5.heap.size, 0, none⟩) 1 1 [.int .i64 ib] rfl rfl (fun h => (by cases h)) (fun j u hj => ⟨_, rfl, (by rw [Addr.add_lit, Nat.zero_add, (Blk.new w5 #[.int .i64 ib] 3).cell]; simpa using hj)⟩) (by intro u hu; simp at hu; subst hu; rfl) (by unfold maxLen; omega) (by omega) (by simp; omega) ?_; intro v6 w6 hown6 hg6 hat6; have O6 := hid hown6; have G6 := hid hg6; clear hown6 hg6 hat6)
      have hb6 : Below w.heap.size w w6 := (HB5.out.alloc hsz5 _).grown G6.out (by simp; omega) (fun g hg => (ownsRow_block R5.out hg).1)
      have r6 : w6.ownsRow w.heap.size 3 1 v6 (bx ++ [ib]).length (intCells (bx ++ [ib])) := by
        rw [List.length_append]
        simpa [intCells] using O6.out
      obtain ⟨ao6, ca6, rfl, il6, hbk6⟩ := IL.of_owns r6
      have R6 := hid r6
      have IL6 := hid il6
      have HBK6 := hid hbk6
      have HB6 := hid hb6
      have K6 := hid (K.out.below c.fr hb6)
      clear r6 il6 hbk6 hb6 O6 G6 y20
      have y21 := K6.out.k.m.blk.cell 21
      simp [wCells] at y21
      rw [Q5c.out] at y21
      go_wp2_with fail
      go_quiet (fail)
      go_wp2
      go_ret2
      rw [hib.out]
      refine ⟨ao6, ca6, rfl, ?_, fun g hg => .inr (ownsRow_block R6.out (HBK6.out g hg)).1, bdrewN HB6.out _⟩
      have il := IL6.out.below (bdrewN (Below.refl _ _) nq)
      exact ⟨il.fit, il.nil, fun a ha => by obtain ⟨g, o, cur, e, h1, h2⟩ := il.some_ a ha; exact ⟨g, o, cur, e, by omega, h2⟩⟩
    · rw [q1] at y18
      rw [q6] at y21
      rw [q2] at y17
      have Q4 := hid q4
      have hpI : (0 : Int) < (bx.length : Int) := by omega
      have HP := hid hp0
      obtain ⟨a0, ha0⟩ : ∃ a0, ao = some a0 := by
        cases ao with
        | none => have := BOX.out.nil rfl; have := BOX.out.fit; omega
        | some a => exact ⟨a, rfl⟩
      subst ha0
      obtain ⟨gb, ob, cur, hge, hgN, hgh, hgc⟩ := BOX.out.some_ _ rfl
      subst hge
      have hc0 := hgc 0 hp0
      rw [Nat.add_zero] at hc0
      have hfit := BOX.out.fit
      have hfI : (bx.length : Int) ≤ (ca : Int) := by omega
      have hf1 : (1 : Int) ≤ (bx.length : Int) := by omega
      obtain ⟨gv, cv, cw, hgv, zv⟩ := K.out.view
      have b5 := zv t q3 5 (by decide)
      simp [vCells] at b5
      rw [Q4.out] at b5
      have htI : (t : Int) < (s.T.length : Int) := by omega
      have ILD : Hid (∀ w', Below w.heap.size w w' → IL N w' (some ⟨gb, ob + 1, none⟩) (ca - 1) (bx.drop 1)) := by
        refine hid fun w' hb => ?_
        have il := BOX.out.below hb
        refine ⟨by simp; omega, fun hh => (by cases hh), fun a ha => ?_⟩
        cases ha
        obtain ⟨g, o, cur, e, h1, h2, h3⟩ := il.some_ _ rfl
        simp at e
        obtain ⟨rfl, rfl⟩ := e
        refine ⟨gb, ob + 1, cur, rfl, h1, h2, fun j hj => ?_⟩
        have hj' : j + 1 < bx.length := by simp at hj; omega
        have := h3 (j + 1) hj'
        rw [show ob + 1 + j = ob + (j + 1) by omega, this]
        simp
      have EL : Hid (bx'.length = bx.length - 1) := by rw [q5]; refine hid ?_; simp
      have EB := hid q5
      generalize bx[0] = m0 at *
      have g2 : (m0 == m0) = true := by simp
      have HIL := hid (fun w' (hb : Below w.heap.size w w') => BOX.out.below hb)
      clear q1 q2 q4 q5 q6 zv hgc
      by_cases hca : ca = 1
      · have hb1 : bx.length = 1 := by omega
        have HB1 := hid hb1
        have HCA := hid hca
        clear hb1
        subst hca
        go_wp2_with fail
        go_quiet (fail)
        go_wp2
        go_ret2
        refine ⟨some ⟨gb, ob, none⟩, 0, ?_, ?_, fun g hg => .inl hg, bdrewN (Below.refl _ _) _⟩
        · rw [EL.out]
          simp
          have := HB1.out
          omega
        · rw [EB.out]
          have il := HIL.out _ (bdrewN (Below.refl _ _) nq)
          refine ⟨by simp; have := HB1.out; omega, fun hh => (by cases hh), fun a ha => ?_⟩
          obtain ⟨g, o, cur, e, h1, h2, _⟩ := il.some_ a ha
          refine ⟨g, o, cur, e, h1, h2, fun j hj => ?_⟩
          exfalso
          have := HB1.out
          simp at hj
          omega
      · go_wp2_with fail
        go_quiet (fail)
        go_wp2
        go_ret2
        refine ⟨some ⟨gb, ob + 1, none⟩, ca - 1, ?_, ?_, fun g hg => .inl ?_, bdrewN (Below.refl _ _) _⟩
        · rw [EL.out]
          simp
        · rw [EB.out]
          exact ILD.out _ (bdrewN (Below.refl _ _) _)
        · exact hg
    · rw [q1] at y18
      rw [q3] at y20
      rw [q5] at y21
      subst q4
      have q2' : decide (0 < bx'.length) = false := by rw [decide_eq_false_iff_not]; omega
      clear q1 q3 q5 q2
      go_wp2_with fail
      go_quiet (fail)
      go_wp2
      go_ret2
      exact ⟨ao, ca, rfl, BOX.out.below (bdrewN (Below.refl _ _) _), fun g hg => .inl hg, bdrewN (Below.refl _ _) _⟩
    · rw [q1] at y18
      rw [q5] at y21
      subst q4
      have q2' : decide (0 < bx'.length) = false := by rw [decide_eq_false_iff_not]; omega
      have q3' : (d.i.b == 0) = false := by simpa using q3
      generalize d.i.b = ib at *
      clear q1 q5 q2 q3
      go_wp2_with fail
      go_quiet (fail)
      go_wp2
      go_ret2
      exact ⟨ao, ca, rfl, BOX.out.below (bdrewN (Below.refl _ _) _), fun g hg => .inl hg, bdrewN (Below.refl _ _) _⟩
    · subst q3
      have b8 : (d.i.op == 10) = false := by simpa using q1
      have b9 : (d.i.op == 11) = false := by simpa using q2
      generalize d.i.op = op at *
      clear q1 q2
      go_wp2
      go_ret2
      exact ⟨ao, ca, rfl, BOX.out, fun g hg => .inl hg, Below.refl _ _⟩
end
end Go.Proofs.Ytbkfildnijjioab

/-
  Delivered: whose Got changes (P15).
-/
namespace Go.Proofs.Ytbkfildnijjioab
section
variable {d : WD} {s : RS}
theorem got_modify {s s' : RS} (t v : Nat) {f : RT → RT} (h : s'.T = s.T.modify t f) (hf : ∀ x, (f x).got = x.got) : (R.th s'.T v).got = (R.th s.T v).got := by
  rw [h, Ln.th_modify]
  split
  · exact hf _
  · rfl
theorem got_doesS (s : RS) (u t : Nat) (i : InstrD) (h10 : i.op = 10 → 0 ≤ R.giveT s 3 (i.a.toNat : Int) → t ≠ (R.giveT s 3 (i.a.toNat : Int)).toNat) (h11 : i.op = 11 → R.recvC s i.a.toNat i.b = 0 → t ≠ u) : (R.th (R.doesS s u i).T t).got = (R.th s.T t).got := by
  unfold R.doesS
  by_cases e2 : i.op = 2
  · rw [if_pos e2]; exact got_modify (s := s) u t rfl (fun _ => rfl)
  rw [if_neg e2]
  by_cases e4 : i.op = 4
  · rw [if_pos e4]; exact got_modify (s := s) i.a.toNat t rfl (fun _ => rfl)
  rw [if_neg e4]
  by_cases e5 : i.op = 5
  · rw [if_pos e5]; exact got_modify (s := s) u t rfl (fun _ => rfl)
  rw [if_neg e5]
  by_cases e6 : i.op = 6
  · rw [if_pos e6]
    unfold R.lockS
    split
    · rfl
    · split
      · exact got_modify (s := s) u t rfl (fun _ => rfl)
      · rfl
  rw [if_neg e6]
  by_cases e7 : i.op = 7
  · rw [if_pos e7]; exact (R.keep_unlockS s u i.a.toNat).got t
  rw [if_neg e7]
  by_cases e8 : i.op = 8
  · rw [if_pos e8]
    unfold R.downS
    split
    · rfl
    · split
      · exact got_modify (s := s) u t rfl (fun _ => rfl)
      · rfl
  rw [if_neg e8]
  by_cases e9 : i.op = 9
  · rw [if_pos e9]
    unfold R.upS
    split
    · exact (R.keep_giveS s 2 _).got t
    · split <;> rfl
  rw [if_neg e9]
  by_cases e10 : i.op = 10
  · rw [if_pos e10]
    unfold R.sendS
    split
    · rename_i hg
      have hne := h10 e10 hg
      have k1 : R.th (R.gets (R.giveS s 3 (i.a.toNat : Int)) (R.giveT s 3 (i.a.toNat : Int)).toNat i.b).T t = R.th (R.giveS s 3 (i.a.toNat : Int)).T t := by
        show R.th ((R.giveS s 3 (i.a.toNat : Int)).T.modify _ _) t = _
        rw [Ln.th_modify, if_neg (fun e => hne e.1)]
      rw [k1]
      exact (R.keep_giveS s 3 _).got t
    · split <;> rfl
  rw [if_neg e10]
  by_cases e11 : i.op = 11
  · rw [if_pos e11]
    unfold R.recvS
    split
    · rename_i hc
      have hne := h11 e11 hc
      show (R.th (s.T.modify u _) t).got = _
      rw [Ln.th_modify, if_neg (fun e => hne e.1)]
    · split
      · exact got_modify (s := s) u t rfl (fun _ => rfl)
      · rfl
  rw [if_neg e11]
theorem got_tick (s : RS) (t : Nat) : (R.th (R.tick s).T t).got = (R.th s.T t).got := by
  have g1 : ∀ k, (R.th (R.endsTo (R.missing s) k).T t).got = (R.th s.T t).got := by
    intro k
    induction k with
    | zero => rfl
    | succ k ih =>
      unfold R.endsTo R.endOne
      split
      · exact ih
      · exact ((R.keep_endW _ _ _).got t).trans ih
  have g2 : ∀ (v : RS) k, (R.th (R.releaseTo v k).T t).got = (R.th v.T t).got := by
    intro v k
    induction k with
    | zero => rfl
    | succ k ih =>
      unfold R.releaseTo R.releaseOne
      split
      · split
        · refine ((R.keep_wake _ k).got t).trans ?_
          exact (got_modify (s := R.releaseTo v k) k t (f := fun x => { x with rel := R.numberAt (R.releaseTo v k) k 0 + 1 }) rfl (fun _ => rfl)).trans ih
        · exact (got_modify (s := R.releaseTo v k) k t (f := fun x => { x with rel := R.numberAt (R.releaseTo v k) k 0 + 1 }) rfl (fun _ => rfl)).trans ih
      · exact ih
  have e : R.tick s = R.settle (R.release (R.ends (R.missing s))) := rfl
  rw [e, (R.settle_stay _ t).2.2]
  exact (g2 _ _).trans (g1 _)
/-- Nobody's Got changes but that of whom a message was given to, or who took one. -/
theorem got_step {tk wt : List Nat} (i : RInv s) (x : R.Ext0 s) (a : Ln.Aux s tk wt) (sn : Snc d s) (n : Int) (t : Nat) :
    (viewD (R.entry s n) t).got = (viewD s t).got ∨ ((stepD d s n).who = (t : Int) ∧ (stepD d s n).i.op = 11 ∧ (stepD d s n).code = 0) ∨
    ((stepD d s n).who ≠ -1 ∧ (stepD d s n).i.op = 10 ∧ ∃ h : 0 < (R.waiting s 3 (stepD d s n).i.a).length, (R.waiting s 3 (stepD d s n).i.a)[0] = (t : Int)) := by
  have e1 : (stepD d s n).who = (movedD d s n).who := rfl
  have e2 : (stepD d s n).i = (movedD d s n).i := rfl
  have e3 : (stepD d s n).code = (movedD d s n).code := rfl
  rcases moved_cases (d := d) i x n with ⟨e, em⟩ | ⟨_, e, em⟩ | ⟨u, _, p, e, em⟩
  · left; rw [e]
  · left; rw [e]; exact got_tick s t
  · rw [e1, e2, e3, em, doesD_who, doesD_i, doesD_code, e]
    have es : (viewD (R.settle (R.actS s u)) t).got = (R.th (R.actS s u).T t).got := (R.settle_stay (R.actS s u) t).2.2
    rw [es]
    show (R.th (R.actS s u).T t).got = (R.th s.T t).got ∨ _
    by_cases h0 : (R.instrAt s u).op = 0
    · left
      have e1 : R.actS s u = R.stop s u := by unfold R.actS; rw [if_pos h0]
      rw [e1]
      exact (R.keep_stop s u).got t
    by_cases h3 : (R.instrAt s u).op = 3
    · left
      unfold R.actS
      rw [if_neg h0, if_pos h3]
      split
      · exact (R.keep_toAt s u _).got t
      · exact (R.keep_toAt s u _).got t
    have ea : (R.th (R.actS s u).T t).got = (R.th (R.doesS s u (R.instrAt s u)).T t).got := by
      rw [(R.actS_is s u h0 h3).1]
      exact ((R.keep_toLast _ u _).got t).trans ((R.keep_toAt _ u _).got t)
    rw [ea]
    by_cases c10 : (R.instrAt s u).op = 10 ∧ 0 ≤ R.giveT s 3 ((R.instrAt s u).a.toNat : Int) ∧ t = (R.giveT s 3 ((R.instrAt s u).a.toNat : Int)).toNat
    · right; right
      obtain ⟨q1, q2, q3⟩ := c10
      have h1 := p.lo (by omega) (by omega)
      have ha : (((R.instrAt s u).a.toNat : Nat) : Int) = (R.instrAt s u).a := by omega
      rw [ha] at q2 q3
      have lo := line_ok (d := d) a sn 3 (R.instrAt s u).a (by decide)
      have hgv := lo.give
      have hlen : 0 < (R.waiting s 3 (R.instrAt s u).a).length := by
        rcases Nat.eq_zero_or_pos (R.waiting s 3 (R.instrAt s u).a).length with h | h
        · rw [dif_neg (by omega)] at hgv; omega
        · exact h
      rw [dif_pos hlen] at hgv
      exact ⟨by omega, q1, hlen, by omega⟩
    by_cases c11 : (R.instrAt s u).op = 11 ∧ R.recvC s (R.instrAt s u).a.toNat (R.instrAt s u).b = 0 ∧ t = u
    · right; left
      obtain ⟨q1, q2, q3⟩ := c11
      refine ⟨by rw [q3], q1, ?_⟩
      rw [(R.actS_is s u h0 h3).2]
      unfold R.doesC
      rw [if_neg (by omega), if_neg (by omega), if_neg (by omega), if_neg (by omega), if_neg (by omega), if_neg (by omega), if_pos q1]
      exact q2
    · left
      exact got_doesS s u t _ (fun a1 a2 a3 => c10 ⟨a1, a2, a3⟩) (fun a1 a2 a3 => c11 ⟨a1, a2, a3⟩)
end
end Go.Proofs.Ytbkfildnijjioab
