import Derived.Test.YtbkfildnijjioabA16
import Derived.Test.YtbkfildnijjioabA04
/-
  The world behind a step, in plain words: it knows of the threads what the kernel's are.
-/
namespace Go.Proofs.Ytbkfildnijjioab
open Go.RowKit
def pickD (d : WD) (s : RS) (n : Int) : WD :=
  if n < 0 ∨ s.set.workers ≤ n then d else if R.on s.T n < 0 then d else doesD d (R.on s.T n).toNat (R.instrAt s (R.on s.T n).toNat) (R.actC s (R.on s.T n).toNat)
def tickD (d : WD) (s : RS) : WD := if s.now = 1000000000 then d else { d with now := d.now + 1, tick := true, told := R.tickL s }
def freshD (d : WD) : WD := { d with steps := d.steps + 1, tick := false, who := -1, i := ⟨0, 0, 0⟩, code := 0, told := [] }
def movedD (d : WD) (s : RS) (n : Int) : WD := if n = -1 then tickD (freshD d) s else pickD (freshD d) s n
def seenD (d : WD) (s : RS) : WD := { d with was := d.views, views := viewsD s, run := R.running s }
def stepD (d : WD) (s : RS) (n : Int) : WD := seenD (movedD d s n) (R.entry s n)
/-- The world is as the kernel is. -/
structure Wd (d : WD) (s : RS) : Prop where
  co : Coh d s
  views : d.views = viewsD s
  run : d.run = R.running s
  since : d.since.length = s.T.length
theorem doesB_keeps (d : WD) (t : Nat) (ii : InstrD) : (doesB d t ii).set = d.set ∧ (doesB d t ii).now = d.now ∧ (doesB d t ii).since = d.since ∧ (doesB d t ii).views = d.views ∧ (doesB d t ii).run = d.run ∧ (doesB d t ii).i = d.i ∧ (doesB d t ii).was = d.was ∧ (doesB d t ii).steps = d.steps ∧ (doesB d t ii).tick = d.tick ∧ (doesB d t ii).who = d.who ∧ (doesB d t ii).code = d.code ∧ (doesB d t ii).told = d.told := by
  unfold doesB
  split
  · exact ⟨rfl, rfl, rfl, rfl, rfl, rfl, rfl, rfl, rfl, rfl, rfl, rfl⟩
  split
  · split <;> exact ⟨rfl, rfl, rfl, rfl, rfl, rfl, rfl, rfl, rfl, rfl, rfl, rfl⟩
  split <;> exact ⟨rfl, rfl, rfl, rfl, rfl, rfl, rfl, rfl, rfl, rfl, rfl, rfl⟩
theorem doesS_keeps (d : WD) (t : Nat) (c : Int) : (doesS d t c).set = d.set ∧ (doesS d t c).now = d.now ∧ (doesS d t c).base = d.base ∧ (doesS d t c).at_ = d.at_ ∧ (doesS d t c).ended = d.ended ∧ (doesS d t c).views = d.views ∧ (doesS d t c).run = d.run ∧ (doesS d t c).i = d.i ∧ (doesS d t c).was = d.was ∧ (doesS d t c).steps = d.steps ∧ (doesS d t c).tick = d.tick ∧ (doesS d t c).who = d.who ∧ (doesS d t c).code = d.code ∧ (doesS d t c).told = d.told ∧ (doesS d t c).since.length = d.since.length := by
  unfold doesS
  split
  · exact ⟨rfl, rfl, rfl, rfl, rfl, rfl, rfl, rfl, rfl, rfl, rfl, rfl, rfl, rfl, by simp⟩
  · exact ⟨rfl, rfl, rfl, rfl, rfl, rfl, rfl, rfl, rfl, rfl, rfl, rfl, rfl, rfl, rfl⟩
section
variable {d : WD} {t : Nat} {ii : InstrD} {c : Int}
theorem doesD_set : (doesD d t ii c).set = d.set := (doesS_keeps _ t c).1.trans (doesB_keeps (doesA d t ii c) t ii).1
theorem doesD_now : (doesD d t ii c).now = d.now := (doesS_keeps _ t c).2.1.trans (doesB_keeps (doesA d t ii c) t ii).2.1
theorem doesD_views : (doesD d t ii c).views = d.views := (doesS_keeps _ t c).2.2.2.2.2.1.trans (doesB_keeps (doesA d t ii c) t ii).2.2.2.1
theorem doesD_run : (doesD d t ii c).run = d.run := (doesS_keeps _ t c).2.2.2.2.2.2.1.trans (doesB_keeps (doesA d t ii c) t ii).2.2.2.2.1
theorem doesD_i : (doesD d t ii c).i = ii := (doesS_keeps _ t c).2.2.2.2.2.2.2.1.trans (doesB_keeps (doesA d t ii c) t ii).2.2.2.2.2.1
theorem doesD_steps : (doesD d t ii c).steps = d.steps := (doesS_keeps _ t c).2.2.2.2.2.2.2.2.2.1.trans (doesB_keeps (doesA d t ii c) t ii).2.2.2.2.2.2.2.1
theorem doesD_tick : (doesD d t ii c).tick = d.tick := (doesS_keeps _ t c).2.2.2.2.2.2.2.2.2.2.1.trans (doesB_keeps (doesA d t ii c) t ii).2.2.2.2.2.2.2.2.1
theorem doesD_who : (doesD d t ii c).who = (t : Int) := (doesS_keeps _ t c).2.2.2.2.2.2.2.2.2.2.2.1.trans (doesB_keeps (doesA d t ii c) t ii).2.2.2.2.2.2.2.2.2.1
theorem doesD_code : (doesD d t ii c).code = c := (doesS_keeps _ t c).2.2.2.2.2.2.2.2.2.2.2.2.1.trans (doesB_keeps (doesA d t ii c) t ii).2.2.2.2.2.2.2.2.2.2.1
theorem doesD_told : (doesD d t ii c).told = d.told := (doesS_keeps _ t c).2.2.2.2.2.2.2.2.2.2.2.2.2.1.trans (doesB_keeps (doesA d t ii c) t ii).2.2.2.2.2.2.2.2.2.2.2
theorem doesD_slen : (doesD d t ii c).since.length = d.since.length := by
  have h1 := (doesS_keeps (doesB (doesA d t ii c) t ii) t c).2.2.2.2.2.2.2.2.2.2.2.2.2.2
  have h2 := (doesB_keeps (doesA d t ii c) t ii).2.2.1
  unfold doesD
  rw [h1, h2]
  rfl
theorem doesD_base : (doesD d t ii c).base = if ii.op = 4 then d.base.set ii.a.toNat ii.b else d.base := by
  have h1 : (doesD d t ii c).base = (doesB (doesA d t ii c) t ii).base := (doesS_keeps (doesB (doesA d t ii c) t ii) t c).2.2.1
  rw [h1]
  unfold doesB
  by_cases h0 : ii.op = 0
  · rw [if_pos h0, if_neg (by omega)]; rfl
  rw [if_neg h0]
  by_cases h3 : ii.op = 3
  · have h4 : ¬ ii.op = 4 := by omega
    rw [if_pos h3, if_neg h4]; split <;> rfl
  rw [if_neg h3]
  split <;> rfl
theorem doesD_ended : (doesD d t ii c).ended = if ii.op = 0 then d.ended.set t (d.ended.getD t 0 + 1) else d.ended := by
  have h1 : (doesD d t ii c).ended = (doesB (doesA d t ii c) t ii).ended := (doesS_keeps (doesB (doesA d t ii c) t ii) t c).2.2.2.2.1
  rw [h1]
  unfold doesB
  by_cases h0 : ii.op = 0
  · rw [if_pos h0, if_pos h0]; rfl
  rw [if_neg h0, if_neg h0]
  by_cases h3 : ii.op = 3
  · rw [if_pos h3]; split <;> rfl
  rw [if_neg h3]
  split <;> rfl
theorem doesD_at : (doesD d t ii c).at_ = d.at_.set t (if ii.op = 0 then 0 else if ii.op = 3 ∧ (d.views.getD t v0).last = ii.a then ii.b else d.at_.getD t 0 + 1) := by
  have h1 : (doesD d t ii c).at_ = (doesB (doesA d t ii c) t ii).at_ := (doesS_keeps (doesB (doesA d t ii c) t ii) t c).2.2.2.1
  rw [h1]
  unfold doesB
  by_cases h0 : ii.op = 0
  · rw [if_pos h0, if_pos h0]
    show (d.at_.set t _).set t 0 = _
    rw [List.set_set]
  rw [if_neg h0, if_neg h0]
  by_cases h3 : ii.op = 3
  · rw [if_pos h3]
    by_cases hl : (d.views.getD t v0).last = ii.a
    · have hl' : ((doesA d t ii c).views.getD t v0).last = ii.a := hl
      rw [if_pos hl', if_pos ⟨h3, hl⟩]
      show (d.at_.set t _).set t ii.b = _
      rw [List.set_set]
    · have hl' : ¬ ((doesA d t ii c).views.getD t v0).last = ii.a := hl
      rw [if_neg hl', if_neg (fun h => hl h.2)]
      rfl
  have hx : ¬ (ii.op = 3 ∧ (d.views.getD t v0).last = ii.a) := fun h => h3 h.1
  rw [if_neg h3, if_neg hx]
  split <;> rfl
end
/-- A column of the threads, one entry turned. -/
theorem col_set (T T' : List RT) (f : RT → Int) (hl : T'.length = T.length) (t : Nat) (v : Int) (h : ∀ u, u < T.length → f (R.th T' u) = if u = t then v else f (R.th T u)) : T'.map f = (T.map f).set t v := by
  apply List.ext_getElem
  · simp [hl]
  · intro i h1 h2
    have hi : i < T.length := by simpa using h2
    have hi' : i < T'.length := by omega
    have := h i hi
    rw [th_ext hi', th_ext hi] at this
    rw [List.getElem_map, this, List.getElem_set]
    by_cases e : t = i
    · subst e; simp
    · have e' : ¬ i = t := fun x => e x.symm
      simp [e, e']
theorem col_same (T T' : List RT) (f : RT → Int) (hl : T'.length = T.length) (h : ∀ u, u < T.length → f (R.th T' u) = f (R.th T u)) : T'.map f = T.map f := by
  apply List.ext_getElem
  · simp [hl]
  · intro i h1 h2
    have hi : i < T.length := by simpa using h2
    have hi' : i < T'.length := by omega
    have := h i hi
    rw [th_ext hi', th_ext hi] at this
    simp [this]
theorem col_getD (T : List RT) (f : RT → Int) (t : Nat) (h : t < T.length) : (T.map f).getD t 0 = f (R.th T t) := by
  rw [th_ext h]
  simp [List.getD, h]
theorem Coh.cols {d : WD} {s s' : RS} (co : Coh d s) (k : R.Cols s s') (hs : s'.set = s.set) (hn : s'.now = s.now) : Coh d s' :=
  ⟨co.set.trans hs.symm, co.now.trans hn.symm, co.base.trans (col_same _ _ _ k.len fun u _ => (k.th u).1).symm, co.at_.trans (col_same _ _ _ k.len fun u _ => (k.th u).2.1).symm, co.ended.trans (col_same _ _ _ k.len fun u _ => (k.th u).2.2).symm⟩
/-- The instruction at which an awake thread stands is one that may be, or the End behind its code. -/
theorem instrAt_ok {s : RS} (h : RInv s) {t : Nat} (ht : t < s.T.length) : (R.instrAt s t = ⟨0, 0, 0⟩) ∨ (RIns s (R.instrAt s t) ∧ ((R.instrAt s t).op = 5 → 1 ≤ (R.instrAt s t).a)) := by
  have ht' : t < s.set.threads.length := by have := h.good.len; omega
  unfold R.instrAt
  have e : s.set.threads.getD t P3.none0 = s.set.threads[t] := by simp [List.getD, ht']
  rw [e]
  by_cases hi : (R.th s.T t).at_.toNat < s.set.threads[t].code.length
  · right
    have e2 : s.set.threads[t].code[(R.th s.T t).at_.toNat]?.getD ⟨0, 0, 0⟩ = s.set.threads[t].code[(R.th s.T t).at_.toNat] := by simp [hi]
    rw [e2]
    have := h.ins t ht' _ (List.getElem_mem hi)
    exact ⟨this.1, this.2.2⟩
  · left
    simp [hi]
theorem instrAt_prio {s : RS} (h : RInv s) {t : Nat} (ht : t < s.T.length) (h4 : (R.instrAt s t).op = 4) : 0 ≤ (R.instrAt s t).a ∧ (R.instrAt s t).a < s.T.length := by
  rcases instrAt_ok h ht with e | ⟨e, _⟩
  · rw [e] at h4; exact absurd h4 (by decide)
  · exact e.prio h4
theorem actC_low (s : RS) (t : Nat) (h : (R.instrAt s t).op ≤ 4) : R.actC s t = 0 := by
  unfold R.actC
  split
  · rfl
  · unfold R.doesC
    rw [if_neg (by omega), if_neg (by omega), if_neg (by omega), if_neg (by omega), if_neg (by omega), if_neg (by omega), if_neg (by omega)]
theorem wActS_set (s : RS) (t : Nat) (ho : s.owner.length ≤ 8) : (R.actS s t).set = s.set ∧ (R.actS s t).now = s.now := ⟨(like_actS s t ho).set, (like_actS s t ho).now⟩
/-- Behind a step the world knows what the kernel's threads are. -/
theorem Wd.moved {d : WD} {s : RS} (h : Wd d s) (i : RInv s) (n : Int) : Coh (movedD d s n) (R.entry s n) ∧ (movedD d s n).since.length = s.T.length ∧ (R.entry s n).T.length = s.T.length := by
  have hco : Coh (freshD d) s := ⟨h.co.set, h.co.now, h.co.base, h.co.at_, h.co.ended⟩
  unfold movedD R.entry
  by_cases hn : n = -1
  · rw [if_pos hn, if_pos hn]
    unfold tickD R.tickS
    by_cases hm : s.now = 1000000000
    · rw [if_pos hm, if_pos hm]
      exact ⟨hco, h.since, rfl⟩
    · rw [if_neg hm, if_neg hm]
      have k := R.cols_tick s
      have e1 : (R.tick s).set = s.set := by
        have h2 := R.releaseTo_set (R.ends (R.missing s)) (R.ends (R.missing s)).T.length
        have h1 := (R.endsTo_set (R.missing s) (R.missing s).T.length).1
        exact h2.trans h1
      have e2 : (R.tick s).now = s.now + 1 := by
        have h2 := R.releaseTo_now (R.ends (R.missing s)) (R.ends (R.missing s)).T.length
        have h1 := (R.endsTo_set (R.missing s) (R.missing s).T.length).2.1
        exact h2.trans h1
      refine ⟨⟨hco.set.trans e1.symm, ?_, hco.base.trans (col_same _ _ _ k.len fun u _ => (k.th u).1).symm, hco.at_.trans (col_same _ _ _ k.len fun u _ => (k.th u).2.1).symm, hco.ended.trans (col_same _ _ _ k.len fun u _ => (k.th u).2.2).symm⟩, h.since, k.len⟩
      show d.now + 1 = _
      rw [e2, h.co.now]
  · rw [if_neg hn, if_neg hn]
    unfold pickD R.pickS
    by_cases hw : n < 0 ∨ s.set.workers ≤ n
    · rw [if_pos hw, if_pos hw]
      exact ⟨hco, h.since, rfl⟩
    rw [if_neg hw, if_neg hw]
    by_cases ho : R.on s.T n < 0
    · rw [if_pos ho, if_pos ho]
      exact ⟨hco, h.since, rfl⟩
    rw [if_neg ho, if_neg ho]
    obtain ⟨o0, o1⟩ := R.on_bd s.T n
    have ht : (R.on s.T n).toNat < s.T.length := by omega
    generalize (R.on s.T n).toNat = t at *
    obtain ⟨hl, hc⟩ := R.actS_cols s t ht (fun h4 => by have := instrAt_prio i ht h4; omega)
    obtain ⟨s1, s2⟩ := wActS_set s t (by rw [i.good.own]; exact i.good.mfew)
    have ks := R.cols_settle (R.actS s t)
    have hl' : (R.settle (R.actS s t)).T.length = s.T.length := ks.len.trans hl
    refine ⟨⟨doesD_set.trans (hco.set.trans s1.symm), doesD_now.trans (hco.now.trans s2.symm), ?_, ?_, ?_⟩, doesD_slen.trans h.since, hl'⟩
    · rw [doesD_base]
      have hb : (freshD d).base = s.T.map RT.base := hco.base
      rw [hb]
      by_cases h4 : (R.instrAt s t).op = 4
      · rw [if_pos h4]
        refine (col_set _ _ _ hl' _ _ fun u _ => ?_).symm
        rw [(ks.th u).1, (hc u).1]
        by_cases e : u = (R.instrAt s t).a.toNat
        · rw [if_pos ⟨h4, e⟩, if_pos e]
        · rw [if_neg (fun x => e x.2), if_neg e]
      · rw [if_neg h4]
        refine (col_same _ _ _ hl' fun u _ => ?_).symm
        rw [(ks.th u).1, (hc u).1, if_neg (fun x => h4 x.1)]
    · rw [doesD_at]
      have hb : (freshD d).at_ = s.T.map RT.at_ := hco.at_
      have hv : ((freshD d).views.getD t v0).last = (R.th s.T t).last := by
        show (d.views.getD t v0).last = _
        rw [h.views]
        simp [viewsD, List.getD, ht, viewD]
      rw [hb, hv, col_getD _ _ _ ht]
      refine (col_set _ _ _ hl' _ _ fun u _ => ?_).symm
      rw [(ks.th u).2.1, (hc u).2.1]
      rfl
    · rw [doesD_ended]
      have hb : (freshD d).ended = s.T.map RT.ended := hco.ended
      rw [hb]
      by_cases h0 : (R.instrAt s t).op = 0
      · rw [if_pos h0, col_getD _ _ _ ht]
        refine (col_set _ _ _ hl' _ _ fun u _ => ?_).symm
        rw [(ks.th u).2.2, (hc u).2.2]
        by_cases e : u = t
        · subst e
          rw [if_pos ⟨rfl, h0⟩, if_pos rfl]
        · rw [if_neg (fun x => e x.1), if_neg e]
      · rw [if_neg h0]
        refine (col_same _ _ _ hl' fun u _ => ?_).symm
        rw [(ks.th u).2.2, (hc u).2.2, if_neg (fun x => h0 x.2)]
theorem Wd.step {d : WD} {s : RS} (h : Wd d s) (i : RInv s) (n : Int) : Wd (stepD d s n) (R.entry s n) := by
  obtain ⟨h1, h2, h3⟩ := h.moved i n
  exact ⟨⟨h1.set, h1.now, h1.base, h1.at_, h1.ended⟩, rfl, rfl, h2.trans h3.symm⟩
end Go.Proofs.Ytbkfildnijjioab

/-
  Walks over package donatekeep: picks, ticks.
-/
namespace Go.Proofs.Ytbkfildnijjioab
open Go.RowKit
section
variable {PK : KP} {B : Nat} {w w' : World} {wb kb : Nat} {P : Nat → Prop} {h : WH} {d : WD} {s : RS}
/-- The kernel has moved. -/
theorem KW.turned (k : KW PK B w wb kb P h d s) {w1 : World} {s' : RS} {P' : Nat → Prop} (pk : PK P' w1 kb s') (hs : ∀ b, P' b → P b ∨ w.heap.size ≤ b) (t : Turns P w w1) : KW PK B w1 wb kb P' h d s' ∧ Below B w w1 := by
  have hbz := k.m.bsz
  have hb : Below B w w1 := ⟨t.os, t.tape, t.output, t.size, fun b hb => t.block b (by omega) (fun e => by have := k.hp b e; omega)⟩
  refine ⟨⟨k.m.frame (fun b hw => t.block b (k.m.lt b hw) (fun e => k.np b e hw)) hb, pk, fun b h1 => ?_, fun b h1 hw => ?_⟩, hb⟩
  · rcases hs b h1 with h2 | h2
    · exact k.hp b h2
    · omega
  · rcases hs b h1 with h2 | h2
    · exact k.np b h2 hw
    · have := k.m.lt b hw
      omega
theorem KW.free (f : KFrame PK) (k : KW PK B w wb kb P h d s) : ∀ b, P b → b < w.heap.size := f.lt k.pk
set_option maxRecDepth 100000 in
set_option maxHeartbeats 4000000 in
theorem wPicks_any (c : CAll PK) (k : KW PK B w wb kb P h d s) (wd : Wd d s) (hnx : s.next ≤ 4611686018427386000) (n : Int) :
    Calls Try.prog 36 #[.pointer (some ⟨wb, 0, none⟩), .int .i64 n] w fun e w' => e = .returned (.bool true) ∧ (∃ P', KW PK B w' wb kb P' h (pickD d s n) (R.pickS s n)) ∧ Below B w w' := by
  have hinv := c.inv k.pk
  have hfew := hinv.good.few
  have hw8 := hinv.good.wk1
  have hw0 := hinv.good.wk0
  have c6 := k.m.blk.cell 6
  simp [wCells] at c6
  have K := hid k
  have WDH := hid wd
  have HINV := hid hinv
  have C1 := hid (c.pick P w kb s k.pk hnx n)
  have hbz := k.m.bsz
  clear k wd hinv
  obtain ⟨rt, hrt⟩ : ∃ x, Hid (R.pickT s n = x) := ⟨_, hid rfl⟩
  obtain ⟨ra, hra⟩ : ∃ x, Hid (R.pickA s n = x) := ⟨_, hid rfl⟩
  obtain ⟨rc, hrc⟩ : ∃ x, Hid (R.pickC s n = x) := ⟨_, hid rfl⟩
  obtain ⟨re, hre⟩ : ∃ x, Hid (R.pickE s n = x) := ⟨_, hid rfl⟩
  rw [hrt.out, hra.out, hrc.out, hre.out] at C1
  go_enter Try.func36, Try.ntmps36
  go_wp2_with fail
  refine C1.out.mono ?_
  rintro e w1 ⟨rfl, P', pk1, hs1, t1⟩
  obtain ⟨k1, hb1⟩ := K.out.turned pk1 hs1 t1
  have K1 := hid k1
  have HB1 := hid hb1
  clear pk1 hs1 t1 k1 hb1 c6 C1
  go_upto_region 2 with fail
  have hbA : Below w1.heap.size w1 (w1.alloc (.cells #[.int .i64 rt, .int .i64 ra, .int .i64 rc] 117)) := (Below.refl _ _).alloc (Nat.le_refl _) _
  have bA := Blk.new w1 #[.int .i64 rt, .int .i64 ra, .int .i64 rc] 117
  generalize w1.alloc (.cells #[.int .i64 rt, .int .i64 ra, .int .i64 rc] 117) = wA at hbA bA ⊢
  have KA := hid (K1.out.below c.fr hbA)
  have hsz1 := K1.out.m.bsz
  have KLT := hid K1.out.m.lt
  have HBA := hid (HB1.out.trans (hbA.mono hsz1))
  have BA := hid bA
  have x0 := bA.cell 0
  have x1 := bA.cell 1
  have x2 := bA.cell 2
  simp at x0 x1 x2
  clear hbA bA K1 HB1
  have y0 := KA.out.m.blk.cell 0
  have y13 := KA.out.m.blk.cell 13
  simp [wCells] at y0 y13
  rw [WDH.out.co.set] at y0
  by_cases hw : n < 0 ∨ s.set.workers ≤ n
  · have e1 : rt = 0 := by rw [← hrt.out]; unfold R.pickT; rw [if_pos hw]
    have e2 : ra = 0 := by rw [← hra.out]; unfold R.pickA; rw [if_pos hw]
    have e3 : rc = 0 := by rw [← hrc.out]; unfold R.pickC; rw [if_pos hw]
    have e4 : re = 7 := by rw [← hre.out]; unfold R.pickE; rw [if_pos hw]
    have e5 : R.pickS s n = s := by unfold R.pickS; rw [if_pos hw]
    have e6 : pickD d s n = d := by unfold pickD; rw [if_pos hw]
    have E5 := hid e5
    have E6 := hid e6
    rw [e5] at KA
    subst e1 e2 e3 e4
    clear e5 e6
    by_cases hneg : n < 0
    · go_wp2
      go_ret
      exact ⟨rfl, ⟨P', by rw [E5.out, E6.out]; exact KA.out⟩, HBA.out⟩
    · have hge : s.set.workers ≤ n := by omega
      have hneg' : decide (n < 0) = false := by simpa using hneg
      go_wp2
      go_ret
      exact ⟨rfl, ⟨P', by rw [E5.out, E6.out]; exact KA.out⟩, HBA.out⟩
  · have hn0 : 0 ≤ n := by omega
    have hn1 : n < s.set.workers := by omega
    obtain ⟨m, rfl⟩ := Int.eq_ofNat_of_zero_le hn0
    have hrl := running_len s
    have hm : m < (R.running s).length := by omega
    obtain ⟨o0, o1⟩ := R.on_bd s.T (m : Int)
    have e4 : re = 0 := by rw [← hre.out]; unfold R.pickE; rw [if_neg hw]
    have e1 : rt = R.on s.T (m : Int) := by
      rw [← hrt.out]
      unfold R.pickT
      rw [if_neg hw]
      split <;> omega
    subst e4
    obtain ⟨gR, cR, hvR, hgR, zR, _⟩ := row_at KA.out.m.run (by rw [WDH.out.run]; omega)
    have zRm := zR m (by rw [WDH.out.run]; exact hm)
    have eR : d.run[m]'(by rw [WDH.out.run]; exact hm) = rt := by
      rw [e1]
      simp [WDH.out.run, R.running]
    rw [eR] at zRm
    rw [hvR, WDH.out.run] at y13
    have hmI : (m : Int) < ((R.running s).length : Int) := by omega
    have hr8 : (R.running s).length ≤ 8 := by omega
    have E1 := hid e1
    have HRL := hid hrl
    have HW := hid hw
    clear zR hvR eR e1 hrl hw hm
    generalize (R.running s).length = rlen at *
    have hne : (rt != rt) = false := by simp
    by_cases hno : rt < 0
    · have hm1 : rt = -1 := by have := E1.out; omega
      have hon : R.on s.T (m : Int) < 0 := by have := E1.out; omega
      have e2 : ra = 0 := by rw [← hra.out]; unfold R.pickA; rw [if_neg HW.out, if_pos hon]
      have e3 : rc = 0 := by rw [← hrc.out]; unfold R.pickC; rw [if_neg HW.out, if_pos hon]
      have e5 : R.pickS s (m : Int) = s := by unfold R.pickS; rw [if_neg HW.out, if_pos hon]
      have e6 : pickD d s (m : Int) = d := by unfold pickD; rw [if_neg HW.out, if_pos hon]
      have E5 := hid e5
      have E6 := hid e6
      rw [e5] at KA
      subst e2 e3
      rw [hm1] at x0 zRm
      clear e5 e6 hon hno hne hm1
      go_wp2
      go_ret
      exact ⟨rfl, ⟨P', by rw [E5.out, E6.out]; exact KA.out⟩, HBA.out⟩
    · obtain ⟨t, ht0⟩ := Int.eq_ofNat_of_zero_le (show 0 ≤ rt by omega)
      have hon : ¬ R.on s.T (m : Int) < 0 := by have := E1.out; omega
      have hot : (R.on s.T (m : Int)).toNat = t := by have := E1.out; omega
      have ht : t < s.T.length := by have := E1.out; omega
      have e2 : ra = (R.th s.T t).at_ := by rw [← hra.out]; unfold R.pickA; rw [if_neg HW.out, if_neg hon, hot]
      have e3 : rc = R.actC s t := by rw [← hrc.out]; unfold R.pickC; rw [if_neg HW.out, if_neg hon, hot]
      have e6 : pickD d s (m : Int) = doesD d t (R.instrAt s t) rc := by unfold pickD; rw [if_neg HW.out, if_neg hon, hot, e3]
      have tok := HINV.out.thr t ht
      have a0 : 0 ≤ ra := by rw [e2, th_ext ht]; exact tok.at0
      have hrb := relBy_bd (S := s.set) (t := t) (now := s.now) HINV.out.good.now0 (by have := HINV.out.good.now1; omega) HINV.out.good.now2 (by
        have ht' : t < s.set.threads.length := by have := HINV.out.good.len; omega
        have e : s.set.threads.getD t P3.none0 = s.set.threads[t] := by simp [List.getD, ht']
        rw [e]
        exact (HINV.out.good.off _ (List.getElem_mem ht')).1) (off_all HINV.out.good.off t)
      have eE : d.ended.getD t 0 = s.T[t].ended := by rw [WDH.out.co.ended, col_getD _ _ _ ht, th_ext ht]
      have eA : d.at_.getD t 0 = ra := by rw [WDH.out.co.at_, col_getD _ _ _ ht, e2]
      obtain ⟨na, hna⟩ := Int.eq_ofNat_of_zero_le a0
      have ha32 : na ≤ 1000 := by
        have h2 := (HINV.out.code.at_ t ht).2
        have : ra = s.T[t].at_ := by rw [e2, th_ext ht]
        omega
      have eI : codeAt d.set t na = R.instrAt s t := by
        unfold codeAt R.instrAt
        rw [WDH.out.co.set, ← e2, hna]
        rfl
      have lT : d.set.threads.length = s.T.length := by rw [WDH.out.co.set, HINV.out.good.len]
      have DO := hid (fun (wx : World) (kx : KW PK B wx wb kb P' h d (R.pickS s (m : Int))) => wDoes_any c kx s.T.length hfew lT (by rw [WDH.out.co.base]; simp) (by rw [WDH.out.co.at_]; simp) (by rw [WDH.out.co.ended]; simp) WDH.out.since (by rw [WDH.out.views, viewsD_length]) t ht na (by rw [eA, hna]) ha32 (by rw [eE]; exact tok.e0) (by rw [eE]; have := tok.e1; have := tok.r0; omega) (by rw [eI]; exact instrAt_prio HINV.out ht) rc)
      rw [eI] at DO
      have hlow : (R.instrAt s t).op ≤ 4 → rc = 0 := fun hh => by rw [e3]; exact actC_low s t hh
      have HLOW := hid hlow
      have E6 := hid e6
      have y9 := KA.out.m.blk.cell 9
      simp [wCells] at y9
      obtain ⟨gA, cA, hvA, hgA, zA, _⟩ := row_at KA.out.m.at_ (by rw [WDH.out.co.at_]; simpa using Nat.lt_of_le_of_lt (Nat.zero_le _) ht)
      have lA : d.at_.length = s.T.length := by rw [WDH.out.co.at_]; simp
      have zAt := zA t (by rw [lA]; exact ht)
      have eA2 : d.at_[t]'(by rw [lA]; exact ht) = ra := by rw [← eA]; simp [List.getD, lA, ht]
      rw [eA2] at zAt
      rw [hvA, lA] at y9
      have htI : (t : Int) < (s.T.length : Int) := by omega
      have hnea : (ra != ra) = false := by simp
      have hnm : ((t : Int) == -1) = false := by rw [beq_eq_false_iff_ne]; omega
      clear tok hrb eE eA eI lT zA hvA lA eA2 hlow e2 e3 e6 hon hot a0 hno o0 o1
      subst ht0
      clear hna
      generalize R.instrAt s t = ii at *
      go_wp2_with fail
      go_quiet (fail)
      have KQ := hid (KA.out.below c.fr (bdrewN (Below.refl _ _) nq))
      have HBQ := hid (bdrewN HBA.out nq)
      have BQ : Hid (Blk (wA.drewN nq) w1.heap.size #[.int .i64 (t : Int), .int .i64 ra, .int .i64 rc] 117) := BA.out
      clear KA HBA BA x0 x1 x2 y0 y9 y13 zRm zAt
      generalize wA.drewN nq = wQ at *
      have x2 := BQ.out.cell 2
      simp at x2
      go_wp2_with fail
      refine (DO.out wQ KQ.out).mono ?_
      rintro e w3 ⟨rfl, k3, tr3⟩
      have hbq := KQ.out.m.bsz
      have HB3 := hid (HBQ.out.trans (tr3.since hbq KQ.out.m.ge))
      have B3 : Hid (Blk w3 w1.heap.size #[.int .i64 (t : Int), .int .i64 ra, .int .i64 rc] 117) := by
        have h1 := BQ.out
        have hl := BQ.out.lt
        refine hid ?_
        unfold Blk at h1 ⊢
        rw [tr3.block _ hl (fun hw => by have := KLT.out _ hw; omega)]
        exact h1
      have K3 := hid k3
      clear k3 tr3 DO KQ HBQ BQ x2
      have x2 := B3.out.cell 2
      have y18 := K3.out.m.blk.cell 18
      simp [wCells, doesD_i] at x2 y18
      by_cases hop : ii.op ≤ 4
      · have hr0 := HLOW.out hop
        rw [hr0] at x2
        have hop' : decide (4 < ii.op) = false := by simp; omega
        go_wp2
        go_ret
        exact ⟨rfl, ⟨P', by rw [E6.out]; exact K3.out⟩, HB3.out⟩
      · have hop' : 4 < ii.op := by omega
        go_wp2
        go_ret
        exact ⟨rfl, ⟨P', by rw [E6.out]; exact K3.out⟩, HB3.out⟩
set_option maxRecDepth 100000 in
set_option maxHeartbeats 4000000 in
theorem wTicks_any (c : CAll PK) (k : KW PK B w wb kb P h d s) (wd : Wd d s) (hnx : s.next ≤ 4611686018427386000) :
    Calls Try.prog 35 #[.pointer (some ⟨wb, 0, none⟩)] w fun e w' => e = .returned (.bool true) ∧ (∃ P' h', KW PK B w' wb kb P' h' (tickD d s) (R.tickS s)) ∧ Below B w w' := by
  have hinv := c.inv k.pk
  have hn2 := hinv.good.now2
  have hn0 := hinv.good.now0
  have hn1 := hinv.good.now1
  have c6 := k.m.blk.cell 6
  simp [wCells] at c6
  have K := hid k
  have C1 := hid (c.tick P w kb s k.pk hnx)
  have hnow : d.now = s.now := wd.co.now
  have hbz := k.m.bsz
  clear k wd hinv
  obtain ⟨re, hre⟩ : ∃ x, Hid (R.tickE s = x) := ⟨_, hid rfl⟩
  obtain ⟨rl, hrl⟩ : ∃ x, Hid (R.tickL s = x) := ⟨_, hid rfl⟩
  rw [hre.out, hrl.out] at C1
  go_enter Try.func35, Try.ntmps35
  go_wp2_with fail
  refine C1.out.mono ?_
  rintro e w1 ⟨v, P', rfl, ho1, pk1, hs1, hn1', t1⟩
  obtain ⟨k1, hb1⟩ := K.out.turned pk1 hs1 t1
  have K1 := hid k1
  have HB1 := hid hb1
  obtain ⟨ao, ca, rfl, _, _⟩ := MissesIn.of_owns ho1
  have O1 := hid ho1
  have HNP := hid hn1'
  clear pk1 hs1 t1 k1 hb1 c6 C1 hn1' ho1
  have y7 := K1.out.m.blk.cell 7
  simp [wCells] at y7
  rw [hnow] at y7
  by_cases hm : s.now = 1000000000
  · have e1 : re = 8 := by rw [← hre.out]; unfold R.tickE; rw [if_pos hm]
    have e2 : rl = [] := by rw [← hrl.out]; unfold R.tickL; rw [if_pos hm]
    have e3 : R.tickS s = s := by unfold R.tickS; rw [if_pos hm]
    have e4 : tickD d s = d := by unfold tickD; rw [if_pos hm]
    have E3 := hid e3
    have E4 := hid e4
    rw [e3] at K1
    subst e1 e2
    rw [hm] at y7
    clear e3 e4 hm
    go_wp2
    go_ret
    exact ⟨rfl, ⟨P', h, by rw [E3.out, E4.out]; exact K1.out⟩, HB1.out⟩
  · have hm' : (s.now == 1000000000) = false := by simpa using hm
    have e1 : re = 0 := by rw [← hre.out]; unfold R.tickE; rw [if_neg hm]
    have e4 : tickD d s = { d with now := s.now + 1, tick := true, told := rl } := by unfold tickD; rw [if_neg hm, hnow, hrl.out]
    have E4 := hid e4
    subst e1
    clear e4
    have y16 := K1.out.m.blk.cell 16
    have y22 := K1.out.m.blk.cell 22
    have z7 := K1.out.m.blk.frozen 7
    have z16 := K1.out.m.blk.frozen 16
    have z22 := K1.out.m.blk.frozen 22
    simp [wCells] at y16 y22
    obtain ⟨aT, cT, hvT, _, _⟩ := owns_cells K1.out.m.told
    rw [hvT] at y22
    have q1 := K1.out.setOne c.fr 7 (.int .i64 (s.now + 1)) { d with now := s.now + 1 } (by simp [wCells]) rfl rfl rfl rfl rfl rfl rfl rfl rfl
    have q2 := q1.setOne c.fr 16 (.bool true) { d with now := s.now + 1, tick := true } (by simp [wCells]) rfl rfl rfl rfl rfl rfl rfl rfl rfl
    have hne : ∀ g, (Value.slice ao rl.length ca).ownBlock = some g → g ≠ wb := fun g hg e => by
      have := (ownsRow_block O1.out hg).1
      have := K.out.m.blk.lt
      omega
    have o2 : ((w1.setCell ⟨wb, 7, none⟩ (.int .i64 (s.now + 1))).setCell ⟨wb, 16, none⟩ (.bool true)).ownsRow B 82 3 (.slice ao rl.length ca) rl.length (missCells rl) := by
      refine ownsRow_mono (ownsRow_same O1.out fun g hg => ?_) hbz
      rw [Below.heap_setCell _ _ _ _ (fun e => hne g hg e), Below.heap_setCell _ _ _ _ (fun e => hne g hg e)]
    obtain ⟨h3, q3⟩ := q2.setTold c.fr o2 HNP.out
    have Q3 := hid q3
    have HB3 := hid (((HB1.out.setCell (p := ⟨wb, 7, none⟩) K.out.m.hb (.int .i64 (s.now + 1))).setCell (p := ⟨wb, 16, none⟩) K.out.m.hb (.bool true)).setCell (p := ⟨wb, 22, none⟩) K.out.m.hb (.slice ao rl.length ca))
    clear q1 q2 q3 o2 hvT hne
    go_wp2
    go_ret
    exact ⟨rfl, ⟨P', h3, by rw [E4.out]; exact Q3.out⟩, HB3.out⟩
end
end Go.Proofs.Ytbkfildnijjioab

/-
  Walks over package donatekeep: step.
-/
namespace Go.Proofs.Ytbkfildnijjioab
open Go.RowKit
section
variable {PK : KP} {B : Nat} {w w' : World} {wb kb : Nat} {P : Nat → Prop} {h : WH} {d : WD} {s : RS}
theorem Wd.fresh (wd : Wd d s) : Wd (freshD d) s := ⟨⟨wd.co.set, wd.co.now, wd.co.base, wd.co.at_, wd.co.ended⟩, wd.views, wd.run, wd.since⟩
set_option maxRecDepth 100000 in
set_option maxHeartbeats 4000000 in
theorem wStep_any (c : CAll PK) (k : KW PK B w wb kb P h d s) (wd : Wd d s) (hnx : s.next ≤ 4611686018427386000) (hs0 : 0 ≤ d.steps) (hs1 : d.steps ≤ 2199023255552) (n : Int) :
    Calls Try.prog 12 #[.pointer (some ⟨wb, 0, none⟩), .int .i64 n] w fun e w' => e = .returned (.bool true) ∧ (∃ P' h', KW PK B w' wb kb P' h' (stepD d s n) (R.entry s n)) ∧ Below B w w' := by
  have K := hid k
  have WDH := hid wd
  have HINV := hid (c.inv k.pk)
  have hwl := k.m.blk.lt
  have y15 := k.m.blk.cell 15
  have y16 := k.m.blk.cell 16
  have y17 := k.m.blk.cell 17
  have y18 := k.m.blk.cell 18
  have y19 := k.m.blk.cell 19
  have y20 := k.m.blk.cell 20
  have y21 := k.m.blk.cell 21
  have y22 := k.m.blk.cell 22
  have z15 := k.m.blk.frozen 15
  have z16 := k.m.blk.frozen 16
  have z17 := k.m.blk.frozen 17
  have z18 := k.m.blk.frozen 18
  have z19 := k.m.blk.frozen 19
  have z20 := k.m.blk.frozen 20
  have z21 := k.m.blk.frozen 21
  have z22 := k.m.blk.frozen 22
  simp [wCells] at y15 y16 y17 y18 y19 y20 y21 y22
  obtain ⟨aT, cT, hvT, _, _⟩ := owns_cells k.m.told
  rw [hvT] at y22
  have q1 := k.setOne c.fr 15 (.int .i64 (d.steps + 1)) { d with steps := d.steps + 1 } (by simp [wCells]) rfl rfl rfl rfl rfl rfl rfl rfl rfl
  have q2 := q1.setOne c.fr 16 (.bool false) { d with steps := d.steps + 1, tick := false } (by simp [wCells]) rfl rfl rfl rfl rfl rfl rfl rfl rfl
  have q3 := q2.setOne c.fr 17 (.int .i64 (-1)) { d with steps := d.steps + 1, tick := false, who := -1 } (by simp [wCells]) rfl rfl rfl rfl rfl rfl rfl rfl rfl
  have q4 := q3.setOne c.fr 18 (.int .i64 0) { d with steps := d.steps + 1, tick := false, who := -1, i := ⟨0, d.i.a, d.i.b⟩ } (by simp [wCells]) rfl rfl rfl rfl rfl rfl rfl rfl rfl
  have q5 := q4.setOne c.fr 19 (.int .i64 0) { d with steps := d.steps + 1, tick := false, who := -1, i := ⟨0, 0, d.i.b⟩ } (by simp [wCells]) rfl rfl rfl rfl rfl rfl rfl rfl rfl
  have q6 := q5.setOne c.fr 20 (.int .i64 0) { d with steps := d.steps + 1, tick := false, who := -1, i := ⟨0, 0, 0⟩ } (by simp [wCells]) rfl rfl rfl rfl rfl rfl rfl rfl rfl
  have q7 := q6.setOne c.fr 21 (.int .i64 0) { d with steps := d.steps + 1, tick := false, who := -1, i := ⟨0, 0, 0⟩, code := 0 } (by simp [wCells]) rfl rfl rfl rfl rfl rfl rfl rfl rfl
  obtain ⟨h2, q8⟩ := q7.setTold c.fr (v := .slice none 0 0) (l := []) (World.ownsRow_nil _ _ _ _) (fun g hg => by cases hg)
  have Q8 : Hid (KW PK B ((((((((w.setCell ⟨wb, 15, none⟩ (.int .i64 (d.steps + 1))).setCell ⟨wb, 16, none⟩ (.bool false)).setCell ⟨wb, 17, none⟩ (.int .i64 (-1))).setCell ⟨wb, 18, none⟩ (.int .i64 0)).setCell ⟨wb, 19, none⟩ (.int .i64 0)).setCell ⟨wb, 20, none⟩ (.int .i64 0)).setCell ⟨wb, 21, none⟩ (.int .i64 0)).setCell ⟨wb, 22, none⟩ (.slice none 0 0)) wb kb P h2 (freshD d) s) := hid q8
  have HB8 : Hid (Below B w ((((((((w.setCell ⟨wb, 15, none⟩ (.int .i64 (d.steps + 1))).setCell ⟨wb, 16, none⟩ (.bool false)).setCell ⟨wb, 17, none⟩ (.int .i64 (-1))).setCell ⟨wb, 18, none⟩ (.int .i64 0)).setCell ⟨wb, 19, none⟩ (.int .i64 0)).setCell ⟨wb, 20, none⟩ (.int .i64 0)).setCell ⟨wb, 21, none⟩ (.int .i64 0)).setCell ⟨wb, 22, none⟩ (.slice none 0 0))) := by
    iterate 8 refine Below.setCell ?_ K.out.m.hb _
    exact Below.refl _ _
  clear k wd q1 q2 q3 q4 q5 q6 q7 q8 hvT
  go_enter Try.func12, Try.ntmps12
  go_upto_region 7 with fail
  generalize ((((((((w.setCell ⟨wb, 15, none⟩ (.int .i64 (d.steps + 1))).setCell ⟨wb, 16, none⟩ (.bool false)).setCell ⟨wb, 17, none⟩ (.int .i64 (-1))).setCell ⟨wb, 18, none⟩ (.int .i64 0)).setCell ⟨wb, 19, none⟩ (.int .i64 0)).setCell ⟨wb, 20, none⟩ (.int .i64 0)).setCell ⟨wb, 21, none⟩ (.int .i64 0)).setCell ⟨wb, 22, none⟩ (.slice none 0 0)) = w1 at Q8 HB8 ⊢
  clear y15 y16 y17 y18 y19 y20 y21 y22 z15 z16 z17 z18 z19 z20 z21 z22
  have hsz := HB8.out.size
  have hbz := K.out.m.bsz
  by_cases hn : n = -1
  · subst hn
    have E1 : Hid (R.entry s (-1) = R.tickS s) := by unfold R.entry; rw [if_pos rfl]; exact hid rfl
    have E2 : Hid (movedD d s (-1) = tickD (freshD d) s) := by unfold movedD; rw [if_pos rfl]; exact hid rfl
    go_wp2_with fail
    refine (wTicks_any c Q8.out WDH.out.fresh hnx).mono ?_
    rintro e w2 ⟨rfl, ⟨P', h3, k3⟩, hb3⟩
    have co3 := (WDH.out.moved HINV.out (-1)).1
    rw [E1.out, E2.out] at co3
    have K3 := hid k3
    have CO3 := hid co3
    have HB3 := hid (HB8.out.trans hb3)
    clear k3 co3 hb3
    go_wp2_with fail
    refine (wLook_any c K3.out CO3.out).mono ?_
    rintro e w4 ⟨rfl, ⟨h4, k4, hb4⟩⟩
    have K4 := hid k4
    have HB4 := hid (HB3.out.trans hb4)
    clear k4 hb4
    go_wp2
    go_ret
    refine ⟨rfl, ⟨P', h4, ?_⟩, HB4.out⟩
    unfold stepD
    rw [E1.out, E2.out]
    exact K4.out
  · have E1 : Hid (R.entry s n = R.pickS s n) := by unfold R.entry; rw [if_neg hn]; exact hid rfl
    have E2 : Hid (movedD d s n = pickD (freshD d) s n) := by unfold movedD; rw [if_neg hn]; exact hid rfl
    have hn' : (n == -1) = false := by simpa using hn
    go_wp2_with fail
    refine (wPicks_any c Q8.out WDH.out.fresh hnx n).mono ?_
    rintro e w2 ⟨rfl, ⟨P', k3⟩, hb3⟩
    have co3 := (WDH.out.moved HINV.out n).1
    rw [E1.out, E2.out] at co3
    have K3 := hid k3
    have CO3 := hid co3
    have HB3 := hid (HB8.out.trans hb3)
    clear k3 co3 hb3
    go_wp2_with fail
    refine (wLook_any c K3.out CO3.out).mono ?_
    rintro e w4 ⟨rfl, ⟨h4, k4, hb4⟩⟩
    have K4 := hid k4
    have HB4 := hid (HB3.out.trans hb4)
    clear k4 hb4
    go_wp2
    go_ret
    refine ⟨rfl, ⟨P', h4, ?_⟩, HB4.out⟩
    unfold stepD
    rw [E1.out, E2.out]
    exact K4.out
end
end Go.Proofs.Ytbkfildnijjioab

/-
  What a Pick makes of every thread's wait (P7, P10, P12, P14, P15).
-/
namespace Go.Proofs.Ytbkfildnijjioab
namespace R
/-- A thread waits, or does not, as it did. -/
structure Stay (x y : RT) : Prop where
  for_ : y.for_ = x.for_
  of_ : y.of_ = x.of_
  until_ : y.until_ = x.until_
  last : y.last = x.last
  since : y.since = x.since
/-- Its wait has ended, with code c. -/
structure Woken (c : Int) (x y : RT) : Prop where
  was : x.for_ ≠ 0
  for_ : y.for_ = 0
  of_ : y.of_ = 0
  until_ : y.until_ = 0
  last : y.last = c
  awake : y.awake = true
theorem Stay.refl (x : RT) : Stay x x := ⟨rfl, rfl, rfl, rfl, rfl⟩
theorem Stay.trans {x y z : RT} (h : Stay x y) (k : Stay y z) : Stay x z := ⟨k.for_.trans h.for_, k.of_.trans h.of_, k.until_.trans h.until_, k.last.trans h.last, k.since.trans h.since⟩
theorem Woken.stay {c : Int} {x y z : RT} (h : Woken c x y) (k : Stay y z) (ha : y.awake = true → z.awake = true) : Woken c x z := ⟨h.was, k.for_.trans h.for_, k.of_.trans h.of_, k.until_.trans h.until_, k.last.trans h.last, ha h.awake⟩
theorem Stay.woken {c : Int} {x y z : RT} (h : Stay x y) (k : Woken c y z) : Woken c x z := ⟨by rw [← h.for_]; exact k.was, k.for_, k.of_, k.until_, k.last, k.awake⟩
/-- But for those of X every thread waits on, or was given what F tells. -/
structure Moved (F : Int → Int → Prop) (X : Nat → Prop) (s s' : RS) : Prop where
  len : s'.T.length = s.T.length
  th : ∀ u, ¬ X u → (Stay (R.th s.T u) (R.th s'.T u) ∧ (R.th s'.T u).awake = (R.th s.T u).awake) ∨ (F (R.th s.T u).for_ (R.th s.T u).of_ ∧ Woken 0 (R.th s.T u) (R.th s'.T u))
section
variable {F : Int → Int → Prop} {X : Nat → Prop} {s s' s'' : RS} {t : Nat}
theorem Moved.refl (F : Int → Int → Prop) (X : Nat → Prop) (s : RS) : Moved F X s s := ⟨rfl, fun _ _ => .inl ⟨Stay.refl _, rfl⟩⟩
theorem Moved.trans (h : Moved F X s s') (k : Moved F X s' s'') : Moved F X s s'' := by
  refine ⟨k.len.trans h.len, fun u hu => ?_⟩
  rcases h.th u hu with ⟨h1, ha⟩ | ⟨h1, h2⟩
  · rcases k.th u hu with ⟨k1, ka⟩ | ⟨k1, k2⟩
    · exact .inl ⟨h1.trans k1, ka.trans ha⟩
    · rw [h1.for_, h1.of_] at k1
      exact .inr ⟨k1, h1.woken k2⟩
  · rcases k.th u hu with ⟨k1, ka⟩ | ⟨_, k2⟩
    · exact .inr ⟨h1, h2.stay k1 (fun e => ka.trans e)⟩
    · exact absurd h2.for_ k2.was
theorem Moved.mono {F' : Int → Int → Prop} {X' : Nat → Prop} (h : Moved F X s s') (hf : ∀ a b, F a b → F' a b) (hx : ∀ u, X u → X' u) : Moved F' X' s s' :=
  ⟨h.len, fun u hu => (h.th u (fun e => hu (hx u e))).imp id (fun e => ⟨hf _ _ e.1, e.2⟩)⟩
/-- Nobody's wait is touched. -/
theorem moved_quiet (t : Nat) {f : RT → RT} (h : s'.T = s.T.modify t f) (hf : ∀ x, Stay x (f x) ∧ (f x).awake = x.awake) : Moved F X s s' := by
  refine ⟨by rw [h]; simp, fun u _ => .inl ?_⟩
  rw [h, Ln.th_modify]
  split
  · exact hf _
  · exact ⟨Stay.refl _, rfl⟩
theorem moved_same (h : s'.T = s.T) : Moved F X s s' := ⟨by rw [h], fun u _ => by rw [h]; exact .inl ⟨Stay.refl _, rfl⟩⟩
/-- One of X is touched. -/
theorem moved_at (t : Nat) (hx : X t) {f : RT → RT} (h : s'.T = s.T.modify t f) : Moved F X s s' := by
  refine ⟨by rw [h]; simp, fun u hu => .inl ?_⟩
  rw [h, Ln.th_modify]
  rw [if_neg (fun e => hu (by rw [e.1]; exact hx))]
  exact ⟨Stay.refl _, rfl⟩
theorem giveT_spec (s : RS) (what of_ : Int) (h : 0 ≤ giveT s what of_) : (giveT s what of_).toNat < s.T.length ∧ (R.th s.T (giveT s what of_).toNat).for_ = what ∧ (R.th s.T (giveT s what of_).toNat).of_ = of_ := by
  have hb := firstTo_bd s what of_ [] s.T.length
  have hf : ∀ k, 0 ≤ firstTo s what of_ [] k → (R.th s.T (firstTo s what of_ [] k).toNat).for_ = what ∧ (R.th s.T (firstTo s what of_ [] k).toNat).of_ = of_ := by
    intro k
    induction k with
    | zero => intro h; simp [firstTo] at h
    | succ k ih =>
      intro h
      unfold firstTo at h ⊢
      by_cases h1 : (R.th s.T k).for_ ≠ what ∨ (R.th s.T k).of_ ≠ of_
      · rw [if_pos h1] at h ⊢
        exact ih h
      · have h2 : (R.th s.T k).for_ = what ∧ (R.th s.T k).of_ = of_ := by
          refine ⟨?_, ?_⟩
          · exact Classical.not_not.1 fun e => h1 (.inl e)
          · exact Classical.not_not.1 fun e => h1 (.inr e)
        rw [if_neg h1] at h ⊢
        have h3 : namedTo ([] : List Int) (k : Int) ([] : List Int).length = false := rfl
        rw [if_neg (by rw [h3]; decide)] at h ⊢
        by_cases h4 : firstTo s what of_ [] k < 0
        · rw [if_pos h4] at h ⊢
          exact h2
        · rw [if_neg h4] at h ⊢
          split
          · exact h2
          · exact ih (by omega)
  unfold giveT first at *
  exact ⟨by omega, hf _ h⟩
theorem giveT_none (s : RS) (what of_ : Int) (h : giveT s what of_ < 0) (u : Nat) (hu : u < s.T.length) : ¬ ((R.th s.T u).for_ = what ∧ (R.th s.T u).of_ = of_) := by
  have hf : ∀ k, firstTo s what of_ [] k < 0 → ∀ u, u < k → ¬ ((R.th s.T u).for_ = what ∧ (R.th s.T u).of_ = of_) := by
    intro k
    induction k with
    | zero => intro _ u hu; omega
    | succ k ih =>
      intro h u hu e
      unfold firstTo at h
      by_cases h1 : (R.th s.T k).for_ ≠ what ∨ (R.th s.T k).of_ ≠ of_
      · rw [if_pos h1] at h
        rcases Nat.lt_or_ge u k with h5 | h5
        · exact ih h u h5 e
        · have e5 : u = k := by omega
          subst e5
          rcases h1 with h1 | h1
          · exact h1 e.1
          · exact h1 e.2
      · rw [if_neg h1] at h
        have h3 : namedTo ([] : List Int) (k : Int) ([] : List Int).length = false := rfl
        rw [if_neg (by rw [h3]; decide)] at h
        split at h
        · omega
        · split at h <;> omega
  exact hf _ h u hu
theorem moved_endW (u : Nat) (hu : u < s.T.length) (hF : F (R.th s.T u).for_ (R.th s.T u).of_) (h0 : (R.th s.T u).for_ ≠ 0) : Moved F X s (endW s u 0) := by
  refine ⟨Ln.endW_length _ _, fun v _ => ?_⟩
  rw [Ln.endW_th _ hu]
  by_cases e : v = u
  · rw [if_pos e, e]
    exact .inr ⟨hF, h0, rfl, rfl, rfl, rfl, rfl⟩
  · rw [if_neg e]
    exact .inl ⟨Stay.refl _, rfl⟩
theorem moved_giveS (what of_ : Int) (hw : what ≠ 0) (hF : F what of_) : Moved F X s (giveS s what of_) := by
  unfold giveS
  split
  · rename_i h
    obtain ⟨h1, h2, h3⟩ := giveT_spec s what of_ h
    exact moved_endW _ h1 (by rw [h2, h3]; exact hF) (by rw [h2]; exact hw)
  · exact Moved.refl F X s
theorem moved_unlockS (t m : Nat) (hF : F 1 (m : Int)) : Moved F X s (unlockS s t m) := by
  unfold unlockS
  split
  · have h1 : Moved F X s (giveS s 1 (m : Int)) := moved_giveS 1 (m : Int) (by decide) hF
    exact ⟨h1.len, h1.th⟩
  · exact Moved.refl F X s
theorem moved_unlocksTo (t k : Nat) (hF : ∀ m : Nat, F 1 (m : Int)) : Moved F X s (unlocksTo s t k) := by
  induction k with
  | zero => exact Moved.refl F X s
  | succ k ih => unfold unlocksTo; exact ih.trans (moved_unlockS t k (hF k))
theorem moved_stop (t : Nat) (hx : X t) (hF : ∀ m : Nat, F 1 (m : Int)) : Moved F X s (stop s t) := by
  have h1 : Moved F X s (stop0 s t) := moved_at t hx rfl
  have h2 : Moved F X (stop0 s t) (unlocksTo (stop0 s t) t s.owner.length) := moved_unlocksTo t _ hF
  have h3 : Moved F X (unlocksTo (stop0 s t) t s.owner.length) (asleep (unlocksTo (stop0 s t) t s.owner.length) t) := moved_at t hx rfl
  unfold stop
  split
  · exact ((h1.trans h2).trans h3).trans (moved_at t hx rfl)
  · exact (h1.trans h2).trans h3
theorem moved_gets (u : Nat) (v : Int) : Moved F X s (gets s u v) := moved_quiet u rfl (fun _ => ⟨⟨rfl, rfl, rfl, rfl, rfl⟩, rfl⟩)
theorem moved_beginW (t : Nat) (hx : X t) (what of_ n : Int) : Moved F X s (beginW s t what of_ n) := moved_at t hx rfl
/-- Might an instruction give something of that kind to one who waits for it? -/
def freesP (i : InstrD) (a b : Int) : Prop := (i.op = 0 ∧ a = 1) ∨ (i.op = 7 ∧ a = 1 ∧ b = i.a) ∨ (i.op = 9 ∧ a = 2 ∧ b = i.a) ∨ (i.op = 10 ∧ a = 3 ∧ b = i.a)
theorem moved_doesS (t : Nat) (i : InstrD) (hX : doesC s t i = 1 → X t) (hi : i.op = 7 ∨ i.op = 9 ∨ i.op = 10 → 0 ≤ i.a) : Moved (freesP i) X s (doesS s t i) := by
  unfold doesS
  by_cases h2 : i.op = 2
  · rw [if_pos h2]
    exact moved_quiet t rfl (fun _ => ⟨⟨rfl, rfl, rfl, rfl, rfl⟩, rfl⟩)
  rw [if_neg h2]
  by_cases h4 : i.op = 4
  · rw [if_pos h4]
    exact moved_quiet _ rfl (fun _ => ⟨⟨rfl, rfl, rfl, rfl, rfl⟩, rfl⟩)
  rw [if_neg h4]
  unfold doesC at hX
  by_cases h5 : i.op = 5
  · rw [if_pos h5] at hX ⊢
    exact moved_beginW t (hX rfl) _ _ _
  rw [if_neg h5] at hX ⊢
  by_cases h6 : i.op = 6
  · rw [if_pos h6] at hX ⊢
    unfold lockS
    split
    · exact moved_same rfl
    · split
      · rename_i h
        exact moved_beginW t (hX h) _ _ _
      · exact Moved.refl _ _ _
  rw [if_neg h6] at hX ⊢
  by_cases h7 : i.op = 7
  · rw [if_pos h7]
    exact moved_unlockS t _ (.inr (.inl ⟨h7, rfl, by have := hi (.inl h7); omega⟩))
  rw [if_neg h7] at hX ⊢
  by_cases h8 : i.op = 8
  · rw [if_pos h8] at hX ⊢
    unfold downS
    split
    · exact moved_same rfl
    · split
      · rename_i h
        exact moved_beginW t (hX h) _ _ _
      · exact Moved.refl _ _ _
  rw [if_neg h8] at hX ⊢
  by_cases h9 : i.op = 9
  · rw [if_pos h9]
    unfold upS
    split
    · exact moved_giveS 2 _ (by decide) (.inr (.inr (.inl ⟨h9, rfl, by have := hi (.inr (.inl h9)); omega⟩)))
    · split
      · exact Moved.refl _ _ _
      · exact moved_same rfl
  rw [if_neg h9] at hX ⊢
  by_cases h10 : i.op = 10
  · rw [if_pos h10]
    unfold sendS
    split
    · exact (moved_giveS 3 _ (by decide) (.inr (.inr (.inr ⟨h10, rfl, by have := hi (.inr (.inr h10)); omega⟩)))).trans (moved_gets _ _)
    · split
      · exact Moved.refl _ _ _
      · exact moved_same rfl
  rw [if_neg h10] at hX ⊢
  by_cases h11 : i.op = 11
  · rw [if_pos h11] at hX ⊢
    unfold recvS
    split
    · exact (moved_gets (s := s) t _).trans (moved_same rfl)
    · split
      · rename_i h
        exact moved_beginW t (hX h) _ _ _
      · exact Moved.refl _ _ _
  · rw [if_neg h11]
    exact Moved.refl _ _ _
theorem moved_actS (t : Nat) (hi : (instrAt s t).op = 7 ∨ (instrAt s t).op = 9 ∨ (instrAt s t).op = 10 → 0 ≤ (instrAt s t).a) : Moved (freesP (instrAt s t)) (fun u => u = t) s (actS s t) := by
  by_cases h0 : (instrAt s t).op = 0
  · have e1 : actS s t = stop s t := by unfold actS; rw [if_pos h0]
    rw [e1]
    exact moved_stop t rfl (fun m => .inl ⟨h0, rfl⟩)
  by_cases h3 : (instrAt s t).op = 3
  · unfold actS
    rw [if_neg h0, if_pos h3]
    split
    · exact moved_at t rfl rfl
    · exact moved_at t rfl rfl
  · rw [(actS_is s t h0 h3).1]
    have a := moved_doesS (X := fun u => u = t) (s := s) t (instrAt s t) (fun _ => rfl) hi
    have b : Moved (freesP (instrAt s t)) (fun u => u = t) (doesS s t (instrAt s t)) (toAt (doesS s t (instrAt s t)) t ((R.th s.T t).at_ + 1)) := moved_at t rfl rfl
    exact (a.trans b).trans (moved_at t rfl rfl)
end
/-- What an instruction's thread waits for, if it waits. -/
def askFor (i : InstrD) : Int := if i.op = 5 then 4 else if i.op = 6 then 1 else if i.op = 8 then 2 else if i.op = 11 then 3 else 0
def askOf (i : InstrD) : Int := if i.op = 6 ∨ i.op = 8 ∨ i.op = 11 then i.a else 0
def askN (i : InstrD) : Int := if i.op = 5 then i.a else if i.op = 6 ∨ i.op = 8 ∨ i.op = 11 then i.b else 0
/-- A thread that has begun to wait. -/
structure Waits (s : RS) (i : InstrD) (y : RT) : Prop where
  f0 : askFor i ≠ 0
  n0 : askN i ≠ 0
  for_ : y.for_ = askFor i
  of_ : y.of_ = askOf i
  until_ : y.until_ = if 0 ≤ askN i then s.now + askN i else -1
  last : y.last = 1
  awake : y.awake = false
  since : y.since = s.next + 1
/-- A thread that waits for nothing. -/
structure Goes (c : Int) (y : RT) : Prop where
  for_ : y.for_ = 0
  of_ : y.of_ = 0
  until_ : y.until_ = 0
  last : y.last = c
section
variable {s : RS} {t : Nat}
theorem th_at (t : Nat) (ht : t < s.T.length) (f : RT → RT) : R.th (s.T.modify t f) t = f (R.th s.T t) := by rw [Ln.th_modify, if_pos ⟨rfl, ht⟩]
theorem beginW_self (ht : t < s.T.length) (what of_ n : Int) : R.th (beginW s t what of_ n).T t = { R.th s.T t with awake := false, wkr := -1, for_ := what, of_ := of_, until_ := if 0 ≤ n then s.now + n else -1, since := s.next + 1 } := th_at t ht _
theorem doesS_waits (i : InstrD) (hc : doesC s t i = 1) (hi : i.op = 6 ∨ i.op = 8 ∨ i.op = 11 → 0 ≤ i.a) (h1 : i.op = 5 → 1 ≤ i.a) :
    askFor i ≠ 0 ∧ askN i ≠ 0 ∧ doesS s t i = beginW s t (askFor i) (askOf i) (askN i) := by
  unfold doesC at hc
  unfold askFor askOf askN doesS
  by_cases h5 : i.op = 5
  · have := h1 h5
    simp [h5]
    omega
  rw [if_neg h5] at hc
  by_cases h6 : i.op = 6
  · have ha := hi (.inl h6)
    rw [if_pos h6] at hc
    have hb : i.b ≠ 0 := by
      intro hb
      unfold lockC at hc
      rw [hb] at hc
      repeat (split at hc <;> first | omega | skip)
    have ea : ((i.a.toNat : Nat) : Int) = i.a := by omega
    simp [h6, hb]
    unfold lockS
    rw [if_neg (by omega), if_pos hc, ea]
  rw [if_neg h6] at hc
  by_cases h7 : i.op = 7
  · rw [if_pos h7] at hc
    unfold unlockC at hc
    split at hc <;> omega
  rw [if_neg h7] at hc
  by_cases h8 : i.op = 8
  · have ha := hi (.inr (.inl h8))
    rw [if_pos h8] at hc
    have hb : i.b ≠ 0 := by
      intro hb
      unfold downC at hc
      rw [hb] at hc
      repeat (split at hc <;> first | omega | skip)
    have ea : ((i.a.toNat : Nat) : Int) = i.a := by omega
    simp [h8, hb]
    unfold downS
    rw [if_neg (by omega), if_pos hc, ea]
  rw [if_neg h8] at hc
  by_cases h9 : i.op = 9
  · rw [if_pos h9] at hc
    unfold upC at hc
    repeat (split at hc <;> first | omega | skip)
  rw [if_neg h9] at hc
  by_cases h10 : i.op = 10
  · rw [if_pos h10] at hc
    unfold sendC at hc
    repeat (split at hc <;> first | omega | skip)
  rw [if_neg h10] at hc
  by_cases h11 : i.op = 11
  · have ha := hi (.inr (.inr h11))
    rw [if_pos h11] at hc
    have hb : i.b ≠ 0 := by
      intro hb
      unfold recvC at hc
      rw [hb] at hc
      repeat (split at hc <;> first | omega | skip)
    have ea : ((i.a.toNat : Nat) : Int) = i.a := by omega
    simp [h11, hb]
    unfold recvS
    rw [if_neg (by omega), if_pos hc, ea]
  rw [if_neg h11] at hc
  omega
theorem actC_lt (s : RS) (t : Nat) (h : (instrAt s t).op = 0 ∨ (instrAt s t).op = 3) : actC s t = 0 := by unfold actC; rw [if_pos h]
theorem stay_goes {c : Int} {x y : RT} (h : Stay x y) (hf : x.for_ = 0) (ho : x.of_ = 0) (hu : x.until_ = 0) (hl : x.last = c) : Goes c y := ⟨h.for_.trans hf, h.of_.trans ho, h.until_.trans hu, h.last.trans hl⟩
/-- The thread whose instruction it is. -/
theorem actS_self (ht : t < s.T.length) (hf : (R.th s.T t).for_ = 0) (ho : (R.th s.T t).of_ = 0) (hu : (R.th s.T t).until_ = 0) (hi : 5 ≤ (instrAt s t).op → (instrAt s t).op ≤ 11 → 0 ≤ (instrAt s t).a) (h5 : (instrAt s t).op = 5 → 1 ≤ (instrAt s t).a) :
    (actC s t = 1 → Waits s (instrAt s t) (R.th (actS s t).T t)) ∧ (actC s t ≠ 1 → Goes (if (instrAt s t).op = 3 then (R.th s.T t).last else actC s t) (R.th (actS s t).T t)) := by
  by_cases h0 : (instrAt s t).op = 0
  · have ec := actC_lt s t (.inl h0)
    have e1 : actS s t = stop s t := by unfold actS; rw [if_pos h0]
    rw [ec, e1, if_neg (by omega)]
    refine ⟨fun h => by omega, fun _ => ?_⟩
    have g0 : Goes 0 (R.th (stop0 s t).T t) := by
      have : R.th (stop0 s t).T t = { R.th s.T t with ended := (R.th s.T t).ended + 1, at_ := 0, last := 0 } := th_at t ht _
      rw [this]
      exact ⟨hf, ho, hu, rfl⟩
    have m := moved_unlocksTo (F := fun a _ => a = 1) (X := fun _ => False) (s := stop0 s t) t s.owner.length (fun _ => rfl)
    have g1 : Goes 0 (R.th (unlocksTo (stop0 s t) t s.owner.length).T t) := by
      rcases m.th t id with ⟨h, _⟩ | ⟨_, h⟩
      · exact stay_goes h g0.for_ g0.of_ g0.until_ g0.last
      · exact absurd g0.for_ h.was
    have hl : t < (unlocksTo (stop0 s t) t s.owner.length).T.length := by rw [m.len]; simpa [stop0] using ht
    have g2 : Goes 0 (R.th (asleep (unlocksTo (stop0 s t) t s.owner.length) t).T t) := by
      have : R.th (asleep (unlocksTo (stop0 s t) t s.owner.length) t).T t = { R.th (unlocksTo (stop0 s t) t s.owner.length).T t with awake := false } := th_at t hl _
      rw [this]
      exact ⟨g1.for_, g1.of_, g1.until_, g1.last⟩
    unfold stop
    split
    · have hl2 : t < (asleep (unlocksTo (stop0 s t) t s.owner.length) t).T.length := by simpa [asleep] using hl
      have : R.th (wake (asleep (unlocksTo (stop0 s t) t s.owner.length) t) t).T t = { R.th (asleep (unlocksTo (stop0 s t) t s.owner.length) t).T t with awake := true, tick := (asleep (unlocksTo (stop0 s t) t s.owner.length) t).next + 1 } := th_at t hl2 _
      rw [this]
      exact ⟨g2.for_, g2.of_, g2.until_, g2.last⟩
    · exact g2
  by_cases h3 : (instrAt s t).op = 3
  · have ec := actC_lt s t (.inr h3)
    rw [ec, if_pos h3]
    refine ⟨fun h => by omega, fun _ => ?_⟩
    unfold actS
    rw [if_neg h0, if_pos h3]
    split
    · have : R.th (toAt s t (instrAt s t).b).T t = { R.th s.T t with at_ := (instrAt s t).b } := th_at t ht _
      rw [this]
      exact ⟨hf, ho, hu, rfl⟩
    · have : R.th (toAt s t ((R.th s.T t).at_ + 1)).T t = { R.th s.T t with at_ := (R.th s.T t).at_ + 1 } := th_at t ht _
      rw [this]
      exact ⟨hf, ho, hu, rfl⟩
  rw [if_neg h3, (actS_is s t h0 h3).1, (actS_is s t h0 h3).2]
  have wrap : ∀ v : RS, v.T.length = s.T.length → ∀ a c : Int, R.th (toLast (toAt v t a) t c).T t = { R.th v.T t with at_ := a, last := c } := by
    intro v hv a c
    have e1 : R.th (toAt v t a).T t = { R.th v.T t with at_ := a } := th_at t (by omega) _
    have e2 : R.th (toLast (toAt v t a) t c).T t = { R.th (toAt v t a).T t with last := c } := th_at t (by simp [toAt]; omega) _
    rw [e2, e1]
  refine ⟨fun hc => ?_, fun hc => ?_⟩
  · obtain ⟨a1, a2, a3⟩ := doesS_waits (instrAt s t) hc (fun h => hi (by omega) (by omega)) h5
    rw [a3, wrap _ (by simp [beginW]), beginW_self ht, hc]
    exact ⟨a1, a2, rfl, rfl, rfl, rfl, rfl, rfl⟩
  · have m := moved_doesS (X := fun _ => False) (s := s) t (instrAt s t) (fun h => absurd h hc) (fun h => hi (by omega) (by omega))
    rw [wrap _ m.len]
    rcases m.th t id with ⟨h, _⟩ | ⟨_, h⟩
    · exact ⟨h.for_.trans hf, h.of_.trans ho, h.until_.trans hu, rfl⟩
    · exact absurd hf h.was
end
end R
end Go.Proofs.Ytbkfildnijjioab
