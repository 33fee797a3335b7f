import Derived.Test.YtbkfildnijjioabA08
import Derived.Test.YtbkfildnijjioabA02
import Derived.Deep.DeepCutAuto
import Derived.Deep.QuietTactic
import Derived.BigQuiet
import Derived.Deep.RegionLaw
import Derived.Deep.RegionHeld3
/-
  Walks over package donateref: Running, Look.
-/
namespace Go.Proofs.Ytbkfildnijjioab
open Go.RowKit
namespace R
def stateOf (x : RT) : Int := if x.for_ ≠ 0 then 3 else if 0 ≤ x.wkr then 2 else if x.awake = true then 1 else 0
end R
def viewV (x : RT) (lv : Int) : Value :=
  .agg #[.int .i64 (R.stateOf x), .int .i64 x.base, .int .i64 lv, .int .i64 x.at_, .int .i64 x.last, .int .i64 x.got, .int .i64 x.rel, .int .i64 x.ended, .int .i64 x.for_, .int .i64 x.of_, .int .i64 x.until_]
def noView : Value := .agg #[.int .i64 0, .int .i64 0, .int .i64 0, .int .i64 0, .int .i64 0, .int .i64 0, .int .i64 0, .int .i64 0, .int .i64 0, .int .i64 0, .int .i64 0]
theorem running_succ (T : List RT) (k : Nat) : (List.range (k + 1)).map (fun (x : Nat) => R.on T (x : Int)) = (List.range k).map (fun (x : Nat) => R.on T (x : Int)) ++ [R.on T (k : Int)] := by simp [List.range_succ]
end Go.Proofs.Ytbkfildnijjioab

/-
  Walks: donateref.Copy: the same set in lists of its own.
-/
namespace Go.Proofs.Ytbkfildnijjioab
open Go.RowKit
/-- What of a set's sizes Go's memory bears. -/
structure Fits (S : SetD) : Prop where
  threads : S.threads.length * 56 ≤ 140737488351232
  mutexes : S.mutexes.length * 16 ≤ 140737488351232
  sems : S.sems.length * 16 ≤ 140737488351232
  queues : S.queues.length * 8 ≤ 140737488351232
  codes : ∀ j (h : j < S.threads.length), S.threads[j].code.length * 24 ≤ 140737488351232
end Go.Proofs.Ytbkfildnijjioab

/-
  Walks over package donateref: settle.
-/
namespace Go.Proofs.Ytbkfildnijjioab
open Go.RowKit
theorem intCells_get (l : List Int) (i : Nat) (h : i < l.length) : (intCells l)[i]? = some (.int .i64 (l.getD i 0)) := by simp [intCells, List.getD, List.getElem?_eq_getElem h]
section
variable {F : Nat → Prop} {w wr : World} {sb : Nat} {s : RS} {lg ag : Nat} {al : List Int} {T : List RT}
end
end Go.Proofs.Ytbkfildnijjioab

/-
  Walks over package donateref: New.
-/
namespace Go.Proofs.Ytbkfildnijjioab
open Go.RowKit
/-- 'append' onto a list of the call's own, as one step of a region that draws its order. -/
theorem step_append_own {P : Program} {ops : Array Oper} {o : Oper} {a : Act} {w : World} {K : Act → World → Prop} {Q : Exit → Act → World → Prop} {E : Prop}
    (hg : o.guard = none) (s x : Operand) (t : TypeId) (hop : o.op = Op.call { callee := Callee.builtin Builtin.append, args := #[s, x], argTypes := #[t, t] })
    (base : Nat) (e : TypeId) (i : TypeInfo) (z : Value) (size bytes : Nat) (ht : P.underlying t = some (.slice e)) (hi : P.info? e = some i) (hz : i.zero = some z)
    (hsize : i.size = size) (hby : i.bytes = bytes) (hzs : z.cells.size = size) (hsz : 0 < size)
    (v : Value) (n : Nat) (xs : List Value) (hs : a.eval s = v) (hown : w.ownsRow base e size v n xs)
    (ad : Addr) (m c : Nat) (news : List Value) (hx : a.eval x = .slice (some ad) m c) (hl : news.length = m * size) (hnews : ∀ j u, news[j]? = some u → w.cell? (ad.add j) = some u) (h1 : ∀ u ∈ news, u.oneCell' = true)
    (h63 : n + m ≤ maxLen) (hbytes : (n + m) * bytes ≤ 140737488355328) (hbase : base ≤ w.heap.size)
    (hK : ∀ v' w', w'.ownsRow base e size v' (n + m) (xs ++ news) → w.grownBy w' v.ownBlock → K (a.put o.dst v') w') :
    if Region.wanted o (yielded ops a.tmps) = true then Oper.wp P o a w K Q else E := by
  have hw : Region.wanted o (yielded ops a.tmps) = true := by simp [Region.wanted, hg]
  rw [if_pos hw]
  exact wp_append_own w s x t hop base e i z size bytes ht hi hz hsize hby hzs hsz v n xs hs hown ad m c news hx hl hnews h1 h63 hbytes hbase (fun v' w' h2 h3 _ => hK v' w' h2 h3)
theorem Try.infoInts : (Try.prog.info? 25).map (fun i => (i.zero, i.size, i.bytes)) = some (some (.slice none 0 0), 1, 24) := by kernel_rfl
def nsCells (S : SetD) (a b c d : Value) (vT vO vC vB : Value) : Array Value :=
  #[.int .i64 S.workers, .int .i64 S.start, a, b, c, d, .int .i64 S.start, .int .i64 0, vT, vO, vC, vB, .slice none 0 0]
section
variable {N sb : Nat} {S : SetD} {x : Array Value} {a b c d : Value} {wL wr w' : World} {vT vO vC vB : Value}
end
theorem rtCells_one (x : RT) : ∀ u ∈ rtCells x, u.oneCell' = true := by
  intro u hu
  simp [rtCells] at hu
  rcases hu with rfl | rfl | rfl | rfl | rfl | rfl | rfl | rfl | rfl | rfl | rfl | rfl | rfl <;> rfl
/-- The threads as New makes them. -/
def bareT (t : ThreadD) : RT := { R.rt0 with base := t.base, wkr := -1 }
theorem bare_T (S : SetD) : (R.bare S).T = S.threads.map bareT := rfl
theorem rtAll_append (a b : List RT) : rtAll (a ++ b) = rtAll a ++ rtAll b := by simp [rtAll]
theorem take_map_succ {α β : Type} (f : α → β) (l : List α) (k : Nat) (h : k < l.length) : (l.map f).take (k + 1) = (l.map f).take k ++ [f l[k]] := by
  rw [List.take_succ_eq_append_getElem (by simpa using h)]
  simp
theorem ok_parts {S : SetD} (h : P3.err S = 0) : P3.sizesB S = true ∧ P3.badOr P3.mutexP S.mutexes = -1 ∧ P3.badOr P3.semP S.sems = -1 ∧ P3.badOr P3.queueB S.queues = -1 ∧ P3.badOr P3.threadP S.threads = -1 ∧ P3.badCode S = -1 := by
  unfold P3.err at h
  cases hz : P3.sizesB S <;> simp_all
  by_cases a : P3.badOr P3.mutexP S.mutexes = -1 <;> by_cases b : P3.badOr P3.semP S.sems = -1 <;> by_cases c : P3.badOr P3.queueB S.queues = -1 <;> by_cases d : P3.badOr P3.threadP S.threads = -1 <;> by_cases e : P3.badCode S = -1 <;> simp_all
theorem badOr_good {α : Type} {p : α → Bool} {l : List α} (h : P3.badOr p l = -1) : ∀ x ∈ l, p x = true := by
  intro x hx
  obtain ⟨j, hj, rfl⟩ := List.mem_iff_getElem.1 hx
  unfold P3.badOr at h
  split at h
  · omega
  · rename_i hn
    have hle := P3.bad_le p l
    have := List.not_of_lt_findIdx (p := fun x => !p x) (xs := l) (i := j) (show j < P3.bad p l by omega)
    simpa using this
theorem good_bare {S : SetD} (h : P3.err S = 0) : RGood (R.bare S) := by
  obtain ⟨hz, _, _, _, ht, _⟩ := ok_parts h
  unfold P3.sizesB at hz
  rw [decide_eq_true_iff] at hz
  refine ⟨by simp [R.bare], by simp [R.bare]; omega, by simp [R.bare]; omega, hz.1, hz.2.1, by simp [R.bare], by show S.mutexes.length ≤ 8; omega, hz.2.2.1, Int.le_refl _, hz.2.2.2.1, Int.le_refl _, by show (0 : Int) ≤ _; decide, fun t hm => ?_⟩
  have := badOr_good ht t hm
  unfold P3.threadP P3.threadB P3.latest at this
  rw [decide_eq_true_iff] at this
  split at this <;> omega
theorem releaseTo_owner (s : RS) (k : Nat) : (R.releaseTo s k).owner = s.owner := by
  induction k with
  | zero => rfl
  | succ k ih =>
    unfold R.releaseTo R.releaseOne R.wake
    split
    · split <;> exact ih
    · exact ih
theorem good_release {s : RS} (g : RGood s) (h : s.next ≤ 4611686018427387000) : RGood (R.release s) := by
  have hl := R.releaseTo_len s s.T.length
  have hs := R.releaseTo_set s s.T.length
  have hn := R.releaseTo_now s s.T.length
  have hx := R.releaseTo_next s s.T.length
  have ho := releaseTo_owner s s.T.length
  have h0 := g.few
  have h1 := g.nxt0
  unfold R.release
  exact ⟨by rw [hl, hs]; exact g.len, by rw [hl]; exact g.pos, by rw [hl]; exact g.few, by rw [hs]; exact g.wk0, by rw [hs]; exact g.wk1, by rw [ho, hs]; exact g.own, by rw [hs]; exact g.mfew, by rw [hs]; exact g.now0, by rw [hs, hn]; exact g.now1,
    by rw [hn]; exact g.now2, by omega, by omega, by rw [hs]; exact g.off⟩
end Go.Proofs.Ytbkfildnijjioab

/-
  Walks over package donateref: late.
-/
namespace Go.Proofs.Ytbkfildnijjioab
open Go.RowKit
theorem Try.infoMiss : (Try.prog.info? 82).map (fun i => (i.zero, i.size, i.bytes)) = some (some (.agg #[.int .i64 0, .int .i64 0, .int .i64 0]), 3, 24) := by kernel_rfl
theorem missCells_append (l : List MissD) (m : MissD) : missCells (l ++ [m]) = missCells l ++ [.int .i64 m.thread, .int .i64 m.job, .int .i64 m.time] := by simp [missCells]
end Go.Proofs.Ytbkfildnijjioab

/-
  Walks over package donateref: Tick.
-/
namespace Go.Proofs.Ytbkfildnijjioab
open Go.RowKit
theorem good_missing {s : RS} (g : RGood s) (h : s.now < 1000000000) : RGood (R.missing s) :=
  ⟨g.len, g.pos, g.few, g.wk0, g.wk1, g.own, g.mfew, g.now0, by show s.set.start ≤ s.now + 1; have := g.now1; omega, by show s.now + 1 ≤ _; omega, g.nxt0, g.nxt1, g.off⟩
theorem good_ticked {s : RS} (g : RGood s) (h : s.now < 1000000000) : RGood (R.ticked s) :=
  ⟨g.len, g.pos, g.few, g.wk0, g.wk1, g.own, g.mfew, g.now0, by show s.set.start ≤ s.now + 1; have := g.now1; omega, by show s.now + 1 ≤ _; omega, g.nxt0, g.nxt1, g.off⟩
theorem good_endsTo {s : RS} (g : RGood s) (h : s.next ≤ 4611686018427387000) (k : Nat) (hk : k ≤ 16) : RGood (R.endsTo s k) := by
  obtain ⟨a, b, c, d, e, f⟩ := R.endsTo_set s k
  have := g.nxt0
  exact ⟨by rw [a, d]; exact g.len, by rw [d]; exact g.pos, by rw [d]; exact g.few, by rw [a]; exact g.wk0, by rw [a]; exact g.wk1, by rw [a, c]; exact g.own, by rw [a]; exact g.mfew, by rw [a]; exact g.now0, by rw [a, b]; exact g.now1, by rw [b]; exact g.now2, by omega, by omega, by rw [a]; exact g.off⟩
theorem missCells_length (l : List MissD) : (missCells l).length = l.length * 3 := by
  induction l with
  | nil => rfl
  | cons x l ih => simp only [missCells, List.flatMap_cons, List.length_append, List.length_cons] at ih ⊢; rw [ih]; simp; omega
theorem missCells_two (l m : List MissD) : missCells (l ++ m) = missCells l ++ missCells m := by simp [missCells]
theorem missCells_one (l : List MissD) : ∀ u ∈ missCells l, u.oneCell' = true := by
  intro u hu
  simp only [missCells, List.mem_flatMap] at hu
  obtain ⟨x, _, hx⟩ := hu
  simp at hx
  rcases hx with rfl | rfl | rfl <;> rfl
end Go.Proofs.Ytbkfildnijjioab

/-
  Walks over package donate: what can be seen.
-/
namespace Go.Proofs.Ytbkfildnijjioab
open Go.RowKit

theorem RowKit.rowSrc {w : World} {g cap : Nat} {l : List Int} (hrow : w.ownsRow 0 3 1 (.slice (some ⟨g, 0, none⟩) l.length cap) l.length (intCells l)) : ∀ j u, (intCells l)[j]? = some u → ∃ ad, (some (⟨g, 0, none⟩ : Addr)) = some ad ∧ w.cell? (ad.add j) = some u := by
  intro j u hj
  refine ⟨_, rfl, ?_⟩
  have hjl : j < (intCells l).length := by
    rcases Nat.lt_or_ge j (intCells l).length with h' | h'
    · exact h'
    · rw [List.getElem?_eq_none h'] at hj; cases hj
  rw [intCells_length] at hjl
  rw [Addr.add_lit, Nat.zero_add, hrow.cellAt j (by omega)]
  exact hj

section
variable {F : Nat → Prop} {w : World} {kb : Nat} {h : KH} {s : RS} {tk wt : List Nat} {ws : List Int}

set_option maxHeartbeats 400000 in
theorem kNow_any (m : KMem F w kb h s tk wt ws) :
    Calls Try.prog 57 #[.pointer (some ⟨kb, 0, none⟩)] w fun e w' => e = .returned (.int .i64 s.now) ∧ Below w.heap.size w w' := by
  have c0 := m.blk.cell 0
  simp [kCells] at c0
  clear m
  go_enter Try.func57, Try.ntmps57
  go_wp2
  go_ret
  exact ⟨rfl, Below.refl _ _⟩

/-- A list that is read: its cells stand somewhere, or it is empty. -/
def ListAt (w : World) (ao : Option Addr) (l : List Int) : Prop := ∀ j u, (intCells l)[j]? = some u → ∃ b o, ao = some ⟨b, o, none⟩ ∧ b < w.heap.size ∧ w.cell? ⟨b, o + j, none⟩ = some u

set_option maxRecDepth 100000 in
set_option maxHeartbeats 1000000 in
theorem kCopyOf_any (w : World) (ao : Option Addr) (ca : Nat) (l : List Int) (hl : ListAt w ao l) (hn : ao = none → ca = 0) (hll : l.length ≤ 1000) :
    Calls Try.prog 67 #[.slice ao l.length ca] w fun e w' => ∃ v, e = .returned v ∧ w'.ownsRow w.heap.size 3 1 v l.length (intCells l) ∧ Below w.heap.size w w' := by
  have HL := hid hl
  have HN := hid hn
  clear hl hn
  obtain ⟨i3, hi3, hz30, hz31, hz32⟩ := info_parts Try.infoInt
  have HI3 := hid (And.intro hi3 (And.intro hz30 (And.intro hz31 hz32)))
  clear hi3 hz30 hz31 hz32
  go_enter Try.func67, Try.ntmps67
  go_upto_region 2 with (at_make; refine wpList_make_full _ rfl _ _ 25 rfl w.heap.size 3 i3 (.int .i64 0) 1 Try.underlying25 HI3.out.1 HI3.out.2.1 HI3.out.2.2.1 .i64 .i64 _ _ l.length rfl rfl rfl rfl (by rw [HI3.out.2.2.2]; omega) (by unfold maxLen; omega) (Nat.le_refl _) ?_; intro w2 hown2 hg2; have O2 := hid hown2; have G2 := hid hg2; clear hown2 hg2)
  have hb2 : Below w.heap.size w w2 := (Below.refl _ _).grown G2.out (Nat.le_refl _) (by simp)
  have HB2 := hid hb2
  have SRC : Hid (∀ j u, (intCells l)[j]? = some u → ∃ ad, ao = some ad ∧ w2.cell? (ad.add j) = some u) := fun j u hj => by
    obtain ⟨b, o, e, hlt, hc⟩ := HL.out j u hj
    refine ⟨_, e, ?_⟩
    rw [Addr.add_lit, hb2.cell (p := ⟨b, o + j, none⟩) hlt]
    exact hc
  clear hb2
  go_wp2_with (refine wpList_copy_full rfl (.tmp 7) (.tmp 8) 25 rfl w.heap.size 3 i3 1 Try.underlying25 HI3.out.1 HI3.out.2.2.1 (by decide) w.heap.size l.length l.length _ rfl O2.out ao ca (intCells l) rfl (intCells_length _) HN.out SRC.out (intCells_one _) ?_; intro w3 hown3 hg3; have O3 := hid hown3; have G3 := hid hg3; clear hown3 hg3)
  go_ret
  refine ⟨_, rfl, O3.out, HB2.out.grown G3.out HB2.out.size (fun k hk => ?_)⟩
  cases hk
  exact Nat.le_refl _
theorem ListAt.of_row {w : World} {v : Value} {l : List Int} {base : Nat} (hr : w.ownsRow base 3 1 v l.length (intCells l)) : ∃ ao ca, v = .slice ao l.length ca ∧ ListAt w ao l ∧ (ao = none → ca = 0) := by
  rcases hr.2 with ⟨he, h0⟩ | ⟨g, cap, cur, he, hb, hg, _⟩
  · subst he
    have hl0 : l = [] := by
      have : l.length = 0 := by first | omega | simpa using h0
      exact List.length_eq_zero_iff.1 this
    subst hl0
    exact ⟨none, 0, rfl, fun j u hj => by simp [intCells] at hj, fun _ => rfl⟩
  · subst he
    refine ⟨some ⟨g, 0, none⟩, cap, rfl, fun j u hj => ⟨_, _, rfl, ?_, ?_⟩, fun h => by cases h⟩
    · exact (ownsRow_block hr rfl).2.1
    · have hjl : j < (intCells l).length := by
        rcases Nat.lt_or_ge j (intCells l).length with h' | h'
        · exact h'
        · rw [List.getElem?_eq_none h'] at hj; cases hj
      rw [intCells_length] at hjl
      rw [Nat.zero_add, hr.cellAt j (by omega)]
      exact hj

set_option maxHeartbeats 1000000 in
theorem kRunning_any (m : KMem F w kb h s tk wt ws) (hw8 : ws.length ≤ 8) :
    Calls Try.prog 60 #[.pointer (some ⟨kb, 0, none⟩)] w fun e w' => ∃ v, e = .returned v ∧ w'.ownsRow w.heap.size 3 1 v ws.length (intCells ws) ∧ Below w.heap.size w w' := by
  have c2 := m.blk.cell 5
  simp [kCells] at c2
  obtain ⟨ao, ca, hv, hla, hna⟩ := ListAt.of_row m.wk
  cases hv
  have CO := hid (kCopyOf_any w _ _ ws hla hna (by omega))
  clear m hla hna
  go_enter Try.func60, Try.ntmps60
  go_wp2_with fail
  refine CO.out.mono ?_
  rintro e w1 ⟨v, rfl, hr1, hb1⟩
  obtain ⟨tv5, tc5, rfl, _, _⟩ := owns_cells hr1
  have R1 := hid hr1
  have HB1 := hid hb1
  clear hr1 hb1 CO
  go_wp2
  go_ret
  exact ⟨_, rfl, R1.out, HB1.out⟩

set_option maxRecDepth 100000 in
set_option maxHeartbeats 1000000 in
theorem kFreeWorkers_any (w : World) (n : Nat) (hn : 1 ≤ n) (hn8 : n ≤ 8) :
    Calls Try.prog 53 #[.int .i64 n] w fun e w' => ∃ g, e = .returned (.slice (some ⟨g, 0, none⟩) n n) ∧ w'.ownsRow w.heap.size 3 1 (.slice (some ⟨g, 0, none⟩) n n) n (intCells (List.replicate n (-1))) ∧ Below w.heap.size w w' := by
  obtain ⟨i3, hi3, hz30, hz31, hz32⟩ := info_parts Try.infoInt
  have HI3 := hid (And.intro hi3 (And.intro hz30 (And.intro hz31 hz32)))
  clear hi3 hz30 hz31 hz32
  go_enter Try.func53, Try.ntmps53
  go_wp2_with (at_make; refine wpList_make_full _ rfl _ _ 25 rfl w.heap.size 3 i3 (.int .i64 0) 1 Try.underlying25 HI3.out.1 HI3.out.2.1 HI3.out.2.2.1 .i64 .i64 _ _ n rfl rfl rfl rfl (by rw [HI3.out.2.2.2]; omega) (by unfold maxLen; omega) (Nat.le_refl _) ?_; intro w2 hown2 hg2; have O2 := hid hown2; have G2 := hid hg2; clear hown2 hg2)
  have hr2 : w2.ownsRow w.heap.size 3 1 (.slice (some ⟨w.heap.size, 0, none⟩) n n) n (intCells (List.replicate 0 (-1) ++ List.replicate (n - 0) 0)) := by
    have := O2.out
    have e : (madeCells (Value.int IntKind.i64 0).cells (n * 1)).toList = intCells (List.replicate 0 (-1) ++ List.replicate (n - 0) 0) := by
      rw [Nat.mul_one]
      show (madeCells #[Value.int IntKind.i64 0] n).toList = _
      rw [toList_madeCells_one]
      simp [intCells]
    rwa [e] at this
  have R2 := hid hr2
  have hb2 : Below w.heap.size w w2 := (Below.refl _ _).grown G2.out (Nat.le_refl _) (by simp)
  have HB2 := hid hb2
  clear hr2 O2 G2 hb2
  go_loopw [9] (fun i wr => ∃ k : Nat, k ≤ n ∧ i = .int .i64 k ∧ wr.ownsRow w.heap.size 3 1 (.slice (some ⟨w.heap.size, 0, none⟩) n n) n (intCells (List.replicate k (-1) ++ List.replicate (n - k) 0)) ∧ Below w.heap.size w wr) (fun i _ => n - (intOf i).toNat)
  case atStart => exact ⟨0, Nat.zero_le _, rfl, R2.out, HB2.out⟩
  case round =>
    obtain ⟨k, hk, rfl, hrow, hb⟩ := hrel
    have ROW := hid hrow
    have HB := hid hb
    clear hrow hb
    by_cases hkl : k < n
    · have x0 : wr.cell? ⟨w.heap.size, k, none⟩ = some (.int .i64 0) := by
        rw [ROW.out.cellAt k (by omega)]
        simp only [intCells, List.map_append, List.map_replicate]
        rw [List.getElem?_append_right (by simp)]
        simp [show 0 < n - k by omega]
      have f0 := ROW.out.frozenAt k
      have r1 := (ROW.out.stored k (.int .i64 (-1))).1
      rw [intCells_set] at r1
      have e1 : (List.replicate k (-1 : Int) ++ List.replicate (n - k) 0).set k (-1) = List.replicate (k + 1) (-1) ++ List.replicate (n - (k + 1)) 0 := by
        rw [List.set_append_right _ _ (by simp)]
        have e2 : List.replicate (n - k) (0 : Int) = 0 :: List.replicate (n - (k + 1)) 0 := by
          rw [show n - k = (n - (k + 1)) + 1 by omega, List.replicate_succ]
        rw [e2, List.length_replicate, Nat.sub_self]
        simp [List.replicate_succ']
      rw [e1] at r1
      have R1 := hid r1
      have HB1 : Hid (Below w.heap.size w (wr.setCell ⟨w.heap.size, k, none⟩ (.int .i64 (-1)))) := HB.out.setCell (Nat.le_refl _) _
      have hkI : (k : Int) < (n : Int) := by omega
      clear r1 e1
      go_wp2
      go_roundw
      case rel => exact ⟨k + 1, by omega, by go_num, R1.out, HB1.out⟩
      case measure => simp [intOf]; omega
    · have e : k = n := by omega
      subst e
      go_wp2
      go_ret
      refine ⟨w.heap.size, rfl, ?_, HB.out⟩
      have := ROW.out
      rw [Nat.sub_self] at this
      simpa using this

set_option maxRecDepth 100000 in
set_option maxHeartbeats 1000000 in
theorem kMisses_any (m : KMem F w kb h s tk wt ws) (hmis : s.missed.length ≤ 16000000000) :
    Calls Try.prog 18 #[.pointer (some ⟨kb, 0, none⟩)] w fun e w' => ∃ v, e = .returned v ∧ w'.ownsRow w.heap.size 82 3 v s.missed.length (missCells s.missed) ∧ Below w.heap.size w w' := by
  have c4 := m.blk.cell 8
  simp [kCells] at c4
  obtain ⟨ao, ca, hv, hn, ha⟩ := owns_cells m.mss
  rw [hv] at c4
  have HV := hid hv
  have HN := hid hn
  have M := hid m
  clear m hv hn ha
  obtain ⟨i3, hi3, hz30, hz31, hz32⟩ := info_parts Try.infoMiss
  have HI3 := hid (And.intro hi3 (And.intro hz30 (And.intro hz31 hz32)))
  clear hi3 hz30 hz31 hz32
  go_enter Try.func18, Try.ntmps18
  go_upto_region 2 with (at_make; refine wpList_make_full _ rfl _ _ 42 rfl w.heap.size 82 i3 (.agg #[.int .i64 0, .int .i64 0, .int .i64 0]) 3 Try.underlying42 HI3.out.1 HI3.out.2.1 HI3.out.2.2.1 .i64 .i64 _ _ s.missed.length rfl rfl rfl rfl (by rw [HI3.out.2.2.2]; omega) (by unfold maxLen; omega) (Nat.le_refl _) ?_; intro w2 hown2 hg2; have O2 := hid hown2; have G2 := hid hg2; clear hown2 hg2)
  have hb2 : Below w.heap.size w w2 := (Below.refl _ _).grown G2.out (Nat.le_refl _) (by simp)
  have M2 := hid (M.out.below hb2)
  have HB2 := hid hb2
  have c4 := M2.out.blk.cell 8
  simp [kCells] at c4
  rw [HV.out] at c4
  have hsrc : ∀ j u, (missCells s.missed)[j]? = some u → ∃ ad, ao = some ad ∧ w2.cell? (ad.add j) = some u := by
    intro j u hj
    have hjl : j < (missCells s.missed).length := by
      rcases Nat.lt_or_ge j (missCells s.missed).length with h' | h'
      · exact h'
      · rw [List.getElem?_eq_none h'] at hj; cases hj
    rw [missCells_length] at hjl
    obtain ⟨ao', ca', hv', hn', ha'⟩ := owns_cells M2.out.mss
    rw [HV.out] at hv'
    cases hv'
    cases ao with
    | none => have := (hn' rfl).1; omega
    | some ad =>
      obtain ⟨gl, rfl, _, _, _, hc⟩ := ha' ad rfl
      refine ⟨_, rfl, ?_⟩
      rw [Addr.add_lit, Nat.zero_add, hc _ hjl]
      exact hj
  have HSRC := hid hsrc
  clear hb2 hsrc
  go_wp2_with (refine wpList_copy_full rfl (.tmp 10) (.tmp 14) 42 rfl w.heap.size 82 i3 3 Try.underlying42 HI3.out.1 HI3.out.2.2.1 (by decide) w.heap.size s.missed.length s.missed.length _ rfl O2.out ao ca (missCells s.missed) rfl (missCells_length _) (fun hh => (HN.out hh).2) HSRC.out (missCells_one _) ?_; intro w3 hown3 hg3; have O3 := hid hown3; have G3 := hid hg3; clear hown3 hg3)
  go_ret
  refine ⟨_, rfl, O3.out, HB2.out.grown G3.out HB2.out.size (fun k hk => ?_)⟩
  cases hk
  exact Nat.le_refl _

/-- What state tells. -/
def K.state (x : RT) (ws : List Int) (t : Nat) : Int := if x.rel ≤ x.ended then 0 else if x.for_ ≠ 0 then 3 else if Ln.placeIn ws (t : Int) = -1 then 1 else 2

set_option maxHeartbeats 1000000 in
theorem kState_any (m : KMem F w kb h s tk wt ws) (t : Nat) (ht : t < s.T.length) (hfew : s.T.length ≤ 16) (hw8 : ws.length ≤ 8) :
    Calls Try.prog 99 #[.pointer (some ⟨kb, 0, none⟩), .int .i64 t] w fun e w' => e = .returned (.int .i64 (K.state s.T[t] ws t)) ∧ ∃ n, w' = w.drewN n := by
  have HJ := hid (kHasJob_any m t ht hfew)
  have HW := hid (fun n => kWaits_any (m.drewN n) t ht hfew)
  have HP := hid (fun n => kPlaceOf_any (w.drewN n) (some ⟨h.gW, 0, none⟩) h.cW ws (t : Int) (fun i hi => ⟨h.gW, 0, rfl, m.wT.lt, by rw [Nat.zero_add]; exact m.wcell hi⟩) (by omega))
  have c2 := m.blk.cell 5
  simp [kCells] at c2
  have ES : Hid (K.state s.T[t] ws t = if s.T[t].rel ≤ s.T[t].ended then 0 else if s.T[t].for_ ≠ 0 then 3 else if Ln.placeIn ws (t : Int) = -1 then 1 else 2) := rfl
  clear m
  generalize K.state s.T[t] ws t = res at *
  generalize s.T[t] = x at *
  generalize Ln.placeIn ws (t : Int) = pl at *
  go_enter Try.func99, Try.ntmps99
  go_wp2_with fail
  refine HJ.out.mono ?_
  rintro e w1 ⟨rfl, n, rfl⟩
  by_cases hj : x.ended < x.rel
  · rw [if_neg (by omega)] at ES
    have hjd : decide (x.ended < x.rel) = true := by simpa using hj
    go_wp2_with fail
    refine (HW.out n).mono ?_
    rintro e w2 ⟨rfl, hw2⟩
    have hw3 := hw2.symm
    subst hw3
    clear hw2
    cases hw : (x.for_ != 0)
    · rw [if_neg (by simpa using hw)] at ES
      go_wp2_with fail
      refine (HP.out n).mono ?_
      rintro e w2 ⟨rfl, hw2⟩
      have hw3 := hw2.symm
      subst hw3
      clear hw2
      cases hp : (pl == -1)
      · rw [if_neg (by simpa using hp)] at ES
        go_wp2
        go_ret
        exact ⟨by rw [ES.out]; rfl, n, rfl⟩
      · rw [if_pos (by simpa using hp)] at ES
        go_wp2
        go_ret
        exact ⟨by rw [ES.out]; rfl, n, rfl⟩
    · rw [if_pos (by simpa using hw)] at ES
      go_wp2
      go_ret
      exact ⟨by rw [ES.out]; rfl, n, rfl⟩
  · rw [if_pos (by omega)] at ES
    have hjd : decide (x.ended < x.rel) = false := by simpa using hj
    go_wp2
    go_ret
    exact ⟨by rw [ES.out]; rfl, n, rfl⟩

def K.viewV (x : RT) (st lv : Int) : Value :=
  .agg #[.int .i64 st, .int .i64 x.base, .int .i64 lv, .int .i64 x.at_, .int .i64 x.last, .int .i64 x.got, .int .i64 x.rel, .int .i64 x.ended, .int .i64 x.for_, .int .i64 x.of_, .int .i64 x.until_]

theorem Blk.below' {w w' : World} {b : Nat} {cs : Array Value} {e : TypeId} (h : Blk w b cs e) (hb : Below w.heap.size w w') : Blk w' b cs e := by
  have hl := h.lt
  unfold Blk at h ⊢
  rw [hb.block _ hl]
  exact h

set_option maxRecDepth 100000 in
set_option maxHeartbeats 2000000 in
theorem kView_any (m : KMem F w kb h s tk wt ws) (f : KFit s) (a : Ln.WtOk s wt) (t : Nat) (ht : t < s.T.length) (hw8 : ws.length ≤ 8) :
    Calls Try.prog 82 #[.pointer (some ⟨kb, 0, none⟩), .int .i64 t] w fun e w' => e = .returned (K.viewV s.T[t] (K.state s.T[t] ws t) (R.Level s t)) ∧ Below w.heap.size w w' := by
  have hbA : Below w.heap.size w (w.alloc (.cells #[.int .i64 0, .int .i64 0, .int .i64 0, .int .i64 0, .int .i64 0, .int .i64 0, .int .i64 0, .int .i64 0, .int .i64 0, .int .i64 0, .int .i64 0] 53)) := (Below.refl _ _).alloc (Nat.le_refl _) _
  have XA := Blk.new w #[.int .i64 0, .int .i64 0, .int .i64 0, .int .i64 0, .int .i64 0, .int .i64 0, .int .i64 0, .int .i64 0, .int .i64 0, .int .i64 0, .int .i64 0] 53
  have M := hid m
  have FT := hid f
  have AW := hid a
  clear m f a
  go_enter Try.func82, Try.ntmps82
  go_upto_region 1 with fail
  generalize w.alloc (.cells #[.int .i64 0, .int .i64 0, .int .i64 0, .int .i64 0, .int .i64 0, .int .i64 0, .int .i64 0, .int .i64 0, .int .i64 0, .int .i64 0, .int .i64 0] 53) = wA at hbA XA ⊢
  have MA := hid (M.out.below hbA)
  have HBA := hid hbA
  have HXA := hid XA
  clear XA
  go_wp2_with fail
  refine (kState_any MA.out t ht FT.out.few hw8).mono ?_
  rintro e w1 ⟨rfl, n, rfl⟩
  have MB := hid (MA.out.drewN n)
  have HBB := hid (bdrewN HBA.out n)
  have HXB : Hid (Blk (wA.drewN n) w.heap.size #[.int .i64 0, .int .i64 0, .int .i64 0, .int .i64 0, .int .i64 0, .int .i64 0, .int .i64 0, .int .i64 0, .int .i64 0, .int .i64 0, .int .i64 0] 53) := HXA.out
  clear hbA MA HBA HXA
  generalize wA.drewN n = wB at *
  go_wp2_with fail
  refine (kLevel_any MB.out FT.out.few FT.out.ok FT.out.m8 AW.out t ht).mono ?_
  rintro e w1 ⟨rfl, hb1⟩
  have MC := hid (MB.out.below hb1)
  have HBC := hid (via HBB.out HBB.out.size hb1)
  have HXC := hid (HXB.out.below' hb1)
  clear hb1 MB HBB HXB
  have c1 := MC.out.blk.cell 1
  simp [kCells] at c1
  obtain ⟨cv, cc, hcs, _⟩ := MC.out.codes t ht
  have a0 := MC.out.tcell ht 0 (by decide)
  have a1 := MC.out.tcell ht 1 (by decide)
  have a2 := MC.out.tcell ht 2 (by decide)
  have a3 := MC.out.tcell ht 3 (by decide)
  have a4 := MC.out.tcell ht 4 (by decide)
  have a5 := MC.out.tcell ht 5 (by decide)
  have a6 := MC.out.tcell ht 6 (by decide)
  have a7 := MC.out.tcell ht 7 (by decide)
  have a8 := MC.out.tcell ht 8 (by decide)
  have a9 := MC.out.tcell ht 9 (by decide)
  have a10 := MC.out.tcell ht 10 (by decide)
  have a11 := MC.out.tcell ht 11 (by decide)
  have a12 := MC.out.tcell ht 12 (by decide)
  rw [hcs] at a0
  simp only [ktCells] at a0 a1 a2 a3 a4 a5 a6 a7 a8 a9 a10 a11 a12
  generalize (s.set.threads.getD t P3.none0).code.length = cl at *
  generalize s.set.start + (s.set.threads.getD t P3.none0).offset = fi at *
  generalize (s.set.threads.getD t P3.none0).period = pe at *
  generalize (s.set.threads.getD t P3.none0).deadline = de at *
  simp at a0 a1 a2 a3 a4 a5 a6 a7 a8 a9 a10 a11 a12
  have x0 := HXC.out.cell 0
  have x1 := HXC.out.cell 1
  have x2 := HXC.out.cell 2
  have x3 := HXC.out.cell 3
  have x4 := HXC.out.cell 4
  have x5 := HXC.out.cell 5
  have x6 := HXC.out.cell 6
  have x7 := HXC.out.cell 7
  have x8 := HXC.out.cell 8
  have x9 := HXC.out.cell 9
  have x10 := HXC.out.cell 10
  simp at x0 x1 x2 x3 x4 x5 x6 x7 x8 x9 x10
  have z0 := HXC.out.frozen 0
  have z1 := HXC.out.frozen 1
  have z2 := HXC.out.frozen 2
  have z3 := HXC.out.frozen 3
  have z4 := HXC.out.frozen 4
  have z5 := HXC.out.frozen 5
  have z6 := HXC.out.frozen 6
  have z7 := HXC.out.frozen 7
  have z8 := HXC.out.frozen 8
  have z9 := HXC.out.frozen 9
  have z10 := HXC.out.frozen 10
  have hxl := HXC.out.lt
  have htI : (t : Int) < (s.T.length : Int) := by omega
  have hfew := FT.out.few
  have HVW : Hid (∀ st lv, K.viewV s.T[t] st lv = .agg #[.int .i64 st, .int .i64 s.T[t].base, .int .i64 lv, .int .i64 s.T[t].at_, .int .i64 s.T[t].last, .int .i64 s.T[t].got, .int .i64 s.T[t].rel, .int .i64 s.T[t].ended, .int .i64 s.T[t].for_, .int .i64 s.T[t].of_, .int .i64 s.T[t].until_]) := fun _ _ => rfl
  clear hcs
  generalize hst : K.state s.T[t] ws t = st at *
  have HST := hid hst
  clear hst
  generalize hlv : R.Level s t = lv at *
  have HLV := hid hlv
  clear hlv
  generalize hx : s.T[t] = x at *
  have HX := hid hx
  clear hx
  go_wp2
  refine bodyPost_ret (v := K.viewV x st lv) ?_ rfl ⟨by rw [HX.out, HST.out, HLV.out], ?_⟩
  · rw [HVW.out]
    simp [results, Try.results82, go_sem, x0, x1, x2, x3, x4, x5, x6, x7, x8, x9, x10, hxl]
  · refine Below.alloc ?_ (by simp [World.setCell]; omega) _
    iterate 11 refine Below.setCell ?_ (by simp) _
    exact HBC.out

def K.lookV (s : RS) (ws : List Int) (t : Int) : Value := if 0 ≤ t ∧ t < s.T.length then K.viewV (R.th s.T t.toNat) (K.state (R.th s.T t.toNat) ws t.toNat) (R.Level s t.toNat) else noView
def K.lookE (s : RS) (t : Int) : Int := if 0 ≤ t ∧ t < s.T.length then 0 else 7

set_option maxRecDepth 100000 in
set_option maxHeartbeats 2000000 in
theorem kLook_any (m : KMem F w kb h s tk wt ws) (f : KFit s) (a : Ln.WtOk s wt) (t : Int) (hw8 : ws.length ≤ 8) :
    Calls Try.prog 58 #[.pointer (some ⟨kb, 0, none⟩), .int .i64 t] w fun e w' => e = .returned (.tuple #[K.lookV s ws t, .int .i64 (K.lookE s t)]) ∧ Below w.heap.size w w' := by
  have c1 := m.blk.cell 1
  simp [kCells] at c1
  have hsl := m.blk.lt
  have M := hid m
  have hfew := f.few
  clear m
  by_cases hin : 0 ≤ t ∧ t < s.T.length
  · have E1 : K.lookV s ws t = K.viewV (R.th s.T t.toNat) (K.state (R.th s.T t.toNat) ws t.toNat) (R.Level s t.toNat) := by unfold K.lookV; rw [if_pos hin]
    have E2 : K.lookE s t = 0 := by unfold K.lookE; rw [if_pos hin]
    rw [E1, E2]
    clear E1 E2
    obtain ⟨h0, h1⟩ := hin
    obtain ⟨k, rfl⟩ := Int.eq_ofNat_of_zero_le h0
    have hk : k < s.T.length := by omega
    have ek : Int.toNat (k : Int) = k := by omega
    rw [ek, th_ext hk]
    have hbA : Below w.heap.size w (w.alloc (.cells #[.int .i64 0, .int .i64 0, .int .i64 0, .int .i64 0, .int .i64 0, .int .i64 0, .int .i64 0, .int .i64 0, .int .i64 0, .int .i64 0, .int .i64 0] 53)) := (Below.refl _ _).alloc (Nat.le_refl _) _
    have XA := Blk.new w #[.int .i64 0, .int .i64 0, .int .i64 0, .int .i64 0, .int .i64 0, .int .i64 0, .int .i64 0, .int .i64 0, .int .i64 0, .int .i64 0, .int .i64 0] 53
    have VW := hid (fun wx (hb : Below w.heap.size w wx) => kView_any (M.out.below hb) f a k hk hw8)
    obtain ⟨v0, v1, v2, v3, v4, v5, v6, v7, v8, v9, v10, hv⟩ : ∃ v0 v1 v2 v3 v4 v5 v6 v7 v8 v9 v10 : Int, K.viewV s.T[k] (K.state s.T[k] ws k) (R.Level s k) = .agg #[.int .i64 v0, .int .i64 v1, .int .i64 v2, .int .i64 v3, .int .i64 v4, .int .i64 v5, .int .i64 v6, .int .i64 v7, .int .i64 v8, .int .i64 v9, .int .i64 v10] := ⟨_, _, _, _, _, _, _, _, _, _, _, rfl⟩
    rw [hv] at VW
    rw [hv]
    clear hv ek
    go_enter Try.func58, Try.ntmps58
    go_upto_region 3 with fail
    generalize w.alloc (.cells #[.int .i64 0, .int .i64 0, .int .i64 0, .int .i64 0, .int .i64 0, .int .i64 0, .int .i64 0, .int .i64 0, .int .i64 0, .int .i64 0, .int .i64 0] 53) = wA at hbA XA ⊢
    have HBA := hid hbA
    have HXA := hid XA
    clear XA hbA
    go_wp2_with fail
    refine (VW.out wA HBA.out).mono ?_
    rintro e w1 ⟨rfl, hb1⟩
    have HXB := hid (show Blk w1 w.heap.size #[.int .i64 0, .int .i64 0, .int .i64 0, .int .i64 0, .int .i64 0, .int .i64 0, .int .i64 0, .int .i64 0, .int .i64 0, .int .i64 0, .int .i64 0] 53 from by
      have h1 := HXA.out
      have hl := HXA.out.lt
      unfold Blk at h1 ⊢
      rw [hb1.block _ hl]
      exact h1)
    have HBB := hid (via HBA.out HBA.out.size hb1)
    clear hb1
    have x0 := HXB.out.cell 0
    have x1 := HXB.out.cell 1
    have x2 := HXB.out.cell 2
    have x3 := HXB.out.cell 3
    have x4 := HXB.out.cell 4
    have x5 := HXB.out.cell 5
    have x6 := HXB.out.cell 6
    have x7 := HXB.out.cell 7
    have x8 := HXB.out.cell 8
    have x9 := HXB.out.cell 9
    have x10 := HXB.out.cell 10
    simp at x0 x1 x2 x3 x4 x5 x6 x7 x8 x9 x10
    have z0 := HXB.out.frozen 0
    have z1 := HXB.out.frozen 1
    have z2 := HXB.out.frozen 2
    have z3 := HXB.out.frozen 3
    have z4 := HXB.out.frozen 4
    have z5 := HXB.out.frozen 5
    have z6 := HXB.out.frozen 6
    have z7 := HXB.out.frozen 7
    have z8 := HXB.out.frozen 8
    have z9 := HXB.out.frozen 9
    have z10 := HXB.out.frozen 10
    go_wp2
    refine bodyPost_ret (v := .tuple #[.agg #[.int .i64 v0, .int .i64 v1, .int .i64 v2, .int .i64 v3, .int .i64 v4, .int .i64 v5, .int .i64 v6, .int .i64 v7, .int .i64 v8, .int .i64 v9, .int .i64 v10], .int .i64 0]) ?_ rfl ⟨rfl, ?_⟩
    · simp [results, Try.results58, go_sem, x0, x1, x2, x3, x4, x5, x6, x7, x8, x9, x10]
    · iterate 11 refine Below.setCell ?_ (by simp) _
      exact HBB.out
  · have E1 : K.lookV s ws t = noView := by unfold K.lookV; rw [if_neg hin]
    have E2 : K.lookE s t = 7 := by unfold K.lookE; rw [if_neg hin]
    rw [E1, E2]
    clear E1 E2
    go_enter Try.func58, Try.ntmps58
    by_cases hneg : t < 0
    · go_wp2
      exact bodyPost_ret (v := .tuple #[noView, .int .i64 7]) (by simp [results, Try.results58, go_sem, noView]) rfl ⟨rfl, (Below.refl _ _).alloc (Nat.le_refl _) _⟩
    · have hge : (s.T.length : Int) ≤ t := by omega
      go_wp2
      exact bodyPost_ret (v := .tuple #[noView, .int .i64 7]) (by simp [results, Try.results58, go_sem, noView]) rfl ⟨rfl, (Below.refl _ _).alloc (Nat.le_refl _) _⟩
end

end Go.Proofs.Ytbkfildnijjioab

/-
  Walks over package donateref: give, round.
-/
namespace Go.Proofs.Ytbkfildnijjioab
open Go.RowKit
section
variable {F : Nat → Prop} {w : World} {sb : Nat} {s : RS}
theorem rowAt {base : Nat} {v : Value} {l : List Int} (ho : w.ownsRow base 3 1 v l.length (intCells l)) (hpos : 0 < l.length) : ∃ g cap, v = .slice (some ⟨g, 0, none⟩) l.length cap ∧ (∀ i (hi : i < l.length), w.cell? ⟨g, i, none⟩ = some (.int .i64 l[i])) ∧ (∀ j, w.frozen? ⟨g, j, none⟩ = false) := by
  have h2 := ho.2
  rcases h2 with ⟨_, h0⟩ | ⟨g, cap, cur, rfl, _⟩
  · omega
  · refine ⟨g, cap, rfl, fun i hi => ?_, fun j => ho.frozenAt j⟩
    rw [ho.cellAt i (by omega)]
    simp [intCells, hi]
end
end Go.Proofs.Ytbkfildnijjioab

/-
  Walks over package donateref: unlock, lock.
-/
namespace Go.Proofs.Ytbkfildnijjioab
open Go.RowKit
theorem endW_parts (s : RS) (t : Nat) (c : Int) : (R.endW s t c).set = s.set ∧ (R.endW s t c).now = s.now ∧ (R.endW s t c).owner = s.owner ∧ (R.endW s t c).T.length = s.T.length ∧ (R.endW s t c).next = s.next + 1 ∧ (R.endW s t c).count = s.count ∧ (R.endW s t c).box = s.box ∧ (R.endW s t c).missed = s.missed := by
  unfold R.endW R.wake
  refine ⟨rfl, rfl, rfl, by simp, rfl, rfl, rfl, rfl⟩
theorem giveS_parts (s : RS) (a b : Int) : (R.giveS s a b).set = s.set ∧ (R.giveS s a b).now = s.now ∧ (R.giveS s a b).owner = s.owner ∧ (R.giveS s a b).T.length = s.T.length ∧ s.next ≤ (R.giveS s a b).next ∧ (R.giveS s a b).next ≤ s.next + 1 ∧ (R.giveS s a b).count = s.count ∧ (R.giveS s a b).box = s.box ∧ (R.giveS s a b).missed = s.missed := by
  unfold R.giveS
  split
  · obtain ⟨h1, h2, h3, h4, h5, h6, h7, h8⟩ := endW_parts s (R.giveT s a b).toNat 0
    exact ⟨h1, h2, h3, h4, by omega, by omega, h6, h7, h8⟩
  · exact ⟨rfl, rfl, rfl, rfl, Int.le_refl _, by omega, rfl, rfl, rfl⟩
/-- Who owns and who waits for what are numbers of threads and mutexes. -/
structure RLinks (s : RS) : Prop where
  own : ∀ i (hi : i < s.owner.length), -1 ≤ s.owner[i] ∧ s.owner[i] < s.T.length
  of_ : ∀ i (hi : i < s.T.length), s.T[i].for_ = 1 → 0 ≤ s.T[i].of_ ∧ s.T[i].of_ < s.owner.length
end Go.Proofs.Ytbkfildnijjioab

/-
  Walks over package donateref: stop.
-/
namespace Go.Proofs.Ytbkfildnijjioab
open Go.RowKit
/-- What a step leaves as it was, and how many numbers it may draw. -/
structure RLike (s s' : RS) (n : Int) : Prop where
  set : s'.set = s.set
  now : s'.now = s.now
  own : s'.owner.length = s.owner.length
  len : s'.T.length = s.T.length
  nx0 : s.next ≤ s'.next
  nx1 : s'.next ≤ s.next + n
  cnt : s'.count.length = s.count.length
  box : s'.box.length = s.box.length
  mis : s'.missed = s.missed
theorem RLike.refl (s : RS) : RLike s s 0 := ⟨rfl, rfl, rfl, rfl, Int.le_refl _, by omega, rfl, rfl, rfl⟩
theorem RLike.trans {s s' s'' : RS} {n n' : Int} (h : RLike s s' n) (k : RLike s' s'' n') : RLike s s'' (n + n') :=
  ⟨k.set.trans h.set, k.now.trans h.now, k.own.trans h.own, k.len.trans h.len, Int.le_trans h.nx0 k.nx0, by have := h.nx1; have := k.nx1; omega, k.cnt.trans h.cnt, k.box.trans h.box, k.mis.trans h.mis⟩
theorem RLike.mono {s s' : RS} {n n' : Int} (h : RLike s s' n) (hn : n ≤ n') : RLike s s' n' := ⟨h.set, h.now, h.own, h.len, h.nx0, by have := h.nx1; omega, h.cnt, h.box, h.mis⟩
theorem RLike.good {s s' : RS} {n : Int} (h : RLike s s' n) (g : RGood s) (hn : s.next + n ≤ 4611686018427387904) : RGood s' := by
  have h0 := h.nx0
  have h1 := h.nx1
  have h2 := g.nxt0
  exact ⟨by rw [h.set, h.len]; exact g.len, by rw [h.len]; exact g.pos, by rw [h.len]; exact g.few, by rw [h.set]; exact g.wk0, by rw [h.set]; exact g.wk1, by rw [h.set, h.own]; exact g.own, by rw [h.set]; exact g.mfew, by rw [h.set]; exact g.now0,
    by rw [h.set, h.now]; exact g.now1, by rw [h.now]; exact g.now2, by omega, by omega, by rw [h.set]; exact g.off⟩
theorem like_modify (s : RS) (t : Nat) (f : RT → RT) : RLike s { s with T := s.T.modify t f } 0 := ⟨rfl, rfl, rfl, by simp, Int.le_refl _, by simp, rfl, rfl, rfl⟩
theorem like_wake (s : RS) (t : Nat) : RLike s (R.wake s t) 1 := ⟨rfl, rfl, rfl, by simp [R.wake], by simp [R.wake]; omega, by simp [R.wake], rfl, rfl, rfl⟩
theorem like_endW (s : RS) (t : Nat) (c : Int) : RLike s (R.endW s t c) 1 := by
  have := (like_modify s t (fun x => { x with for_ := 0, of_ := 0, until_ := 0, last := c })).trans (like_wake _ t)
  exact this.mono (by omega)
theorem like_beginW (s : RS) (t : Nat) (a b n : Int) : RLike s (R.beginW s t a b n) 1 := ⟨rfl, rfl, rfl, by simp [R.beginW], by simp [R.beginW]; omega, by simp [R.beginW], rfl, rfl, rfl⟩
theorem like_giveS (s : RS) (a b : Int) : RLike s (R.giveS s a b) 1 := by
  unfold R.giveS
  split
  · exact like_endW _ _ _
  · exact (RLike.refl s).mono (by omega)
theorem like_unlockS (s : RS) (t k : Nat) : RLike s (R.unlockS s t k) 1 := by
  unfold R.unlockS
  split
  · have := like_giveS s 1 (k : Int)
    exact ⟨this.set, this.now, by simp, this.len, this.nx0, this.nx1, this.cnt, this.box, this.mis⟩
  · exact (RLike.refl s).mono (by omega)
theorem like_unlocksTo (s : RS) (t : Nat) (k : Nat) : RLike s (R.unlocksTo s t k) k := by
  induction k with
  | zero => exact RLike.refl s
  | succ k ih =>
    unfold R.unlocksTo
    have := ih.trans (like_unlockS (R.unlocksTo s t k) t k)
    exact this.mono (by omega)
end Go.Proofs.Ytbkfildnijjioab

/-
  Walks over package donateref: passes, Recv.
-/
namespace Go.Proofs.Ytbkfildnijjioab
open Go.RowKit
theorem drop_news {w : World} {g cap : Nat} {B : List Int} (row : w.ownsRow 0 3 1 (.slice (some ⟨g, 0, none⟩) B.length cap) B.length (intCells B)) :
    ∀ j u, (intCells (B.drop 1))[j]? = some u → ∃ ad, (some (⟨g, 1, none⟩ : Addr)) = some ad ∧ w.cell? (ad.add j) = some u := by
  intro j u hj
  refine ⟨_, rfl, ?_⟩
  have hjl : j < (intCells (B.drop 1)).length := by
    rcases Nat.lt_or_ge j (intCells (B.drop 1)).length with h' | h'
    · exact h'
    · rw [List.getElem?_eq_none h'] at hj; cases hj
  rw [intCells_length, List.length_drop] at hjl
  rw [Addr.add_lit, row.cellAt (1 + j) (by omega), ← hj]
  unfold intCells
  rw [List.getElem?_map, List.getElem?_map, List.getElem?_drop]
end Go.Proofs.Ytbkfildnijjioab

/-
  Walks over package donateref: passes, Send.
-/
namespace Go.Proofs.Ytbkfildnijjioab
open Go.RowKit
/-- 'append' onto a list of the call's own, as one step of a region that draws its order; where the new list lies. -/
theorem step_append_own_at {P : Program} {ops : Array Oper} {o : Oper} {a : Act} {w : World} {K : Act → World → Prop} {Q : Exit → Act → World → Prop} {E : Prop}
    (hg : o.guard = none) (s x : Operand) (t : TypeId) (hop : o.op = Op.call { callee := Callee.builtin Builtin.append, args := #[s, x], argTypes := #[t, t] })
    (base : Nat) (e : TypeId) (i : TypeInfo) (z : Value) (size bytes : Nat) (ht : P.underlying t = some (.slice e)) (hi : P.info? e = some i) (hz : i.zero = some z)
    (hsize : i.size = size) (hby : i.bytes = bytes) (hzs : z.cells.size = size) (hsz : 0 < size)
    (v : Value) (n : Nat) (xs : List Value) (hs : a.eval s = v) (hown : w.ownsRow base e size v n xs)
    (ad : Addr) (m c : Nat) (news : List Value) (hx : a.eval x = .slice (some ad) m c) (hl : news.length = m * size) (hnews : ∀ j u, news[j]? = some u → w.cell? (ad.add j) = some u) (h1 : ∀ u ∈ news, u.oneCell' = true)
    (h63 : n + m ≤ maxLen) (hbytes : (n + m) * bytes ≤ 140737488355328) (hbase : base ≤ w.heap.size)
    (hK : ∀ v' w', w'.ownsRow base e size v' (n + m) (xs ++ news) → w.grownBy w' v.ownBlock → (v'.ownBlock = v.ownBlock ∨ v'.ownBlock = some w.heap.size) → K (a.put o.dst v') w') :
    if Region.wanted o (yielded ops a.tmps) = true then Oper.wp P o a w K Q else E := by
  have hw : Region.wanted o (yielded ops a.tmps) = true := by simp [Region.wanted, hg]
  rw [if_pos hw]
  obtain ⟨v', w', hr, h2, h3, h4, h5⟩ := run_append_own_at (P := P) w base t o.type e i z size bytes ht hi hz hsize hby hzs hsz v n xs hown ad m c news hl hnews h1 h63 hbytes hbase
  unfold Oper.wp execOp
  simp only [hop, resolve, invoke, builtin, Sem.run_bind, Sem.run_pure, Result.andThen_ok, List.map_toArray, List.map_cons, List.map_nil, hs, hx, hr]
  exact hK v' w' h2 h3 h5
end Go.Proofs.Ytbkfildnijjioab

/-
  Walks over package donateref: does.
-/
namespace Go.Proofs.Ytbkfildnijjioab
open Go.RowKit
/-- An instruction that may be, in a kernel at work. -/
structure RIns (s : RS) (i : InstrD) : Prop where
  op0 : 0 ≤ i.op
  op1 : i.op ≤ 11
  prio : i.op = 4 → 0 ≤ i.a ∧ i.a < s.T.length
  sleep : i.op = 5 → i.a ≤ 1000
  mtx : i.op = 6 ∨ i.op = 7 → 0 ≤ i.a ∧ i.a < s.owner.length
  sem : i.op = 8 ∨ i.op = 9 → 0 ≤ i.a ∧ i.a < s.count.length
  que : i.op = 10 ∨ i.op = 11 → 0 ≤ i.a ∧ i.a < s.box.length
  wait : i.op = 6 ∨ i.op = 8 ∨ i.op = 11 → i.b ≤ 1000
/-- Counts and messages within their bounds. -/
structure RStore (s : RS) : Prop where
  c4 : s.count.length ≤ 4
  cs : s.count.length = s.set.sems.length
  cb : ∀ k (hk : k < s.count.length), 0 ≤ s.count[k] ∧ s.count[k] ≤ 100
  q4 : s.box.length ≤ 4
  qs : s.box.length = s.set.queues.length
  qb : ∀ k (hk : k < s.box.length), s.box[k].length ≤ 8
end Go.Proofs.Ytbkfildnijjioab

/-
  What each step of the document's kernel leaves as it was.
-/
namespace Go.Proofs.Ytbkfildnijjioab
open Go.RowKit
theorem R.on_bd (T : List RT) (w : Int) : -1 ≤ R.on T w ∧ R.on T w < T.length := by
  unfold R.on P3.badOr
  have := P3.bad_le (fun x : RT => x.wkr != w) T
  split <;> omega
theorem like_lockS (s : RS) (t m : Nat) (n : Int) : RLike s (R.lockS s t m n) 1 := by
  unfold R.lockS
  split
  · exact ⟨rfl, rfl, by simp, rfl, Int.le_refl _, by simp; omega, rfl, rfl, rfl⟩
  · split
    · exact like_beginW _ _ _ _ _
    · exact (RLike.refl s).mono (by omega)
theorem like_downS (s : RS) (t a : Nat) (b : Int) : RLike s (R.downS s t a b) 1 := by
  unfold R.downS
  split
  · exact ⟨rfl, rfl, rfl, rfl, Int.le_refl _, by simp; omega, by simp, rfl, rfl⟩
  · split
    · exact like_beginW _ _ _ _ _
    · exact (RLike.refl s).mono (by omega)
theorem like_upS (s : RS) (a : Nat) : RLike s (R.upS s a) 1 := by
  unfold R.upS
  split
  · exact like_giveS _ _ _
  · split
    · exact (RLike.refl s).mono (by omega)
    · exact ⟨rfl, rfl, rfl, rfl, Int.le_refl _, by simp; omega, by simp, rfl, rfl⟩
theorem like_recvS (s : RS) (t a : Nat) (b : Int) : RLike s (R.recvS s t a b) 1 := by
  unfold R.recvS
  split
  · exact ⟨rfl, rfl, rfl, by simp [R.gets], Int.le_refl _, by simp [R.gets]; omega, rfl, by simp, rfl⟩
  · split
    · exact like_beginW _ _ _ _ _
    · exact (RLike.refl s).mono (by omega)
theorem like_gets (s : RS) (t : Nat) (v : Int) : RLike s (R.gets s t v) 0 := like_modify _ _ _
theorem like_sendS (s : RS) (a : Nat) (b : Int) : RLike s (R.sendS s a b) 1 := by
  unfold R.sendS
  split
  · exact ((like_giveS s 3 (a : Int)).trans (like_gets _ _ _)).mono (by omega)
  · split
    · exact (RLike.refl s).mono (by omega)
    · exact ⟨rfl, rfl, rfl, rfl, Int.le_refl _, by simp; omega, rfl, by simp, rfl⟩
theorem like_doesS (s : RS) (t : Nat) (i : InstrD) : RLike s (R.doesS s t i) 1 := by
  unfold R.doesS
  split
  · exact ⟨rfl, rfl, rfl, by simp, by simp; omega, by simp, rfl, rfl, rfl⟩
  split
  · exact (like_modify _ _ _).mono (by omega)
  split
  · exact like_beginW _ _ _ _ _
  split
  · exact like_lockS _ _ _ _
  split
  · exact like_unlockS _ _ _
  split
  · exact like_downS _ _ _ _
  split
  · exact like_upS _ _
  split
  · exact like_sendS _ _ _
  split
  · exact like_recvS _ _ _ _
  · exact (RLike.refl s).mono (by omega)
theorem like_stop (s : RS) (t : Nat) (h : s.owner.length ≤ 8) : RLike s (R.stop s t) 9 := by
  have h1 : RLike s (R.asleep (R.unlocksTo (R.stop0 s t) t s.owner.length) t) 8 := by
    have h0 : RLike s (R.stop0 s t) 0 := like_modify _ _ _
    have h2 : RLike (R.unlocksTo (R.stop0 s t) t s.owner.length) (R.asleep (R.unlocksTo (R.stop0 s t) t s.owner.length) t) 0 := like_modify _ _ _
    exact ((h0.trans (like_unlocksTo _ t _)).trans h2).mono (by omega)
  unfold R.stop
  split
  · exact (h1.trans (like_wake _ t)).mono (by omega)
  · exact h1.mono (by omega)
theorem like_toAt (s : RS) (t : Nat) (v : Int) : RLike s (R.toAt s t v) 0 := like_modify _ _ _
theorem like_toLast (s : RS) (t : Nat) (v : Int) : RLike s (R.toLast s t v) 0 := like_modify _ _ _
theorem like_actS (s : RS) (t : Nat) (h : s.owner.length ≤ 8) : RLike s (R.actS s t) 9 := by
  unfold R.actS
  split
  · exact like_stop s t h
  split
  · split
    · exact (like_toAt _ _ _).mono (by omega)
    · exact (like_toAt _ _ _).mono (by omega)
  · exact (((like_toAt s t _).trans (like_doesS _ t _)).trans (like_toLast _ t _)).mono (by omega)
/-- Facts on lengths go over to a kernel that is like it. -/
theorem RIns.like {s s' : RS} {n : Int} {i : InstrD} (h : RIns s i) (l : RLike s s' n) : RIns s' i :=
  ⟨h.op0, h.op1, by rw [l.len]; exact h.prio, h.sleep, by rw [l.own]; exact h.mtx, by rw [l.cnt]; exact h.sem, by rw [l.box]; exact h.que, h.wait⟩
theorem RLinks.toAt {s : RS} (h : RLinks s) (t : Nat) (v : Int) : RLinks (R.toAt s t v) := by
  refine ⟨fun i hi => ?_, fun i hi hf => ?_⟩
  · have h1 := h.own i hi
    have e : (R.toAt s t v).T.length = s.T.length := by simp [R.toAt]
    rw [e]
    exact h1
  · have hi' : i < s.T.length := by simpa [R.toAt] using hi
    have e : (R.toAt s t v).T[i].for_ = s.T[i].for_ ∧ (R.toAt s t v).T[i].of_ = s.T[i].of_ := by
      simp only [R.toAt, List.getElem_modify]
      split <;> exact ⟨rfl, rfl⟩
    rw [e.1] at hf
    rw [e.2]
    exact h.of_ i hi' hf
theorem RStore.toAt {s : RS} (h : RStore s) (t : Nat) (v : Int) : RStore (R.toAt s t v) := ⟨h.c4, h.cs, h.cb, h.q4, h.qs, h.qb⟩
/-- Threads at work: where they stand, and codes that may be. -/
structure RCode (s : RS) : Prop where
  at_ : ∀ t (ht : t < s.T.length), 0 ≤ s.T[t].at_ ∧ s.T[t].at_ ≤ 32
  ended : ∀ t (ht : t < s.T.length), 0 ≤ s.T[t].ended ∧ s.T[t].ended ≤ 1000000001
  code : ∀ t (ht : t < s.set.threads.length), s.set.threads[t].code.length ≤ 32 ∧ ∀ i ∈ s.set.threads[t].code, RIns s i
end Go.Proofs.Ytbkfildnijjioab

/-
  Walks over package donateref: Pick.
-/
namespace Go.Proofs.Ytbkfildnijjioab
open Go.RowKit
theorem good_settle {s : RS} (g : RGood s) : RGood (R.settle s) := by
  have e : (R.settle s).T.length = s.T.length := by
    show (R.settleT (R.levels s) s.T s.set.workers.toNat).length = _
    rw [R.settleT_length]
  exact ⟨by rw [e]; exact g.len, by rw [e]; exact g.pos, by rw [e]; exact g.few, g.wk0, g.wk1, g.own, g.mfew, g.now0, g.now1, g.now2, g.nxt0, g.nxt1, g.off⟩
end Go.Proofs.Ytbkfildnijjioab

/-
  What holds of the document's kernel behind every step: the steps.
-/
namespace Go.Proofs.Ytbkfildnijjioab
theorem settle_all {P : Nat → RT → Prop} {l : List Int} {T : List RT} {n : Nat} (h : AllT P T) (hP : ∀ t x w, P t x → P t { x with wkr := w }) : AllT (fun t x => P t x ∧ (0 ≤ x.wkr → x.awake = true)) (R.settleT l T n) := by
  intro t ht
  have ht' : t < T.length := by rw [R.settleT_length] at ht; exact ht
  obtain ⟨w, hw, ha⟩ := settle_th l T n t ht'
  rw [← th_ext ht, hw]
  have hp := h t ht'
  rw [← th_ext ht'] at hp
  exact ⟨hP t _ w hp, ha⟩
theorem TOk.wkr {S : SetD} {now : Int} {nO t : Nat} {x : RT} (h : TOk S now nO t x) (w : Int) : TOk S now nO t { x with wkr := w } := ⟨h.at0, h.at1, h.e0, h.e1, h.r0, h.aw, h.fw, h.id, h.of1, h.fr⟩
theorem TOk.awoken {S : SetD} {now : Int} {nO t : Nat} {x : RT} (h : TOk S now nO t x) (hf : x.for_ ≠ 0) (c n : Int) : TOk S now nO t { x with for_ := 0, of_ := 0, until_ := 0, last := c, awake := true, tick := n } :=
  ⟨h.at0, h.at1, h.e0, h.e1, h.r0, fun _ => (h.fw hf).1, fun hh => absurd rfl hh, fun hh => (by cases hh), fun hh => (by cases hh), by simp⟩
theorem TOk.base {S : SetD} {now : Int} {nO t : Nat} {x : RT} (h : TOk S now nO t x) (w : Int) : TOk S now nO t { x with base := w } := ⟨h.at0, h.at1, h.e0, h.e1, h.r0, h.aw, h.fw, h.id, h.of1, h.fr⟩
theorem TOk.got {S : SetD} {now : Int} {nO t : Nat} {x : RT} (h : TOk S now nO t x) (w : Int) : TOk S now nO t { x with got := w } := ⟨h.at0, h.at1, h.e0, h.e1, h.r0, h.aw, h.fw, h.id, h.of1, h.fr⟩
theorem TOk.last {S : SetD} {now : Int} {nO t : Nat} {x : RT} (h : TOk S now nO t x) (w : Int) : TOk S now nO t { x with last := w } := ⟨h.at0, h.at1, h.e0, h.e1, h.r0, h.aw, h.fw, h.id, h.of1, h.fr⟩
theorem TOk.tick {S : SetD} {now : Int} {nO t : Nat} {x : RT} (h : TOk S now nO t x) (w : Int) : TOk S now nO t { x with tick := w } := ⟨h.at0, h.at1, h.e0, h.e1, h.r0, h.aw, h.fw, h.id, h.of1, h.fr⟩
theorem TOk.at_ {S : SetD} {now : Int} {nO t : Nat} {x : RT} (h : TOk S now nO t x) (w : Int) (h0 : 0 ≤ w) (h1 : w ≤ R.codeLen S t) : TOk S now nO t { x with at_ := w } := ⟨h0, h1, h.e0, h.e1, h.r0, h.aw, h.fw, h.id, h.of1, h.fr⟩
theorem TOk.waits {S : SetD} {now : Int} {nO t : Nat} {x : RT} (h : TOk S now nO t x) (ha : x.awake = true) (what of_ u n : Int) (h1 : 1 ≤ what) (h4 : what ≤ 4) (ho : what = 1 → 0 ≤ of_ ∧ of_ < nO) :
    TOk S now nO t { x with awake := false, wkr := -1, for_ := what, of_ := of_, until_ := u, since := n } :=
  ⟨h.at0, h.at1, h.e0, h.e1, h.r0, fun hh => (by cases hh), fun _ => ⟨h.aw ha, rfl⟩, fun _ hh => by have : what = 0 := hh; omega, ho, by simp; omega⟩
theorem R.firstTo_spec (s : RS) (what of_ : Int) (l : List Int) (k : Nat) (h : 0 ≤ R.firstTo s what of_ l k) : (R.th s.T (R.firstTo s what of_ l k).toNat).for_ = what ∧ (R.th s.T (R.firstTo s what of_ l k).toNat).of_ = of_ := by
  induction k with
  | zero => simp [R.firstTo] at h
  | succ k ih =>
    unfold R.firstTo at h ⊢
    by_cases h1 : (R.th s.T k).for_ ≠ what ∨ (R.th s.T k).of_ ≠ of_
    · rw [if_pos h1] at h ⊢
      exact ih h
    · rw [if_neg h1] at h ⊢
      have h1' : (R.th s.T k).for_ = what ∧ (R.th s.T k).of_ = of_ := by
        constructor
        · exact Decidable.byContradiction fun hh => h1 (.inl hh)
        · exact Decidable.byContradiction fun hh => h1 (.inr hh)
      by_cases h2 : R.namedTo l (k : Int) l.length = true
      · rw [if_pos h2] at h ⊢
        exact ih h
      · rw [if_neg h2] at h ⊢
        by_cases h3 : R.firstTo s what of_ l k < 0
        · rw [if_pos h3]
          simpa using h1'
        · rw [if_neg h3] at h ⊢
          by_cases h4 : R.goesFirst s k (R.firstTo s what of_ l k).toNat = true
          · rw [if_pos h4]
            simpa using h1'
          · rw [if_neg h4]
            exact ih (by omega)
theorem endW_all {Q : Nat → RT → Prop} {s : RS} {t : Nat} {c : Int} (h : AllT Q s.T) (step : ∀ (ht : t < s.T.length) (n : Int), Q t s.T[t] → Q t { s.T[t] with for_ := 0, of_ := 0, until_ := 0, last := c, awake := true, tick := n }) : AllT Q (R.endW s t c).T := by
  have e : (R.endW s t c).T = s.T.modify t (fun x => { x with for_ := 0, of_ := 0, until_ := 0, last := c, awake := true, tick := s.next + 1 }) := by
    unfold R.endW R.wake
    simp only [List.modify_modify_eq]
    rfl
  rw [e]
  exact h.modify (fun _ _ _ hx => hx) (fun hl hx => step hl _ hx)
theorem give_all {Q : Nat → RT → Prop} {s : RS} {what of_ : Int} (h : AllT Q s.T) (step : ∀ (u : Nat) (x : RT) (n : Int), Q u x → x.for_ = what → Q u { x with for_ := 0, of_ := 0, until_ := 0, last := 0, awake := true, tick := n }) : AllT Q (R.giveS s what of_).T := by
  unfold R.giveS
  split
  · rename_i h0
    refine endW_all h fun ht n hx => step _ _ n hx ?_
    have hs := R.firstTo_spec s what of_ [] s.T.length h0
    have e : R.firstTo s what of_ [] s.T.length = R.giveT s what of_ := rfl
    rw [e, th_ext ht] at hs
    exact hs.1
  · exact h
theorem giveT_bd (s : RS) (what of_ : Int) : -1 ≤ R.giveT s what of_ ∧ R.giveT s what of_ < s.T.length := R.firstTo_bd s what of_ [] s.T.length
def OwnOk (s : RS) : Prop := ∀ i (hi : i < s.owner.length), -1 ≤ s.owner[i] ∧ s.owner[i] < s.T.length
theorem OwnOk.set {s : RS} (h : OwnOk s) (k : Nat) (v : Int) (h0 : -1 ≤ v) (h1 : v < s.T.length) : ∀ i (hi : i < (s.owner.set k v).length), -1 ≤ (s.owner.set k v)[i] ∧ (s.owner.set k v)[i] < s.T.length := by
  intro i hi
  rw [List.getElem_set]
  split
  · exact ⟨h0, h1⟩
  · exact h i (by simpa using hi)
theorem unlockS_own {s : RS} (h : OwnOk s) (t k : Nat) : OwnOk (R.unlockS s t k) := by
  have hb := giveT_bd s 1 (k : Int)
  unfold R.unlockS
  split
  · intro i hi
    have hl := (giveS_parts s 1 (k : Int)).2.2.2.1
    have := h.set k _ hb.1 hb.2 i hi
    refine ⟨this.1, ?_⟩
    have h2 := this.2
    show _ < ((R.giveS s 1 (k : Int)).T.length : Int)
    rw [hl]
    exact h2
  · exact h
theorem unlockS_all {Q : Nat → RT → Prop} {s : RS} (h : AllT Q s.T) (t k : Nat) (step : ∀ (u : Nat) (x : RT) (n : Int), Q u x → x.for_ = 1 → Q u { x with for_ := 0, of_ := 0, until_ := 0, last := 0, awake := true, tick := n }) : AllT Q (R.unlockS s t k).T := by
  unfold R.unlockS
  split
  · exact give_all (of_ := (k : Int)) h step
  · exact h
theorem unlocksTo_all {Q : Nat → RT → Prop} {s : RS} (h : AllT Q s.T) (ho : OwnOk s) (t k : Nat) (step : ∀ (u : Nat) (x : RT) (n : Int), Q u x → x.for_ = 1 → Q u { x with for_ := 0, of_ := 0, until_ := 0, last := 0, awake := true, tick := n }) : AllT Q (R.unlocksTo s t k).T ∧ OwnOk (R.unlocksTo s t k) := by
  induction k with
  | zero => exact ⟨h, ho⟩
  | succ k ih =>
    unfold R.unlocksTo
    exact ⟨unlockS_all ih.1 t k step, unlockS_own ih.2 t k⟩
end Go.Proofs.Ytbkfildnijjioab
