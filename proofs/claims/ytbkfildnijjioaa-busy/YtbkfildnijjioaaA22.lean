import Derived.Test.YtbkfildnijjioaaA18
import Derived.Test.YtbkfildnijjioaaA19
import Derived.Test.YtbkfildnijjioaaA20
import Derived.Test.YtbkfildnijjioaaA21
import Derived.Test.YtbkfildnijjioaaA15
import Derived.Test.YtbkfildnijjioaaA12
/-
  P5, P6: as many workers are busy as there are awake threads for them; whoever stands back is no more urgent.
-/
namespace Go.Proofs.Ytbkfildnijjioaa
namespace R
theorem countP_range_sum (n : Nat) (p : Nat → Bool) : (List.range (n + 1)).countP p = (List.range n).countP p + if p n = true then 1 else 0 := by
  rw [List.range_succ, List.countP_append]
  by_cases h : p n = true <;> simp [h]
/-- Of a list of thread numbers, each at most once: how many there are. -/
theorem count_nums (l : List Int) (n : Nat) (hb : ∀ x ∈ l, x < (n : Int)) (h1 : ∀ t : Nat, t < n → l.count (t : Int) ≤ 1) : l.countP (fun x => decide (0 ≤ x)) = (List.range n).countP (fun t : Nat => decide ((t : Int) ∈ l)) := by
  have key : ∀ k : Nat, k ≤ n → l.countP (fun x => decide (0 ≤ x) && decide (x < (k : Int))) = (List.range k).countP (fun t : Nat => decide ((t : Int) ∈ l)) := by
    intro k
    induction k with
    | zero =>
      intro _
      rw [List.range_zero, List.countP_nil, List.countP_eq_zero]
      intro x _
      simp
    | succ k ih =>
      intro hk
      rw [countP_range_sum, ← ih (by omega)]
      have hsplit : ∀ l : List Int, l.countP (fun x => decide (0 ≤ x) && decide (x < ((k + 1 : Nat) : Int))) = l.countP (fun x => decide (0 ≤ x) && decide (x < (k : Int))) + l.count (k : Int) := by
        intro l
        induction l with
        | nil => rfl
        | cons a l ih2 =>
          rw [List.countP_cons, List.countP_cons, List.count_cons, ih2]
          simp only [Bool.and_eq_true, decide_eq_true_eq, beq_iff_eq]
          repeat' split
          all_goals omega
      rw [hsplit]
      have hc := h1 k (by omega)
      by_cases hm : (k : Int) ∈ l
      · have := List.count_pos_iff.2 hm
        simp [hm]
        omega
      · have := List.count_eq_zero.2 hm
        simp [hm, this]
  have e := key n (Nat.le_refl _)
  rw [← e]
  refine List.countP_congr fun x hx => ?_
  have := hb x hx
  simp [this]
section
variable {s : RS} {ws : List Int}
theorem running_ws (h : Ln.Wk s.set.workers.toNat ws s.T) : running s = ws := by
  apply List.ext_getElem
  · simp [running, h.len]
  · intro i h1 h2
    have := h.on i h2
    simp [running, this]
/-- Who runs: each thread on one worker at the most. -/
theorem running_mem (h : Ln.Wk s.set.workers.toNat ws s.T) (t : Nat) (ht : t < s.T.length) : (t : Int) ∈ running s ↔ 0 ≤ (R.th s.T t).wkr := by
  rw [running_ws h, th_ext ht]
  constructor
  · intro hm
    obtain ⟨w, hw, e⟩ := List.mem_iff_getElem.1 hm
    have := (h.eq w hw t ht).1 e
    omega
  · intro h0
    have hb := h.tb t ht
    obtain ⟨w, hw⟩ := Int.eq_ofNat_of_zero_le h0
    have hwl : w < ws.length := by rw [h.len]; omega
    exact List.mem_iff_getElem.2 ⟨w, hwl, (h.eq w hwl t ht).2 hw⟩
theorem running_once (h : Ln.Wk s.set.workers.toNat ws s.T) (t : Nat) (ht : t < s.T.length) : (running s).count (t : Int) ≤ 1 := by
  rw [running_ws h]
  have hp : ws.Pairwise (fun a b => ¬ (a = (t : Int) ∧ b = (t : Int))) := by
    rw [List.pairwise_iff_getElem]
    intro i j hi hj hij ⟨e1, e2⟩
    have a := (h.eq i hi t ht).1 e1
    have b := (h.eq j hj t ht).1 e2
    omega
  clear h
  induction ws with
  | nil => simp
  | cons a l ih =>
    obtain ⟨h1, h2⟩ := List.pairwise_cons.1 hp
    rw [List.count_cons]
    by_cases e : a = (t : Int)
    · have : (t : Int) ∉ l := fun hm => h1 _ hm ⟨e, rfl⟩
      rw [List.count_eq_zero.2 this]
      split <;> omega
    · simp [e]
      exact ih h2
theorem running_bd (h : Ln.Wk s.set.workers.toNat ws s.T) : ∀ x ∈ running s, -1 ≤ x ∧ x < (s.T.length : Int) := by
  rw [running_ws h]
  intro x hx
  obtain ⟨w, hw, rfl⟩ := List.mem_iff_getElem.1 hx
  exact h.wb w hw
/-- How many are busy. -/
theorem busy_count {tk : List Nat} (h : Ln.Wk s.set.workers.toNat ws s.T) (k : Ln.TkOk s tk) (x : Seated s) :
    (running s).countP (fun x => decide (0 ≤ x)) = min s.set.workers.toNat ((List.range s.T.length).countP (fun t => (R.th s.T t).awake)) := by
  rw [count_nums (running s) s.T.length (fun y hy => (running_bd h y hy).2) (fun t ht => running_once h t ht)]
  have st := k.strict
  have ag := k.agrees
  have irr : ∀ a, Ln.fine (R.Level s) (Ln.posOf tk) a a = false := Ln.fine_irr _ _
  have e1 : (List.range s.T.length).countP (fun t : Nat => decide ((t : Int) ∈ running s)) = (List.range s.T.length).countP (fun t => decide (t ∈ Ln.chosen (Ln.fine (R.Level s) (Ln.posOf tk)) s.T s.set.workers.toNat)) := by
    refine List.countP_congr fun t ht => ?_
    have ht' : t < s.T.length := by simpa using ht
    rw [decide_eq_true_iff, decide_eq_true_iff, running_mem h t ht', x t ht', Ln.mem_chosen st irr ag t ht']
  rw [e1]
  have nd : (Ln.chosen (Ln.fine (R.Level s) (Ln.posOf tk)) s.T s.set.workers.toNat).Nodup := (Ln.line_nodup _ _ _).sublist (List.take_sublist _ _)
  have hlt : ∀ t ∈ Ln.chosen (Ln.fine (R.Level s) (Ln.posOf tk)) s.T s.set.workers.toNat, t < s.T.length := fun t ht => (Ln.line_mem.1 (List.mem_of_mem_take ht)).1
  have e2 : (List.range s.T.length).countP (fun t => decide (t ∈ Ln.chosen (Ln.fine (R.Level s) (Ln.posOf tk)) s.T s.set.workers.toNat)) = (Ln.chosen (Ln.fine (R.Level s) (Ln.posOf tk)) s.T s.set.workers.toNat).length := by
    rw [List.countP_eq_length_filter]
    apply Nat.le_antisymm
    · exact Ln.nodup_le' _ _ (List.nodup_range.sublist List.filter_sublist) (fun t ht => by simpa using (List.mem_filter.1 ht).2)
    · exact Ln.nodup_le' _ _ nd (fun t ht => List.mem_filter.2 ⟨by simpa using hlt t ht, by simpa using ht⟩)
  rw [e2]
  unfold Ln.chosen
  rw [List.length_take, (Ln.line_perm _ _ _).length_eq, List.countP_eq_length_filter]
  rfl
theorem busy_ok {tk : List Nat} (h : Ln.Wk s.set.workers.toNat ws s.T) (k : Ln.TkOk s tk) (x : Seated s) :
    (running s).countP (fun x => decide (0 ≤ x)) = (List.range s.T.length).countP (fun t => (R.th s.T t).awake) ∨ ((running s).countP (fun x => decide (0 ≤ x)) = s.set.workers.toNat ∧ (running s).countP (fun x => decide (0 ≤ x)) < (List.range s.T.length).countP (fun t => (R.th s.T t).awake)) := by
  rw [busy_count h k x]
  omega
/-- Whoever stands back is no more urgent than any that runs. -/
theorem ready_low (x : Seated s) (t u : Nat) (ht : t < s.T.length) (hu : u < s.T.length) (ha : (R.th s.T t).awake = true) (hn : (R.th s.T t).wkr < 0) (hr : 0 ≤ (R.th s.T u).wkr) : Level s t ≤ Level s u := by
  have h1 : place (levels s) s.T (s.set.workers.toNat : Int) t = (s.set.workers.toNat : Int) := Classical.not_not.1 fun hc => by have := (x t ht).2 hc; omega
  have h2 := (x u hu).1 hr
  apply Int.not_lt.1
  intro hlt
  have lv : ∀ v, v < s.T.length → (levels s).getD v 0 = Level s v := fun v hv => by simp [levels, List.getD, hv]
  have hrk : rank (levels s) s.T t ≤ rank (levels s) s.T u := by
    unfold rank rankTo
    apply List.countP_mono_left
    intro v hv hah
    have hv' : v < s.T.length := by simpa using hv
    unfold ahead at hah ⊢
    rw [lv v hv', lv t ht] at hah
    rw [lv v hv', lv u hu]
    simp at hah ⊢
    refine ⟨hah.1, .inl ?_⟩
    rcases hah.2 with h3 | h3 <;> omega
  unfold place at h1 h2
  rw [if_pos ha] at h1
  split at h2
  · split at h1 <;> split at h2 <;> omega
  · exact h2 rfl
end
end R
end Go.Proofs.Ytbkfildnijjioaa

/-
  Busy: what the law reckons, in plain words.
-/
namespace Go.Proofs.Ytbkfildnijjioaa
namespace R
theorem Level_top {s : RS} (i : RInv s) (x : Ext0 s) (t : Nat) (ht : t < s.T.length) : Level s t ≤ 255 := by
  have hown : ∀ t, t < s.T.length → ¬ 256 ≤ own s t := by
    intro t ht h
    rcases (le_own s (fun _ => 0) t 256 s.owner.length).1 h with h1 | ⟨m, hm, _, hx, hy⟩
    · have := x.low t ht; omega
    · have hk : m < s.set.mutexes.length := by rw [← i.good.own]; exact hm
      have := badOr_good (ok_parts i.ok).2.1 s.set.mutexes[m] (List.getElem_mem hk)
      have e : s.set.mutexes.getD m pair0 = s.set.mutexes[m] := by simp [List.getD, hk]
      rw [e] at hx hy
      unfold P3.mutexP P3.mutexB at this
      rw [decide_eq_true_iff] at this
      omega
  have key : ∀ d t, t < s.T.length → ¬ 256 ≤ level s d t := by
    intro d
    induction d with
    | zero => exact hown
    | succ d ih =>
      intro t ht h
      rcases (le_level s d t 256).1 h with h1 | ⟨u, hu, h1⟩
      · exact hown t ht h1
      · exact ih u hu.1 h1
  have := key s.T.length t ht
  unfold Level
  omega
/-- How often each thread is told among the first k workers. -/
def onTo (run : List Int) (n k : Nat) : List Int := (List.range n).map fun t : Nat => (((run.take k).count (t : Int) : Nat) : Int)
def busyTo (run : List Int) (k : Nat) : Nat := (run.take k).countP fun x => decide (0 ≤ x)
def leastTo (lv : Nat → Int) (run : List Int) : Nat → Int
  | 0 => 255
  | k + 1 => if run.getD k (-1) < 0 then leastTo lv run k else if lv (run.getD k (-1)).toNat < leastTo lv run k then lv (run.getD k (-1)).toNat else leastTo lv run k
theorem onTo_length (run : List Int) (n k : Nat) : (onTo run n k).length = n := by simp [onTo]
theorem onTo_zero (run : List Int) (n : Nat) : onTo run n 0 = List.replicate n 0 := by
  apply List.ext_getElem <;> simp [onTo]
theorem onTo_get (run : List Int) (n k t : Nat) (ht : t < n) : (onTo run n k).getD t 0 = (((run.take k).count (t : Int) : Nat) : Int) := by simp [onTo, List.getD, ht]
theorem take_snoc (run : List Int) (k : Nat) (hk : k < run.length) : run.take (k + 1) = run.take k ++ [run[k]] := List.take_succ_eq_append_getElem hk
theorem onTo_skip (run : List Int) (n k : Nat) (hk : k < run.length) (h : run[k] = -1) : onTo run n (k + 1) = onTo run n k := by
  unfold onTo
  rw [take_snoc run k hk, h]
  refine List.map_congr_left fun t _ => ?_
  rw [List.count_append]
  have : ¬ (-1 : Int) = (t : Int) := by omega
  simp [this]
theorem onTo_add (run : List Int) (n k t : Nat) (hk : k < run.length) (ht : t < n) (h : run[k] = (t : Int)) : onTo run n (k + 1) = (onTo run n k).set t ((onTo run n k).getD t 0 + 1) := by
  apply List.ext_getElem
  · simp [onTo]
  · intro i h1 h2
    have hi : i < n := by simpa [onTo] using h1
    have eg := onTo_get run n k t ht
    have eL : ∀ k' (h : i < (onTo run n k').length), (onTo run n k')[i] = (((run.take k').count (i : Int) : Nat) : Int) := fun k' h => by simp [onTo]
    rw [List.getElem_set, eL, eL]
    generalize (onTo run n k).getD t 0 = z at *
    subst eg
    rw [take_snoc run k hk, h, List.count_append]
    by_cases e : t = i
    · subst e; simp
    · have : ¬ (t : Int) = (i : Int) := by omega
      simp [e, this]
theorem busyTo_skip (run : List Int) (k : Nat) (hk : k < run.length) (h : run[k] = -1) : busyTo run (k + 1) = busyTo run k := by
  unfold busyTo
  rw [take_snoc run k hk, h, List.countP_append]
  simp
theorem busyTo_add (run : List Int) (k t : Nat) (hk : k < run.length) (h : run[k] = (t : Int)) : busyTo run (k + 1) = busyTo run k + 1 := by
  unfold busyTo
  rw [take_snoc run k hk, h, List.countP_append]
  have : (0 : Int) ≤ (t : Int) := by omega
  simp [this]
theorem busyTo_le (run : List Int) (k : Nat) : busyTo run k ≤ k := by
  unfold busyTo
  have := List.countP_le_length (p := fun x : Int => decide (0 ≤ x)) (l := run.take k)
  have h2 := List.length_take_le k run
  omega
theorem leastTo_skip (lv : Nat → Int) (run : List Int) (k : Nat) (hk : k < run.length) (h : run[k] = -1) : leastTo lv run (k + 1) = leastTo lv run k := by
  have e : run.getD k (-1) = run[k] := by simp [List.getD, hk]
  show (if run.getD k (-1) < 0 then _ else _) = _
  rw [e, h, if_pos (by decide)]
theorem leastTo_add (lv : Nat → Int) (run : List Int) (k t : Nat) (hk : k < run.length) (h : run[k] = (t : Int)) : leastTo lv run (k + 1) = if lv t < leastTo lv run k then lv t else leastTo lv run k := by
  have e : run.getD k (-1) = run[k] := by simp [List.getD, hk]
  have e2 : ((t : Int)).toNat = t := by omega
  show (if run.getD k (-1) < 0 then _ else _) = _
  rw [e, h, if_neg (by omega), e2]
theorem leastTo_ge (lv : Nat → Int) (run : List Int) (v : Int) (hv : v ≤ 255) (k : Nat) (h : ∀ t : Nat, (t : Int) ∈ run → v ≤ lv t) : v ≤ leastTo lv run k := by
  induction k with
  | zero => exact hv
  | succ k ih =>
    unfold leastTo
    split
    · exact ih
    · rename_i h0
      have hk : k < run.length := by
        rcases Nat.lt_or_ge k run.length with h1 | h1
        · exact h1
        · exfalso; apply h0; simp [List.getD, h1]
      have e : run.getD k (-1) = run[k] := by simp [List.getD, hk]
      rw [e] at h0 ⊢
      have hm : ((run[k].toNat : Nat) : Int) ∈ run := by
        have : ((run[k].toNat : Nat) : Int) = run[k] := by omega
        rw [this]
        exact List.getElem_mem hk
      have := h _ hm
      split <;> omega
/-- How each thread stands. -/
theorem seat_case {s : RS} {ws : List Int} (i : RInv s) (x : Ext s) (h : Ln.Wk s.set.workers.toNat ws s.T) (t : Nat) (ht : t < s.T.length) :
    (stateOf (R.th s.T t) = 3 ∧ (onTo (running s) s.T.length (running s).length).getD t 0 = 0 ∧ (R.th s.T t).rel ≠ (R.th s.T t).ended ∧ (R.th s.T t).awake = false) ∨
    (stateOf (R.th s.T t) = 2 ∧ (onTo (running s) s.T.length (running s).length).getD t 0 = 1 ∧ (R.th s.T t).rel ≠ (R.th s.T t).ended ∧ (R.th s.T t).awake = true) ∨
    (stateOf (R.th s.T t) = 1 ∧ (onTo (running s) s.T.length (running s).length).getD t 0 = 0 ∧ (R.th s.T t).rel ≠ (R.th s.T t).ended ∧ (R.th s.T t).awake = true ∧ Level s t ≤ leastTo (Level s) (running s) (running s).length) ∨
    (stateOf (R.th s.T t) = 0 ∧ (onTo (running s) s.T.length (running s).length).getD t 0 = 0 ∧ (R.th s.T t).rel = (R.th s.T t).ended ∧ (R.th s.T t).awake = false) := by
  have hon : (onTo (running s) s.T.length (running s).length).getD t 0 = if 0 ≤ (R.th s.T t).wkr then 1 else 0 := by
    rw [onTo_get _ _ _ _ ht, List.take_length]
    have h1 := running_once h t ht
    have h2 := running_mem h t ht
    by_cases hw : 0 ≤ (R.th s.T t).wkr
    · rw [if_pos hw]
      have := List.count_pos_iff.2 (h2.2 hw)
      omega
    · rw [if_neg hw]
      have := List.count_eq_zero.2 (fun hm => hw (h2.1 hm))
      omega
  have tok := i.thr t ht
  have wk := i.wk t ht
  rw [← th_ext ht] at tok wk
  rw [hon]
  unfold stateOf
  by_cases hf : (R.th s.T t).for_ ≠ 0
  · left
    have h1 := tok.fw hf
    have hw : ¬ 0 ≤ (R.th s.T t).wkr := fun hh => by have := wk hh; rw [h1.2] at this; cases this
    rw [if_pos hf, if_neg hw]
    exact ⟨rfl, rfl, by omega, h1.2⟩
  · have hf0 : (R.th s.T t).for_ = 0 := Classical.not_not.1 hf
    rw [if_neg hf]
    by_cases hw : 0 ≤ (R.th s.T t).wkr
    · right; left
      have h1 := wk hw
      have h2 := tok.aw h1
      rw [if_pos hw, if_pos hw]
      exact ⟨rfl, rfl, by omega, h1⟩
    · rw [if_neg hw, if_neg hw]
      by_cases ha : (R.th s.T t).awake = true
      · right; right; left
        have h2 := tok.aw ha
        rw [if_pos ha]
        refine ⟨rfl, rfl, by omega, ha, ?_⟩
        refine leastTo_ge _ _ _ (Level_top i x.toExt0 t ht) _ (fun u hu => ?_)
        have hul : u < s.T.length := by have := (running_bd h _ hu).2; omega
        exact ready_low x.seat t u ht hul ha (by omega) ((running_mem h u hul).1 hu)
      · have ha' : (R.th s.T t).awake = false := by simpa using ha
        right; right; right
        rw [if_neg ha]
        exact ⟨rfl, rfl, (tok.id ha' hf0).symm, ha'⟩
end R
end Go.Proofs.Ytbkfildnijjioaa

/-
  Walks over package donatekeep: seats.
-/
namespace Go.Proofs.Ytbkfildnijjioaa
open Go.RowKit
section
variable {PK : KP} {B : Nat} {w : World} {wb kb : Nat} {P : Nat → Prop} {h : WH} {d : WD} {s : RS}
theorem KWS.run (k : KWS PK B w wb kb P h d s) : ∃ g cap, w.cell? ⟨wb, 13, none⟩ = some (.slice (some ⟨g, 0, none⟩) (R.running s).length cap) ∧ g < w.heap.size ∧ ∀ i (hi : i < (R.running s).length), w.cell? ⟨g, i, none⟩ = some (.int .i64 (R.running s)[i]) := by
  have c := k.k.m.blk.cell 13
  simp [wCells] at c
  have hr := k.k.m.run
  rw [k.wd.run] at hr
  have hw0 := k.i.good.wk0
  obtain ⟨g, cap, hv, hg, hc, _⟩ := row_at hr (by rw [running_len]; omega)
  exact ⟨g, cap, by rw [c, hv], hg, hc⟩
set_option maxRecDepth 100000 in
set_option maxHeartbeats 4000000 in
theorem wSeats_any (c : CAll PK) (k : KWS PK B w wb kb P h d s) :
    Calls Try.prog 9 #[.pointer (some ⟨wb, 0, none⟩)] w fun e w' => e = .returned (.bool true) ∧ Below w.heap.size w w' := by
  have hfew := k.i.good.few
  have hpos := k.i.good.pos
  have hw8 := k.i.good.wk1
  have hw0 := k.i.good.wk0
  obtain ⟨ws, tk, wt, wk, ax⟩ := c.aux k.k.pk
  have WK := hid wk
  have AX := hid ax
  have K := hid k
  have ES0 := hid k.wd.co.set
  have hrl := running_len s
  have RBD := hid (R.running_bd wk)
  obtain ⟨i3, hi3, hz30, hz31, hz32⟩ := info_parts Try.infoInt
  have HI3 := hid (And.intro hi3 (And.intro hz30 (And.intro hz31 hz32)))
  obtain ⟨g0, cap0, cv, _, _⟩ := k.view
  have SC := hid (R.seat_case k.i k.x wk)
  have BO := hid (R.busy_ok wk ax.tk k.x.seat)
  clear hi3 hz30 hz31 hz32 k wk ax
  obtain ⟨rn, hrn⟩ : ∃ x, Hid ((R.running s).length = x) := ⟨_, hid rfl⟩
  rw [hrn.out] at hrl
  have hrn8 : rn ≤ 8 := by omega
  have HRL := hid hrl
  clear hrl
  go_enter Try.func9, Try.ntmps9
  go_upto_region 3 with (at_make; refine wpList_make_full _ rfl _ _ 25 rfl w.heap.size 3 i3 (.int .i64 0) 1 Try.underlying25 HI3.out.1 HI3.out.2.1 HI3.out.2.2.1 .i64 .i64 _ _ s.T.length rfl rfl rfl rfl (by rw [HI3.out.2.2.2]; omega) (by unfold maxLen; omega) (Nat.le_refl _) ?_; intro w2 hown2 hg2; have O2 := hid hown2; have G2 := hid hg2; clear hown2 hg2)
  have hr2 : w2.ownsRow w.heap.size 3 1 (.slice (some ⟨w.heap.size, 0, none⟩) s.T.length s.T.length) s.T.length (intCells (R.onTo (R.running s) s.T.length 0)) := by
    have := O2.out
    have e : (madeCells (Value.int IntKind.i64 0).cells (s.T.length * 1)).toList = intCells (R.onTo (R.running s) s.T.length 0) := by
      rw [R.onTo_zero, Nat.mul_one]
      show (madeCells #[Value.int IntKind.i64 0] s.T.length).toList = _
      rw [toList_madeCells_one]
      simp [intCells]
    rwa [e] at this
  have R2 := hid hr2
  have hb2 : Below w.heap.size w w2 := (Below.refl _ _).grown G2.out (Nat.le_refl _) (by simp)
  have HB2 := hid hb2
  clear hr2 O2 G2 hb2 cv
  go_wp2
  go_loopw [5, 6, 7] (fun b m i wr => ∃ k : Nat, k ≤ rn ∧ i = .int .i64 k ∧ b = .int .i64 (R.busyTo (R.running s) k) ∧ m = .int .i64 (R.leastTo (R.Level s) (R.running s) k) ∧ wr.ownsRow w.heap.size 3 1 (.slice (some ⟨w.heap.size, 0, none⟩) s.T.length s.T.length) s.T.length (intCells (R.onTo (R.running s) s.T.length k)) ∧ Below w.heap.size w wr) (fun _ _ i _ => rn - (intOf i).toNat)
  case atStart => exact ⟨0, Nat.zero_le _, rfl, rfl, rfl, R2.out, HB2.out⟩
  case round =>
    obtain ⟨k, hk, rfl, rfl, rfl, hrow, hb⟩ := hrel
    have ROW := hid hrow
    have HB := hid hb
    have MK := hid (K.out.below c.fr hb)
    clear hrow hb R2 HB2
    obtain ⟨gr, cr, yr, hgr, zr⟩ := MK.out.run
    rw [hrn.out] at yr
    by_cases hkl : k < rn
    · have hkI : (k : Int) < (rn : Int) := by omega
      have hkr : k < (R.running s).length := by rw [hrn.out]; exact hkl
      have zk := zr k hkr
      have bd := RBD.out _ (List.getElem_mem hkr)
      have E1 := hid (R.onTo_skip (R.running s) s.T.length k hkr)
      have E2 := hid (R.busyTo_skip (R.running s) k hkr)
      have E3 := hid (R.leastTo_skip (R.Level s) (R.running s) k hkr)
      have E4 := hid (fun t ht => R.onTo_add (R.running s) s.T.length k t hkr ht)
      have E5 := hid (fun t => R.busyTo_add (R.running s) k t hkr)
      have E6 := hid (fun t => R.leastTo_add (R.Level s) (R.running s) k t hkr)
      have hbl := R.busyTo_le (R.running s) k
      have hlo := R.onTo_length (R.running s) s.T.length k
      generalize (R.running s)[k] = x at *
      clear zr hkr
      by_cases hno : x = -1
      · have F1 := hid (E1.out hno)
        have F2 := hid (E2.out hno)
        have F3 := hid (E3.out hno)
        subst hno
        generalize R.busyTo (R.running s) k = bz at *
        generalize R.leastTo (R.Level s) (R.running s) k = ls at *
        go_wp2
        go_roundw
        case rel => exact ⟨k + 1, by omega, by go_num, by rw [F2.out], by rw [F3.out], by rw [F1.out]; exact ROW.out, HB.out⟩
        case measure => simp [intOf]; omega
      · obtain ⟨t, rfl⟩ := Int.eq_ofNat_of_zero_le (show 0 ≤ x by omega)
        have htl : t < s.T.length := by omega
        have htI : (t : Int) < (s.T.length : Int) := by omega
        have hnn : ((t : Int) == -1) = false := by rw [beq_eq_false_iff_ne]; omega
        have F1 := hid (E4.out t htl rfl)
        have F2 := hid (E5.out t rfl)
        have F3 := hid (E6.out t rfl)
        have hx := wrow_get ROW.out hlo htl
        have fx := ROW.out.frozenAt t
        have ogt : 0 ≤ (R.onTo (R.running s) s.T.length k).getD t 0 ∧ (R.onTo (R.running s) s.T.length k).getD t 0 ≤ rn := by
          rw [R.onTo_get _ _ _ _ htl]
          have h1 := List.count_le_length (a := (t : Int)) (l := (R.running s).take k)
          have h2 := List.length_take_le k (R.running s)
          omega
        have r1 := wrow_set ROW.out t ((R.onTo (R.running s) s.T.length k).getD t 0 + 1)
        rw [← F1.out] at r1
        have R1 := hid r1
        obtain ⟨oo, hoo⟩ : ∃ y, Hid ((R.onTo (R.running s) s.T.length k).getD t 0 = y) := ⟨_, hid rfl⟩
        rw [hoo.out] at hx R1 ogt
        have HB1 : Hid (Below w.heap.size w (wr.setCell ⟨w.heap.size, t, none⟩ (.int .i64 (oo + 1)))) := HB.out.setCell (Nat.le_refl _) _
        go_upto_region 11 with fail
        generalize wr.setCell ⟨w.heap.size, t, none⟩ (.int .i64 (oo + 1)) = wT at R1 HB1 ⊢
        have MT := hid (K.out.below c.fr HB1.out)
        obtain ⟨gv, cv, cw, hgv, zv⟩ := MT.out.view
        have a2 := zv t htl 2 (by decide)
        simp [vCells] at a2
        have elv : (viewD s t).lv = R.Level s t := rfl
        rw [elv] at a2
        clear zv hgv elv r1 E1 E2 E3 E4 E5 E6 hx fx yr zk MT
        generalize R.busyTo (R.running s) k = bz at *
        generalize R.leastTo (R.Level s) (R.running s) k = ls at *
        generalize R.Level s t = lv at *
        by_cases hlt : lv < ls
        · have F3' : Hid (R.leastTo (R.Level s) (R.running s) (k + 1) = lv) := by rw [F3.out, if_pos hlt]; exact hid rfl
          go_wp2
          go_roundw
          case rel => exact ⟨k + 1, by omega, by go_num, by rw [F2.out]; go_num, by rw [F3'.out], R1.out, HB1.out⟩
          case measure => simp [intOf]; omega
        · have F3' : Hid (R.leastTo (R.Level s) (R.running s) (k + 1) = ls) := by rw [F3.out, if_neg hlt]; exact hid rfl
          have hlt' : decide (lv < ls) = false := by simpa using hlt
          go_wp2
          go_roundw
          case rel => exact ⟨k + 1, by omega, by go_num, by rw [F2.out]; go_num, by rw [F3'.out], R1.out, HB1.out⟩
          case measure => simp [intOf]; omega
    · have e : k = rn := by omega
      subst e
      clear zr hgr
      rw [hrn.out] at SC
      have BC : Hid ((R.running s).countP (fun x => decide (0 ≤ x)) = R.busyTo (R.running s) k) := by
        refine hid ?_
        unfold R.busyTo
        rw [← hrn.out, List.take_length]
      rw [BC.out] at BO
      have hbl := R.busyTo_le (R.running s) k
      have hlo := R.onTo_length (R.running s) s.T.length k
      generalize R.onTo (R.running s) s.T.length k = ol at *
      generalize R.busyTo (R.running s) k = bz at *
      generalize R.leastTo (R.Level s) (R.running s) k = ls at *
      go_wp2
      go_loopw [9, 10] (fun a i wr => ∃ t : Nat, t ≤ s.T.length ∧ i = .int .i64 t ∧ a = .int .i64 ((List.range t).countP (fun t => (R.th s.T t).awake)) ∧ wr.ownsRow w.heap.size 3 1 (.slice (some ⟨w.heap.size, 0, none⟩) s.T.length s.T.length) s.T.length (intCells ol) ∧ Below w.heap.size w wr) (fun _ i _ => s.T.length - (intOf i).toNat)
      case atStart => exact ⟨0, Nat.zero_le _, rfl, rfl, ROW.out, HB.out⟩
      case round =>
        obtain ⟨t, ht, rfl, rfl, hrow, hb⟩ := hrel
        have ROW := hid hrow
        have HB := hid hb
        have MK := hid (K.out.below c.fr hb)
        clear hrow hb
        by_cases htl : t < s.T.length
        · have htI : (t : Int) < (s.T.length : Int) := by omega
          have hx := wrow_get ROW.out hlo htl
          have hsc := SC.out t htl
          have CS := hid (R.countP_range_sum t (fun t => (R.th s.T t).awake))
          have hcl := List.countP_le_length (p := fun t => (R.th s.T t).awake) (l := List.range t)
          rw [List.length_range] at hcl
          obtain ⟨gv, cv, cw, hgv, zv⟩ := MK.out.view
          have a0 := zv t htl 0 (by decide)
          have a1 := zv t htl 1 (by decide)
          have a2 := zv t htl 2 (by decide)
          have a3 := zv t htl 3 (by decide)
          have a4 := zv t htl 4 (by decide)
          have a5 := zv t htl 5 (by decide)
          have a6 := zv t htl 6 (by decide)
          have a7 := zv t htl 7 (by decide)
          have a8 := zv t htl 8 (by decide)
          have a9 := zv t htl 9 (by decide)
          have a10 := zv t htl 10 (by decide)
          simp [vCells] at a0 a1 a2 a3 a4 a5 a6 a7 a8 a9 a10
          have e0 : R.stateOf (R.th s.T t) = (viewD s t).st := rfl
          have e2 : R.Level s t = (viewD s t).lv := rfl
          have e6 : (R.th s.T t).rel = (viewD s t).rel := rfl
          have e7 : (R.th s.T t).ended = (viewD s t).ended := rfl
          rw [e0, e2, e6, e7] at hsc
          generalize (List.range t).countP (fun t => (R.th s.T t).awake) = aw at *
          generalize (R.th s.T t).awake = awk at *
          generalize viewD s t = x at *
          obtain ⟨oo, hoo⟩ : ∃ y, Hid (ol.getD t 0 = y) := ⟨_, hid rfl⟩
          rw [hoo.out] at hx hsc
          have HSC := hid hsc
          clear zv hgv e0 e2 e6 e7 hsc hoo
          go_upto_region 19 with fail
          have hbA : Below wr.heap.size wr (wr.alloc (.cells #[.int .i64 x.st, .int .i64 x.base, .int .i64 x.lv, .int .i64 x.at_, .int .i64 x.last, .int .i64 x.got, .int .i64 x.rel, .int .i64 x.ended, .int .i64 x.for_, .int .i64 x.of_, .int .i64 x.until_] 58)) := (Below.refl _ _).alloc (Nat.le_refl _) _
          have bA := Blk.new wr #[.int .i64 x.st, .int .i64 x.base, .int .i64 x.lv, .int .i64 x.at_, .int .i64 x.last, .int .i64 x.got, .int .i64 x.rel, .int .i64 x.ended, .int .i64 x.for_, .int .i64 x.of_, .int .i64 x.until_] 58
          generalize wr.alloc (.cells #[.int .i64 x.st, .int .i64 x.base, .int .i64 x.lv, .int .i64 x.at_, .int .i64 x.last, .int .i64 x.got, .int .i64 x.rel, .int .i64 x.ended, .int .i64 x.for_, .int .i64 x.of_, .int .i64 x.until_] 58) = wA at hbA bA ⊢
          have hxA : wA.cell? ⟨w.heap.size, t, none⟩ = some (.int .i64 oo) := by
            have hl := (ownsRow_block ROW.out (g := w.heap.size) rfl).2.1
            exact (hbA.cell (p := ⟨w.heap.size, t, none⟩) hl).trans hx
          have ROWA := hid (wrow_keep ROW.out hbA)
          have HBA := hid (via HB.out HB.out.size hbA)
          have p0 := bA.cell 0
          have p2 := bA.cell 2
          have p6 := bA.cell 6
          have p7 := bA.cell 7
          simp at p0 p2 p6 p7
          clear hx a0 a1 a2 a3 a4 a5 a6 a7 a8 a9 a10 cw hbA bA MK ROW HB
          rcases HSC.out with ⟨q1, q2, q3, q4⟩ | ⟨q1, q2, q3, q4⟩ | ⟨q1, q2, q3, q4, q5⟩ | ⟨q1, q2, q3, q4⟩
          case' inl =>
            have F1 : Hid ((List.range (t + 1)).countP (fun t => (R.th s.T t).awake) = aw) := by rw [CS.out, q4]; exact hid rfl
            have q3' : (x.rel == x.ended) = false := by simpa using q3
            rw [q1] at p0
            rw [q2] at hxA
            clear q1 q2 q3 q4 HSC CS
          case' inr.inl =>
            have F1 : Hid ((List.range (t + 1)).countP (fun t => (R.th s.T t).awake) = aw + 1) := by rw [CS.out, q4]; exact hid rfl
            have q3' : (x.rel == x.ended) = false := by simpa using q3
            rw [q1] at p0
            rw [q2] at hxA
            clear q1 q2 q3 q4 HSC CS
          case' inr.inr.inl =>
            have F1 : Hid ((List.range (t + 1)).countP (fun t => (R.th s.T t).awake) = aw + 1) := by rw [CS.out, q4]; exact hid rfl
            have q3' : (x.rel == x.ended) = false := by simpa using q3
            have q5' : decide (ls < x.lv) = false := by rw [decide_eq_false_iff_not]; omega
            rw [q1] at p0
            rw [q2] at hxA
            clear q1 q2 q3 q4 q5 HSC CS
          case' inr.inr.inr =>
            have F1 : Hid ((List.range (t + 1)).countP (fun t => (R.th s.T t).awake) = aw) := by rw [CS.out, q4]; exact hid rfl
            have q3' : (x.rel == x.ended) = true := by simpa using q3
            rw [q1] at p0
            rw [q2] at hxA
            clear q1 q2 q3 q4 HSC CS
          all_goals
            go_wp2_with fail
            go_quiet (fail)
            go_wp2
            go_roundw
            case rel => exact ⟨t + 1, by omega, by go_num, by rw [F1.out]; try go_num, ownsRow_same ROWA.out fun _ _ => rfl, bdrewN HBA.out _⟩
            case measure => simp [intOf]; omega
        · have e : t = s.T.length := by omega
          subst e
          have y0 := MK.out.k.m.blk.cell 0
          simp [wCells] at y0
          rw [ES0.out] at y0
          have hbo := BO.out
          generalize (List.range s.T.length).countP (fun t => (R.th s.T t).awake) = aw at *
          have HWN : Hid (s.set.workers = (s.set.workers.toNat : Int)) := hid (by omega)
          rcases hbo with h1 | ⟨h1, h2⟩
          · subst h1
            go_wp2
            go_ret
            exact ⟨rfl, HB.out⟩
          · have g1 : ((bz : Int) == (aw : Int)) = false := by rw [beq_eq_false_iff_ne]; omega
            have g2 : ((bz : Int) == s.set.workers) = true := by rw [beq_iff_eq]; have := HWN.out; omega
            have g3 : decide ((bz : Int) < (aw : Int)) = true := by rw [decide_eq_true_iff]; omega
            have H2 := hid h2
            clear h1 h2
            go_wp2
            go_ret
            refine ⟨?_, HB.out⟩
            have h2 := H2.out
            simp [h2]
end
end Go.Proofs.Ytbkfildnijjioaa

/-
  Busy: the law's own function.
-/
namespace Go.Proofs.Ytbkfildnijjioaa
open Go.RowKit
set_option maxRecDepth 100000 in
set_option maxHeartbeats 2000000 in
theorem lawBusy_any {PK : KP} (c : CAll PK) (tv mv sv qv av : Option Addr) (tc mc sc qc ac : Nat) (S : SetD) (l : List Int) (w : World) (hS : SetIn w.heap.size w tv mv sv qv S) (hF : Fits S) (hnil : (tv = none → tc = 0) ∧ (mv = none → mc = 0) ∧ (sv = none → sc = 0) ∧ (qv = none → qc = 0)) (hl : IntsIn w.heap.size w av l) (hll : l.length ≤ 9223372036854775807) :
    Calls Try.prog 4 #[.agg #[.int .i64 S.workers, .int .i64 S.start, .slice tv S.threads.length tc, .slice mv S.mutexes.length mc, .slice sv S.sems.length sc, .slice qv S.queues.length qc], .slice av l.length ac] w fun e w' =>
      e = .returned (.bool true) ∧ Below w.heap.size w w' := by
  have HS := hid hS
  have HF := hid hF
  have HN := hid hnil
  have HL := hid hl
  clear hS hF hnil hl
  go_enter Try.func4, Try.ntmps4
  by_cases hlong : l.length ≤ 1099511627776
  · have hlI : (l.length : Int) ≤ 1099511627776 := by omega
    go_wp2_with fail
    have hb0 : Below w.heap.size w (w.alloc (.cells #[.int .i64 S.workers, .int .i64 S.start, .slice tv S.threads.length tc, .slice mv S.mutexes.length mc, .slice sv S.sems.length sc, .slice qv S.queues.length qc] 27)) := (Below.refl _ _).alloc (Nat.le_refl _) _
    have hsz0 : w.heap.size ≤ (w.alloc (.cells #[.int .i64 S.workers, .int .i64 S.start, .slice tv S.threads.length tc, .slice mv S.mutexes.length mc, .slice sv S.sems.length sc, .slice qv S.queues.length qc] 27)).heap.size := by simp
    generalize w.alloc (.cells #[.int .i64 S.workers, .int .i64 S.start, .slice tv S.threads.length tc, .slice mv S.mutexes.length mc, .slice sv S.sems.length sc, .slice qv S.queues.length qc] 27) = w0 at hb0 hsz0 ⊢
    refine (wBeginS_any c tv mv sv qv tc mc sc qc S w0 (HS.out.later hb0) HF.out HN.out).mono ?_
    rintro e w1 ⟨hb1, hcase⟩
    have HB1 := hid (via hb0 hb0.size hb1)
    have hsz1 := hb1.size
    clear hb0 hb1
    rcases hcase with ⟨_, rfl⟩ | ⟨herr, hnx, B, wb, kb, P, h, hB, rfl, ks⟩
    · go_wp2
      go_ret
      exact ⟨rfl, HB1.out⟩
    · have K1 := hid ks
      have HBB : Hid (w.heap.size ≤ B) := hid (by omega)
      clear ks hB
      go_wp2_with fail
      refine (wSeats_any c K1.out).mono ?_
      rintro e w2 ⟨rfl, hb2⟩
      have K2 := hid (K1.out.below c.fr hb2)
      have HB2 := hid (via HB1.out HB1.out.size hb2)
      clear hb2 K1
      go_wp2
      go_loopw [6, 7] (fun b i wr => ∃ (k : Nat) (s : RS) (d : WD) (P : Nat → Prop) (h : WH), k ≤ l.length ∧ b = .bool true ∧ i = .int .i64 k ∧ KWS PK B wr wb kb P h d s ∧ s.next ≤ 16 + 33 * k ∧ d.steps = k ∧ Below w.heap.size w wr) (fun _ i _ => l.length - (intOf i).toNat)
      case atStart => exact ⟨0, R.new S, firstD S, P, h, Nat.zero_le _, rfl, rfl, K2.out, by omega, rfl, HB2.out⟩
      case round =>
        obtain ⟨k, s, d, P, h, hk, rfl, rfl, hks, hnk, hst, hbk⟩ := hrel
        have KK := hid hks
        have HBK := hid hbk
        have HST := hid hst
        clear hks hbk hst K2 HB2
        by_cases hkl : k < l.length
        · obtain ⟨ab, aoff, ha, hab, hcell⟩ := HL.out k hkl
          subst ha
          have hcell' : wr.cell? ⟨ab, aoff + k, none⟩ = some (.int .i64 l[k]) := (HBK.out.cell (p := ⟨ab, aoff + k, none⟩) hab).trans hcell
          have hkI : (k : Int) < (l.length : Int) := by omega
          have hen := entry_next s l[k] KK.out.i
          have ESD := hid (stepD_steps d s l[k])
          generalize l[k] = x at *
          have ST := hid (wStepS_any c KK.out (by omega) (by rw [HST.out]; omega) (by rw [HST.out]; omega) x)
          go_wp2_with fail
          refine ST.out.mono ?_
          rintro e w3 ⟨rfl, ⟨P', h', k3⟩, hb3⟩
          have K3 := hid k3
          have HB3 := hid (HBK.out.trans (hb3.mono HBB.out))
          clear k3 hb3 hcell' ST
          go_wp2_with fail
          refine (wSeats_any c K3.out).mono ?_
          rintro e w4 ⟨rfl, hb4⟩
          have K4 := hid (K3.out.below c.fr hb4)
          have HB4 := hid (via HB3.out HB3.out.size hb4)
          clear hb4 K3 HB3
          go_wp2
          go_roundw
          case rel => exact ⟨k + 1, R.entry s x, stepD d s x, P', h', by omega, rfl, by go_num, K4.out, by omega, by rw [ESD.out, HST.out]; omega, HB4.out⟩
          case measure => simp [intOf]; omega
        · have e : k = l.length := by omega
          subst e
          go_wp2
          go_ret
          exact ⟨rfl, HBK.out⟩
  · have hlI : (1099511627776 : Int) < (l.length : Int) := by omega
    go_wp2
    go_ret
    exact ⟨rfl, (Below.refl _ _).alloc (Nat.le_refl _) _⟩
end Go.Proofs.Ytbkfildnijjioaa

/-
  Busy: the given statement out of the walk. (Written by wip/mkkeep.py.)
-/
namespace Go.Proofs.Ytbkfildnijjioaa
open Go.ChangeShapes Go.WideShapes Go.ChangeAt Go.RowKit Go.Deep

set_option maxRecDepth 100000 in
theorem busy_lifted {PK : KP} (c : CAll PK) (os : Os) (started : os.Started) (H : Type) (enc : TypeId × Value → H) :
    ReturnsInHanded {} Try.checked os 4 .any (Rows.busySpec.pre6 enc Try.prog Try.f4 Rows.busyRow.domain false) (Rows.busySpec.post enc Try.prog Try.f4 false true false false) := by
  refine returnsInHanded_of_change_sized (C := Try.checked) Try.own started (by kernel_rfl) Try.func4
    (ChangeSpec.witness6 (enc := enc) (C := Try.checked) false ⟨#[], #[.agg #[.int .i64 0, .int .i64 0, .slice none 0 0, .slice none 0 0, .slice none 0 0, .slice none 0 0], .slice none 0 0], []⟩ 8 (by kernel_rfl) (by kernel_rfl) (by kernel_rfl) (by kernel_rfl)) ?_
  intro W base args ds gs before hval0 hW _ hsz0 _
  have hval : ∀ (j : Nat) t v, Try.f4.params[j]? = some t → args[j]? = some v → Value.okWide Try.prog W .any base t v := hval0
  have hsz : (DataW.weightsEach Try.prog (Try.f4.params.toList ++ Rows.busySpec.plain.varTypes Try.prog) (ds ++ gs)).all (· ≤ reachBytes) = true := hsz0
  have hW' := hW
  obtain ⟨p, q, hA0, hV, rfl, hfz, hnd⟩ := hW
  have hA : DataW.TrodAll enc Try.prog W 0 (fun _ => true) true Try.f4.params.toList args.toList ds p := hA0
  rw [Try.params4] at hA hval hsz
  obtain ⟨v0, v1, d0, d1, p0, p1, rfl, rfl, rfl, h0, h1⟩ := trodAll_two hA
  obtain ⟨rfl, rfl⟩ := trodVars_none hV
  clear hA0 hval0 hsz0
  have hlight : Light d0 27 := by
    intro n hn
    have := List.all_eq_true.1 hsz n (DataW.weights_mem_each (j := 0) rfl rfl n hn)
    simpa using this
  have hlight1 : Light d1 25 := by
    intro n hn
    have := List.all_eq_true.1 hsz n (DataW.weights_mem_each (j := 1) rfl rfl n hn)
    simpa using this
  obtain ⟨S, tv, mv, sv, qv, tc, mc, sc, qc, hv, hin, hfit, hnil⟩ := open_set (hval 0 27 v0 rfl rfl) h0 hlight
  subst hv
  obtain ⟨av, ac, l, hv, hil, hll⟩ := open_script (hval 1 25 v1 rfl rfl) h1 hlight1
  subst hv
  unfold reachBytes at hll
  simp only [List.append_nil] at hW'
  refine (lawBusy_any c tv mv sv qv av tc mc sc qc ac S l W hin hfit hnil hil (by omega)).mono fun e W' ⟨he, hb⟩ => ?_
  subst he
  refine ⟨_, rfl, _, _, _, [], p0 ++ p1, [], hW', ?_, ?_, rfl, hb.frame _, fun h => by cases h⟩
  · exact trodAll_mk1 (shut_bool Try.underlying4 _)
  · exact trodAll_mk2 (Below.trod Try.laidOut (by kernel_rfl) (of_decide_eq_true (by kernel_rfl)) h0 hb (fun x hx => hW'.lt x (by simp; exact .inl hx))) (Below.trod Try.laidOut (by kernel_rfl) (of_decide_eq_true (by kernel_rfl)) h1 hb (fun x hx => hW'.lt x (by simp; exact .inr hx)))

theorem busy_of {PK : KP} (c : CAll PK) : Rows.BusySaid :=
  OpenClaim.holds_of_wide 4 Try.f4 rfl rfl rfl rfl rfl rfl rfl ⟨rfl, rfl, rfl, rfl, rfl⟩ rfl rfl rfl rfl rfl (by kernel_rfl) Try.func4 (by kernel_rfl)
    (of_decide_eq_true (by kernel_rfl)) (by unfold Func.isWrapper; first | (rw [if_pos (by decide +kernel)]; kernel_rfl) | (rw [if_neg (by decide +kernel)]; exact ⟨rfl, rfl⟩))
    (fun os started H enc _ => busy_lifted c os started H enc)

end Go.Proofs.Ytbkfildnijjioaa

/-
  Busy, of this program.
-/
namespace Go.Proofs.Ytbkfildnijjioaa

theorem busy_holds : Rows.BusySaid := busy_of cAll

end Go.Proofs.Ytbkfildnijjioaa
