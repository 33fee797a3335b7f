import Derived.Test.YtbkfildnijjioabA02
/-
  Workers given out by a line in order are given out as the document says (P5, P6).
-/
namespace Go.Proofs.Ytbkfildnijjioab
namespace Ln

/-- The first place of an entry in a list of numbers, or -1. -/
def placeIn (l : List Int) (x : Int) : Int := P3.badOr (fun y : Int => y != x) l
theorem placeIn_at {l : List Int} {x : Int} (i : Nat) (hi : i < l.length) (he : l[i] = x) (hb : ∀ j (h : j < i), l[j]'(by omega) ≠ x) : placeIn l x = i :=
  P3.badOr_at _ _ i hi (by simp [he]) (fun j h => by simpa using hb j h)
theorem placeIn_none {l : List Int} {x : Int} (h : ∀ j (hj : j < l.length), l[j] ≠ x) : placeIn l x = -1 := P3.badOr_none _ _ (fun j hj => by simpa using h j hj)
theorem placeIn_cases (l : List Int) (x : Int) : (placeIn l x = -1 ∧ ∀ j (hj : j < l.length), l[j] ≠ x) ∨ ∃ i, ∃ (hi : i < l.length), placeIn l x = (i : Int) ∧ l[i] = x ∧ ∀ j (h : j < i), l[j]'(by omega) ≠ x := by
  by_cases h : x ∈ l
  · right
    have hlt : l.findIdx (fun y => !(y != x)) < l.length := by
      rw [List.findIdx_lt_length]
      exact ⟨x, h, by simp⟩
    refine ⟨l.findIdx (fun y => !(y != x)), hlt, ?_, ?_, fun j hj => ?_⟩
    · unfold placeIn P3.badOr P3.bad
      rw [if_pos hlt]
    · have := List.findIdx_getElem (p := fun y : Int => !(y != x)) (xs := l) (w := hlt)
      simpa using this
    · have := List.not_of_lt_findIdx (p := fun y : Int => !(y != x)) (xs := l) (i := j) hj
      simpa using this
  · left
    have hn : ∀ j (hj : j < l.length), l[j] ≠ x := fun j hj e => h (e ▸ List.getElem_mem hj)
    exact ⟨placeIn_none hn, hn⟩

/-- ws: by worker the thread on it; T says the same by thread. -/
structure Wk (n : Nat) (ws : List Int) (T : List RT) : Prop where
  len : ws.length = n
  tb : ∀ t (ht : t < T.length), -1 ≤ T[t].wkr ∧ T[t].wkr < n
  wb : ∀ w (hw : w < ws.length), -1 ≤ ws[w] ∧ ws[w] < T.length
  eq : ∀ w (hw : w < ws.length) t (ht : t < T.length), ws[w] = (t : Int) ↔ T[t].wkr = (w : Int)

theorem Wk.on {n : Nat} {ws : List Int} {T : List RT} (h : Wk n ws T) (w : Nat) (hw : w < ws.length) : R.on T (w : Int) = ws[w] := by
  obtain ⟨b0, b1⟩ := h.wb w hw
  unfold R.on
  by_cases hn : ws[w] < 0
  · rw [P3.badOr_none]
    · omega
    · intro j hj
      have := (h.eq w hw j hj)
      simp
      intro e
      have := this.2 e
      omega
  · obtain ⟨t, ht⟩ := Int.eq_ofNat_of_zero_le (show 0 ≤ ws[w] by omega)
    have htl : t < T.length := by omega
    rw [ht]
    refine P3.badOr_at _ _ t htl ?_ (fun j hj => ?_)
    · have := (h.eq w hw t htl).1 ht
      simp [this]
    · have := (h.eq w hw j (by omega))
      simp
      intro e
      have := this.2 e
      omega

theorem Wk.seated {n : Nat} {ws : List Int} {T : List RT} (h : Wk n ws T) (t : Nat) (ht : t < T.length) : placeIn ws (t : Int) < 0 ↔ T[t].wkr < 0 := by
  rcases placeIn_cases ws (t : Int) with ⟨h1, h2⟩ | ⟨i, hi, h1, h2, _⟩
  · rw [h1]
    refine ⟨fun _ => ?_, fun _ => by omega⟩
    rcases Int.lt_or_le T[t].wkr 0 with h3 | h3
    · exact h3
    · exfalso
      obtain ⟨w, hw⟩ := Int.eq_ofNat_of_zero_le h3
      have hb := (h.tb t ht).2
      have hwl : w < ws.length := by rw [h.len]; omega
      exact h2 w hwl ((h.eq w hwl t ht).2 hw)
  · rw [h1, (h.eq i hi t ht).1 h2]

/-- As many as differ are no more than the list that holds them all. -/
theorem nodup_le {α : Type} [DecidableEq α] : ∀ (l l' : List α), l.Nodup → (∀ x ∈ l, x ∈ l') → l.length ≤ l'.length := by
  intro l
  induction l with
  | nil => intro l' _ _; simp
  | cons x r ih =>
    intro l' hn hs
    obtain ⟨h1, h2⟩ := List.nodup_cons.1 hn
    have hx := hs x (by simp)
    have := ih (l'.erase x) h2 (fun y hy => by
      have hne : y ≠ x := fun e => h1 (e ▸ hy)
      exact (List.mem_erase_of_ne hne).2 (hs y (by simp [hy])))
    rw [List.length_erase_of_mem hx] at this
    have : 0 < l'.length := List.length_pos_of_mem hx
    simp
    omega

/-- One who is chosen takes the free worker with the lowest number, if it has none. -/
def seat (ws : List Int) (t : Nat) : List Int := if placeIn ws (t : Int) < 0 then (if placeIn ws (-1) < 0 then ws else ws.set (placeIn ws (-1)).toNat (t : Int)) else ws
def freed (ch : List Nat) (ws : List Int) : List Int := ws.map fun x => if ∃ t ∈ ch, (t : Int) = x then x else -1

/-- Only chosen ones have workers. -/
def InCh (ch : List Nat) (ws : List Int) : Prop := ∀ x ∈ ws, 0 ≤ x → ∃ t ∈ ch, (t : Int) = x

/-- A thread that is chosen and has no worker finds a free one. -/
theorem Wk.freeOne {n : Nat} {ws : List Int} {T : List RT} (h : Wk n ws T) {ch : List Nat} (hc : ch.length ≤ n) (hin : InCh ch ws) {t : Nat} (ht : t < T.length) (htc : t ∈ ch) (hns : T[t].wkr < 0) : 0 ≤ placeIn ws (-1) := by
  rcases placeIn_cases ws (-1) with ⟨h1, h2⟩ | ⟨i, hi, h1, _⟩
  · exfalso
    have hall : ∀ w (hw : w < ws.length), 0 ≤ ws[w] := fun w hw => by have := (h.wb w hw).1; have := h2 w hw; omega
    have hnd : ((t : Int) :: ws).Nodup := by
      refine List.nodup_cons.2 ⟨fun hm => ?_, ?_⟩
      · obtain ⟨w, hw, e⟩ := List.mem_iff_getElem.1 hm
        have := (h.eq w hw t ht).1 e
        omega
      · rw [List.nodup_iff_pairwise_ne, List.pairwise_iff_getElem]
        intro i j hi hj hij e
        obtain ⟨u, hu⟩ := Int.eq_ofNat_of_zero_le (hall i hi)
        have hul : u < T.length := by have := (h.wb i hi).2; omega
        have e1 := (h.eq i hi u hul).1 hu
        have e2 := (h.eq j hj u hul).1 (e ▸ hu)
        omega
    have hsub : ∀ x ∈ ((t : Int) :: ws), x ∈ ch.map (fun u : Nat => (u : Int)) := by
      intro x hx
      rcases List.mem_cons.1 hx with rfl | hx
      · exact List.mem_map.2 ⟨t, htc, rfl⟩
      · obtain ⟨w, hw, rfl⟩ := List.mem_iff_getElem.1 hx
        obtain ⟨u, hu, e⟩ := hin _ (List.getElem_mem hw) (hall w hw)
        exact List.mem_map.2 ⟨u, hu, e⟩
    have := nodup_le _ _ hnd hsub
    simp at this
    have := h.len
    omega
  · omega

theorem Wk.free {n : Nat} {ws : List Int} {T : List RT} (h : Wk n ws T) (hp : 0 ≤ placeIn ws (-1)) : ((R.free T n : Nat) : Int) = placeIn ws (-1) ∧ R.free T n < n := by
  rcases placeIn_cases ws (-1) with ⟨h1, h2⟩ | ⟨i, hi, h1, h2, h3⟩
  · omega
  · have : R.free T n = i := by
      refine R.free_at T n i (by rw [← h.len]; exact hi) (fun j hj => ?_) ?_
      · rw [h.on j (by omega)]
        have := (h.wb j (by omega)).1
        have := h3 j hj
        omega
      · rw [h.on i hi, h2]
        decide
    rw [this, h1]
    exact ⟨rfl, by rw [← h.len]; exact hi⟩

theorem Wk.set {n : Nat} {ws : List Int} {T : List RT} (h : Wk n ws T) {t w : Nat} (ht : t < T.length) (hw : w < ws.length) (hns : T[t].wkr < 0) (hfr : ws[w] = -1) : Wk n (ws.set w (t : Int)) (R.setW T t (w : Int)) := by
  have hl : (R.setW T t (w : Int)).length = T.length := R.setW_length _ _ _
  have hget : ∀ u (hu : u < (R.setW T t (w : Int)).length), (R.setW T t (w : Int))[u].wkr = if u = t then (w : Int) else (T[u]'(by rw [← hl]; exact hu)).wkr := by
    intro u hu
    have hu' : u < T.length := by rw [← hl]; exact hu
    have := R.th_setW T t (w : Int) u
    rw [th_ext hu, th_ext hu'] at this
    rw [this]
    by_cases e : u = t
    · subst e
      simp [ht]
    · simp [e]
  refine ⟨by simp; exact h.len, fun u hu => ?_, fun v hv => ?_, fun v hv u hu => ?_⟩
  · rw [hget u hu]
    split
    · have := h.len
      omega
    · exact h.tb u (by rw [← hl]; exact hu)
  · rw [hl, List.getElem_set]
    split
    · omega
    · exact h.wb v (by simpa using hv)
  · have hu' : u < T.length := by rw [← hl]; exact hu
    have hv' : v < ws.length := by simpa using hv
    rw [hget u hu, List.getElem_set]
    have he := h.eq v hv' u hu'
    by_cases e1 : w = v
    · subst e1
      rw [if_pos rfl]
      by_cases e2 : u = t
      · subst e2
        simp
      · rw [if_neg e2]
        constructor
        · intro hh
          omega
        · intro hh
          have := he.2 hh
          omega
    · rw [if_neg e1]
      by_cases e2 : u = t
      · subst e2
        rw [if_pos rfl]
        constructor
        · intro hh
          have := he.1 hh
          omega
        · intro hh
          omega
      · rw [if_neg e2]
        exact he

/-- Only t has its turn in this round. -/
theorem seatIn_one (at_ : Nat → Int) (n r : Nat) (T : List RT) (t : Nat) (ht : t < T.length) (hu : ∀ k, k < T.length → (at_ k = (r : Int) ↔ k = t)) (k : Nat) (hk : k ≤ T.length) :
    R.seatIn at_ n r T k = if t < k ∧ (R.th T t).wkr < 0 then R.setW T t (R.free T n) else T := by
  induction k with
  | zero => simp [R.seatIn]
  | succ k ih =>
    have ih := ih (by omega)
    unfold R.seatIn
    by_cases e : k = t
    · subst e
      have hs : R.seatIn at_ n r T k = T := by rw [ih, if_neg (by omega)]
      rw [hs]
      have h1 := (hu k (by omega)).2 rfl
      by_cases h2 : (R.th T k).wkr < 0
      · rw [if_pos ⟨h1, h2⟩, if_pos ⟨by omega, h2⟩]
      · rw [if_neg (fun hh => h2 hh.2), if_neg (fun hh => h2 hh.2)]
    · have h1 : ¬ (at_ k = (r : Int)) := fun hh => e ((hu k (by omega)).1 hh)
      rw [if_neg (fun hh => h1 hh.1), ih]
      have e2 : (t < k + 1 ∧ (R.th T t).wkr < 0) ↔ (t < k ∧ (R.th T t).wkr < 0) := by
        constructor
        · rintro ⟨a, b⟩
          exact ⟨by omega, b⟩
        · rintro ⟨a, b⟩
          exact ⟨by omega, b⟩
      by_cases h3 : t < k ∧ (R.th T t).wkr < 0
      · rw [if_pos h3, if_pos (e2.2 h3)]
      · rw [if_neg h3, if_neg (fun hh => h3 (e2.1 hh))]
theorem seatIn_none (at_ : Nat → Int) (n r : Nat) (T : List RT) (hu : ∀ k, k < T.length → at_ k ≠ (r : Int)) (k : Nat) (hk : k ≤ T.length) : R.seatIn at_ n r T k = T := by
  induction k with
  | zero => rfl
  | succ k ih =>
    unfold R.seatIn
    rw [ih (by omega), if_neg (fun hh => hu k (by omega) hh.1)]

/-- The rounds, one by one: as the line's own seating. -/
theorem seats {n : Nat} {at_ : Nat → Int} {ch : List Nat} (hc : ch.length ≤ n) {T : List RT} {ws : List Int} (h : Wk n ws T) (hch : ∀ t ∈ ch, t < T.length) (hin : InCh ch ws)
    (hat : ∀ r (hr : r < ch.length), ∀ k, k < T.length → (at_ k = (r : Int) ↔ k = ch[r])) (hat2 : ∀ r : Nat, ch.length ≤ r → r < n → ∀ k, k < T.length → at_ k ≠ (r : Int)) (r : Nat) (hr : r ≤ n) :
    Wk n ((ch.take r).foldl seat ws) (R.seatTo at_ n T r) ∧ InCh ch ((ch.take r).foldl seat ws) := by
  induction r with
  | zero => exact ⟨h, hin⟩
  | succ r ih =>
    obtain ⟨h1, h2⟩ := ih (by omega)
    have hl : (R.seatTo at_ n T r).length = T.length := R.seatTo_length _ _ _ _
    unfold R.seatTo
    by_cases hrl : r < ch.length
    · rw [List.take_succ_eq_append_getElem hrl, List.foldl_append]
      simp only [List.foldl_cons, List.foldl_nil]
      generalize (ch.take r).foldl seat ws = ws1 at *
      generalize R.seatTo at_ n T r = T1 at *
      have htc : ch[r] ∈ ch := List.getElem_mem hrl
      have ht : ch[r] < T1.length := by rw [hl]; exact hch _ htc
      have hat' : ∀ k, k < T1.length → (at_ k = (r : Int) ↔ k = ch[r]) := by rw [hl]; exact hat r hrl
      rw [← hl, seatIn_one at_ n r T1 ch[r] ht hat' T1.length (Nat.le_refl _)]
      generalize ch[r] = t at *
      rw [th_ext ht]
      have hse := h1.seated t ht
      unfold seat
      by_cases hns : T1[t].wkr < 0
      · have hp := h1.freeOne hc h2 ht htc hns
        obtain ⟨hf1, hf2⟩ := h1.free hp
        rw [if_pos (hse.2 hns), if_neg (show ¬ placeIn ws1 (-1) < 0 by omega), if_pos (show t < T1.length ∧ T1[t].wkr < 0 from ⟨ht, hns⟩)]
        rcases placeIn_cases ws1 (-1) with ⟨g1, _⟩ | ⟨i, hi, g1, g2, _⟩
        · omega
        · have e1 : (placeIn ws1 (-1)).toNat = i := by omega
          have e2 : ((R.free T1 n : Nat) : Int) = (i : Int) := by omega
          rw [e1, e2]
          refine ⟨h1.set ht hi hns g2, fun x hx h0 => ?_⟩
          rcases List.mem_or_eq_of_mem_set hx with hx | rfl
          · exact h2 x hx h0
          · exact ⟨t, htc, rfl⟩
      · rw [if_neg (fun hh => hns (hse.1 hh)), if_neg (show ¬ (t < T1.length ∧ T1[t].wkr < 0) from fun hh => hns hh.2)]
        exact ⟨h1, h2⟩
    · have e1 : ch.take (r + 1) = ch.take r := by rw [List.take_of_length_le (by omega), List.take_of_length_le (by omega)]
      rw [e1, ← hl, seatIn_none at_ n r (R.seatTo at_ n T r) (by rw [hl]; exact hat2 r (by omega) (by omega)) _ (Nat.le_refl _)]
      exact ⟨h1, h2⟩

/-- ah orders the awake threads as the document does, at levels l. -/
def Agrees (ah : Nat → Nat → Bool) (l : List Int) (T : List RT) : Prop :=
  ∀ t u, t < T.length → u < T.length → (R.th T t).awake = true → (R.th T u).awake = true → u ≠ t → (ah u t = (decide (l.getD t 0 < l.getD u 0) || (decide (l.getD u 0 = l.getD t 0) && decide ((R.th T u).tick < (R.th T t).tick))))

def awakes (T : List RT) (t : Nat) : Bool := (R.th T t).awake
def chosen (ah : Nat → Nat → Bool) (T : List RT) (n : Nat) : List Nat := (line ah (awakes T) T.length).take n
/-- Workers given out anew. -/
def giveOut (ah : Nat → Nat → Bool) (T : List RT) (n : Nat) (ws : List Int) : List Int := (chosen ah T n).foldl seat (freed (chosen ah T n) ws)

section
variable {ah : Nat → Nat → Bool} {l : List Int} {T : List RT} {n : Nat}

theorem rank_of_line (st : Strict ah T.length) (irr : ∀ a, ah a a = false) (ag : Agrees ah l T) (i : Nat) (hi : i < (line ah (awakes T) T.length).length) : R.rank l T (line ah (awakes T) T.length)[i] = i := by
  have h1 := rank_line (aw := awakes T) st irr i hi
  obtain ⟨hm1, hm2⟩ := line_mem.1 (List.getElem_mem hi)
  generalize (line ah (awakes T) T.length)[i] = t at *
  refine Eq.trans ?_ h1
  unfold R.rank R.rankTo
  refine List.countP_congr fun u hu => ?_
  have hul : u < T.length := by simpa using hu
  unfold R.ahead awakes
  by_cases e : u = t
  · subst e
    simp [irr]
  · by_cases hw : (R.th T u).awake = true
    · rw [hw, ag t u hm1 hul hm2 hw e]
    · have : (R.th T u).awake = false := by simpa using hw
      rw [this]
      simp

theorem place_line (st : Strict ah T.length) (irr : ∀ a, ah a a = false) (ag : Agrees ah l T) (r : Nat) (hr : r < n) (k : Nat) (hk : k < T.length) : R.place l T n k = (r : Int) ↔ ∃ (h : r < (line ah (awakes T) T.length).length), (line ah (awakes T) T.length)[r] = k := by
  unfold R.place
  constructor
  · intro h
    split at h
    · rename_i haw
      split at h
      · have hm : k ∈ line ah (awakes T) T.length := line_mem.2 ⟨hk, haw⟩
        obtain ⟨i, hi, e⟩ := List.mem_iff_getElem.1 hm
        have hrk := rank_of_line st irr ag i hi
        rw [e] at hrk
        have : i = r := by omega
        subst this
        exact ⟨hi, e⟩
      · omega
    · omega
  · rintro ⟨h, e⟩
    have hrk := rank_of_line st irr ag r h
    rw [e] at hrk
    have haw : (R.th T k).awake = true := by
      have := (line_mem.1 (List.getElem_mem h)).2
      rw [e] at this
      exact this
    rw [if_pos haw, hrk, if_pos (by omega)]

theorem place_bd (k : Nat) : 0 ≤ R.place l T n k ∧ R.place l T n k ≤ n := by
  unfold R.place
  split
  · split <;> omega
  · omega

theorem mem_chosen (st : Strict ah T.length) (irr : ∀ a, ah a a = false) (ag : Agrees ah l T) (k : Nat) (hk : k < T.length) : k ∈ chosen ah T n ↔ R.place l T n k ≠ (n : Int) := by
  unfold chosen
  constructor
  · intro hm
    obtain ⟨i, hi, e⟩ := List.mem_iff_getElem.1 hm
    rw [List.getElem_take] at e
    have hi' : i < n ∧ i < (line ah (awakes T) T.length).length := by simp at hi; omega
    have := (place_line st irr ag i hi'.1 k hk).2 ⟨hi'.2, e⟩
    omega
  · intro hne
    obtain ⟨b0, b1⟩ := place_bd (l := l) (T := T) (n := n) k
    obtain ⟨r, hr⟩ := Int.eq_ofNat_of_zero_le b0
    obtain ⟨h, e⟩ := (place_line st irr ag r (by omega) k hk).1 hr
    rw [← e]
    exact List.mem_iff_getElem.2 ⟨r, by simp; omega, by rw [List.getElem_take]⟩

theorem Wk.clear {ws : List Int} (h : Wk n ws T) (st : Strict ah T.length) (irr : ∀ a, ah a a = false) (ag : Agrees ah l T) : Wk n (freed (chosen ah T n) ws) (R.clearTo (R.place l T n) n T T.length) ∧ InCh (chosen ah T n) (freed (chosen ah T n) ws) := by
  have hl : (R.clearTo (R.place l T n) n T T.length).length = T.length := R.clearTo_length _ _ _ _
  have hT : ∀ t (ht : t < (R.clearTo (R.place l T n) n T T.length).length), (R.clearTo (R.place l T n) n T T.length)[t].wkr = if R.place l T n t = (n : Int) then -1 else (T[t]'(by rw [← hl]; exact ht)).wkr := by
    intro t ht
    have ht' : t < T.length := by rw [← hl]; exact ht
    have := clearTo_th (R.place l T n) n T T.length t ht'
    rw [th_ext ht, th_ext ht'] at this
    rw [this]
    simp [ht']
  have hw : ∀ w (hw : w < (freed (chosen ah T n) ws).length), (freed (chosen ah T n) ws)[w] = if ∃ t ∈ chosen ah T n, (t : Int) = ws[w]'(by simpa [freed] using hw) then ws[w]'(by simpa [freed] using hw) else -1 := by
    intro w hw
    simp [freed]
  refine ⟨⟨by simp [freed]; exact h.len, fun t ht => ?_, fun w hw' => ?_, fun w hw' t ht => ?_⟩, fun x hx h0 => ?_⟩
  · rw [hT t ht]
    split
    · omega
    · exact h.tb t _
  · have hw2 : w < ws.length := by simpa [freed] using hw'
    rw [hw w hw', hl]
    split
    · exact h.wb w hw2
    · omega
  · have hw2 : w < ws.length := by simpa [freed] using hw'
    have ht' : t < T.length := by rw [← hl]; exact ht
    have he := h.eq w hw2 t ht'
    have hc := mem_chosen (n := n) st irr ag t ht'
    rw [hw w hw', hT t ht]
    by_cases hp : R.place l T n t = (n : Int)
    · rw [if_pos hp]
      have hnc : t ∉ chosen ah T n := fun hm => hc.1 hm hp
      split
      · rename_i hex
        obtain ⟨u, hu, e⟩ := hex
        constructor
        · intro e2
          have : u = t := by omega
          subst this
          exact absurd hu hnc
        · omega
      · constructor <;> omega
    · rw [if_neg hp]
      have hic : t ∈ chosen ah T n := hc.2 hp
      split
      · exact he
      · rename_i hex
        constructor
        · omega
        · intro e2
          exact absurd ⟨t, hic, (he.2 e2).symm⟩ hex
  · unfold freed at hx
    obtain ⟨y, hy, rfl⟩ := List.mem_map.1 hx
    split at h0
    · rename_i hex
      rw [if_pos hex]
      exact hex
    · omega

/-- P5, P6: the workers given out by the line are the document's. -/
theorem giveOut_settle {ws : List Int} (h : Wk n ws T) (st : Strict ah T.length) (irr : ∀ a, ah a a = false) (ag : Agrees ah l T) : Wk n (giveOut ah T n ws) (R.settleT l T n) := by
  obtain ⟨h1, h2⟩ := h.clear (l := l) st irr ag
  have hl : (R.clearTo (R.place l T n) n T T.length).length = T.length := R.clearTo_length _ _ _ _
  have hcl : (chosen ah T n).length ≤ n := by unfold chosen; simp; omega
  have hs := seats (at_ := R.place l T n) hcl h1 (fun t ht => by
      rw [hl]
      unfold chosen at ht
      exact (line_mem.1 (List.mem_of_mem_take ht)).1) h2 (fun r hr k hk => by
      rw [hl] at hk
      have hr2 : r < n ∧ r < (line ah (awakes T) T.length).length := by unfold chosen at hr; simp at hr; omega
      rw [place_line st irr ag r hr2.1 k hk]
      have e : (chosen ah T n)[r] = (line ah (awakes T) T.length)[r]'hr2.2 := by simp [chosen]
      rw [e]
      constructor
      · rintro ⟨_, e⟩
        exact e.symm
      · intro e
        exact ⟨hr2.2, e.symm⟩) (fun r hr hrn k hk e => by
      rw [hl] at hk
      obtain ⟨h3, _⟩ := (place_line st irr ag r hrn k hk).1 e
      unfold chosen at hr
      simp at hr
      omega) n (Nat.le_refl _)
  have := hs.1
  rw [List.take_of_length_le hcl] at this
  exact this
end

end Ln
end Go.Proofs.Ytbkfildnijjioab

/-
  Levels (P8): the document's are the least that meet the equation; lending link by link, as often as there are threads, ends at the same.
-/
namespace Go.Proofs.Ytbkfildnijjioab
namespace R

theorem getD_set_ne (l : List Int) (i t : Nat) (v : Int) (h : i ≠ t) : (l.set i v).getD t 0 = l.getD t 0 := by
  simp [List.getD, h]
theorem le_maxI (v a b : Int) : v ≤ maxI a b ↔ v ≤ a ∨ v ≤ b := by
  unfold maxI
  split <;> omega

theorem le_innerTo (T : List RT) (f : Nat → Int) (m : Nat) (x v : Int) (k : Nat) : v ≤ innerTo T f m x k ↔ v ≤ x ∨ ∃ u, u < k ∧ (th T u).for_ = 1 ∧ (th T u).of_ = (m : Int) ∧ v ≤ f u := by
  induction k with
  | zero => simp [innerTo]
  | succ k ih =>
    unfold innerTo
    split
    · rename_i h
      rw [le_maxI, ih]
      constructor
      · rintro ((h1 | ⟨u, h1, h2, h3, h4⟩) | h1)
        · exact .inl h1
        · exact .inr ⟨u, by omega, h2, h3, h4⟩
        · exact .inr ⟨k, by omega, h.1, h.2, h1⟩
      · rintro (h1 | ⟨u, h1, h2, h3, h4⟩)
        · exact .inl (.inl h1)
        · rcases Nat.lt_or_ge u k with h5 | h5
          · exact .inl (.inr ⟨u, h5, h2, h3, h4⟩)
          · have : u = k := by omega
            subst this
            exact .inr h4
    · rename_i h
      rw [ih]
      constructor
      · rintro (h1 | ⟨u, h1, h2, h3, h4⟩)
        · exact .inl h1
        · exact .inr ⟨u, by omega, h2, h3, h4⟩
      · rintro (h1 | ⟨u, h1, h2, h3, h4⟩)
        · exact .inl h1
        · rcases Nat.lt_or_ge u k with h5 | h5
          · exact .inr ⟨u, h5, h2, h3, h4⟩
          · have : u = k := by omega
            subst this
            exact absurd ⟨h2, h3⟩ h

/-- u lends its level to t. -/
def Lends (s : RS) (u t : Nat) : Prop := u < s.T.length ∧ (th s.T u).for_ = 1 ∧ ∃ m, m < s.owner.length ∧ (th s.T u).of_ = (m : Int) ∧ s.owner.getD m 0 = (t : Int) ∧ (s.set.mutexes.getD m pair0).x ≠ 1

theorem le_outerTo (s : RS) (f g : Nat → Int) (t : Nat) (v : Int) (k : Nat) : v ≤ outerTo s f true t k ↔ v ≤ outerTo s g false t k ∨ ∃ m, m < k ∧ s.owner.getD m 0 = (t : Int) ∧ (s.set.mutexes.getD m pair0).x ≠ 1 ∧ ∃ u, u < s.T.length ∧ (th s.T u).for_ = 1 ∧ (th s.T u).of_ = (m : Int) ∧ v ≤ f u := by
  induction k with
  | zero => simp [outerTo]
  | succ k ih =>
    have up : ∀ P : Nat → Prop, (∃ m, m < k + 1 ∧ P m) ↔ (∃ m, m < k ∧ P m) ∨ P k := by
      intro P
      constructor
      · rintro ⟨m, h1, h2⟩
        rcases Nat.lt_or_ge m k with h3 | h3
        · exact .inl ⟨m, h3, h2⟩
        · have : m = k := by omega
          subst this
          exact .inr h2
      · rintro (⟨m, h1, h2⟩ | h2)
        · exact ⟨m, by omega, h2⟩
        · exact ⟨k, by omega, h2⟩
    rw [up]
    unfold outerTo
    by_cases ho : s.owner.getD k 0 = (t : Int)
    · have hno : ¬ (s.owner.getD k 0 ≠ (t : Int)) := fun h => h ho
      rw [if_neg hno, if_neg hno]
      by_cases hx : (s.set.mutexes.getD k pair0).x = 1
      · rw [if_pos hx, if_pos hx, le_maxI, le_maxI, ih]
        constructor
        · rintro ((h1 | h1) | h1)
          · exact .inl (.inl h1)
          · exact .inr (.inl h1)
          · exact .inl (.inr h1)
        · rintro ((h1 | h1) | (h1 | h1))
          · exact .inl (.inl h1)
          · exact .inr h1
          · exact .inl (.inr h1)
          · exact absurd hx h1.2.1
      · rw [if_neg hx, if_neg hx, if_pos rfl, if_neg (by decide), le_innerTo, ih]
        constructor
        · rintro ((h1 | h1) | h1)
          · exact .inl h1
          · exact .inr (.inl h1)
          · exact .inr (.inr ⟨ho, hx, h1⟩)
        · rintro (h1 | (h1 | h1))
          · exact .inl (.inl h1)
          · exact .inl (.inr h1)
          · exact .inr h1.2.2
    · rw [if_pos ho, if_pos ho, ih]
      constructor
      · rintro (h1 | h1)
        · exact .inl h1
        · exact .inr (.inl h1)
      · rintro (h1 | (h1 | h1))
        · exact .inl h1
        · exact .inr h1
        · exact absurd h1.1 ho

/-- What a thread has without being lent anything. -/
def own (s : RS) (t : Nat) : Int := level s 0 t
theorem le_level (s : RS) (d t : Nat) (v : Int) : v ≤ level s (d + 1) t ↔ v ≤ own s t ∨ ∃ u, Lends s u t ∧ v ≤ level s d u := by
  show v ≤ outerTo s (level s d) true t s.owner.length ↔ v ≤ outerTo s (fun _ => 0) false t s.owner.length ∨ _
  rw [le_outerTo s (level s d) (fun _ => 0)]
  constructor
  · rintro (h | ⟨m, h1, h2, h3, u, h4, h5, h6, h7⟩)
    · exact .inl h
    · exact .inr ⟨u, ⟨h4, h5, m, h1, h6, h2, h3⟩, h7⟩
  · rintro (h | ⟨u, ⟨h4, h5, m, h1, h6, h2, h3⟩, h7⟩)
    · exact .inl h
    · exact .inr ⟨m, h1, h2, h3, u, h4, h5, h6, h7⟩
theorem level_mono (s : RS) (d : Nat) : ∀ t, level s d t ≤ level s (d + 1) t := by
  induction d with
  | zero => intro t; exact (le_level s 0 t _).2 (.inl (Int.le_refl _))
  | succ d ih =>
    intro t
    rw [le_level]
    rcases (le_level s d t (level s (d + 1) t)).1 (Int.le_refl _) with h | ⟨u, h1, h2⟩
    · exact .inl h
    · exact .inr ⟨u, h1, Int.le_trans h2 (ih u)⟩
theorem own_le_level (s : RS) (d t : Nat) : own s t ≤ level s d t := by
  induction d with
  | zero => exact Int.le_refl _
  | succ d ih => exact Int.le_trans ih (level_mono s d t)

/-- From some depth on, no deeper than there are threads, nothing changes. -/
theorem level_stable (s : RS) (t : Nat) (htl : t < s.T.length) : level s (s.T.length + 1) t = level s s.T.length t := by
  have key : ∀ (v : Int) (t : Nat), t < s.T.length → v ≤ level s (s.T.length + 1) t → v ≤ level s s.T.length t := by
    intro v
    -- how many are at v or above
    let C : Nat → Nat := fun d => (List.range s.T.length).countP (fun t => decide (v ≤ level s d t))
    let St : Nat → Prop := fun d => ∀ t, t < s.T.length → v ≤ level s (d + 1) t → v ≤ level s d t
    have keep : ∀ d, St d → St (d + 1) := by
      intro d hd t htl ht
      rw [le_level] at ht ⊢
      rcases ht with h | ⟨u, h1, h2⟩
      · exact .inl h
      · exact .inr ⟨u, h1, hd u h1.1 h2⟩
    have grow : ∀ d, St d ∨ C d + 1 ≤ C (d + 1) := by
      intro d
      by_cases h : St d
      · exact .inl h
      · right
        have ⟨u, hu⟩ := Classical.not_forall.1 h
        have ⟨hul, hu⟩ := Classical.not_imp.1 hu
        have ⟨hu1, hu2⟩ := Classical.not_imp.1 hu
        clear h hu
        have le : ∀ l : List Nat, l.countP (fun t => decide (v ≤ level s d t)) ≤ l.countP (fun t => decide (v ≤ level s (d + 1) t)) := by
          intro l
          refine List.countP_mono_left fun x _ hx => ?_
          have h1 : v ≤ level s d x := by simpa using hx
          have := level_mono s d x
          simp
          omega
        have gen : ∀ l : List Nat, u ∈ l → l.countP (fun t => decide (v ≤ level s d t)) + 1 ≤ l.countP (fun t => decide (v ≤ level s (d + 1) t)) := by
          intro l
          induction l with
          | nil => intro h; cases h
          | cons x l ih =>
            intro h
            rw [List.countP_cons, List.countP_cons]
            rcases List.mem_cons.1 h with rfl | h
            · have := le l
              rw [if_neg (by simpa using hu2), if_pos (by simpa using hu1)]
              omega
            · have := ih h
              have hm := level_mono s d x
              by_cases h1 : v ≤ level s d x
              · have h2 : v ≤ level s (d + 1) x := by omega
                rw [if_pos (by simpa using h1), if_pos (by simpa using h2)]
                omega
              · rw [if_neg (by simpa using h1)]
                omega
        exact gen _ (by simpa using hul)
    have all : ∀ d, (∃ e, e < d ∧ St e) ∨ d ≤ C d := by
      intro d
      induction d with
      | zero => exact .inr (Nat.zero_le _)
      | succ d ih =>
        rcases ih with ⟨e, h1, h2⟩ | h
        · exact .inl ⟨e, by omega, h2⟩
        · rcases grow d with h1 | h1
          · exact .inl ⟨d, by omega, h1⟩
          · exact .inr (by omega)
    have up : ∀ e j, St e → St (e + j) := by
      intro e j h
      induction j with
      | zero => exact h
      | succ j ih => exact keep _ ih
    rcases all (s.T.length + 1) with ⟨e, h1, h2⟩ | h
    · have := up e (s.T.length - e) h2
      rw [show e + (s.T.length - e) = s.T.length by omega] at this
      exact this
    · have h1 : C (s.T.length + 1) ≤ s.T.length := by
        have := List.countP_le_length (p := fun t => decide (v ≤ level s (s.T.length + 1) t)) (l := List.range s.T.length)
        simpa using this
      omega
  have h1 := key _ t htl (Int.le_refl (level s (s.T.length + 1) t))
  have h2 := level_mono s s.T.length t
  omega

/-- P8: a level is the greatest of what a thread has of its own and of the levels that it is lent. -/
theorem le_Level (s : RS) (t : Nat) (ht : t < s.T.length) (v : Int) : v ≤ Level s t ↔ v ≤ own s t ∨ ∃ u, Lends s u t ∧ v ≤ Level s u := by
  show v ≤ level s s.T.length t ↔ _
  rw [← level_stable s t ht]
  exact le_level s s.T.length t v
theorem lends_le (s : RS) (u t : Nat) (ht : t < s.T.length) (h : Lends s u t) : Level s u ≤ Level s t := (le_Level s t ht _).2 (.inr ⟨u, h, Int.le_refl _⟩)

/-! Lending link by link. -/

/-- Levels without what is lent: mutex by mutex. -/
def ownTo (s : RS) : Nat → List Int
  | 0 => s.T.map (fun x => x.base)
  | k + 1 => if 0 ≤ s.owner.getD k 0 ∧ (s.set.mutexes.getD k pair0).x = 1 ∧ (ownTo s k).getD (s.owner.getD k 0).toNat 0 < (s.set.mutexes.getD k pair0).y then (ownTo s k).set (s.owner.getD k 0).toNat (s.set.mutexes.getD k pair0).y else ownTo s k
theorem ownTo_length (s : RS) (k : Nat) : (ownTo s k).length = s.T.length := by
  induction k with
  | zero => simp [ownTo]
  | succ k ih => unfold ownTo; split <;> simp [ih]
theorem ownTo_get (s : RS) (k t : Nat) (ht : t < s.T.length) (g : Nat → Int) : (ownTo s k).getD t 0 = outerTo s g false t k := by
  induction k with
  | zero => simp [ownTo, outerTo, th, List.getD, ht]
  | succ k ih =>
    unfold ownTo outerTo
    by_cases ho : s.owner.getD k 0 = (t : Int)
    · have hno : ¬ (s.owner.getD k 0 ≠ (t : Int)) := fun h => h ho
      rw [if_neg hno]
      have e : (s.owner.getD k 0).toNat = t := by omega
      rw [e]
      by_cases hx : (s.set.mutexes.getD k pair0).x = 1
      · rw [if_pos hx]
        unfold maxI
        by_cases hl : (ownTo s k).getD t 0 < (s.set.mutexes.getD k pair0).y
        · rw [if_pos ⟨by omega, hx, hl⟩, if_pos (by rw [← ih]; exact hl)]
          have := ownTo_length s k
          simp [List.getD, this, ht]
        · rw [if_neg (fun h => hl h.2.2), if_neg (by rw [← ih]; exact hl), ih]
      · rw [if_neg hx, if_neg (fun h => hx h.2.1), if_neg (by decide), ih]
    · rw [if_pos ho]
      split
      · rename_i h
        rw [← ih]
        have hne : (s.owner.getD k 0).toNat ≠ t := by omega
        exact getD_set_ne _ _ _ _ hne
      · exact ih
theorem ownTo_own (s : RS) (t : Nat) (ht : t < s.T.length) : (ownTo s s.owner.length).getD t 0 = own s t := ownTo_get s _ t ht _

/-- To whom u lends, or -1. -/
def ahd (s : RS) (u : Nat) : Int := if (th s.T u).for_ = 1 then s.owner.getD (th s.T u).of_.toNat 0 else -1
def lendee (s : RS) (u : Nat) : Int := if ahd s u < 0 ∨ (s.set.mutexes.getD (th s.T u).of_.toNat pair0).x ≠ 0 then -1 else ahd s u
def lend (s : RS) (l : List Int) (u : Nat) : List Int := if 0 ≤ lendee s u ∧ l.getD (lendee s u).toNat 0 < l.getD u 0 then l.set (lendee s u).toNat (l.getD u 0) else l
def lendAll (s : RS) (wt : List Nat) (l : List Int) : List Int := wt.foldl (lend s) l
def lendTo (s : RS) (wt : List Nat) : Nat → List Int
  | 0 => ownTo s s.owner.length
  | k + 1 => lendAll s wt (lendTo s wt k)
theorem lend_length (s : RS) (l : List Int) (u : Nat) : (lend s l u).length = l.length := by unfold lend; split <;> simp
theorem lendAll_length (s : RS) (wt : List Nat) (l : List Int) : (lendAll s wt l).length = l.length := by
  induction wt generalizing l with
  | nil => rfl
  | cons x wt ih => show (lendAll s wt (lend s l x)).length = _; rw [ih, lend_length]
theorem lendTo_length (s : RS) (wt : List Nat) (k : Nat) : (lendTo s wt k).length = s.T.length := by
  induction k with
  | zero => exact ownTo_length s _
  | succ k ih => unfold lendTo; rw [lendAll_length, ih]

/-- Which mutexes there may be, and who may own and wait. -/
structure LinksOk (s : RS) : Prop where
  len : s.owner.length = s.set.mutexes.length
  own : ∀ i, i < s.owner.length → -1 ≤ s.owner.getD i 0 ∧ s.owner.getD i 0 < s.T.length
  of1 : ∀ t, t < s.T.length → (th s.T t).for_ = 1 → 0 ≤ (th s.T t).of_ ∧ (th s.T t).of_ < s.owner.length
  kind : ∀ i, i < s.owner.length → (s.set.mutexes.getD i pair0).x = 0 ∨ (s.set.mutexes.getD i pair0).x = 1

section
variable {s : RS}
theorem lendee_bd (ok : LinksOk s) (u : Nat) (hu : u < s.T.length) : -1 ≤ lendee s u ∧ lendee s u < s.T.length := by
  unfold lendee ahd
  by_cases h : (th s.T u).for_ = 1
  · have h1 := ok.of1 u hu h
    have h2 := ok.own (th s.T u).of_.toNat (by omega)
    rw [if_pos h]
    split <;> omega
  · rw [if_neg h]
    simp
    omega
theorem lends_lendee (ok : LinksOk s) (u t : Nat) (hu : u < s.T.length) : Lends s u t ↔ lendee s u = (t : Int) := by
  unfold Lends lendee ahd
  constructor
  · rintro ⟨_, h1, m, h2, h3, h4, h5⟩
    have e : (th s.T u).of_.toNat = m := by omega
    have hk := ok.kind m h2
    rw [if_pos h1, e, h4, if_neg (by omega)]
  · intro h
    by_cases h1 : (th s.T u).for_ = 1
    · rw [if_pos h1] at h
      have h2 := ok.of1 u hu h1
      split at h
      · omega
      · refine ⟨hu, h1, (th s.T u).of_.toNat, by omega, by omega, h, ?_⟩
        omega
    · rw [if_neg h1] at h
      simp at h

theorem lend_get (_ok : LinksOk s) (l : List Int) (hl : l.length = s.T.length) (u t : Nat) : (lend s l u).getD t 0 = if lendee s u = (t : Int) ∧ t < s.T.length ∧ l.getD t 0 < l.getD u 0 then l.getD u 0 else l.getD t 0 := by
  unfold lend
  by_cases h : 0 ≤ lendee s u ∧ l.getD (lendee s u).toNat 0 < l.getD u 0
  · rw [if_pos h]
    by_cases e : lendee s u = (t : Int)
    · have e2 : (lendee s u).toNat = t := by omega
      rw [e2] at h ⊢
      by_cases ht : t < s.T.length
      · rw [if_pos ⟨e, ht, h.2⟩]
        simp [List.getD, hl, ht]
      · rw [if_neg (fun h => ht h.2.1)]
        simp [List.getD, hl, ht]
    · rw [if_neg (fun h => e h.1)]
      have hne : (lendee s u).toNat ≠ t := by omega
      exact getD_set_ne _ _ _ _ hne
  · rw [if_neg h, if_neg]
    rintro ⟨e, _, h2⟩
    have e2 : (lendee s u).toNat = t := by omega
    exact h ⟨by omega, by rw [e2]; exact h2⟩
theorem lend_le (ok : LinksOk s) (l : List Int) (hl : l.length = s.T.length) (u t : Nat) : l.getD t 0 ≤ (lend s l u).getD t 0 := by
  rw [lend_get ok l hl]
  split <;> omega
theorem lendAll_le (ok : LinksOk s) (wt : List Nat) (l : List Int) (hl : l.length = s.T.length) (t : Nat) : l.getD t 0 ≤ (lendAll s wt l).getD t 0 := by
  induction wt generalizing l with
  | nil => exact Int.le_refl _
  | cons x wt ih => exact Int.le_trans (lend_le ok l hl x t) (ih (lend s l x) (by rw [lend_length, hl]))
theorem lendAll_lent (ok : LinksOk s) (wt : List Nat) (l : List Int) (hl : l.length = s.T.length) (u t : Nat) (hu : u ∈ wt) (ht : t < s.T.length) (h : lendee s u = (t : Int)) : l.getD u 0 ≤ (lendAll s wt l).getD t 0 := by
  induction wt generalizing l with
  | nil => cases hu
  | cons x wt ih =>
    have hl' : (lend s l x).length = s.T.length := by rw [lend_length, hl]
    show _ ≤ (lendAll s wt (lend s l x)).getD t 0
    rcases List.mem_cons.1 hu with rfl | hu
    · refine Int.le_trans ?_ (lendAll_le ok wt _ hl' t)
      rw [lend_get ok l hl]
      split
      · omega
      · rename_i hn
        have : ¬ l.getD t 0 < l.getD u 0 := fun h' => hn ⟨h, ht, h'⟩
        omega
    · exact Int.le_trans (lend_le ok l hl x u) (ih _ hl' hu)
theorem lendAll_top (ok : LinksOk s) (wt : List Nat) (hw : ∀ u ∈ wt, u < s.T.length) (l : List Int) (hl : l.length = s.T.length) (h : ∀ t, t < s.T.length → l.getD t 0 ≤ Level s t) : ∀ t, t < s.T.length → (lendAll s wt l).getD t 0 ≤ Level s t := by
  induction wt generalizing l with
  | nil => exact h
  | cons x wt ih =>
    refine ih (fun u hu => hw u (List.mem_cons_of_mem _ hu)) (lend s l x) (by rw [lend_length, hl]) fun t ht => ?_
    have hx := hw x (by simp)
    rw [lend_get ok l hl]
    split
    · rename_i h1
      exact Int.le_trans (h x hx) (lends_le s x t ht ((lends_lendee ok x t hx).2 h1.1))
    · exact h t ht
theorem lendTo_low (ok : LinksOk s) (wt : List Nat) (hw : ∀ u, u < s.T.length → (th s.T u).for_ = 1 → u ∈ wt) (k : Nat) : ∀ t, t < s.T.length → level s k t ≤ (lendTo s wt k).getD t 0 := by
  induction k with
  | zero => intro t ht; unfold lendTo; rw [ownTo_own s t ht]; exact Int.le_refl _
  | succ k ih =>
    intro t ht
    have hl := lendTo_length s wt k
    unfold lendTo
    rcases (le_level s k t _).1 (Int.le_refl (level s (k + 1) t)) with h | ⟨u, h1, h2⟩
    · exact Int.le_trans (Int.le_trans h (own_le_level s k t)) (Int.le_trans (ih t ht) (lendAll_le ok wt _ hl t))
    · exact Int.le_trans (Int.le_trans h2 (ih u h1.1)) (lendAll_lent ok wt _ hl u t (hw u h1.1 h1.2.1) ht ((lends_lendee ok u t h1.1).1 h1))

/-- P8: lending as often as there are threads ends at the levels. -/
theorem lendTo_levels (ok : LinksOk s) (wt : List Nat) (hw : ∀ u ∈ wt, u < s.T.length) (hw1 : ∀ u, u < s.T.length → (th s.T u).for_ = 1 → u ∈ wt) : lendTo s wt s.T.length = levels s := by
  have hl := lendTo_length s wt s.T.length
  have top : ∀ k, ∀ t, t < s.T.length → (lendTo s wt k).getD t 0 ≤ Level s t := by
    intro k
    induction k with
    | zero => intro t ht; unfold lendTo; rw [ownTo_own s t ht]; exact own_le_level s _ t
    | succ k ih => exact lendAll_top ok wt hw _ (lendTo_length s wt k) ih
  apply List.ext_getElem
  · rw [hl]
    simp [levels]
  · intro t h1 h2
    rw [hl] at h1
    have a := top s.T.length t h1
    have b := lendTo_low ok wt hw1 s.T.length t h1
    have e : (lendTo s wt s.T.length).getD t 0 = (lendTo s wt s.T.length)[t] := by simp [List.getD, hl, h1]
    rw [e] at a b
    have c : (levels s)[t] = Level s t := by simp [levels]
    have d : Level s t = level s s.T.length t := rfl
    omega
end
end R
end Go.Proofs.Ytbkfildnijjioab

/-
  A list put in the order of levels by insertion, those of one level as they were: the order by level and by place in the list.
-/
namespace Go.Proofs.Ytbkfildnijjioab
namespace Ln

/-- By level, the greatest first. -/
def above (lv : Nat → Int) (a b : Nat) : Bool := decide (lv b < lv a)
def byBack (lv : Nat → Int) (l : List Nat) : List Nat := l.foldl (fun acc t => ins (above lv) t acc) []
def byLv (lv : Nat → Int) (l : List Nat) : List Nat := (byBack lv l).reverse

/-- By level, then by r. -/
def fine (lv : Nat → Int) (r : Nat → Int) (a b : Nat) : Bool := decide (lv b < lv a) || (decide (lv a = lv b) && decide (r a < r b))
theorem fine_irr (lv r : Nat → Int) (a : Nat) : fine lv r a a = false := by simp [fine]
theorem fine_asym (lv r : Nat → Int) (a b : Nat) (h : fine lv r a b = true) : fine lv r b a = false := by
  simp [fine] at h ⊢
  omega
theorem fine_trans (lv r : Nat → Int) (a b c : Nat) (h1 : fine lv r a b = true) (h2 : fine lv r b c = true) : fine lv r a c = true := by
  simp [fine] at h1 h2 ⊢
  omega
theorem fine_total (lv r : Nat → Int) (a b : Nat) (h : r a ≠ r b) : fine lv r a b = true ∨ fine lv r b a = true := by
  simp [fine]
  omega

theorem ins_same (lv r : Nat → Int) (t : Nat) (l : List Nat) (h : ∀ x ∈ l, r x < r t) : ins (above lv) t l = ins (fine lv r) t l := by
  induction l with
  | nil => rfl
  | cons x l ih =>
    have hx := h x (by simp)
    have e : above lv t x = fine lv r t x := by
      unfold above fine
      have : ¬ r t < r x := by omega
      simp [this]
    unfold ins
    rw [e, ih (fun y hy => h y (by simp [hy]))]

theorem byBack_snoc (lv : Nat → Int) (l : List Nat) (t : Nat) : byBack lv (l ++ [t]) = ins (above lv) t (byBack lv l) := by simp [byBack]
theorem byBack_perm (lv : Nat → Int) (l : List Nat) : (byBack lv l).Perm l := by
  suffices h : ∀ l acc : List Nat, (l.foldl (fun acc t => ins (above lv) t acc) acc).Perm (acc ++ l) by
    have := h l []
    simpa [byBack] using this
  intro l
  induction l with
  | nil => intro acc; simp
  | cons x l ih =>
    intro acc
    refine (ih _).trans ?_
    exact ((ins_perm (above lv) x acc).append_right l).trans List.perm_middle.symm
theorem byLv_perm (lv : Nat → Int) (l : List Nat) : (byLv lv l).Perm l := (List.reverse_perm _).trans (byBack_perm lv l)
theorem byLv_mem (lv : Nat → Int) (l : List Nat) (t : Nat) : t ∈ byLv lv l ↔ t ∈ l := (byLv_perm lv l).mem_iff
theorem byLv_length (lv : Nat → Int) (l : List Nat) : (byLv lv l).length = l.length := (byLv_perm lv l).length_eq

theorem ins_sorted' (lv r : Nat → Int) (t : Nat) (l : List Nat) (h : ∀ x ∈ l, r x < r t) (hs : l.Pairwise (fun a b => fine lv r b a = true)) : (ins (above lv) t l).Pairwise (fun a b => fine lv r b a = true) := by
  rw [ins_same lv r t l h]
  induction l with
  | nil => simp [ins]
  | cons x l ih =>
    have hx := h x (by simp)
    obtain ⟨h1, h2⟩ := List.pairwise_cons.1 hs
    unfold ins
    split
    · rename_i hh
      refine List.pairwise_cons.2 ⟨fun b hb => ?_, ih (fun y hy => h y (by simp [hy])) h2⟩
      rcases List.mem_cons.1 ((ins_perm (fine lv r) t l).mem_iff.1 hb) with rfl | hb
      · exact hh
      · exact h1 b hb
    · rename_i hh
      have h' : fine lv r x t = true := by
        rcases fine_total lv r x t (by omega) with h3 | h3
        · exact h3
        · exact absurd h3 hh
      refine List.pairwise_cons.2 ⟨fun b hb => ?_, hs⟩
      rcases List.mem_cons.1 hb with rfl | hb
      · exact h'
      · exact fine_trans lv r b x t (h1 b hb) h'

theorem byBack_sorted (lv r : Nat → Int) (l : List Nat) (h : l.Pairwise (fun a b => r a < r b)) : (byBack lv l).Pairwise (fun a b => fine lv r b a = true) := by
  suffices hh : ∀ l acc : List Nat, l.Pairwise (fun a b => r a < r b) → (∀ x ∈ acc, ∀ y ∈ l, r x < r y) → acc.Pairwise (fun a b => fine lv r b a = true) → (l.foldl (fun acc t => ins (above lv) t acc) acc).Pairwise (fun a b => fine lv r b a = true) by
    exact hh l [] h (by simp) List.Pairwise.nil
  intro l
  induction l with
  | nil => intro acc _ _ h; exact h
  | cons x l ih =>
    intro acc hl ha hs
    obtain ⟨h1, h2⟩ := List.pairwise_cons.1 hl
    refine ih (ins (above lv) x acc) h2 (fun y hy z hz => ?_) (ins_sorted' lv r x acc (fun y hy => ha y hy x (by simp)) hs)
    rcases List.mem_cons.1 ((ins_perm (above lv) x acc).mem_iff.1 hy) with rfl | hy
    · exact h1 z hz
    · exact ha y hy z (by simp [hz])
theorem byLv_sorted (lv r : Nat → Int) (l : List Nat) (h : l.Pairwise (fun a b => r a < r b)) : (byLv lv l).Pairwise (fun a b => fine lv r a b = true) := by
  unfold byLv
  rw [List.pairwise_reverse]
  exact byBack_sorted lv r l h

/-- In order, and the same threads: the same line. -/
theorem sorted_eq (lv r : Nat → Int) {l l' : List Nat} (h : l.Pairwise (fun a b => fine lv r a b = true)) (h' : l'.Pairwise (fun a b => fine lv r a b = true)) (hp : l.Perm l') : l = l' := by
  refine List.Perm.eq_of_pairwise (le := fun a b => fine lv r a b = true) (fun a b _ _ h1 h2 => ?_) h h' hp
  rw [fine_asym lv r a b h1] at h2
  cases h2
end Ln
end Go.Proofs.Ytbkfildnijjioab

/-
  Those who wait (P12 to P15): the line of those who wait for a thing, kept in the order in which they began and put in the order of levels, is the document's.
-/
namespace Go.Proofs.Ytbkfildnijjioab
namespace Ln

/-- As many as differ are no more than the list that holds them all. -/
theorem nodup_le' : ∀ (l l' : List Nat), l.Nodup → (∀ x ∈ l, x ∈ l') → l.length ≤ l'.length := by
  intro l
  induction l with
  | nil => intro l' _ _; simp
  | cons x r ih =>
    intro l' hn hs
    obtain ⟨h1, h2⟩ := List.nodup_cons.1 hn
    have hx := hs x (by simp)
    have := ih (l'.erase x) h2 (fun y hy => by
      have hne : y ≠ x := fun e => h1 (e ▸ hy)
      exact (List.mem_erase_of_ne hne).2 (hs y (by simp [hy])))
    rw [List.length_erase_of_mem hx] at this
    have : 0 < l'.length := List.length_pos_of_mem hx
    simp
    omega

def sinceOf (s : RS) (t : Nat) : Int := (R.th s.T t).since
/-- wt: all who wait, in the order in which they began. -/
structure WtOk (s : RS) (wt : List Nat) : Prop where
  mem : ∀ u, u ∈ wt ↔ u < s.T.length ∧ (R.th s.T u).for_ ≠ 0
  ord : wt.Pairwise (fun a b => sinceOf s a < sinceOf s b)
  top : ∀ u ∈ wt, sinceOf s u ≤ s.next

def waitsFor (s : RS) (what of_ : Int) (u : Nat) : Bool := decide ((R.th s.T u).for_ = what) && decide ((R.th s.T u).of_ = of_)
def lineW (s : RS) (wt : List Nat) (what of_ : Int) : List Nat := byLv (R.Level s) (wt.filter (waitsFor s what of_))

section
variable {s : RS} {wt : List Nat}
theorem WtOk.since_ne (h : WtOk s wt) {a b : Nat} (ha : a ∈ wt) (hb : b ∈ wt) (hab : a ≠ b) : sinceOf s a ≠ sinceOf s b := by
  obtain ⟨i, hi, rfl⟩ := List.mem_iff_getElem.1 ha
  obtain ⟨j, hj, rfl⟩ := List.mem_iff_getElem.1 hb
  rcases Nat.lt_trichotomy i j with h1 | h1 | h1
  · have := List.pairwise_iff_getElem.1 h.ord i j hi hj h1
    omega
  · subst h1
    exact absurd rfl hab
  · have := List.pairwise_iff_getElem.1 h.ord j i hj hi h1
    omega
theorem WtOk.nodup (h : WtOk s wt) : wt.Nodup := by
  rw [List.nodup_iff_pairwise_ne]
  exact h.ord.imp (fun hab e => by subst e; omega)
theorem lineW_sorted (h : WtOk s wt) (what of_ : Int) : (lineW s wt what of_).Pairwise (fun a b => fine (R.Level s) (sinceOf s) a b = true) :=
  byLv_sorted _ _ _ (h.ord.sublist List.filter_sublist)
theorem lineW_mem (h : WtOk s wt) (what of_ : Int) (hw : what ≠ 0) (u : Nat) : u ∈ lineW s wt what of_ ↔ u < s.T.length ∧ (R.th s.T u).for_ = what ∧ (R.th s.T u).of_ = of_ := by
  unfold lineW
  rw [byLv_mem, List.mem_filter, h.mem]
  unfold waitsFor
  rw [Bool.and_eq_true, decide_eq_true_eq, decide_eq_true_eq]
  constructor
  · rintro ⟨⟨a, _⟩, b, c⟩
    exact ⟨a, b, c⟩
  · rintro ⟨a, b, c⟩
    exact ⟨⟨a, by omega⟩, b, c⟩
theorem lineW_nodup (h : WtOk s wt) (what of_ : Int) : (lineW s wt what of_).Nodup := (byLv_perm _ _).nodup_iff.2 (h.nodup.sublist List.filter_sublist)
theorem lineW_bd (h : WtOk s wt) (what of_ : Int) : ∀ u ∈ lineW s wt what of_, u < s.T.length := by
  intro u hu
  unfold lineW at hu
  rw [byLv_mem] at hu
  exact ((h.mem u).1 (List.mem_filter.1 hu).1).1

theorem namedTo_iff (l : List Int) (t : Int) (k : Nat) (hk : k ≤ l.length) : R.namedTo l t k = true ↔ t ∈ l.take k := by
  induction k with
  | zero => simp [R.namedTo]
  | succ k ih =>
    unfold R.namedTo
    rw [List.take_succ_eq_append_getElem (by omega), List.mem_append, Bool.or_eq_true, ih (by omega)]
    have : l.getD k 0 = l[k] := by simp [List.getD, show k < l.length by omega]
    rw [this]
    simp
    constructor
    · rintro (h | h)
      · exact .inl h
      · exact .inr h.symm
    · rintro (h | h)
      · exact .inl h
      · exact .inr h.symm

def Cand (s : RS) (what of_ : Int) (l : List Int) (u : Nat) : Prop := (R.th s.T u).for_ = what ∧ (R.th s.T u).of_ = of_ ∧ (u : Int) ∉ l
theorem firstTo_min (h : WtOk s wt) (what of_ : Int) (hw : what ≠ 0) (l : List Int) (k : Nat) (hk : k ≤ s.T.length) :
    (R.firstTo s what of_ l k = -1 ∧ ∀ u, u < k → ¬ Cand s what of_ l u) ∨ ∃ b : Nat, R.firstTo s what of_ l k = (b : Int) ∧ b < k ∧ Cand s what of_ l b ∧ ∀ u, u < k → Cand s what of_ l u → u ≠ b → fine (R.Level s) (sinceOf s) b u = true := by
  induction k with
  | zero => exact .inl ⟨rfl, fun u hu => by omega⟩
  | succ k ih =>
    have hnm := namedTo_iff l (k : Int) l.length (Nat.le_refl _)
    rw [List.take_length] at hnm
    have split_lt : ∀ u, u < k + 1 → u < k ∨ u = k := fun u hu => by omega
    unfold R.firstTo
    by_cases hc : Cand s what of_ l k
    · have e1 : ¬ ((R.th s.T k).for_ ≠ what ∨ (R.th s.T k).of_ ≠ of_) := by rintro (h1 | h1); exact h1 hc.1; exact h1 hc.2.1
      have e2 : ¬ (R.namedTo l (k : Int) l.length = true) := fun hh => hc.2.2 (hnm.1 hh)
      rw [if_neg e1, if_neg e2]
      have hkw : k ∈ wt := (h.mem k).2 ⟨by omega, by rw [hc.1]; exact hw⟩
      rcases ih (by omega) with ⟨e, hn⟩ | ⟨b, e, hb, hcb, hmin⟩
      · rw [e, if_pos (by omega)]
        refine .inr ⟨k, rfl, by omega, hc, fun u hu hcu hne => ?_⟩
        rcases split_lt u hu with h1 | h1
        · exact absurd hcu (hn u h1)
        · exact absurd h1 hne
      · rw [e, if_neg (by omega)]
        have hbw : b ∈ wt := (h.mem b).2 ⟨by omega, by rw [hcb.1]; exact hw⟩
        have eg : R.goesFirst s k (Int.toNat (b : Int)) = fine (R.Level s) (sinceOf s) k b := by
          unfold R.goesFirst fine sinceOf
          simp
        rw [eg]
        by_cases hf : fine (R.Level s) (sinceOf s) k b = true
        · rw [if_pos hf]
          refine .inr ⟨k, rfl, by omega, hc, fun u hu hcu hne => ?_⟩
          rcases split_lt u hu with h1 | h1
          · by_cases e3 : u = b
            · subst e3; exact hf
            · exact fine_trans _ _ k b u hf (hmin u h1 hcu e3)
          · exact absurd h1 hne
        · rw [if_neg hf]
          refine .inr ⟨b, rfl, by omega, hcb, fun u hu hcu hne => ?_⟩
          rcases split_lt u hu with h1 | h1
          · exact hmin u h1 hcu hne
          · subst h1
            rcases fine_total (R.Level s) (sinceOf s) b u (h.since_ne hbw hkw (Ne.symm hne)) with h2 | h2
            · exact h2
            · exact absurd h2 hf
    · have e3 : (if (R.th s.T k).for_ ≠ what ∨ (R.th s.T k).of_ ≠ of_ then R.firstTo s what of_ l k else if R.namedTo l (k : Int) l.length = true then R.firstTo s what of_ l k else if R.firstTo s what of_ l k < 0 then (k : Int) else if R.goesFirst s k (R.firstTo s what of_ l k).toNat = true then (k : Int) else R.firstTo s what of_ l k) = R.firstTo s what of_ l k := by
        by_cases e1 : (R.th s.T k).for_ ≠ what ∨ (R.th s.T k).of_ ≠ of_
        · rw [if_pos e1]
        · rw [if_neg e1]
          by_cases e2 : R.namedTo l (k : Int) l.length = true
          · rw [if_pos e2]
          · exfalso
            refine hc ⟨?_, ?_, fun hh => e2 (hnm.2 hh)⟩
            · exact Classical.not_not.1 fun hh => e1 (.inl hh)
            · exact Classical.not_not.1 fun hh => e1 (.inr hh)
      rw [e3]
      rcases ih (by omega) with ⟨e, hn⟩ | ⟨b, e, hb, hcb, hmin⟩
      · refine .inl ⟨e, fun u hu hcu => ?_⟩
        rcases split_lt u hu with h1 | h1
        · exact hn u h1 hcu
        · subst h1; exact hc hcu
      · refine .inr ⟨b, e, by omega, hcb, fun u hu hcu hne => ?_⟩
        rcases split_lt u hu with h1 | h1
        · exact hmin u h1 hcu hne
        · subst h1; exact absurd hcu hc

def ints (l : List Nat) : List Int := l.map (fun u : Nat => (u : Int))
theorem mem_ints (l : List Nat) (u : Nat) : (u : Int) ∈ ints l ↔ u ∈ l := by
  unfold ints
  rw [List.mem_map]
  constructor
  · rintro ⟨a, h, e⟩
    have : a = u := by omega
    exact this ▸ h
  · exact fun h => ⟨u, h, rfl⟩
theorem ints_length (l : List Nat) : (ints l).length = l.length := by simp [ints]

/-- The next in the line. -/
theorem first_line (h : WtOk s wt) (what of_ : Int) (hw : what ≠ 0) (k : Nat) : R.first s what of_ (ints ((lineW s wt what of_).take k)) = if hk : k < (lineW s wt what of_).length then ((lineW s wt what of_)[k] : Int) else -1 := by
  have hcand : ∀ u, u < s.T.length → (Cand s what of_ (ints ((lineW s wt what of_).take k)) u ↔ u ∈ (lineW s wt what of_).drop k) := by
    intro u hu
    unfold Cand
    rw [mem_ints]
    have hm := lineW_mem h what of_ hw u
    have hn := lineW_nodup h what of_
    generalize lineW s wt what of_ = L at *
    constructor
    · rintro ⟨h1, h2, h3⟩
      have hmem : u ∈ L := hm.2 ⟨hu, h1, h2⟩
      rw [← List.take_append_drop k L] at hmem
      rcases List.mem_append.1 hmem with h4 | h4
      · exact absurd h4 h3
      · exact h4
    · intro hd
      obtain ⟨_, h1, h2⟩ := hm.1 (List.mem_of_mem_drop hd)
      refine ⟨h1, h2, fun ht => ?_⟩
      rw [← List.take_append_drop k L] at hn
      exact (List.nodup_append.1 hn).2.2 u ht u hd rfl
  have hs := lineW_sorted h what of_
  have hbd := lineW_bd h what of_
  rcases firstTo_min h what of_ hw (ints ((lineW s wt what of_).take k)) s.T.length (Nat.le_refl _) with ⟨e, hn⟩ | ⟨b, e, hb, hcb, hmin⟩
  · unfold R.first
    rw [e, dif_neg]
    intro hk
    have hd : (lineW s wt what of_)[k] ∈ (lineW s wt what of_).drop k := List.mem_drop_iff_getElem.2 ⟨0, by omega, by simp⟩
    have hlt := hbd _ (List.getElem_mem hk)
    exact hn _ hlt ((hcand _ hlt).2 hd)
  · unfold R.first
    rw [e]
    have hbd' := (hcand b hb).1 hcb
    generalize lineW s wt what of_ = L at *
    have hk : k < L.length := by
      rcases Nat.lt_or_ge k L.length with h1 | h1
      · exact h1
      · rw [List.drop_eq_nil_of_le h1] at hbd'
        cases hbd'
    rw [dif_pos hk]
    have hd : L[k] ∈ L.drop k := List.mem_drop_iff_getElem.2 ⟨0, by omega, by simp⟩
    have hlt := hbd _ (List.getElem_mem hk)
    by_cases hne : L[k] = b
    · rw [hne]
    · exfalso
      have h1 := hmin L[k] hlt ((hcand _ hlt).2 hd) hne
      obtain ⟨j, hj, ej⟩ := List.mem_drop_iff_getElem.1 hbd'
      have hj0 : j ≠ 0 := by
        rintro rfl
        exact hne (by simpa using ej)
      have h2 := List.pairwise_iff_getElem.1 hs k (k + j) hk (by omega) (by omega)
      rw [ej] at h2
      rw [fine_asym _ _ _ _ h1] at h2
      cases h2

theorem waitTo_line (h : WtOk s wt) (what of_ : Int) (hw : what ≠ 0) (k : Nat) : R.waitTo s what of_ k = ints ((lineW s wt what of_).take k) := by
  induction k with
  | zero => rfl
  | succ k ih =>
    unfold R.waitTo
    rw [ih, first_line h what of_ hw k]
    by_cases hk : k < (lineW s wt what of_).length
    · rw [dif_pos hk, if_neg (by omega), List.take_succ_eq_append_getElem hk]
      unfold ints
      rw [List.map_append]
      rfl
    · rw [dif_neg hk, if_pos (by omega), List.take_of_length_le (by omega), List.take_of_length_le (by omega)]
/-- P13: who waits, in order. -/
theorem waiting_line (h : WtOk s wt) (what of_ : Int) (hw : what ≠ 0) : R.waiting s what of_ = ints (lineW s wt what of_) := by
  unfold R.waiting
  rw [waitTo_line h what of_ hw, List.take_of_length_le]
  have hn := lineW_nodup h what of_
  have hb := lineW_bd h what of_
  have := nodup_le' _ (List.range s.T.length) hn (fun x hx => by simpa using hb x hx)
  simp at this
  omega
/-- Who is given a thing. -/
theorem giveT_line (h : WtOk s wt) (what of_ : Int) (hw : what ≠ 0) : R.giveT s what of_ = if hk : 0 < (lineW s wt what of_).length then ((lineW s wt what of_)[0] : Int) else -1 := by
  have := first_line h what of_ hw 0
  simpa [R.giveT, ints] using this
end
end Ln
end Go.Proofs.Ytbkfildnijjioab
