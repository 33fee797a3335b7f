import Derived.Test.YtbkfildnijjioabA10
import Derived.Test.YtbkfildnijjioabA01
/-
  Walks over package donate: newThreads, newMutexes, firstTickets.
-/
namespace Go.Proofs.Ytbkfildnijjioab
open Go.RowKit

theorem Try.infoPT : (Try.prog.info? 138).map (fun i => (i.zero, i.size, i.bytes)) = some (some (.agg #[.slice none 0 0, .int .i64 0, .int .i64 0, .int .i64 0, .int .i64 0, .int .i64 0, .int .i64 0, .int .i64 0, .int .i64 0, .int .i64 0, .int .i64 0, .int .i64 0, .int .i64 0]), 13, 120) := by kernel_rfl
theorem Try.infoPM : (Try.prog.info? 113).map (fun i => (i.zero, i.size, i.bytes)) = some (some (.agg #[.int .i64 0, .int .i64 0, .int .i64 0]), 3, 24) := by kernel_rfl

/-- A thread as New lays it. -/
def bareCells (start : Int) (cv : Value) (x : ThreadD) : List Value := [cv, .int .i64 x.base, .int .i64 (start + x.offset), .int .i64 x.period, .int .i64 x.deadline, .int .i64 0, .int .i64 0, .int .i64 0, .int .i64 0, .int .i64 0, .int .i64 0, .int .i64 0, .int .i64 0]

theorem setAll (L : List Value) (k : Nat) (v0 v1 v2 v3 v4 v5 v6 v7 v8 v9 v10 v11 v12 : Value) (hk : k * 13 + 12 < L.length) (i j : Nat) (hj : j < 13) :
    ((((((((((((((L.set (k * 13) v0).set (k * 13 + 1) v1).set (k * 13 + 2) v2).set (k * 13 + 3) v3).set (k * 13 + 4) v4).set (k * 13 + 5) v5).set (k * 13 + 6) v6).set (k * 13 + 7) v7).set (k * 13 + 8) v8).set (k * 13 + 9) v9).set (k * 13 + 10) v10).set (k * 13 + 11) v11).set (k * 13 + 12) v12)[i * 13 + j]?) =
      if i = k then [v0, v1, v2, v3, v4, v5, v6, v7, v8, v9, v10, v11, v12][j]? else L[i * 13 + j]? := by
  by_cases e : i = k
  · subst e
    rw [if_pos rfl]
    have hcases : j = 0 ∨ j = 1 ∨ j = 2 ∨ j = 3 ∨ j = 4 ∨ j = 5 ∨ j = 6 ∨ j = 7 ∨ j = 8 ∨ j = 9 ∨ j = 10 ∨ j = 11 ∨ j = 12 := by omega
    rcases hcases with rfl | rfl | rfl | rfl | rfl | rfl | rfl | rfl | rfl | rfl | rfl | rfl | rfl <;> simp [List.getElem?_set] <;> omega
  · rw [if_neg e]
    have h : ∀ m, m < 13 → k * 13 + m ≠ i * 13 + j := by omega
    have h0 : k * 13 ≠ i * 13 + j := h 0 (by omega)
    simp [h 1, h 2, h 3, h 4, h 5, h 6, h 7, h 8, h 9, h 10, h 11, h 12, h0]

/-- What newThreads has laid so far. -/
structure NT (B g : Nat) (start : Int) (l : List ThreadD) (wr : World) (k : Nat) (cs : Nat → Value) (L : List Value) : Prop where
  row : wr.ownsRow B 138 13 (.slice (some ⟨g, 0, none⟩) l.length l.length) l.length L
  cells : ∀ i (hi : i < l.length), i < k → ∀ j, j < 13 → L[i * 13 + j]? = (bareCells start (cs i) l[i])[j]?
  codes : ∀ i (hi : i < l.length), i < k → wr.ownsRow B 46 3 (cs i) l[i].code.length (instrCells l[i].code)

section
variable {B g : Nat} {start : Int} {l : List ThreadD} {wr wr' : World} {k : Nat} {cs : Nat → Value} {L : List Value}
/-- Other memory has turned. -/
theorem NT.same (n : NT B g start l wr k cs L) (hs : ∀ (b : Nat) (cur : Array Value) (e : TypeId), wr.heap[b]? = some (Obj.cells cur e (0, 0)) → (e = 138 ∨ e = 46) → wr'.heap[b]? = wr.heap[b]?) : NT B g start l wr' k cs L := by
  refine ⟨ownsRow_same n.row fun b hb => ?_, n.cells, fun i hi hk => ownsRow_same (n.codes i hi hk) fun b hb => ?_⟩
  · obtain ⟨_, _, cur, hc⟩ := ownsRow_block n.row hb
    exact hs b cur _ hc (.inl rfl)
  · obtain ⟨_, _, cur, hc⟩ := ownsRow_block (n.codes i hi hk) hb
    exact hs b cur _ hc (.inr rfl)
theorem NT.below (n : NT B g start l wr k cs L) (hb : Below wr.heap.size wr wr') : NT B g start l wr' k cs L := by
  refine n.same fun b cur e hg _ => hb.block b ?_
  rcases Nat.lt_or_ge b wr.heap.size with h' | h'
  · exact h'
  · rw [Array.getElem?_eq_none h'] at hg; cases hg
end

set_option maxRecDepth 100000 in
set_option maxHeartbeats 4000000 in
theorem kNewThreads_any (tv : Option Addr) (tc : Nat) (l : List ThreadD) (start : Int) (w : World) (hin : ThreadsIn w.heap.size w tv l) (h1 : 1 ≤ l.length) (h16 : l.length ≤ 16) (hc : ∀ x ∈ l, x.code.length ≤ 32) (hs : 0 ≤ start ∧ start ≤ 1000000000) (ho : ∀ x ∈ l, 0 ≤ x.offset ∧ x.offset ≤ 1000) :
    Calls Try.prog 49 #[.slice tv l.length tc, .int .i64 start] w fun e w' => ∃ g cs L, e = .returned (.slice (some ⟨g, 0, none⟩) l.length l.length) ∧ w.heap.size ≤ g ∧ NT w.heap.size g start l w' l.length cs L ∧ Below w.heap.size w w' := by
  have HIN := hid hin
  have HC := hid hc
  have HO := hid ho
  obtain ⟨hs0, hs1⟩ := hs
  clear hin hc ho
  obtain ⟨iT, hiT, hzT0, hzT1, hzT2⟩ := info_parts Try.infoPT
  have HIT := hid (And.intro hiT (And.intro hzT0 (And.intro hzT1 hzT2)))
  obtain ⟨i4, hi4, hz40, hz41, hz42⟩ := info_parts Try.infoInstr
  have HI4 := hid (And.intro hi4 (And.intro hz40 (And.intro hz41 hz42)))
  clear hiT hzT0 hzT1 hzT2 hi4 hz40 hz41 hz42
  go_enter Try.func49, Try.ntmps49
  go_wp2_with (at_make; refine wpList_make_full _ rfl _ _ 83 rfl w.heap.size 138 iT (.agg #[.slice none 0 0, .int .i64 0, .int .i64 0, .int .i64 0, .int .i64 0, .int .i64 0, .int .i64 0, .int .i64 0, .int .i64 0, .int .i64 0, .int .i64 0, .int .i64 0, .int .i64 0]) 13 Try.underlying83 HIT.out.1 HIT.out.2.1 HIT.out.2.2.1 .i64 .i64 _ _ l.length rfl rfl rfl rfl (by rw [HIT.out.2.2.2]; omega) (by unfold maxLen; omega) (Nat.le_refl _) ?_; intro w2 hown2 hg2; have O2 := hid hown2; have G2 := hid hg2; clear hown2 hg2)
  have hb2 : Below w.heap.size w w2 := (Below.refl _ _).grown G2.out (Nat.le_refl _) (by simp)
  have HB2 := hid hb2
  clear hb2 G2
  go_loopw [14] (fun i wr => ∃ (k : Nat) (cs : Nat → Value) (L : List Value), k ≤ l.length ∧ i = .int .i64 k ∧ NT w.heap.size w.heap.size start l wr k cs L ∧ Below w.heap.size w wr) (fun i _ => l.length - (intOf i).toNat)
  case atStart => exact ⟨0, fun _ => .slice none 0 0, _, Nat.zero_le _, rfl, ⟨O2.out, fun _ _ h => absurd h (Nat.not_lt_zero _), fun _ _ h => absurd h (Nat.not_lt_zero _)⟩, HB2.out⟩
  case round =>
    obtain ⟨k, cs, L, hk, rfl, hnt, hb⟩ := hrel
    have NTH := hid hnt
    have HB := hid hb
    have hszr := hb.size
    clear hnt hb
    by_cases hkl : k < l.length
    · obtain ⟨b, o, cv, cc, hta, hbb, y0, y1, y2, y3, y4, hcode, hcn⟩ := HIN.out k hkl
      subst hta
      have bl := (HB.out.cell (p := ⟨b, o + k * 5, none⟩) hbb).trans y0
      have bl1 := (HB.out.cell (p := ⟨b, o + k * 5 + 1, none⟩) hbb).trans y1
      have bl2 := (HB.out.cell (p := ⟨b, o + k * 5 + 2, none⟩) hbb).trans y2
      have bl3 := (HB.out.cell (p := ⟨b, o + k * 5 + 3, none⟩) hbb).trans y3
      have bl4 := (HB.out.cell (p := ⟨b, o + k * 5 + 4, none⟩) hbb).trans y4
      have hcl := HC.out l[k] (List.getElem_mem hkl)
      have hof := HO.out l[k] (List.getElem_mem hkl)
      have HCODE := hid hcode
      have HCN := hid hcn
      have hkI : (k : Int) < (l.length : Int) := by omega
      clear y0 y1 y2 y3 y4 hcode hcn
      generalize hx : l[k] = x at *
      have HX := hid hx
      clear hx
      go_upto_region 5 with fail
      have hbA : Below wr.heap.size wr (wr.alloc (.cells #[.int .i64 x.base, .int .i64 x.offset, .int .i64 x.period, .int .i64 x.deadline, .slice cv x.code.length cc] 75)) := (Below.refl _ _).alloc (Nat.le_refl _) _
      have bA := Blk.new wr #[.int .i64 x.base, .int .i64 x.offset, .int .i64 x.period, .int .i64 x.deadline, .slice cv x.code.length cc] 75
      generalize wr.alloc (.cells #[.int .i64 x.base, .int .i64 x.offset, .int .i64 x.period, .int .i64 x.deadline, .slice cv x.code.length cc] 75) = wA at hbA bA ⊢
      have NTA := hid (NTH.out.below hbA)
      have HBA := hid (via HB.out HB.out.size hbA)
      have BA := hid bA
      have hszA := hbA.size
      have q4 := bA.cell 4
      simp at q4
      clear hbA bA bl bl1 bl2 bl3 bl4 NTH
      go_upto_region 6 with (at_make; refine wpList_make_full _ rfl _ _ 73 rfl w.heap.size 46 i4 (.agg #[.int .i64 0, .int .i64 0, .int .i64 0]) 3 Try.underlying73 HI4.out.1 HI4.out.2.1 HI4.out.2.2.1 .i64 .i64 _ _ x.code.length rfl rfl rfl rfl (by rw [HI4.out.2.2.2]; omega) (by unfold maxLen; omega) (by omega) ?_; intro w2 hown2 hg2; have O3 := hid hown2; have G3 := hid hg2; clear hown2 hg2)
      have hbB : Below wA.heap.size wA w2 := (Below.refl _ _).grown G3.out (Nat.le_refl _) (by simp)
      have NTB := hid (NTA.out.below hbB)
      have HBB := hid (via HBA.out HBA.out.size hbB)
      have BB := hid (show Blk w2 wr.heap.size #[.int .i64 x.base, .int .i64 x.offset, .int .i64 x.period, .int .i64 x.deadline, .slice cv x.code.length cc] 75 from by
        have h1 := BA.out
        have hl := BA.out.lt
        unfold Blk at h1 ⊢
        rw [hbB.block _ hl]
        exact h1)
      have HSRC := hid ((HCODE.out.stays HBB.out).src)
      have q4 := BB.out.cell 4
      simp at q4
      have hszB := hbB.size
      have HBW := hid hbB
      clear hbB HBA
      go_upto_region 7 with (refine wpList_copy_full rfl (.tmp 23) (.tmp 25) 73 rfl w.heap.size 46 i4 3 Try.underlying73 HI4.out.1 HI4.out.2.2.1 (by decide) wA.heap.size x.code.length x.code.length _ rfl O3.out cv cc (instrCells x.code) rfl (instrCells_length _) HCN.out HSRC.out (instrCells_one _) ?_; intro w3 hown3 hg3; have O4 := hid hown3; have G4 := hid hg3; clear hown3 hg3)
      have hnt3 : NT w.heap.size w.heap.size start l w3 k cs L := by
        refine NTA.out.same fun b cur e hg _ => ?_
        have hbl : b < wA.heap.size := by
          rcases Nat.lt_or_ge b wA.heap.size with h' | h'
          · exact h'
          · rw [Array.getElem?_eq_none h'] at hg; cases hg
        rw [G4.out.block b (by omega) (fun e => by cases e; omega), HBW.out.block b hbl]
      have R3 := hid hnt3
      have hLl : L.length = l.length * 13 := hnt3.row.1
      have hlt : wr.heap.size < wA.heap.size := BA.out.lt
      have B3 := hid (show Blk w3 wr.heap.size #[.int .i64 x.base, .int .i64 x.offset, .int .i64 x.period, .int .i64 x.deadline, .slice cv x.code.length cc] 75 from by
        have h1 := BB.out
        have hl := BB.out.lt
        unfold Blk at h1 ⊢
        rw [G4.out.block _ hl (fun e => by have := Option.some.inj e; omega)]
        exact h1)
      have HB3 : Hid (Below w.heap.size w w3) := HBB.out.grown G4.out HBB.out.size (fun b hb => by cases hb; omega)
      have q0 := B3.out.cell 0
      have q1 := B3.out.cell 1
      have q2 := B3.out.cell 2
      have q3 := B3.out.cell 3
      simp at q0 q1 q2 q3
      have d0 : w3.cell? ⟨w.heap.size, k * 13, none⟩ = some (L[k * 13]'(by omega)) := by rw [R3.out.row.cellAt _ (by omega)]; exact List.getElem?_eq_getElem _
      have e0 := R3.out.row.frozenAt (k * 13)
      have d1 : w3.cell? ⟨w.heap.size, k * 13 + 1, none⟩ = some (L[k * 13 + 1]'(by omega)) := by rw [R3.out.row.cellAt _ (by omega)]; exact List.getElem?_eq_getElem _
      have e1 := R3.out.row.frozenAt (k * 13 + 1)
      have d2 : w3.cell? ⟨w.heap.size, k * 13 + 2, none⟩ = some (L[k * 13 + 2]'(by omega)) := by rw [R3.out.row.cellAt _ (by omega)]; exact List.getElem?_eq_getElem _
      have e2 := R3.out.row.frozenAt (k * 13 + 2)
      have d3 : w3.cell? ⟨w.heap.size, k * 13 + 3, none⟩ = some (L[k * 13 + 3]'(by omega)) := by rw [R3.out.row.cellAt _ (by omega)]; exact List.getElem?_eq_getElem _
      have e3 := R3.out.row.frozenAt (k * 13 + 3)
      have d4 : w3.cell? ⟨w.heap.size, k * 13 + 4, none⟩ = some (L[k * 13 + 4]'(by omega)) := by rw [R3.out.row.cellAt _ (by omega)]; exact List.getElem?_eq_getElem _
      have e4 := R3.out.row.frozenAt (k * 13 + 4)
      have d5 : w3.cell? ⟨w.heap.size, k * 13 + 5, none⟩ = some (L[k * 13 + 5]'(by omega)) := by rw [R3.out.row.cellAt _ (by omega)]; exact List.getElem?_eq_getElem _
      have e5 := R3.out.row.frozenAt (k * 13 + 5)
      have d6 : w3.cell? ⟨w.heap.size, k * 13 + 6, none⟩ = some (L[k * 13 + 6]'(by omega)) := by rw [R3.out.row.cellAt _ (by omega)]; exact List.getElem?_eq_getElem _
      have e6 := R3.out.row.frozenAt (k * 13 + 6)
      have d7 : w3.cell? ⟨w.heap.size, k * 13 + 7, none⟩ = some (L[k * 13 + 7]'(by omega)) := by rw [R3.out.row.cellAt _ (by omega)]; exact List.getElem?_eq_getElem _
      have e7 := R3.out.row.frozenAt (k * 13 + 7)
      have d8 : w3.cell? ⟨w.heap.size, k * 13 + 8, none⟩ = some (L[k * 13 + 8]'(by omega)) := by rw [R3.out.row.cellAt _ (by omega)]; exact List.getElem?_eq_getElem _
      have e8 := R3.out.row.frozenAt (k * 13 + 8)
      have d9 : w3.cell? ⟨w.heap.size, k * 13 + 9, none⟩ = some (L[k * 13 + 9]'(by omega)) := by rw [R3.out.row.cellAt _ (by omega)]; exact List.getElem?_eq_getElem _
      have e9 := R3.out.row.frozenAt (k * 13 + 9)
      have d10 : w3.cell? ⟨w.heap.size, k * 13 + 10, none⟩ = some (L[k * 13 + 10]'(by omega)) := by rw [R3.out.row.cellAt _ (by omega)]; exact List.getElem?_eq_getElem _
      have e10 := R3.out.row.frozenAt (k * 13 + 10)
      have d11 : w3.cell? ⟨w.heap.size, k * 13 + 11, none⟩ = some (L[k * 13 + 11]'(by omega)) := by rw [R3.out.row.cellAt _ (by omega)]; exact List.getElem?_eq_getElem _
      have e11 := R3.out.row.frozenAt (k * 13 + 11)
      have d12 : w3.cell? ⟨w.heap.size, k * 13 + 12, none⟩ = some (L[k * 13 + 12]'(by omega)) := by rw [R3.out.row.cellAt _ (by omega)]; exact List.getElem?_eq_getElem _
      have e12 := R3.out.row.frozenAt (k * 13 + 12)
      have rAll := (((((((((((((R3.out.row.stored (k * 13) (.slice (some ⟨wA.heap.size, 0, none⟩) x.code.length x.code.length)).1.stored (k * 13 + 1) (.int .i64 x.base)).1.stored (k * 13 + 2) (.int .i64 (start + x.offset))).1.stored (k * 13 + 3) (.int .i64 x.period)).1.stored (k * 13 + 4) (.int .i64 x.deadline)).1.stored (k * 13 + 5) (.int .i64 0)).1.stored (k * 13 + 6) (.int .i64 0)).1.stored (k * 13 + 7) (.int .i64 0)).1.stored (k * 13 + 8) (.int .i64 0)).1.stored (k * 13 + 9) (.int .i64 0)).1.stored (k * 13 + 10) (.int .i64 0)).1.stored (k * 13 + 11) (.int .i64 0)).1.stored (k * 13 + 12) (.int .i64 0)).1
      have HBS : Hid (Below w.heap.size w (((((((((((((w3.setCell ⟨w.heap.size, k * 13, none⟩ (.slice (some ⟨wA.heap.size, 0, none⟩) x.code.length x.code.length)).setCell ⟨w.heap.size, k * 13 + 1, none⟩ (.int .i64 x.base)).setCell ⟨w.heap.size, k * 13 + 2, none⟩ (.int .i64 (start + x.offset))).setCell ⟨w.heap.size, k * 13 + 3, none⟩ (.int .i64 x.period)).setCell ⟨w.heap.size, k * 13 + 4, none⟩ (.int .i64 x.deadline)).setCell ⟨w.heap.size, k * 13 + 5, none⟩ (.int .i64 0)).setCell ⟨w.heap.size, k * 13 + 6, none⟩ (.int .i64 0)).setCell ⟨w.heap.size, k * 13 + 7, none⟩ (.int .i64 0)).setCell ⟨w.heap.size, k * 13 + 8, none⟩ (.int .i64 0)).setCell ⟨w.heap.size, k * 13 + 9, none⟩ (.int .i64 0)).setCell ⟨w.heap.size, k * 13 + 10, none⟩ (.int .i64 0)).setCell ⟨w.heap.size, k * 13 + 11, none⟩ (.int .i64 0)).setCell ⟨w.heap.size, k * 13 + 12, none⟩ (.int .i64 0))) := (((((((((((((HB3.out.setCell (Nat.le_refl _) (.slice (some ⟨wA.heap.size, 0, none⟩) x.code.length x.code.length)).setCell (Nat.le_refl _) (.int .i64 x.base)).setCell (Nat.le_refl _) (.int .i64 (start + x.offset))).setCell (Nat.le_refl _) (.int .i64 x.period)).setCell (Nat.le_refl _) (.int .i64 x.deadline)).setCell (Nat.le_refl _) (.int .i64 0)).setCell (Nat.le_refl _) (.int .i64 0)).setCell (Nat.le_refl _) (.int .i64 0)).setCell (Nat.le_refl _) (.int .i64 0)).setCell (Nat.le_refl _) (.int .i64 0)).setCell (Nat.le_refl _) (.int .i64 0)).setCell (Nat.le_refl _) (.int .i64 0)).setCell (Nat.le_refl _) (.int .i64 0))
      have hsame : ∀ b, b ≠ w.heap.size → (((((((((((((w3.setCell ⟨w.heap.size, k * 13, none⟩ (.slice (some ⟨wA.heap.size, 0, none⟩) x.code.length x.code.length)).setCell ⟨w.heap.size, k * 13 + 1, none⟩ (.int .i64 x.base)).setCell ⟨w.heap.size, k * 13 + 2, none⟩ (.int .i64 (start + x.offset))).setCell ⟨w.heap.size, k * 13 + 3, none⟩ (.int .i64 x.period)).setCell ⟨w.heap.size, k * 13 + 4, none⟩ (.int .i64 x.deadline)).setCell ⟨w.heap.size, k * 13 + 5, none⟩ (.int .i64 0)).setCell ⟨w.heap.size, k * 13 + 6, none⟩ (.int .i64 0)).setCell ⟨w.heap.size, k * 13 + 7, none⟩ (.int .i64 0)).setCell ⟨w.heap.size, k * 13 + 8, none⟩ (.int .i64 0)).setCell ⟨w.heap.size, k * 13 + 9, none⟩ (.int .i64 0)).setCell ⟨w.heap.size, k * 13 + 10, none⟩ (.int .i64 0)).setCell ⟨w.heap.size, k * 13 + 11, none⟩ (.int .i64 0)).setCell ⟨w.heap.size, k * 13 + 12, none⟩ (.int .i64 0)).heap[b]? = w3.heap[b]? := by
        intro b hb
        iterate 13 rw [Below.heap_setCell _ _ _ _ hb]
      have hnt4 : NT w.heap.size w.heap.size start l (((((((((((((w3.setCell ⟨w.heap.size, k * 13, none⟩ (.slice (some ⟨wA.heap.size, 0, none⟩) x.code.length x.code.length)).setCell ⟨w.heap.size, k * 13 + 1, none⟩ (.int .i64 x.base)).setCell ⟨w.heap.size, k * 13 + 2, none⟩ (.int .i64 (start + x.offset))).setCell ⟨w.heap.size, k * 13 + 3, none⟩ (.int .i64 x.period)).setCell ⟨w.heap.size, k * 13 + 4, none⟩ (.int .i64 x.deadline)).setCell ⟨w.heap.size, k * 13 + 5, none⟩ (.int .i64 0)).setCell ⟨w.heap.size, k * 13 + 6, none⟩ (.int .i64 0)).setCell ⟨w.heap.size, k * 13 + 7, none⟩ (.int .i64 0)).setCell ⟨w.heap.size, k * 13 + 8, none⟩ (.int .i64 0)).setCell ⟨w.heap.size, k * 13 + 9, none⟩ (.int .i64 0)).setCell ⟨w.heap.size, k * 13 + 10, none⟩ (.int .i64 0)).setCell ⟨w.heap.size, k * 13 + 11, none⟩ (.int .i64 0)).setCell ⟨w.heap.size, k * 13 + 12, none⟩ (.int .i64 0)) (k + 1) (fun i => if i = k then .slice (some ⟨wA.heap.size, 0, none⟩) x.code.length x.code.length else cs i) (((((((((((((L.set (k * 13) (.slice (some ⟨wA.heap.size, 0, none⟩) x.code.length x.code.length)).set (k * 13 + 1) (.int .i64 x.base)).set (k * 13 + 2) (.int .i64 (start + x.offset))).set (k * 13 + 3) (.int .i64 x.period)).set (k * 13 + 4) (.int .i64 x.deadline)).set (k * 13 + 5) (.int .i64 0)).set (k * 13 + 6) (.int .i64 0)).set (k * 13 + 7) (.int .i64 0)).set (k * 13 + 8) (.int .i64 0)).set (k * 13 + 9) (.int .i64 0)).set (k * 13 + 10) (.int .i64 0)).set (k * 13 + 11) (.int .i64 0)).set (k * 13 + 12) (.int .i64 0)) := by
        refine ⟨rAll, fun i hi hik j hj => ?_, fun i hi hik => ?_⟩
        · rw [setAll L k _ _ _ _ _ _ _ _ _ _ _ _ _ (by omega) i j hj]
          by_cases e : i = k
          · subst e
            rw [if_pos rfl, HX.out]
            simp only [if_pos]
            rfl
          · rw [if_neg e]
            simp only [if_neg e]
            exact R3.out.cells i hi (by omega) j hj
        · by_cases e : i = k
          · subst e
            simp only [if_pos]
            rw [HX.out]
            refine ownsRow_same O4.out fun b hb => hsame b (fun e => ?_)
            cases hb
            have : wA.heap.size = w.heap.size := e
            omega
          · simp only [if_neg e]
            refine ownsRow_same (R3.out.codes i hi (by omega)) fun b hb => hsame b (fun e => ?_)
            obtain ⟨_, _, cur, hc⟩ := ownsRow_block (R3.out.codes i hi (by omega)) hb
            obtain ⟨_, _, cur', hc'⟩ := ownsRow_block R3.out.row rfl
            rw [e, hc'] at hc
            cases hc
      have NT4 := hid hnt4
      clear hnt4 rAll hsame hnt3
      go_wp2
      go_roundw
      case rel => exact ⟨k + 1, _, _, by omega, by go_num, NT4.out, HBS.out⟩
      case measure => simp [intOf]; omega
    · have e : k = l.length := by omega
      subst e
      go_wp2
      go_ret
      exact ⟨_, cs, L, rfl, Nat.le_refl _, NTH.out, HB.out⟩


set_option maxRecDepth 100000 in
set_option maxHeartbeats 1000000 in
theorem kFirstTickets_any (w : World) (n : Nat) (hn : n ≤ 16) :
    Calls Try.prog 54 #[.int .i64 n] w fun e w' => ∃ g, e = .returned (.slice (some ⟨g, 0, none⟩) n n) ∧ w'.ownsRow w.heap.size 3 1 (.slice (some ⟨g, 0, none⟩) n n) n (intCells (Ln.ints (List.range n))) ∧ Below w.heap.size w w' := by
  obtain ⟨i3, hi3, hz30, hz31, hz32⟩ := info_parts Try.infoInt
  have HI3 := hid (And.intro hi3 (And.intro hz30 (And.intro hz31 hz32)))
  clear hi3 hz30 hz31 hz32
  go_enter Try.func54, Try.ntmps54
  go_wp2_with (at_make; refine wpList_make_full _ rfl _ _ 25 rfl w.heap.size 3 i3 (.int .i64 0) 1 Try.underlying25 HI3.out.1 HI3.out.2.1 HI3.out.2.2.1 .i64 .i64 _ _ n rfl rfl rfl rfl (by rw [HI3.out.2.2.2]; omega) (by unfold maxLen; omega) (Nat.le_refl _) ?_; intro w2 hown2 hg2; have O2 := hid hown2; have G2 := hid hg2; clear hown2 hg2)
  have hr2 : w2.ownsRow w.heap.size 3 1 (.slice (some ⟨w.heap.size, 0, none⟩) n n) n (intCells (R.atTo (fun i => (i : Int)) n 0)) := by
    have := O2.out
    have e : (madeCells (Value.int IntKind.i64 0).cells (n * 1)).toList = intCells (R.atTo (fun i => (i : Int)) n 0) := by
      rw [R.atTo_zero, Nat.mul_one]
      show (madeCells #[Value.int IntKind.i64 0] n).toList = _
      rw [toList_madeCells_one]
      simp [intCells]
    rwa [e] at this
  have R2 := hid hr2
  have hb2 : Below w.heap.size w w2 := (Below.refl _ _).grown G2.out (Nat.le_refl _) (by simp)
  have HB2 := hid hb2
  clear hr2 O2 G2 hb2
  go_loopw [9] (fun i wr => ∃ k : Nat, k ≤ n ∧ i = .int .i64 k ∧ wr.ownsRow w.heap.size 3 1 (.slice (some ⟨w.heap.size, 0, none⟩) n n) n (intCells (R.atTo (fun i => (i : Int)) n k)) ∧ Below w.heap.size w wr) (fun i _ => n - (intOf i).toNat)
  case atStart => exact ⟨0, Nat.zero_le _, rfl, R2.out, HB2.out⟩
  case round =>
    obtain ⟨k, hk, rfl, hrow, hb⟩ := hrel
    have ROW := hid hrow
    have HB := hid hb
    clear hrow hb
    by_cases hkl : k < n
    · have x0 := row_get ROW.out (R.atTo_length _ _ _) hkl
      have f0 := ROW.out.frozenAt k
      have r1 := row_set ROW.out k (k : Int)
      rw [R.atTo_set1 (fun i => (i : Int)) n k hkl] at r1
      have R1 := hid r1
      have HB1 : Hid (Below w.heap.size w (wr.setCell ⟨w.heap.size, k, none⟩ (.int .i64 (k : Int)))) := HB.out.setCell (Nat.le_refl _) _
      have hkI : (k : Int) < (n : Int) := by omega
      clear r1
      generalize (R.atTo (fun i => (i : Int)) n k).getD k 0 = old at *
      go_wp2
      go_roundw
      case rel => exact ⟨k + 1, by omega, by go_num, R1.out, HB1.out⟩
      case measure => simp [intOf]; omega
    · have e : k = n := by omega
      subst e
      have EE : Hid (R.atTo (fun i => (i : Int)) k k = Ln.ints (List.range k)) := by
        refine hid (List.ext_getElem (by simp [R.atTo, Ln.ints]) fun i h1 h2 => ?_)
        have hi : i < k := by simpa [R.atTo] using h1
        simp [R.atTo, Ln.ints, hi]
      rw [EE.out] at ROW
      go_wp2
      go_ret
      exact ⟨w.heap.size, rfl, ROW.out, HB.out⟩

/-- What newMutexes has laid so far. -/
structure NMu (B g : Nat) (l : List PairD) (wr : World) (k : Nat) (L : List Value) : Prop where
  row : wr.ownsRow B 113 3 (.slice (some ⟨g, 0, none⟩) l.length l.length) l.length L
  cells : ∀ i (hi : i < l.length), i < k → ∀ j, j < 3 → L[i * 3 + j]? = [Value.int .i64 l[i].x, .int .i64 l[i].y, .int .i64 (-1)][j]?

set_option maxRecDepth 100000 in
set_option maxHeartbeats 2000000 in
theorem kNewMutexes_any (tv : Option Addr) (tc : Nat) (l : List PairD) (w : World) (hin : PairsIn w.heap.size w tv l) (h8 : l.length ≤ 8) :
    Calls Try.prog 50 #[.slice tv l.length tc] w fun e w' => ∃ g L, e = .returned (.slice (some ⟨g, 0, none⟩) l.length l.length) ∧ w.heap.size ≤ g ∧ NMu w.heap.size g l w' l.length L ∧ Below w.heap.size w w' := by
  have HIN := hid hin
  clear hin
  obtain ⟨iT, hiT, hzT0, hzT1, hzT2⟩ := info_parts Try.infoPM
  have HIT := hid (And.intro hiT (And.intro hzT0 (And.intro hzT1 hzT2)))
  clear hiT hzT0 hzT1 hzT2
  go_enter Try.func50, Try.ntmps50
  go_wp2_with (at_make; refine wpList_make_full _ rfl _ _ 84 rfl w.heap.size 113 iT (.agg #[.int .i64 0, .int .i64 0, .int .i64 0]) 3 Try.underlying84 HIT.out.1 HIT.out.2.1 HIT.out.2.2.1 .i64 .i64 _ _ l.length rfl rfl rfl rfl (by rw [HIT.out.2.2.2]; omega) (by unfold maxLen; omega) (Nat.le_refl _) ?_; intro w2 hown2 hg2; have O2 := hid hown2; have G2 := hid hg2; clear hown2 hg2)
  have hb2 : Below w.heap.size w w2 := (Below.refl _ _).grown G2.out (Nat.le_refl _) (by simp)
  have HB2 := hid hb2
  clear hb2 G2
  go_loopw [11] (fun i wr => ∃ (k : Nat) (L : List Value), k ≤ l.length ∧ i = .int .i64 k ∧ NMu w.heap.size w.heap.size l wr k L ∧ Below w.heap.size w wr) (fun i _ => l.length - (intOf i).toNat)
  case atStart => exact ⟨0, _, Nat.zero_le _, rfl, ⟨O2.out, fun _ _ h => absurd h (Nat.not_lt_zero _)⟩, HB2.out⟩
  case round =>
    obtain ⟨k, L, hk, rfl, hnt, hb⟩ := hrel
    have NTH := hid hnt
    have HB := hid hb
    have hszr := hb.size
    have hLl : L.length = l.length * 3 := hnt.row.1
    clear hnt hb
    by_cases hkl : k < l.length
    · obtain ⟨b, o, hta, hbb, y0, y1⟩ := HIN.out k hkl
      subst hta
      have bl := (HB.out.cell (p := ⟨b, o + k * 2, none⟩) hbb).trans y0
      have bl1 := (HB.out.cell (p := ⟨b, o + k * 2 + 1, none⟩) hbb).trans y1
      have hkI : (k : Int) < (l.length : Int) := by omega
      clear y0 y1
      generalize hx : l[k] = x at *
      have HX := hid hx
      clear hx
      go_upto_region 5 with fail
      have hbA : Below wr.heap.size wr (wr.alloc (.cells #[.int .i64 x.x, .int .i64 x.y] 77)) := (Below.refl _ _).alloc (Nat.le_refl _) _
      have bA := Blk.new wr #[.int .i64 x.x, .int .i64 x.y] 77
      generalize wr.alloc (.cells #[.int .i64 x.x, .int .i64 x.y] 77) = wA at hbA bA ⊢
      have rA := ownsRow_same NTH.out.row fun g hg => hbA.block g (ownsRow_block NTH.out.row hg).2.1
      have HBA := hid (via HB.out HB.out.size hbA)
      have q0 := bA.cell 0
      have q1 := bA.cell 1
      simp at q0 q1
      have d0 : wA.cell? ⟨w.heap.size, k * 3, none⟩ = some (L[k * 3]'(by omega)) := by rw [rA.cellAt _ (by omega)]; exact List.getElem?_eq_getElem _
      have e0 := rA.frozenAt (k * 3)
      have d1 : wA.cell? ⟨w.heap.size, k * 3 + 1, none⟩ = some (L[k * 3 + 1]'(by omega)) := by rw [rA.cellAt _ (by omega)]; exact List.getElem?_eq_getElem _
      have e1 := rA.frozenAt (k * 3 + 1)
      have d2 : wA.cell? ⟨w.heap.size, k * 3 + 2, none⟩ = some (L[k * 3 + 2]'(by omega)) := by rw [rA.cellAt _ (by omega)]; exact List.getElem?_eq_getElem _
      have e2 := rA.frozenAt (k * 3 + 2)
      have rAll := (((rA.stored (k * 3) (.int .i64 x.x)).1.stored (k * 3 + 1) (.int .i64 x.y)).1.stored (k * 3 + 2) (.int .i64 (-1))).1
      have HBS : Hid (Below w.heap.size w (((wA.setCell ⟨w.heap.size, k * 3, none⟩ (.int .i64 x.x)).setCell ⟨w.heap.size, k * 3 + 1, none⟩ (.int .i64 x.y)).setCell ⟨w.heap.size, k * 3 + 2, none⟩ (.int .i64 (-1)))) := ((HBA.out.setCell (Nat.le_refl _) (.int .i64 x.x)).setCell (Nat.le_refl _) (.int .i64 x.y)).setCell (Nat.le_refl _) (.int .i64 (-1))
      have hnt4 : NMu w.heap.size w.heap.size l (((wA.setCell ⟨w.heap.size, k * 3, none⟩ (.int .i64 x.x)).setCell ⟨w.heap.size, k * 3 + 1, none⟩ (.int .i64 x.y)).setCell ⟨w.heap.size, k * 3 + 2, none⟩ (.int .i64 (-1))) (k + 1) (((L.set (k * 3) (.int .i64 x.x)).set (k * 3 + 1) (.int .i64 x.y)).set (k * 3 + 2) (.int .i64 (-1))) := by
        refine ⟨rAll, fun i hi hik j hj => ?_⟩
        by_cases e : i = k
        · subst e
          rw [HX.out]
          have hcases : j = 0 ∨ j = 1 ∨ j = 2 := by omega
          rcases hcases with rfl | rfl | rfl <;> simp [List.getElem?_set] <;> omega
        · have h : ∀ m, m < 3 → k * 3 + m ≠ i * 3 + j := by omega
          have h0 : k * 3 ≠ i * 3 + j := h 0 (by omega)
          have := NTH.out.cells i hi (by omega) j hj
          simp [h 1, h 2, h0]
          simpa using this
      have NT4 := hid hnt4
      clear hnt4 rAll rA bl bl1 NTH hbA bA
      generalize L[k * 3]'(by omega) = o0 at *
      generalize L[k * 3 + 1]'(by omega) = o1 at *
      generalize L[k * 3 + 2]'(by omega) = o2 at *
      go_wp2
      go_roundw
      case rel => exact ⟨k + 1, _, by omega, by go_num, NT4.out, HBS.out⟩
      case measure => simp [intOf]; omega
    · have e : k = l.length := by omega
      subst e
      go_wp2
      go_ret
      exact ⟨_, L, rfl, Nat.le_refl _, NTH.out, HB.out⟩

end Go.Proofs.Ytbkfildnijjioab

/-
  Walks over package donate: newSems, newQueues.
-/
namespace Go.Proofs.Ytbkfildnijjioab
open Go.RowKit

theorem Try.infoPS : (Try.prog.info? 93).map (fun i => (i.zero, i.size, i.bytes)) = some (some (.agg #[.int .i64 0, .int .i64 0]), 2, 16) := by kernel_rfl
theorem Try.infoPQ : (Try.prog.info? 125).map (fun i => (i.zero, i.size, i.bytes)) = some (some (.agg #[.int .i64 0, .slice none 0 0]), 2, 32) := by kernel_rfl

/-- What newSems has laid so far. -/
structure NSe (B g : Nat) (l : List PairD) (wr : World) (k : Nat) (L : List Value) : Prop where
  row : wr.ownsRow B 93 2 (.slice (some ⟨g, 0, none⟩) l.length l.length) l.length L
  cells : ∀ i (hi : i < l.length), i < k → ∀ j, j < 2 → L[i * 2 + j]? = [Value.int .i64 l[i].x, .int .i64 l[i].y][j]?

set_option maxRecDepth 100000 in
set_option maxHeartbeats 2000000 in
theorem kNewSems_any (tv : Option Addr) (tc : Nat) (l : List PairD) (w : World) (hin : PairsIn w.heap.size w tv l) (h8 : l.length ≤ 8) :
    Calls Try.prog 51 #[.slice tv l.length tc] w fun e w' => ∃ g L, e = .returned (.slice (some ⟨g, 0, none⟩) l.length l.length) ∧ w.heap.size ≤ g ∧ NSe w.heap.size g l w' l.length L ∧ Below w.heap.size w w' := by
  have HIN := hid hin
  clear hin
  obtain ⟨iT, hiT, hzT0, hzT1, hzT2⟩ := info_parts Try.infoPS
  have HIT := hid (And.intro hiT (And.intro hzT0 (And.intro hzT1 hzT2)))
  clear hiT hzT0 hzT1 hzT2
  go_enter Try.func51, Try.ntmps51
  go_wp2_with (at_make; refine wpList_make_full _ rfl _ _ 85 rfl w.heap.size 93 iT (.agg #[.int .i64 0, .int .i64 0]) 2 Try.underlying85 HIT.out.1 HIT.out.2.1 HIT.out.2.2.1 .i64 .i64 _ _ l.length rfl rfl rfl rfl (by rw [HIT.out.2.2.2]; omega) (by unfold maxLen; omega) (Nat.le_refl _) ?_; intro w2 hown2 hg2; have O2 := hid hown2; have G2 := hid hg2; clear hown2 hg2)
  have hb2 : Below w.heap.size w w2 := (Below.refl _ _).grown G2.out (Nat.le_refl _) (by simp)
  have HB2 := hid hb2
  clear hb2 G2
  go_loopw [11] (fun i wr => ∃ (k : Nat) (L : List Value), k ≤ l.length ∧ i = .int .i64 k ∧ NSe w.heap.size w.heap.size l wr k L ∧ Below w.heap.size w wr) (fun i _ => l.length - (intOf i).toNat)
  case atStart => exact ⟨0, _, Nat.zero_le _, rfl, ⟨O2.out, fun _ _ h => absurd h (Nat.not_lt_zero _)⟩, HB2.out⟩
  case round =>
    obtain ⟨k, L, hk, rfl, hnt, hb⟩ := hrel
    have NTH := hid hnt
    have HB := hid hb
    have hszr := hb.size
    have hLl : L.length = l.length * 2 := hnt.row.1
    clear hnt hb
    by_cases hkl : k < l.length
    · obtain ⟨b, o, hta, hbb, y0, y1⟩ := HIN.out k hkl
      subst hta
      have bl := (HB.out.cell (p := ⟨b, o + k * 2, none⟩) hbb).trans y0
      have bl1 := (HB.out.cell (p := ⟨b, o + k * 2 + 1, none⟩) hbb).trans y1
      have hkI : (k : Int) < (l.length : Int) := by omega
      clear y0 y1
      generalize hx : l[k] = x at *
      have HX := hid hx
      clear hx
      go_upto_region 5 with fail
      have hbA : Below wr.heap.size wr (wr.alloc (.cells #[.int .i64 x.x, .int .i64 x.y] 56)) := (Below.refl _ _).alloc (Nat.le_refl _) _
      have bA := Blk.new wr #[.int .i64 x.x, .int .i64 x.y] 56
      generalize wr.alloc (.cells #[.int .i64 x.x, .int .i64 x.y] 56) = wA at hbA bA ⊢
      have rA := ownsRow_same NTH.out.row fun g hg => hbA.block g (ownsRow_block NTH.out.row hg).2.1
      have HBA := hid (via HB.out HB.out.size hbA)
      have q0 := bA.cell 0
      have q1 := bA.cell 1
      simp at q0 q1
      have d0 : wA.cell? ⟨w.heap.size, k * 2, none⟩ = some (L[k * 2]'(by omega)) := by rw [rA.cellAt _ (by omega)]; exact List.getElem?_eq_getElem _
      have e0 := rA.frozenAt (k * 2)
      have d1 : wA.cell? ⟨w.heap.size, k * 2 + 1, none⟩ = some (L[k * 2 + 1]'(by omega)) := by rw [rA.cellAt _ (by omega)]; exact List.getElem?_eq_getElem _
      have e1 := rA.frozenAt (k * 2 + 1)
      have rAll := ((rA.stored (k * 2) (.int .i64 x.x)).1.stored (k * 2 + 1) (.int .i64 x.y)).1
      have HBS : Hid (Below w.heap.size w ((wA.setCell ⟨w.heap.size, k * 2, none⟩ (.int .i64 x.x)).setCell ⟨w.heap.size, k * 2 + 1, none⟩ (.int .i64 x.y))) := (HBA.out.setCell (Nat.le_refl _) (.int .i64 x.x)).setCell (Nat.le_refl _) (.int .i64 x.y)
      have hnt4 : NSe w.heap.size w.heap.size l ((wA.setCell ⟨w.heap.size, k * 2, none⟩ (.int .i64 x.x)).setCell ⟨w.heap.size, k * 2 + 1, none⟩ (.int .i64 x.y)) (k + 1) ((L.set (k * 2) (.int .i64 x.x)).set (k * 2 + 1) (.int .i64 x.y)) := by
        refine ⟨rAll, fun i hi hik j hj => ?_⟩
        by_cases e : i = k
        · subst e
          rw [HX.out]
          have hcases : j = 0 ∨ j = 1 := by omega
          rcases hcases with rfl | rfl <;> simp [List.getElem?_set] <;> omega
        · have h : ∀ m, m < 2 → k * 2 + m ≠ i * 2 + j := by omega
          have h0 : k * 2 ≠ i * 2 + j := h 0 (by omega)
          have := NTH.out.cells i hi (by omega) j hj
          simp [h 1, h0]
          simpa using this
      have NT4 := hid hnt4
      clear hnt4 rAll rA bl bl1 NTH hbA bA
      generalize L[k * 2]'(by omega) = o0 at *
      generalize L[k * 2 + 1]'(by omega) = o1 at *
      go_wp2
      go_roundw
      case rel => exact ⟨k + 1, _, by omega, by go_num, NT4.out, HBS.out⟩
      case measure => simp [intOf]; omega
    · have e : k = l.length := by omega
      subst e
      go_wp2
      go_ret
      exact ⟨_, L, rfl, Nat.le_refl _, NTH.out, HB.out⟩

/-- What newQueues has laid so far. -/
structure NQu (B g : Nat) (l : List Int) (wr : World) (k : Nat) (L : List Value) : Prop where
  row : wr.ownsRow B 125 2 (.slice (some ⟨g, 0, none⟩) l.length l.length) l.length L
  cells : ∀ i (hi : i < l.length), ∀ j, j < 2 → L[i * 2 + j]? = [Value.int .i64 (if i < k then l[i] else 0), .slice none 0 0][j]?

theorem made_pair (a b : Value) (n i : Nat) (hi : i < n) (j : Nat) (hj : j < 2) : (madeCells #[a, b] (n * 2)).toList[i * 2 + j]? = [a, b][j]? := by
  unfold madeCells
  have hlt : i * 2 + j < n * 2 := by omega
  rw [Array.toList_map, List.getElem?_map, Array.toList_range, List.getElem?_range hlt]
  have hcases : j = 0 ∨ j = 1 := by omega
  rcases hcases with rfl | rfl
  · have : (i * 2 + 0) % 2 = 0 := by omega
    simp
  · have : (i * 2 + 1) % 2 = 1 := by omega
    simp [this]

set_option maxRecDepth 100000 in
set_option maxHeartbeats 2000000 in
theorem kNewQueues_any (tv : Option Addr) (tc : Nat) (l : List Int) (w : World) (hin : IntsIn w.heap.size w tv l) (h8 : l.length ≤ 8) :
    Calls Try.prog 52 #[.slice tv l.length tc] w fun e w' => ∃ g L, e = .returned (.slice (some ⟨g, 0, none⟩) l.length l.length) ∧ w.heap.size ≤ g ∧ NQu w.heap.size g l w' l.length L ∧ Below w.heap.size w w' := by
  have HIN := hid hin
  clear hin
  obtain ⟨iT, hiT, hzT0, hzT1, hzT2⟩ := info_parts Try.infoPQ
  have HIT := hid (And.intro hiT (And.intro hzT0 (And.intro hzT1 hzT2)))
  clear hiT hzT0 hzT1 hzT2
  go_enter Try.func52, Try.ntmps52
  go_wp2_with (at_make; refine wpList_make_full _ rfl _ _ 86 rfl w.heap.size 125 iT (.agg #[.int .i64 0, .slice none 0 0]) 2 Try.underlying86 HIT.out.1 HIT.out.2.1 HIT.out.2.2.1 .i64 .i64 _ _ l.length rfl rfl rfl rfl (by rw [HIT.out.2.2.2]; omega) (by unfold maxLen; omega) (Nat.le_refl _) ?_; intro w2 hown2 hg2; have O2 := hid hown2; have G2 := hid hg2; clear hown2 hg2)
  have hb2 : Below w.heap.size w w2 := (Below.refl _ _).grown G2.out (Nat.le_refl _) (by simp)
  have HB2 := hid hb2
  have NQ0 : Hid (NQu w.heap.size w.heap.size l w2 0 (madeCells (Value.agg #[.int .i64 0, .slice none 0 0]).cells (l.length * 2)).toList) := ⟨O2.out, fun i hi j hj => made_pair _ _ l.length i hi j hj⟩
  clear hb2 G2 O2
  go_loopw [11] (fun i wr => ∃ (k : Nat) (L : List Value), k ≤ l.length ∧ i = .int .i64 k ∧ NQu w.heap.size w.heap.size l wr k L ∧ Below w.heap.size w wr) (fun i _ => l.length - (intOf i).toNat)
  case atStart => exact ⟨0, _, Nat.zero_le _, rfl, NQ0.out, HB2.out⟩
  case round =>
    obtain ⟨k, L, hk, rfl, hnt, hb⟩ := hrel
    have NTH := hid hnt
    have HB := hid hb
    have hszr := hb.size
    have hLl : L.length = l.length * 2 := hnt.row.1
    clear hnt hb
    by_cases hkl : k < l.length
    · obtain ⟨b, o, hta, hbb, y0⟩ := HIN.out k hkl
      subst hta
      have bl := (HB.out.cell (p := ⟨b, o + k, none⟩) hbb).trans y0
      have hkI : (k : Int) < (l.length : Int) := by omega
      clear y0
      generalize hx : l[k] = x at *
      have HX := hid hx
      clear hx
      have rA := NTH.out.row
      have d0 : wr.cell? ⟨w.heap.size, k * 2, none⟩ = some (L[k * 2]'(by omega)) := by rw [rA.cellAt _ (by omega)]; exact List.getElem?_eq_getElem _
      have e0 := rA.frozenAt (k * 2)
      have rAll := (rA.stored (k * 2) (.int .i64 x)).1
      have HBS : Hid (Below w.heap.size w (wr.setCell ⟨w.heap.size, k * 2, none⟩ (.int .i64 x))) := HB.out.setCell (Nat.le_refl _) (.int .i64 x)
      have hnt4 : NQu w.heap.size w.heap.size l (wr.setCell ⟨w.heap.size, k * 2, none⟩ (.int .i64 x)) (k + 1) (L.set (k * 2) (.int .i64 x)) := by
        refine ⟨rAll, fun i hi j hj => ?_⟩
        have old := NTH.out.cells i hi j hj
        rw [List.getElem?_set]
        by_cases e : k * 2 = i * 2 + j
        · have e1 : i = k := by omega
          have e2 : j = 0 := by omega
          subst e1
          subst e2
          rw [if_pos e, if_pos (by omega), if_pos (by omega), HX.out]
          rfl
        · rw [if_neg e, old]
          have hcases : j = 0 ∨ j = 1 := by omega
          rcases hcases with rfl | rfl
          · have hne : i ≠ k := by omega
            by_cases h1 : i < k
            · rw [if_pos h1, if_pos (by omega)]
            · rw [if_neg h1, if_neg (by omega)]
          · rfl
      have NT4 := hid hnt4
      clear hnt4 rAll rA NTH
      generalize L[k * 2]'(by omega) = o0 at *
      go_wp2
      go_roundw
      case rel => exact ⟨k + 1, _, by omega, by go_num, NT4.out, HBS.out⟩
      case measure => simp [intOf]; omega
    · have e : k = l.length := by omega
      subst e
      go_wp2
      go_ret
      exact ⟨_, L, rfl, Nat.le_refl _, NTH.out, HB.out⟩

end Go.Proofs.Ytbkfildnijjioab

/-
  The law's own functions, over any program: what can be seen, and a step.
-/
namespace Go.Proofs.Ytbkfildnijjioab
open Go.RowKit
/-- What a statement that holds hd asks of the program's calls that tell. -/
structure CSee (PK : KP) (hd : Int) : Prop where
  tick : hd = 14 ∨ hd = 15 ∨ hd = 31 → CNow PK ∧ CMisses PK
  run : hd = 4 ∨ hd = 13 ∨ hd = 14 ∨ hd = 15 ∨ hd = 31 → CRunning PK
  look : hd = 8 ∨ hd = 13 ∨ hd = 14 ∨ hd = 15 ∨ hd = 31 → CLook PK
  own : hd = 31 → COwner PK ∧ CWaiting PK
  sto : hd = 32 → CCount PK ∧ CMessages PK ∧ CWaiting PK
section
variable {PK : KP} {B : Nat} {w : World} {bb kb sb : Nat} {P Q : Nat → Prop} {s : RS}
/-- An entry of a script. -/
def R.entry (s : RS) (n : Int) : RS := if n = -1 then R.tickS s else R.pickS s n
end
end Go.Proofs.Ytbkfildnijjioab

/-
  Walks: the lists of a set, looked through by package check.
-/
namespace Go.Proofs.Ytbkfildnijjioab
open Go.RowKit

set_option maxHeartbeats 400000 in
theorem firstBadMutex_any (ao : Option Addr) (cap : Nat) (l : List PairD) (w : World) (hl : PairsIn w.heap.size w ao l) (hn : (l.length : Int) ≤ 8) :
    Calls Try.prog 71 #[.slice ao l.length cap] w fun e w' => e = .returned (.int .i64 (P3.badOr P3.mutexP l)) ∧ Below w.heap.size w w' := by
  go_enter Try.func71, Try.ntmps71
  go_wp2
  go_loopw [7] (fun i wr => ∃ k : Nat, k ≤ l.length ∧ i = .int .i64 k ∧ (∀ j (h : j < k), (hl : j < l.length) → P3.mutexP l[j] = true) ∧ Below w.heap.size w wr) (fun i _ => l.length - (intOf i).toNat)
  case atStart => exact ⟨0, Nat.zero_le _, rfl, fun j h => absurd h (Nat.not_lt_zero _), Below.refl _ _⟩
  case round =>
    obtain ⟨k, hk, rfl, hall, hb⟩ := hrel
    by_cases hlt : k < l.length
    · obtain ⟨b, o, rfl, hbb, hx, hy⟩ := hl k hlt
      have H1 : Hid (∀ j (h : j < k), (hl : j < l.length) → P3.mutexP l[j] = true) := hall
      have HL : Hid (PairsIn w.heap.size w (some ⟨b, o, none⟩) l) := hl
      have hx' := (hb.cell (p := ⟨b, o + k * 2, none⟩) hbb).trans hx
      have hy' := (hb.cell (p := ⟨b, o + k * 2 + 1, none⟩) hbb).trans hy
      have hsz := hb.size
      clear hall hl hx hy
      go_wp2_with (go_at_call 90; refine (mutexFits_any _ _ _).mono ?_; rintro e w1 ⟨rfl, hb1⟩)
      · go_ret
        refine ⟨ret_int (P3.badOr_at P3.mutexP l k hlt ?_ (fun j h => H1.out j h (by omega))).symm, via (hb.alloc hb.size _) (by simp; omega) hb1⟩
        simpa [P3.mutexP] using ‹(!P3.mutexB l[k].x l[k].y) = true›
      · go_roundw
        case rel =>
          refine ⟨k + 1, by omega, by go_num, ?_, via (hb.alloc hb.size _) (by simp; omega) hb1⟩
          intro j h h'
          rcases Nat.lt_succ_iff_lt_or_eq.1 h with h1 | rfl
          · exact H1.out j h1 h'
          · simpa [P3.mutexP] using ‹(!P3.mutexB l[j].x l[j].y) = false›
        case measure => simp [intOf]; omega
    · have H1 : Hid (∀ j (h : j < k), (hl : j < l.length) → P3.mutexP l[j] = true) := hall
      have HL : Hid (PairsIn w.heap.size w ao l) := hl
      clear hall hl
      go_wp2
      go_ret
      exact ⟨ret_int (P3.badOr_none P3.mutexP l (fun j h => H1.out j (by omega) h)).symm, hb⟩

set_option maxHeartbeats 400000 in
theorem firstBadSem_any (ao : Option Addr) (cap : Nat) (l : List PairD) (w : World) (hl : PairsIn w.heap.size w ao l) (hn : (l.length : Int) ≤ 4) :
    Calls Try.prog 72 #[.slice ao l.length cap] w fun e w' => e = .returned (.int .i64 (P3.badOr P3.semP l)) ∧ Below w.heap.size w w' := by
  go_enter Try.func72, Try.ntmps72
  go_wp2
  go_loopw [7] (fun i wr => ∃ k : Nat, k ≤ l.length ∧ i = .int .i64 k ∧ (∀ j (h : j < k), (hl : j < l.length) → P3.semP l[j] = true) ∧ Below w.heap.size w wr) (fun i _ => l.length - (intOf i).toNat)
  case atStart => exact ⟨0, Nat.zero_le _, rfl, fun j h => absurd h (Nat.not_lt_zero _), Below.refl _ _⟩
  case round =>
    obtain ⟨k, hk, rfl, hall, hb⟩ := hrel
    have H1 : Hid (∀ j (h : j < k), (hl : j < l.length) → P3.semP l[j] = true) := hall
    clear hall
    by_cases hlt : k < l.length
    · obtain ⟨b, o, rfl, hbb, hx, hy⟩ := hl k hlt
      have hx' := (hb.cell (p := ⟨b, o + k * 2, none⟩) hbb).trans hx
      have hy' := (hb.cell (p := ⟨b, o + k * 2 + 1, none⟩) hbb).trans hy
      have hsz := hb.size
      clear hl hx hy
      cases hok : P3.semB l[k].x l[k].y
      · have HB : Hid (P3.semB l[k].x l[k].y = false) := hok
        clear hok
        have hB := HB.out
        unfold P3.semB at hB
        rw [decide_eq_false_iff_not] at hB
        have hor : l[k].y < 1 ∨ (1 ≤ l[k].y ∧ 100 < l[k].y) ∨ (1 ≤ l[k].y ∧ l[k].y ≤ 100 ∧ l[k].x < 0) ∨ (1 ≤ l[k].y ∧ l[k].y ≤ 100 ∧ 0 ≤ l[k].x ∧ l[k].y < l[k].x) := by omega
        clear hB
        rcases hor with h1 | ⟨h1, h2⟩ | ⟨h1, h2, h3⟩ | ⟨h1, h2, h3, h4⟩
        all_goals
          go_wp2
          go_ret
          exact ⟨ret_int (P3.badOr_at P3.semP l k hlt HB.out (fun j h => H1.out j h (by omega))).symm, hb.alloc hb.size _⟩
      · have HB : Hid (P3.semB l[k].x l[k].y = true) := hok
        clear hok
        have hB := HB.out
        unfold P3.semB at hB
        rw [decide_eq_true_iff] at hB
        obtain ⟨h1, h2, h3, h4⟩ := hB
        go_wp2
        go_roundw
        case rel =>
          refine ⟨k + 1, by omega, by go_num, ?_, hb.alloc hb.size _⟩
          intro j h h'
          rcases Nat.lt_succ_iff_lt_or_eq.1 h with h1 | rfl
          · exact H1.out j h1 h'
          · exact HB.out
        case measure => simp [intOf]; omega
    · clear hl
      go_wp2
      go_ret
      exact ⟨ret_int (P3.badOr_none P3.semP l (fun j h => H1.out j (by omega) h)).symm, hb⟩

set_option maxHeartbeats 400000 in
theorem firstBadQueue_any (ao : Option Addr) (cap : Nat) (l : List Int) (w : World) (hl : IntsIn w.heap.size w ao l) (hn : (l.length : Int) ≤ 4) :
    Calls Try.prog 73 #[.slice ao l.length cap] w fun e w' => e = .returned (.int .i64 (P3.badOr P3.queueB l)) ∧ Below w.heap.size w w' := by
  go_enter Try.func73, Try.ntmps73
  go_wp2
  go_loopw [7] (fun i wr => ∃ k : Nat, k ≤ l.length ∧ i = .int .i64 k ∧ (∀ j (h : j < k), (hl : j < l.length) → P3.queueB l[j] = true) ∧ Below w.heap.size w wr) (fun i _ => l.length - (intOf i).toNat)
  case atStart => exact ⟨0, Nat.zero_le _, rfl, fun j h => absurd h (Nat.not_lt_zero _), Below.refl _ _⟩
  case round =>
    obtain ⟨k, hk, rfl, hall, hb⟩ := hrel
    have H1 : Hid (∀ j (h : j < k), (hl : j < l.length) → P3.queueB l[j] = true) := hall
    clear hall
    by_cases hlt : k < l.length
    · obtain ⟨b, o, rfl, hbb, hx⟩ := hl k hlt
      have hx' := (hb.cell (p := ⟨b, o + k, none⟩) hbb).trans hx
      have hsz := hb.size
      clear hl hx
      cases hok : P3.queueB l[k]
      · have HB : Hid (P3.queueB l[k] = false) := hok
        clear hok
        have hB := HB.out
        unfold P3.queueB at hB
        rw [decide_eq_false_iff_not] at hB
        have hor : l[k] < 1 ∨ (1 ≤ l[k] ∧ 8 < l[k]) := by omega
        clear hB
        rcases hor with h1 | ⟨h1, h2⟩
        all_goals
          go_wp2
          go_ret
          exact ⟨ret_int (P3.badOr_at P3.queueB l k hlt HB.out (fun j h => H1.out j h (by omega))).symm, hb⟩
      · have HB : Hid (P3.queueB l[k] = true) := hok
        clear hok
        have hB := HB.out
        unfold P3.queueB at hB
        rw [decide_eq_true_iff] at hB
        obtain ⟨h1, h2⟩ := hB
        go_wp2
        go_roundw
        case rel =>
          refine ⟨k + 1, by omega, by go_num, ?_, hb⟩
          intro j h h'
          rcases Nat.lt_succ_iff_lt_or_eq.1 h with h1 | rfl
          · exact H1.out j h1 h'
          · exact HB.out
        case measure => simp [intOf]; omega
    · clear hl
      go_wp2
      go_ret
      exact ⟨ret_int (P3.badOr_none P3.queueB l (fun j h => H1.out j (by omega) h)).symm, hb⟩

set_option maxHeartbeats 400000 in
theorem firstBadThread_any (ao : Option Addr) (cap : Nat) (l : List ThreadD) (w : World) (hl : ThreadsIn w.heap.size w ao l) (hn : (l.length : Int) ≤ 16) :
    Calls Try.prog 74 #[.slice ao l.length cap] w fun e w' => e = .returned (.int .i64 (P3.badOr P3.threadP l)) ∧ Below w.heap.size w w' := by
  go_enter Try.func74, Try.ntmps74
  go_wp2
  go_loopw [7] (fun i wr => ∃ k : Nat, k ≤ l.length ∧ i = .int .i64 k ∧ (∀ j (h : j < k), (hl : j < l.length) → P3.threadP l[j] = true) ∧ Below w.heap.size w wr) (fun i _ => l.length - (intOf i).toNat)
  case atStart => exact ⟨0, Nat.zero_le _, rfl, fun j h => absurd h (Nat.not_lt_zero _), Below.refl _ _⟩
  case round =>
    obtain ⟨k, hk, rfl, hall, hb⟩ := hrel
    have H1 : Hid (∀ j (h : j < k), (hl : j < l.length) → P3.threadP l[j] = true) := hall
    clear hall
    by_cases hlt : k < l.length
    · obtain ⟨b, o, cv, cc, rfl, hbb, c0, c1, c2, c3, c4, _⟩ := hl k hlt
      have c0' := (hb.cell (p := ⟨b, o + k * 5, none⟩) hbb).trans c0
      have c1' := (hb.cell (p := ⟨b, o + k * 5 + 1, none⟩) hbb).trans c1
      have c2' := (hb.cell (p := ⟨b, o + k * 5 + 2, none⟩) hbb).trans c2
      have c3' := (hb.cell (p := ⟨b, o + k * 5 + 3, none⟩) hbb).trans c3
      have c4' := (hb.cell (p := ⟨b, o + k * 5 + 4, none⟩) hbb).trans c4
      have hsz := hb.size
      clear hl c0 c1 c2 c3 c4
      go_wp2_with (go_at_call 91; refine (threadFits_any _ _ _ _ _ _ _ _).mono ?_; rintro e w1 ⟨rfl, hb1⟩)
      · go_ret
        refine ⟨ret_int (P3.badOr_at P3.threadP l k hlt ?_ (fun j h => H1.out j h (by omega))).symm, via (hb.alloc hb.size _) (by simp; omega) hb1⟩
        simpa [P3.threadP] using ‹(!P3.threadB _ _ _ _ _) = true›
      · go_roundw
        case rel =>
          refine ⟨k + 1, by omega, by go_num, ?_, via (hb.alloc hb.size _) (by simp; omega) hb1⟩
          intro j h h'
          rcases Nat.lt_succ_iff_lt_or_eq.1 h with h1 | rfl
          · exact H1.out j h1 h'
          · simpa [P3.threadP] using ‹(!P3.threadB _ _ _ _ _) = false›
        case measure => simp [intOf]; omega
    · clear hl
      go_wp2
      go_ret
      exact ⟨ret_int (P3.badOr_none P3.threadP l (fun j h => H1.out j (by omega) h)).symm, hb⟩

end Go.Proofs.Ytbkfildnijjioab

/-
  Walks: the codes of a set, looked through by package check.
-/
namespace Go.Proofs.Ytbkfildnijjioab
open Go.RowKit

/-- What the two loops have seen so far: threads ahead of t have good codes. -/
def CodesTo (S : SetD) (t : Nat) : Prop := ∀ j (_ : j < t), (hl : j < S.threads.length) → P3.codeP S S.threads[j] = true
def CodeTo (S : SetD) (c : List InstrD) (i : Nat) : Prop := ∀ j (_ : j < i), (hl : j < c.length) → P3.instrP S c.length c[j] = true

theorem CodesTo.step {S : SetD} {t : Nat} (h : CodesTo S t) (ht : t < S.threads.length) (hc : CodeTo S S.threads[t].code S.threads[t].code.length) : CodesTo S (t + 1) := by
  intro j hj hl
  rcases Nat.lt_succ_iff_lt_or_eq.1 hj with h1 | rfl
  · exact h j h1 hl
  · unfold P3.codeP
    rw [decide_eq_true_iff]
    exact P3.bad_all _ _ (fun i hi => hc i hi hi)

theorem badCode_none {S : SetD} (h : CodesTo S S.threads.length) : P3.badCode S = -1 := by
  unfold P3.badCode
  rw [P3.bad_all (P3.codeP S) S.threads (fun j hj => h j hj hj), if_neg (by omega)]

theorem badCode_at {S : SetD} {t i : Nat} (h : CodesTo S t) (ht : t < S.threads.length) (hc : CodeTo S S.threads[t].code i) (hi : i < S.threads[t].code.length)
    (hb : P3.instrP S S.threads[t].code.length S.threads[t].code[i] = false) : P3.badCode S = 100 * (t : Int) + i := by
  have e1 : P3.bad (P3.instrP S S.threads[t].code.length) S.threads[t].code = i := P3.bad_eq _ _ i hi hb (fun j hj => hc j hj (by omega))
  have e2 : P3.bad (P3.codeP S) S.threads = t := by
    refine P3.bad_eq _ _ t ht ?_ (fun j hj => h j hj (by omega))
    unfold P3.codeP
    rw [decide_eq_false_iff_not, e1]
    omega
  unfold P3.badCode
  have e3 : S.threads.getD t P3.none0 = S.threads[t] := by simp [List.getD, ht]
  rw [e2, if_pos ht, e3, e1]

set_option maxHeartbeats 1000000 in
theorem firstBadInstr_any (tv mv sv qv : Option Addr) (tc mc sc qc : Nat) (S : SetD) (w : World) (hl : ThreadsIn w.heap.size w tv S.threads)
    (h1 : (S.threads.length : Int) ≤ 16) (h2 : (S.mutexes.length : Int) ≤ 8) (h3 : (S.sems.length : Int) ≤ 4) (h4 : (S.queues.length : Int) ≤ 4) (h5 : ∀ j (h : j < S.threads.length), (S.threads[j].code.length : Int) ≤ 32) :
    Calls Try.prog 75 #[.agg #[.int .i64 S.workers, .int .i64 S.start, .slice tv S.threads.length tc, .slice mv S.mutexes.length mc, .slice sv S.sems.length sc, .slice qv S.queues.length qc]] w fun e w' =>
      e = .returned (.int .i64 (P3.badCode S)) ∧ Below w.heap.size w w' := by
  have H5 : Hid (∀ j (h : j < S.threads.length), (S.threads[j].code.length : Int) ≤ 32) := h5
  have HL : Hid (ThreadsIn w.heap.size w tv S.threads) := hl
  clear h5 hl
  go_enter Try.func75, Try.ntmps75
  go_wp2
  generalize hw0 : w.alloc (.cells #[.int .i64 S.workers, .int .i64 S.start, .slice tv S.threads.length tc, .slice mv S.mutexes.length mc, .slice sv S.sems.length sc, .slice qv S.queues.length qc] 27) = w0
  have hs0 : w.heap.size < w0.heap.size := by rw [← hw0]; simp
  have b0 : w0.cell? ⟨w.heap.size, 0, none⟩ = some (.int .i64 S.workers) := by rw [← hw0]; simp
  have b1 : w0.cell? ⟨w.heap.size, 1, none⟩ = some (.int .i64 S.start) := by rw [← hw0]; simp
  have b2 : w0.cell? ⟨w.heap.size, 2, none⟩ = some (.slice tv S.threads.length tc) := by rw [← hw0]; simp
  have b3 : w0.cell? ⟨w.heap.size, 3, none⟩ = some (.slice mv S.mutexes.length mc) := by rw [← hw0]; simp
  have b4 : w0.cell? ⟨w.heap.size, 4, none⟩ = some (.slice sv S.sems.length sc) := by rw [← hw0]; simp
  have b5 : w0.cell? ⟨w.heap.size, 5, none⟩ = some (.slice qv S.queues.length qc) := by rw [← hw0]; simp
  have hl0 : ThreadsIn w.heap.size w0 tv S.threads := HL.out.stays (by rw [← hw0]; exact (Below.refl _ _).alloc (Nat.le_refl _) _)
  have hb0 : Below w.heap.size w w0 := by rw [← hw0]; exact (Below.refl _ _).alloc (Nat.le_refl _) _
  clear hw0 HL
  have HL : Hid (ThreadsIn w.heap.size w0 tv S.threads) := hl0
  clear hl0
  go_loopw [11] (fun i wr => ∃ k : Nat, k ≤ S.threads.length ∧ i = .int .i64 k ∧ CodesTo S k ∧ Below w0.heap.size w0 wr) (fun i _ => S.threads.length - (intOf i).toNat)
  case atStart => exact ⟨0, Nat.zero_le _, rfl, fun j h => absurd h (Nat.not_lt_zero _), Below.refl _ _⟩
  case round =>
    obtain ⟨k, hk, rfl, hall, hb⟩ := hrel
    by_cases hlt : k < S.threads.length
    · obtain ⟨b, o, cv, cc, rfl, hbb, c0, c1, c2, c3, c4, hcode, _⟩ := HL.out k hlt
      have c0' := (hb.cell (p := ⟨b, o + k * 5, none⟩) (Nat.lt_trans hbb hs0)).trans c0
      have c1' := (hb.cell (p := ⟨b, o + k * 5 + 1, none⟩) (Nat.lt_trans hbb hs0)).trans c1
      have c2' := (hb.cell (p := ⟨b, o + k * 5 + 2, none⟩) (Nat.lt_trans hbb hs0)).trans c2
      have c3' := (hb.cell (p := ⟨b, o + k * 5 + 3, none⟩) (Nat.lt_trans hbb hs0)).trans c3
      have c4' := (hb.cell (p := ⟨b, o + k * 5 + 4, none⟩) (Nat.lt_trans hbb hs0)).trans c4
      have hlen := H5.out k hlt
      have hsz := hb.size
      clear c0 c1 c2 c3 c4
      have HC : Hid (InstrsIn w.heap.size w0 cv S.threads[k].code) := hcode
      clear hcode
      go_wp2
      generalize hw1 : wr.alloc (.cells #[.int .i64 S.threads[k].base, .int .i64 S.threads[k].offset, .int .i64 S.threads[k].period, .int .i64 S.threads[k].deadline, .slice cv S.threads[k].code.length cc] 75) = w1
      have hs1 : wr.heap.size < w1.heap.size := by rw [← hw1]; simp
      have d4 : w1.cell? ⟨wr.heap.size, 4, none⟩ = some (.slice cv S.threads[k].code.length cc) := by rw [← hw1]; simp
      have hb1 : Below w0.heap.size w0 w1 := by rw [← hw1]; exact hb.alloc hb.size _
      have e0 := (hb1.cell (p := ⟨w.heap.size, 0, none⟩) hs0).trans b0
      have e1 := (hb1.cell (p := ⟨w.heap.size, 1, none⟩) hs0).trans b1
      have e2 := (hb1.cell (p := ⟨w.heap.size, 2, none⟩) hs0).trans b2
      have e3 := (hb1.cell (p := ⟨w.heap.size, 3, none⟩) hs0).trans b3
      have e4 := (hb1.cell (p := ⟨w.heap.size, 4, none⟩) hs0).trans b4
      have e5 := (hb1.cell (p := ⟨w.heap.size, 5, none⟩) hs0).trans b5
      clear c0' c1' c2' c3' c4' hw1
      generalize wr.heap.size = g at *
      go_loopw [19] (fun i wx => ∃ m : Nat, m ≤ S.threads[k].code.length ∧ i = .int .i64 m ∧ CodeTo S S.threads[k].code m ∧ Below w1.heap.size w1 wx) (fun i _ => S.threads[k].code.length - (intOf i).toNat)
      case atStart => exact ⟨0, Nat.zero_le _, rfl, fun j h => absurd h (Nat.not_lt_zero _), Below.refl _ _⟩
      case round =>
        obtain ⟨m, hm, rfl, hall2, hb2⟩ := hrel
        have HA : Hid (CodeTo S S.threads[k].code m) := hall2
        have HB : Hid (CodesTo S k) := hall
        clear hall2 hall
        by_cases hlt2 : m < S.threads[k].code.length
        · obtain ⟨b', o', rfl, hbb', x0, x1, x2⟩ := HC.out m hlt2
          have y0 := (hb2.cell (p := ⟨b', o' + m * 3, none⟩) (by show b' < _; omega)).trans ((hb1.cell (p := ⟨b', o' + m * 3, none⟩) (by show b' < _; omega)).trans x0)
          have y1 := (hb2.cell (p := ⟨b', o' + m * 3 + 1, none⟩) (by show b' < _; omega)).trans ((hb1.cell (p := ⟨b', o' + m * 3 + 1, none⟩) (by show b' < _; omega)).trans x1)
          have y2 := (hb2.cell (p := ⟨b', o' + m * 3 + 2, none⟩) (by show b' < _; omega)).trans ((hb1.cell (p := ⟨b', o' + m * 3 + 2, none⟩) (by show b' < _; omega)).trans x2)
          have f0 := (hb2.cell (p := ⟨w.heap.size, 0, none⟩) (by show w.heap.size < _; omega)).trans e0
          have f1 := (hb2.cell (p := ⟨w.heap.size, 1, none⟩) (by show w.heap.size < _; omega)).trans e1
          have f2 := (hb2.cell (p := ⟨w.heap.size, 2, none⟩) (by show w.heap.size < _; omega)).trans e2
          have f3 := (hb2.cell (p := ⟨w.heap.size, 3, none⟩) (by show w.heap.size < _; omega)).trans e3
          have f4 := (hb2.cell (p := ⟨w.heap.size, 4, none⟩) (by show w.heap.size < _; omega)).trans e4
          have f5 := (hb2.cell (p := ⟨w.heap.size, 5, none⟩) (by show w.heap.size < _; omega)).trans e5
          have g4 := (hb2.cell (p := ⟨g, 4, none⟩) (by show g < _; omega)).trans d4
          have hsz2 := hb2.size
          clear x0 x1 x2 e0 e1 e2 e3 e4 e5 d4 b0 b1 b2 b3 b4 b5
          have q1 : w.heap.size < wr.heap.size := by omega
          have q2 : g < wr.heap.size := by omega
          go_wp2_with (first
            | (go_at_call 92; refine (boundsOf_any _ _ _ _ _ _ _ _ _ _ _ _ _ _ _ _ _ h1 h2 h3 h4).mono ?_; rintro e w3 ⟨rfl, hb3⟩; obtain ⟨hc3, hf3⟩ := bcell hb3; have hz3 : wr.heap.size < w3.heap.size := (by have := hb3.size; simp at this; omega))
            | (go_at_call 93; refine (instrFits_any _ _ _ _ _ _ _ _ _).mono ?_; rintro e w4 ⟨rfl, hb4⟩))
          · go_ret
            refine ⟨ret_int (badCode_at HB.out hlt HA.out hlt2 ?_).symm, via hb0 (Nat.le_of_lt hs0) (via hb1 (by omega) (via (via (hb2.alloc hb2.size _) (by simp; omega) hb3 |>.alloc (by omega) _) (by simp; omega) hb4))⟩
            simpa [P3.instrP, P3.instrB] using ‹(!P3.fitsB _ _ _ _ _ _ _) = true›
          · go_roundw
            case rel =>
              refine ⟨m + 1, by omega, by go_num, ?_, via (via (hb2.alloc hb2.size _) (by simp; omega) hb3 |>.alloc (by omega) _) (by simp; omega) hb4⟩
              intro j h h'
              rcases Nat.lt_succ_iff_lt_or_eq.1 h with h1 | rfl
              · exact HA.out j h1 h'
              · simpa [P3.instrP, P3.instrB] using ‹(!P3.fitsB _ _ _ _ _ _ _) = false›
            case measure => simp [intOf]; omega
        · have hmm : m = S.threads[k].code.length := by omega
          have HA' : Hid (CodeTo S S.threads[k].code S.threads[k].code.length) := hmm ▸ HA.out
          have hsz2 := hb2.size
          clear hmm
          go_wp2
          go_roundw
          case rel => exact ⟨k + 1, by omega, by go_num, HB.out.step hlt HA'.out, via hb1 (by omega) hb2⟩
          case measure => simp [intOf]; omega
    · go_wp2
      go_ret
      have e : k = S.threads.length := by omega
      subst e
      exact ⟨ret_int (badCode_none hall).symm, via hb0 hb0.size hb⟩

end Go.Proofs.Ytbkfildnijjioab
