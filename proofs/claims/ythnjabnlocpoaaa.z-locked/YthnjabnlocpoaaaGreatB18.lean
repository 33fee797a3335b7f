import Derived.Test.YthnjabnlocpoaaaGreatB17
import Derived.Test.YthnjabnlocpoaaaGreatB01
/-
  Walks over package donate: newThreads, newMutexes, firstTickets.
-/
namespace Go.Proofs.YthnjabnlocpoaaaGreat
open Go.RowKit

theorem Tryz.infoPT : (Tryz.prog.info? 102).map (fun i => (i.zero, i.size, i.bytes)) = some (some (.agg #[.slice none 0 0, .int .i64 0, .int .i64 0, .int .i64 0, .int .i64 0, .int .i64 0, .int .i64 0, .int .i64 0, .int .i64 0, .int .i64 0, .int .i64 0, .int .i64 0]), 12, 112) := by kernel_rfl
theorem Tryz.infoPM : (Tryz.prog.info? 104).map (fun i => (i.zero, i.size, i.bytes)) = some (some (.agg #[.int .i64 0, .int .i64 0, .int .i64 0]), 3, 24) := by kernel_rfl

/-- A thread as New lays it. -/
def bareCells (start : Int) (cv : Value) (x : ThreadD) : List Value := [cv, .int .i64 x.base, .int .i64 (start + x.offset), .int .i64 x.period, .int .i64 x.deadline, .int .i64 0, .int .i64 0, .int .i64 0, .int .i64 0, .int .i64 0, .int .i64 0, .int .i64 0]

theorem setAll (L : List Value) (k : Nat) (v0 v1 v2 v3 v4 v5 v6 v7 v8 v9 v10 v11 : Value) (hk : k * 12 + 11 < L.length) (i j : Nat) (hj : j < 12) :
    (((((((((((((L.set (k * 12) v0).set (k * 12 + 1) v1).set (k * 12 + 2) v2).set (k * 12 + 3) v3).set (k * 12 + 4) v4).set (k * 12 + 5) v5).set (k * 12 + 6) v6).set (k * 12 + 7) v7).set (k * 12 + 8) v8).set (k * 12 + 9) v9).set (k * 12 + 10) v10).set (k * 12 + 11) v11)[i * 12 + j]?) =
      if i = k then [v0, v1, v2, v3, v4, v5, v6, v7, v8, v9, v10, v11][j]? else L[i * 12 + j]? := by
  by_cases e : i = k
  · subst e
    rw [if_pos rfl]
    have hcases : j = 0 ∨ j = 1 ∨ j = 2 ∨ j = 3 ∨ j = 4 ∨ j = 5 ∨ j = 6 ∨ j = 7 ∨ j = 8 ∨ j = 9 ∨ j = 10 ∨ j = 11 := by omega
    rcases hcases with rfl | rfl | rfl | rfl | rfl | rfl | rfl | rfl | rfl | rfl | rfl | rfl <;> simp [List.getElem?_set] <;> omega
  · rw [if_neg e]
    have h : ∀ m, m < 12 → k * 12 + m ≠ i * 12 + j := by omega
    have h0 : k * 12 ≠ i * 12 + j := h 0 (by omega)
    simp [h 1, h 2, h 3, h 4, h 5, h 6, h 7, h 8, h 9, h 10, h 11, h0]

/-- What newThreads has laid so far. -/
structure NT (B g : Nat) (start : Int) (l : List ThreadD) (wr : World) (k : Nat) (cs : Nat → Value) (L : List Value) : Prop where
  row : wr.ownsRow B 102 12 (.slice (some ⟨g, 0, none⟩) l.length l.length) l.length L
  cells : ∀ i (hi : i < l.length), i < k → ∀ j, j < 12 → L[i * 12 + j]? = (bareCells start (cs i) l[i])[j]?
  codes : ∀ i (hi : i < l.length), i < k → wr.ownsRow B 41 3 (cs i) l[i].code.length (instrCells l[i].code)

section
variable {B g : Nat} {start : Int} {l : List ThreadD} {wr wr' : World} {k : Nat} {cs : Nat → Value} {L : List Value}
/-- Other memory has turned. -/
theorem NT.same (n : NT B g start l wr k cs L) (hs : ∀ (b : Nat) (cur : Array Value) (e : TypeId), wr.heap[b]? = some (Obj.cells cur e (0, 0)) → (e = 102 ∨ e = 41) → wr'.heap[b]? = wr.heap[b]?) : NT B g start l wr' k cs L := by
  refine ⟨ownsRow_same n.row fun b hb => ?_, n.cells, fun i hi hk => ownsRow_same (n.codes i hi hk) fun b hb => ?_⟩
  · obtain ⟨_, _, cur, hc⟩ := ownsRow_block n.row hb
    exact hs b cur _ hc (.inl rfl)
  · obtain ⟨_, _, cur, hc⟩ := ownsRow_block (n.codes i hi hk) hb
    exact hs b cur _ hc (.inr rfl)
theorem NT.below (n : NT B g start l wr k cs L) (hb : Below wr.heap.size wr wr') : NT B g start l wr' k cs L := by
  refine n.same fun b cur e hg _ => hb.block b ?_
  rcases Nat.lt_or_ge b wr.heap.size with h' | h'
  · exact h'
  · rw [Array.getElem?_eq_none h'] at hg; cases hg
end

set_option maxRecDepth 100000 in
set_option maxHeartbeats 4000000 in
theorem kNewThreads_any (tv : Option Addr) (tc : Nat) (l : List ThreadD) (start : Int) (w : World) (hin : ThreadsIn w.heap.size w tv l) (h1 : 1 ≤ l.length) (h16 : l.length ≤ 16) (hc : ∀ x ∈ l, x.code.length ≤ 32) (hs : 0 ≤ start ∧ start ≤ 1000000000) (ho : ∀ x ∈ l, 0 ≤ x.offset ∧ x.offset ≤ 1000) :
    Calls Tryz.prog 31 #[.slice tv l.length tc, .int .i64 start] w fun e w' => ∃ g cs L, e = .returned (.slice (some ⟨g, 0, none⟩) l.length l.length) ∧ w.heap.size ≤ g ∧ NT w.heap.size g start l w' l.length cs L ∧ Below w.heap.size w w' := by
  have HIN := hid hin
  have HC := hid hc
  have HO := hid ho
  obtain ⟨hs0, hs1⟩ := hs
  clear hin hc ho
  obtain ⟨iT, hiT, hzT0, hzT1, hzT2⟩ := info_parts Tryz.infoPT
  have HIT := hid (And.intro hiT (And.intro hzT0 (And.intro hzT1 hzT2)))
  obtain ⟨i4, hi4, hz40, hz41, hz42⟩ := info_parts Tryz.infoInstr
  have HI4 := hid (And.intro hi4 (And.intro hz40 (And.intro hz41 hz42)))
  clear hiT hzT0 hzT1 hzT2 hi4 hz40 hz41 hz42
  go_enter Tryz.func31, Tryz.ntmps31
  go_wp2_with (at_make; refine wpList_make_full _ rfl _ _ 59 rfl w.heap.size 102 iT (.agg #[.slice none 0 0, .int .i64 0, .int .i64 0, .int .i64 0, .int .i64 0, .int .i64 0, .int .i64 0, .int .i64 0, .int .i64 0, .int .i64 0, .int .i64 0, .int .i64 0]) 12 Tryz.underlying59 HIT.out.1 HIT.out.2.1 HIT.out.2.2.1 .i64 .i64 _ _ l.length rfl rfl rfl rfl (by rw [HIT.out.2.2.2]; omega) (by unfold maxLen; omega) (Nat.le_refl _) ?_; intro w2 hown2 hg2; have O2 := hid hown2; have G2 := hid hg2; clear hown2 hg2)
  have hb2 : Below w.heap.size w w2 := (Below.refl _ _).grown G2.out (Nat.le_refl _) (by simp)
  have HB2 := hid hb2
  clear hb2 G2
  go_loopw [14] (fun i wr => ∃ (k : Nat) (cs : Nat → Value) (L : List Value), k ≤ l.length ∧ i = .int .i64 k ∧ NT w.heap.size w.heap.size start l wr k cs L ∧ Below w.heap.size w wr) (fun i _ => l.length - (intOf i).toNat)
  case atStart => exact ⟨0, fun _ => .slice none 0 0, _, Nat.zero_le _, rfl, ⟨O2.out, fun _ _ h => absurd h (Nat.not_lt_zero _), fun _ _ h => absurd h (Nat.not_lt_zero _)⟩, HB2.out⟩
  case round =>
    obtain ⟨k, cs, L, hk, rfl, hnt, hb⟩ := hrel
    have NTH := hid hnt
    have HB := hid hb
    have hszr := hb.size
    clear hnt hb
    by_cases hkl : k < l.length
    · obtain ⟨b, o, cv, cc, hta, hbb, y0, y1, y2, y3, y4, hcode, hcn⟩ := HIN.out k hkl
      subst hta
      have bl := (HB.out.cell (p := ⟨b, o + k * 5, none⟩) hbb).trans y0
      have bl1 := (HB.out.cell (p := ⟨b, o + k * 5 + 1, none⟩) hbb).trans y1
      have bl2 := (HB.out.cell (p := ⟨b, o + k * 5 + 2, none⟩) hbb).trans y2
      have bl3 := (HB.out.cell (p := ⟨b, o + k * 5 + 3, none⟩) hbb).trans y3
      have bl4 := (HB.out.cell (p := ⟨b, o + k * 5 + 4, none⟩) hbb).trans y4
      have hcl := HC.out l[k] (List.getElem_mem hkl)
      have hof := HO.out l[k] (List.getElem_mem hkl)
      have HCODE := hid hcode
      have HCN := hid hcn
      have hkI : (k : Int) < (l.length : Int) := by omega
      clear y0 y1 y2 y3 y4 hcode hcn
      generalize hx : l[k] = x at *
      have HX := hid hx
      clear hx
      go_upto_region 5 with fail
      have hbA : Below wr.heap.size wr (wr.alloc (.cells #[.int .i64 x.base, .int .i64 x.offset, .int .i64 x.period, .int .i64 x.deadline, .slice cv x.code.length cc] 39)) := (Below.refl _ _).alloc (Nat.le_refl _) _
      have bA := Blk.new wr #[.int .i64 x.base, .int .i64 x.offset, .int .i64 x.period, .int .i64 x.deadline, .slice cv x.code.length cc] 39
      generalize wr.alloc (.cells #[.int .i64 x.base, .int .i64 x.offset, .int .i64 x.period, .int .i64 x.deadline, .slice cv x.code.length cc] 39) = wA at hbA bA ⊢
      have NTA := hid (NTH.out.below hbA)
      have HBA := hid (via HB.out HB.out.size hbA)
      have BA := hid bA
      have hszA := hbA.size
      have q4 := bA.cell 4
      simp at q4
      clear hbA bA bl bl1 bl2 bl3 bl4 NTH
      go_upto_region 6 with (at_make; refine wpList_make_full _ rfl _ _ 37 rfl w.heap.size 41 i4 (.agg #[.int .i64 0, .int .i64 0, .int .i64 0]) 3 Tryz.underlying37 HI4.out.1 HI4.out.2.1 HI4.out.2.2.1 .i64 .i64 _ _ x.code.length rfl rfl rfl rfl (by rw [HI4.out.2.2.2]; omega) (by unfold maxLen; omega) (by omega) ?_; intro w2 hown2 hg2; have O3 := hid hown2; have G3 := hid hg2; clear hown2 hg2)
      have hbB : Below wA.heap.size wA w2 := (Below.refl _ _).grown G3.out (Nat.le_refl _) (by simp)
      have NTB := hid (NTA.out.below hbB)
      have HBB := hid (via HBA.out HBA.out.size hbB)
      have BB := hid (show Blk w2 wr.heap.size #[.int .i64 x.base, .int .i64 x.offset, .int .i64 x.period, .int .i64 x.deadline, .slice cv x.code.length cc] 39 from by
        have h1 := BA.out
        have hl := BA.out.lt
        unfold Blk at h1 ⊢
        rw [hbB.block _ hl]
        exact h1)
      have HSRC := hid ((HCODE.out.stays HBB.out).src)
      have q4 := BB.out.cell 4
      simp at q4
      have hszB := hbB.size
      have HBW := hid hbB
      clear hbB HBA
      go_upto_region 7 with (refine wpList_copy_full rfl (.tmp 23) (.tmp 25) 37 rfl w.heap.size 41 i4 3 Tryz.underlying37 HI4.out.1 HI4.out.2.2.1 (by decide) wA.heap.size x.code.length x.code.length _ rfl O3.out cv cc (instrCells x.code) rfl (instrCells_length _) HCN.out HSRC.out (instrCells_one _) ?_; intro w3 hown3 hg3; have O4 := hid hown3; have G4 := hid hg3; clear hown3 hg3)
      have hnt3 : NT w.heap.size w.heap.size start l w3 k cs L := by
        refine NTA.out.same fun b cur e hg _ => ?_
        have hbl : b < wA.heap.size := by
          rcases Nat.lt_or_ge b wA.heap.size with h' | h'
          · exact h'
          · rw [Array.getElem?_eq_none h'] at hg; cases hg
        rw [G4.out.block b (by omega) (fun e => by cases e; omega), HBW.out.block b hbl]
      have R3 := hid hnt3
      have hLl : L.length = l.length * 12 := hnt3.row.1
      have hlt : wr.heap.size < wA.heap.size := BA.out.lt
      have B3 := hid (show Blk w3 wr.heap.size #[.int .i64 x.base, .int .i64 x.offset, .int .i64 x.period, .int .i64 x.deadline, .slice cv x.code.length cc] 39 from by
        have h1 := BB.out
        have hl := BB.out.lt
        unfold Blk at h1 ⊢
        rw [G4.out.block _ hl (fun e => by have := Option.some.inj e; omega)]
        exact h1)
      have HB3 : Hid (Below w.heap.size w w3) := HBB.out.grown G4.out HBB.out.size (fun b hb => by cases hb; omega)
      have q0 := B3.out.cell 0
      have q1 := B3.out.cell 1
      have q2 := B3.out.cell 2
      have q3 := B3.out.cell 3
      simp at q0 q1 q2 q3
      have d0 : w3.cell? ⟨w.heap.size, k * 12, none⟩ = some (L[k * 12]'(by omega)) := by rw [R3.out.row.cellAt _ (by omega)]; exact List.getElem?_eq_getElem _
      have e0 := R3.out.row.frozenAt (k * 12)
      have d1 : w3.cell? ⟨w.heap.size, k * 12 + 1, none⟩ = some (L[k * 12 + 1]'(by omega)) := by rw [R3.out.row.cellAt _ (by omega)]; exact List.getElem?_eq_getElem _
      have e1 := R3.out.row.frozenAt (k * 12 + 1)
      have d2 : w3.cell? ⟨w.heap.size, k * 12 + 2, none⟩ = some (L[k * 12 + 2]'(by omega)) := by rw [R3.out.row.cellAt _ (by omega)]; exact List.getElem?_eq_getElem _
      have e2 := R3.out.row.frozenAt (k * 12 + 2)
      have d3 : w3.cell? ⟨w.heap.size, k * 12 + 3, none⟩ = some (L[k * 12 + 3]'(by omega)) := by rw [R3.out.row.cellAt _ (by omega)]; exact List.getElem?_eq_getElem _
      have e3 := R3.out.row.frozenAt (k * 12 + 3)
      have d4 : w3.cell? ⟨w.heap.size, k * 12 + 4, none⟩ = some (L[k * 12 + 4]'(by omega)) := by rw [R3.out.row.cellAt _ (by omega)]; exact List.getElem?_eq_getElem _
      have e4 := R3.out.row.frozenAt (k * 12 + 4)
      have d5 : w3.cell? ⟨w.heap.size, k * 12 + 5, none⟩ = some (L[k * 12 + 5]'(by omega)) := by rw [R3.out.row.cellAt _ (by omega)]; exact List.getElem?_eq_getElem _
      have e5 := R3.out.row.frozenAt (k * 12 + 5)
      have d6 : w3.cell? ⟨w.heap.size, k * 12 + 6, none⟩ = some (L[k * 12 + 6]'(by omega)) := by rw [R3.out.row.cellAt _ (by omega)]; exact List.getElem?_eq_getElem _
      have e6 := R3.out.row.frozenAt (k * 12 + 6)
      have d7 : w3.cell? ⟨w.heap.size, k * 12 + 7, none⟩ = some (L[k * 12 + 7]'(by omega)) := by rw [R3.out.row.cellAt _ (by omega)]; exact List.getElem?_eq_getElem _
      have e7 := R3.out.row.frozenAt (k * 12 + 7)
      have d8 : w3.cell? ⟨w.heap.size, k * 12 + 8, none⟩ = some (L[k * 12 + 8]'(by omega)) := by rw [R3.out.row.cellAt _ (by omega)]; exact List.getElem?_eq_getElem _
      have e8 := R3.out.row.frozenAt (k * 12 + 8)
      have d9 : w3.cell? ⟨w.heap.size, k * 12 + 9, none⟩ = some (L[k * 12 + 9]'(by omega)) := by rw [R3.out.row.cellAt _ (by omega)]; exact List.getElem?_eq_getElem _
      have e9 := R3.out.row.frozenAt (k * 12 + 9)
      have d10 : w3.cell? ⟨w.heap.size, k * 12 + 10, none⟩ = some (L[k * 12 + 10]'(by omega)) := by rw [R3.out.row.cellAt _ (by omega)]; exact List.getElem?_eq_getElem _
      have e10 := R3.out.row.frozenAt (k * 12 + 10)
      have d11 : w3.cell? ⟨w.heap.size, k * 12 + 11, none⟩ = some (L[k * 12 + 11]'(by omega)) := by rw [R3.out.row.cellAt _ (by omega)]; exact List.getElem?_eq_getElem _
      have e11 := R3.out.row.frozenAt (k * 12 + 11)
      have rAll := ((((((((((((R3.out.row.stored (k * 12) (.slice (some ⟨wA.heap.size, 0, none⟩) x.code.length x.code.length)).1.stored (k * 12 + 1) (.int .i64 x.base)).1.stored (k * 12 + 2) (.int .i64 (start + x.offset))).1.stored (k * 12 + 3) (.int .i64 x.period)).1.stored (k * 12 + 4) (.int .i64 x.deadline)).1.stored (k * 12 + 5) (.int .i64 0)).1.stored (k * 12 + 6) (.int .i64 0)).1.stored (k * 12 + 7) (.int .i64 0)).1.stored (k * 12 + 8) (.int .i64 0)).1.stored (k * 12 + 9) (.int .i64 0)).1.stored (k * 12 + 10) (.int .i64 0)).1.stored (k * 12 + 11) (.int .i64 0)).1
      have HBS : Hid (Below w.heap.size w ((((((((((((w3.setCell ⟨w.heap.size, k * 12, none⟩ (.slice (some ⟨wA.heap.size, 0, none⟩) x.code.length x.code.length)).setCell ⟨w.heap.size, k * 12 + 1, none⟩ (.int .i64 x.base)).setCell ⟨w.heap.size, k * 12 + 2, none⟩ (.int .i64 (start + x.offset))).setCell ⟨w.heap.size, k * 12 + 3, none⟩ (.int .i64 x.period)).setCell ⟨w.heap.size, k * 12 + 4, none⟩ (.int .i64 x.deadline)).setCell ⟨w.heap.size, k * 12 + 5, none⟩ (.int .i64 0)).setCell ⟨w.heap.size, k * 12 + 6, none⟩ (.int .i64 0)).setCell ⟨w.heap.size, k * 12 + 7, none⟩ (.int .i64 0)).setCell ⟨w.heap.size, k * 12 + 8, none⟩ (.int .i64 0)).setCell ⟨w.heap.size, k * 12 + 9, none⟩ (.int .i64 0)).setCell ⟨w.heap.size, k * 12 + 10, none⟩ (.int .i64 0)).setCell ⟨w.heap.size, k * 12 + 11, none⟩ (.int .i64 0))) := ((((((((((((HB3.out.setCell (Nat.le_refl _) (.slice (some ⟨wA.heap.size, 0, none⟩) x.code.length x.code.length)).setCell (Nat.le_refl _) (.int .i64 x.base)).setCell (Nat.le_refl _) (.int .i64 (start + x.offset))).setCell (Nat.le_refl _) (.int .i64 x.period)).setCell (Nat.le_refl _) (.int .i64 x.deadline)).setCell (Nat.le_refl _) (.int .i64 0)).setCell (Nat.le_refl _) (.int .i64 0)).setCell (Nat.le_refl _) (.int .i64 0)).setCell (Nat.le_refl _) (.int .i64 0)).setCell (Nat.le_refl _) (.int .i64 0)).setCell (Nat.le_refl _) (.int .i64 0)).setCell (Nat.le_refl _) (.int .i64 0))
      have hsame : ∀ b, b ≠ w.heap.size → ((((((((((((w3.setCell ⟨w.heap.size, k * 12, none⟩ (.slice (some ⟨wA.heap.size, 0, none⟩) x.code.length x.code.length)).setCell ⟨w.heap.size, k * 12 + 1, none⟩ (.int .i64 x.base)).setCell ⟨w.heap.size, k * 12 + 2, none⟩ (.int .i64 (start + x.offset))).setCell ⟨w.heap.size, k * 12 + 3, none⟩ (.int .i64 x.period)).setCell ⟨w.heap.size, k * 12 + 4, none⟩ (.int .i64 x.deadline)).setCell ⟨w.heap.size, k * 12 + 5, none⟩ (.int .i64 0)).setCell ⟨w.heap.size, k * 12 + 6, none⟩ (.int .i64 0)).setCell ⟨w.heap.size, k * 12 + 7, none⟩ (.int .i64 0)).setCell ⟨w.heap.size, k * 12 + 8, none⟩ (.int .i64 0)).setCell ⟨w.heap.size, k * 12 + 9, none⟩ (.int .i64 0)).setCell ⟨w.heap.size, k * 12 + 10, none⟩ (.int .i64 0)).setCell ⟨w.heap.size, k * 12 + 11, none⟩ (.int .i64 0)).heap[b]? = w3.heap[b]? := by
        intro b hb
        iterate 12 rw [Below.heap_setCell _ _ _ _ hb]
      have hnt4 : NT w.heap.size w.heap.size start l ((((((((((((w3.setCell ⟨w.heap.size, k * 12, none⟩ (.slice (some ⟨wA.heap.size, 0, none⟩) x.code.length x.code.length)).setCell ⟨w.heap.size, k * 12 + 1, none⟩ (.int .i64 x.base)).setCell ⟨w.heap.size, k * 12 + 2, none⟩ (.int .i64 (start + x.offset))).setCell ⟨w.heap.size, k * 12 + 3, none⟩ (.int .i64 x.period)).setCell ⟨w.heap.size, k * 12 + 4, none⟩ (.int .i64 x.deadline)).setCell ⟨w.heap.size, k * 12 + 5, none⟩ (.int .i64 0)).setCell ⟨w.heap.size, k * 12 + 6, none⟩ (.int .i64 0)).setCell ⟨w.heap.size, k * 12 + 7, none⟩ (.int .i64 0)).setCell ⟨w.heap.size, k * 12 + 8, none⟩ (.int .i64 0)).setCell ⟨w.heap.size, k * 12 + 9, none⟩ (.int .i64 0)).setCell ⟨w.heap.size, k * 12 + 10, none⟩ (.int .i64 0)).setCell ⟨w.heap.size, k * 12 + 11, none⟩ (.int .i64 0)) (k + 1) (fun i => if i = k then .slice (some ⟨wA.heap.size, 0, none⟩) x.code.length x.code.length else cs i) ((((((((((((L.set (k * 12) (.slice (some ⟨wA.heap.size, 0, none⟩) x.code.length x.code.length)).set (k * 12 + 1) (.int .i64 x.base)).set (k * 12 + 2) (.int .i64 (start + x.offset))).set (k * 12 + 3) (.int .i64 x.period)).set (k * 12 + 4) (.int .i64 x.deadline)).set (k * 12 + 5) (.int .i64 0)).set (k * 12 + 6) (.int .i64 0)).set (k * 12 + 7) (.int .i64 0)).set (k * 12 + 8) (.int .i64 0)).set (k * 12 + 9) (.int .i64 0)).set (k * 12 + 10) (.int .i64 0)).set (k * 12 + 11) (.int .i64 0)) := by
        refine ⟨rAll, fun i hi hik j hj => ?_, fun i hi hik => ?_⟩
        · rw [setAll L k _ _ _ _ _ _ _ _ _ _ _ _ (by omega) i j hj]
          by_cases e : i = k
          · subst e
            rw [if_pos rfl, HX.out]
            simp only [if_pos]
            rfl
          · rw [if_neg e]
            simp only [if_neg e]
            exact R3.out.cells i hi (by omega) j hj
        · by_cases e : i = k
          · subst e
            simp only [if_pos]
            rw [HX.out]
            refine ownsRow_same O4.out fun b hb => hsame b (fun e => ?_)
            cases hb
            have : wA.heap.size = w.heap.size := e
            omega
          · simp only [if_neg e]
            refine ownsRow_same (R3.out.codes i hi (by omega)) fun b hb => hsame b (fun e => ?_)
            obtain ⟨_, _, cur, hc⟩ := ownsRow_block (R3.out.codes i hi (by omega)) hb
            obtain ⟨_, _, cur', hc'⟩ := ownsRow_block R3.out.row rfl
            rw [e, hc'] at hc
            cases hc
      have NT4 := hid hnt4
      clear hnt4 rAll hsame hnt3
      go_wp2
      go_roundw
      case rel => exact ⟨k + 1, _, _, by omega, by go_num, NT4.out, HBS.out⟩
      case measure => simp [intOf]; omega
    · have e : k = l.length := by omega
      subst e
      go_wp2
      go_ret
      exact ⟨_, cs, L, rfl, Nat.le_refl _, NTH.out, HB.out⟩


set_option maxRecDepth 100000 in
set_option maxHeartbeats 1000000 in
theorem kFirstTickets_any (w : World) (n : Nat) (hn : n ≤ 16) :
    Calls Tryz.prog 34 #[.int .i64 n] w fun e w' => ∃ g, e = .returned (.slice (some ⟨g, 0, none⟩) n n) ∧ w'.ownsRow w.heap.size 3 1 (.slice (some ⟨g, 0, none⟩) n n) n (intCells (Ln.ints (List.range n))) ∧ Below w.heap.size w w' := by
  obtain ⟨i3, hi3, hz30, hz31, hz32⟩ := info_parts Tryz.infoInt
  have HI3 := hid (And.intro hi3 (And.intro hz30 (And.intro hz31 hz32)))
  clear hi3 hz30 hz31 hz32
  go_enter Tryz.func34, Tryz.ntmps34
  go_wp2_with (at_make; refine wpList_make_full _ rfl _ _ 25 rfl w.heap.size 3 i3 (.int .i64 0) 1 Tryz.underlying25 HI3.out.1 HI3.out.2.1 HI3.out.2.2.1 .i64 .i64 _ _ n rfl rfl rfl rfl (by rw [HI3.out.2.2.2]; omega) (by unfold maxLen; omega) (Nat.le_refl _) ?_; intro w2 hown2 hg2; have O2 := hid hown2; have G2 := hid hg2; clear hown2 hg2)
  have hr2 : w2.ownsRow w.heap.size 3 1 (.slice (some ⟨w.heap.size, 0, none⟩) n n) n (intCells (R.atTo (fun i => (i : Int)) n 0)) := by
    have := O2.out
    have e : (madeCells (Value.int IntKind.i64 0).cells (n * 1)).toList = intCells (R.atTo (fun i => (i : Int)) n 0) := by
      rw [R.atTo_zero, Nat.mul_one]
      show (madeCells #[Value.int IntKind.i64 0] n).toList = _
      rw [toList_madeCells_one]
      simp [intCells]
    rwa [e] at this
  have R2 := hid hr2
  have hb2 : Below w.heap.size w w2 := (Below.refl _ _).grown G2.out (Nat.le_refl _) (by simp)
  have HB2 := hid hb2
  clear hr2 O2 G2 hb2
  go_loopw [9] (fun i wr => ∃ k : Nat, k ≤ n ∧ i = .int .i64 k ∧ wr.ownsRow w.heap.size 3 1 (.slice (some ⟨w.heap.size, 0, none⟩) n n) n (intCells (R.atTo (fun i => (i : Int)) n k)) ∧ Below w.heap.size w wr) (fun i _ => n - (intOf i).toNat)
  case atStart => exact ⟨0, Nat.zero_le _, rfl, R2.out, HB2.out⟩
  case round =>
    obtain ⟨k, hk, rfl, hrow, hb⟩ := hrel
    have ROW := hid hrow
    have HB := hid hb
    clear hrow hb
    by_cases hkl : k < n
    · have x0 := row_get ROW.out (R.atTo_length _ _ _) hkl
      have f0 := ROW.out.frozenAt k
      have r1 := row_set ROW.out k (k : Int)
      rw [R.atTo_set1 (fun i => (i : Int)) n k hkl] at r1
      have R1 := hid r1
      have HB1 : Hid (Below w.heap.size w (wr.setCell ⟨w.heap.size, k, none⟩ (.int .i64 (k : Int)))) := HB.out.setCell (Nat.le_refl _) _
      have hkI : (k : Int) < (n : Int) := by omega
      clear r1
      generalize (R.atTo (fun i => (i : Int)) n k).getD k 0 = old at *
      go_wp2
      go_roundw
      case rel => exact ⟨k + 1, by omega, by go_num, R1.out, HB1.out⟩
      case measure => simp [intOf]; omega
    · have e : k = n := by omega
      subst e
      have EE : Hid (R.atTo (fun i => (i : Int)) k k = Ln.ints (List.range k)) := by
        refine hid (List.ext_getElem (by simp [R.atTo, Ln.ints]) fun i h1 h2 => ?_)
        have hi : i < k := by simpa [R.atTo] using h1
        simp [R.atTo, Ln.ints, hi]
      rw [EE.out] at ROW
      go_wp2
      go_ret
      exact ⟨w.heap.size, rfl, ROW.out, HB.out⟩

/-- What newMutexes has laid so far. -/
structure NMu (B g : Nat) (l : List PairD) (wr : World) (k : Nat) (L : List Value) : Prop where
  row : wr.ownsRow B 104 3 (.slice (some ⟨g, 0, none⟩) l.length l.length) l.length L
  cells : ∀ i (hi : i < l.length), i < k → ∀ j, j < 3 → L[i * 3 + j]? = [Value.int .i64 l[i].x, .int .i64 l[i].y, .int .i64 (-1)][j]?

set_option maxRecDepth 100000 in
set_option maxHeartbeats 2000000 in
theorem kNewMutexes_any (tv : Option Addr) (tc : Nat) (l : List PairD) (w : World) (hin : PairsIn w.heap.size w tv l) (h8 : l.length ≤ 8) :
    Calls Tryz.prog 32 #[.slice tv l.length tc] w fun e w' => ∃ g L, e = .returned (.slice (some ⟨g, 0, none⟩) l.length l.length) ∧ w.heap.size ≤ g ∧ NMu w.heap.size g l w' l.length L ∧ Below w.heap.size w w' := by
  have HIN := hid hin
  clear hin
  obtain ⟨iT, hiT, hzT0, hzT1, hzT2⟩ := info_parts Tryz.infoPM
  have HIT := hid (And.intro hiT (And.intro hzT0 (And.intro hzT1 hzT2)))
  clear hiT hzT0 hzT1 hzT2
  go_enter Tryz.func32, Tryz.ntmps32
  go_wp2_with (at_make; refine wpList_make_full _ rfl _ _ 61 rfl w.heap.size 104 iT (.agg #[.int .i64 0, .int .i64 0, .int .i64 0]) 3 Tryz.underlying61 HIT.out.1 HIT.out.2.1 HIT.out.2.2.1 .i64 .i64 _ _ l.length rfl rfl rfl rfl (by rw [HIT.out.2.2.2]; omega) (by unfold maxLen; omega) (Nat.le_refl _) ?_; intro w2 hown2 hg2; have O2 := hid hown2; have G2 := hid hg2; clear hown2 hg2)
  have hb2 : Below w.heap.size w w2 := (Below.refl _ _).grown G2.out (Nat.le_refl _) (by simp)
  have HB2 := hid hb2
  clear hb2 G2
  go_loopw [11] (fun i wr => ∃ (k : Nat) (L : List Value), k ≤ l.length ∧ i = .int .i64 k ∧ NMu w.heap.size w.heap.size l wr k L ∧ Below w.heap.size w wr) (fun i _ => l.length - (intOf i).toNat)
  case atStart => exact ⟨0, _, Nat.zero_le _, rfl, ⟨O2.out, fun _ _ h => absurd h (Nat.not_lt_zero _)⟩, HB2.out⟩
  case round =>
    obtain ⟨k, L, hk, rfl, hnt, hb⟩ := hrel
    have NTH := hid hnt
    have HB := hid hb
    have hszr := hb.size
    have hLl : L.length = l.length * 3 := hnt.row.1
    clear hnt hb
    by_cases hkl : k < l.length
    · obtain ⟨b, o, hta, hbb, y0, y1⟩ := HIN.out k hkl
      subst hta
      have bl := (HB.out.cell (p := ⟨b, o + k * 2, none⟩) hbb).trans y0
      have bl1 := (HB.out.cell (p := ⟨b, o + k * 2 + 1, none⟩) hbb).trans y1
      have hkI : (k : Int) < (l.length : Int) := by omega
      clear y0 y1
      generalize hx : l[k] = x at *
      have HX := hid hx
      clear hx
      go_upto_region 5 with fail
      have hbA : Below wr.heap.size wr (wr.alloc (.cells #[.int .i64 x.x, .int .i64 x.y] 90)) := (Below.refl _ _).alloc (Nat.le_refl _) _
      have bA := Blk.new wr #[.int .i64 x.x, .int .i64 x.y] 90
      generalize wr.alloc (.cells #[.int .i64 x.x, .int .i64 x.y] 90) = wA at hbA bA ⊢
      have rA := ownsRow_same NTH.out.row fun g hg => hbA.block g (ownsRow_block NTH.out.row hg).2.1
      have HBA := hid (via HB.out HB.out.size hbA)
      have q0 := bA.cell 0
      have q1 := bA.cell 1
      simp at q0 q1
      have d0 : wA.cell? ⟨w.heap.size, k * 3, none⟩ = some (L[k * 3]'(by omega)) := by rw [rA.cellAt _ (by omega)]; exact List.getElem?_eq_getElem _
      have e0 := rA.frozenAt (k * 3)
      have d1 : wA.cell? ⟨w.heap.size, k * 3 + 1, none⟩ = some (L[k * 3 + 1]'(by omega)) := by rw [rA.cellAt _ (by omega)]; exact List.getElem?_eq_getElem _
      have e1 := rA.frozenAt (k * 3 + 1)
      have d2 : wA.cell? ⟨w.heap.size, k * 3 + 2, none⟩ = some (L[k * 3 + 2]'(by omega)) := by rw [rA.cellAt _ (by omega)]; exact List.getElem?_eq_getElem _
      have e2 := rA.frozenAt (k * 3 + 2)
      have rAll := (((rA.stored (k * 3) (.int .i64 x.x)).1.stored (k * 3 + 1) (.int .i64 x.y)).1.stored (k * 3 + 2) (.int .i64 (-1))).1
      have HBS : Hid (Below w.heap.size w (((wA.setCell ⟨w.heap.size, k * 3, none⟩ (.int .i64 x.x)).setCell ⟨w.heap.size, k * 3 + 1, none⟩ (.int .i64 x.y)).setCell ⟨w.heap.size, k * 3 + 2, none⟩ (.int .i64 (-1)))) := ((HBA.out.setCell (Nat.le_refl _) (.int .i64 x.x)).setCell (Nat.le_refl _) (.int .i64 x.y)).setCell (Nat.le_refl _) (.int .i64 (-1))
      have hnt4 : NMu w.heap.size w.heap.size l (((wA.setCell ⟨w.heap.size, k * 3, none⟩ (.int .i64 x.x)).setCell ⟨w.heap.size, k * 3 + 1, none⟩ (.int .i64 x.y)).setCell ⟨w.heap.size, k * 3 + 2, none⟩ (.int .i64 (-1))) (k + 1) (((L.set (k * 3) (.int .i64 x.x)).set (k * 3 + 1) (.int .i64 x.y)).set (k * 3 + 2) (.int .i64 (-1))) := by
        refine ⟨rAll, fun i hi hik j hj => ?_⟩
        by_cases e : i = k
        · subst e
          rw [HX.out]
          have hcases : j = 0 ∨ j = 1 ∨ j = 2 := by omega
          rcases hcases with rfl | rfl | rfl <;> simp [List.getElem?_set] <;> omega
        · have h : ∀ m, m < 3 → k * 3 + m ≠ i * 3 + j := by omega
          have h0 : k * 3 ≠ i * 3 + j := h 0 (by omega)
          have := NTH.out.cells i hi (by omega) j hj
          simp [h 1, h 2, h0]
          simpa using this
      have NT4 := hid hnt4
      clear hnt4 rAll rA bl bl1 NTH hbA bA
      generalize L[k * 3]'(by omega) = o0 at *
      generalize L[k * 3 + 1]'(by omega) = o1 at *
      generalize L[k * 3 + 2]'(by omega) = o2 at *
      go_wp2
      go_roundw
      case rel => exact ⟨k + 1, _, by omega, by go_num, NT4.out, HBS.out⟩
      case measure => simp [intOf]; omega
    · have e : k = l.length := by omega
      subst e
      go_wp2
      go_ret
      exact ⟨_, L, rfl, Nat.le_refl _, NTH.out, HB.out⟩

end Go.Proofs.YthnjabnlocpoaaaGreat

/-
  The law's own functions, over any program whose kernel stands for the document's: steps.
-/
namespace Go.Proofs.YthnjabnlocpoaaaGreat
open Go.RowKit

theorem Turns.below {P : Nat → Prop} {B : Nat} {w w' : World} (h : Turns P w w') (hB : B ≤ w.heap.size) (hp : ∀ b, P b → B ≤ b) : Below B w w' :=
  ⟨h.os, h.tape, h.output, h.size, fun b hb => h.block b (by omega) (fun e => by have := hp b e; omega)⟩
theorem blk_turns {P : Nat → Prop} {w w' : World} {b : Nat} {cs : Array Value} {e : TypeId} (h : Blk w b cs e) (t : Turns P w w') (hn : ¬ P b) : Blk w' b cs e := by
  have h1 := h
  unfold Blk at h1 ⊢
  rw [t.block b h.lt hn]
  exact h1
theorem ints_turns {P : Nat → Prop} {w w' : World} {e : TypeId} {size n N : Nat} {v : Value} {xs : List Value} (h : w.ownsRow N e size v n xs) (t : Turns P w w') (hn : ∀ b, v.ownBlock = some b → ¬ P b) : w'.ownsRow N e size v n xs :=
  ownsRow_same h fun g hg => t.block g (ownsRow_block h hg).2.1 (hn g hg)

/-- Which answers a statement holds. -/
def Holds (hd : Int) : Prop := hd = 1 ∨ hd = 4 ∨ hd = 8 ∨ hd = 13 ∨ hd = 14 ∨ hd = 15 ∨ hd = 31 ∨ hd = 32

section
variable {PK : KP} {B : Nat} {w : World} {bb kb sb : Nat} {P Q : Nat → Prop} {s : RS}

/-- The program has moved. -/
theorem LK.prog (_f : KFrame PK) (l : LK PK B w bb kb sb P Q s) {w1 : World} {s' : RS} {P' : Nat → Prop} (pk : PK P' w1 kb s') (hs : ∀ b, P' b → P b ∨ w.heap.size ≤ b) (t : Turns P w w1) :
    Blk w1 bb #[.pointer (some ⟨kb, 0, none⟩), .pointer (some ⟨sb, 0, none⟩)] 52 ∧ PK P' w1 kb s' ∧ RK Q w1 sb s ∧ (∀ b, P' b → ¬ Q b) ∧ ¬ P' bb ∧ ¬ Q bb := by
  refine ⟨blk_turns l.blk t l.np, pk, l.rk.frame (fun b hb => t.block b (l.rk.lt b hb) (fun e => l.ap b e hb)) t.size, fun b hb hq => ?_, fun hb => ?_, l.nq⟩
  · rcases hs b hb with h1 | h1
    · exact l.ap b h1 hq
    · have := l.rk.lt b hq
      omega
  · rcases hs bb hb with h1 | h1
    · exact l.np h1
    · have := l.blk.lt
      omega

set_option maxHeartbeats 1000000 in
theorem lPicks_any (f : KFrame PK) (cp : CPick PK) (l : LK PK B w bb kb sb P Q s) (hB : B ≤ w.heap.size) (hnx : s.next ≤ 4611686018427386000) (wk hd : Int) (hh : Holds hd) :
    Calls Tryz.prog 25 #[.pointer (some ⟨bb, 0, none⟩), .int .i64 wk, .int .i64 hd] w fun e w' => e = .returned (.bool true) ∧ (∃ P' Q', LK PK B w' bb kb sb P' Q' (R.pickS s wk)) ∧ Below B w w' := by
  have c0 := l.blk.cell 0
  simp at c0
  have L := hid l
  have C1 := hid (cp P w kb s l.pk hnx wk)
  have C2 := hid (fun Q' wx (k : RK Q' wx sb s) => rkPick_any Q' wx sb s k wk hnx)
  generalize R.pickT s wk = rt at *
  generalize R.pickA s wk = ra at *
  generalize R.pickC s wk = rc at *
  generalize R.pickE s wk = re at *
  generalize R.pickS s wk = s' at *
  clear l
  go_enter Tryz.func25, Tryz.ntmps25
  go_wp2_with fail
  refine C1.out.mono ?_
  rintro e w1 ⟨rfl, P', pk1, hs1, t1⟩
  have PR := hid (L.out.prog f pk1 hs1 t1)
  have HS1 := hid hs1
  have T1 := hid t1
  have hsz1 := t1.size
  have hb1 := hid (t1.below hB L.out.hp)
  clear pk1 hs1 t1 c0 C1
  go_upto_region 2 with fail
  have bA : Blk (w1.alloc (.cells #[.int .i64 rt, .int .i64 ra, .int .i64 rc] 84)) w1.heap.size #[.int .i64 rt, .int .i64 ra, .int .i64 rc] 84 := Blk.new _ _ _
  have hbA : Below w1.heap.size w1 (w1.alloc (.cells #[.int .i64 rt, .int .i64 ra, .int .i64 rc] 84)) := (Below.refl _ _).alloc (Nat.le_refl _) _
  have hszA : (w1.alloc (.cells #[.int .i64 rt, .int .i64 ra, .int .i64 rc] 84)).heap.size = w1.heap.size + 1 := by simp
  generalize w1.alloc (.cells #[.int .i64 rt, .int .i64 ra, .int .i64 rc] 84) = wA at bA hbA hszA ⊢
  have BA := hid bA
  have HBA := hid hbA
  have bbA : Blk wA bb #[.pointer (some ⟨kb, 0, none⟩), .pointer (some ⟨sb, 0, none⟩)] 52 := by
    have h1 := PR.out.1
    have hl := PR.out.1.lt
    unfold Blk at h1 ⊢
    rw [hbA.block bb hl]
    exact h1
  have BBA := hid bbA
  have c1 := bbA.cell 1
  simp at c1
  have PKA := hid (f.below PR.out.2.1 hbA)
  have RKA := hid (PR.out.2.2.1.below hbA)
  clear bA hbA bbA
  go_wp2_with fail
  refine (C2.out Q wA RKA.out).mono ?_
  rintro e w2 ⟨rfl, Q', rk2, hs2, t2⟩
  have RK2 := hid rk2
  have PK2 := hid (f.frame PKA.out (fun b hb => t2.block b (f.lt PKA.out b hb) (PR.out.2.2.2.1 b hb)) t2.size)
  have BB2 := hid (blk_turns BBA.out t2 L.out.nq)
  have hnq1 : ¬ Q w1.heap.size := fun hq => by have := L.out.rk.lt _ hq; omega
  have BR2 := hid (blk_turns BA.out t2 hnq1)
  have hsz2 := t2.size
  have hb2 := hid (t2.below (B := B) (by omega) L.out.hq)
  have HS2 := hid hs2
  have hlt2 := BR2.out.lt
  clear rk2 hs2 t2 c1
  have x0 := BR2.out.cell 0
  have x1 := BR2.out.cell 1
  have x2 := BR2.out.cell 2
  simp at x0 x1 x2
  have hfin : ∀ w3, Below w2.heap.size w2 w3 → (∃ P' Q', LK PK B w3 bb kb sb P' Q' s') ∧ Below B w w3 := by
    intro w3 hb3
    refine ⟨⟨P', Q', ?_, f.below PK2.out hb3, RK2.out.below hb3, fun b hb hq => ?_, PR.out.2.2.2.2.1, fun hq => ?_, fun b hb => ?_, fun b hb => ?_, L.out.hb⟩, ?_⟩
    · have h1 := BB2.out
      have hl := BB2.out.lt
      unfold Blk at h1 ⊢
      rw [hb3.block bb hl]
      exact h1
    · rcases HS2.out b hq with h1 | h1
      · exact PR.out.2.2.2.1 b hb h1
      · have := f.lt PKA.out b hb
        omega
    · rcases HS2.out bb hq with h1 | h1
      · exact L.out.nq h1
      · have := BBA.out.lt
        omega
    · rcases HS1.out b hb with h1 | h1
      · exact L.out.hp b h1
      · omega
    · rcases HS2.out b hb with h1 | h1
      · exact L.out.hq b h1
      · omega
    · exact hb1.out.trans (((HBA.out.mono (by omega))).trans (hb2.out.trans (hb3.mono (by omega))))
  have FIN := hid hfin
  clear hfin
  go_wp2_with fail
  refine (sameReport_eq _ rt ra rc).mono ?_
  rintro e w3 ⟨rfl, hb3⟩
  have HB3 := hid (via ((Below.refl w2.heap.size w2).alloc (Nat.le_refl _) _) (by simp) hb3)
  clear hb3 x0 x1 x2
  rcases hh with rfl | rfl | rfl | rfl | rfl | rfl | rfl | rfl
  all_goals
    go_wp2
    go_ret
    exact ⟨by simp, FIN.out _ HB3.out⟩
theorem rkTick2_any (Q : Nat → Prop) (w : World) (sb : Nat) (s : RS) (k : RK Q w sb s) (hnx : s.next ≤ 4611686018427386000) :
    Calls Tryz.prog 51 #[.pointer (some ⟨sb, 0, none⟩)] w fun e w' =>
      ∃ l Q', e = .returned (.tuple #[l, .int .i64 (R.tickE s)]) ∧ w'.ownsRow w.heap.size 110 3 l (R.tickL s).length (missCells (R.tickL s)) ∧ RK Q' w' sb (R.tickS s) ∧
        (∀ b, Q' b → Q b ∨ w.heap.size ≤ b) ∧ (∀ b, l.ownBlock = some b → ¬ Q' b) ∧ Turns Q w w' := by
  refine (rkTick_any Q w sb s k hnx).mono ?_
  rintro e w' (⟨h1, rfl, rfl⟩ | ⟨h1, l, Q', rfl, r⟩)
  · have e1 : R.tickS s = s := by unfold R.tickS; rw [if_pos h1]
    have e2 : R.tickE s = 8 := by unfold R.tickE; rw [if_pos h1]
    have e3 : R.tickL s = [] := by unfold R.tickL; rw [if_pos h1]
    rw [e1, e2, e3]
    exact ⟨_, Q, rfl, World.ownsRow_nil _ _ _ _, k, fun b hb => .inl hb, fun b hb => (by cases hb), Turns.refl _ _⟩
  · have hn : ¬ s.now = 1000000000 := by omega
    have e1 : R.tickS s = R.tick s := by unfold R.tickS; rw [if_neg hn]
    have e2 : R.tickE s = 0 := by unfold R.tickE; rw [if_neg hn]
    have e3 : R.tickL s = R.late (R.ticked s) := by unfold R.tickL; rw [if_neg hn]
    rw [e1, e2, e3]
    exact ⟨l, Q', rfl, r⟩
theorem tickL_len (s : RS) (h : s.T.length ≤ 16) : (R.tickL s).length ≤ 16 := by
  unfold R.tickL
  split
  · simp
  · have := R.lateTo_len (R.ticked s) (R.ticked s).T.length
    have e : (R.ticked s).T.length = s.T.length := rfl
    unfold R.late
    omega

set_option maxHeartbeats 1000000 in
theorem lTicks_any (f : KFrame PK) (ct : CTick PK) (l : LK PK B w bb kb sb P Q s) (hB : B ≤ w.heap.size) (hnx : s.next ≤ 4611686018427386000) (hd : Int) (hh : Holds hd) :
    Calls Tryz.prog 24 #[.pointer (some ⟨bb, 0, none⟩), .int .i64 hd] w fun e w' => e = .returned (.bool true) ∧ (∃ P' Q', LK PK B w' bb kb sb P' Q' (R.tickS s)) ∧ Below B w w' := by
  have c0 := l.blk.cell 0
  simp at c0
  have L := hid l
  have C1 := hid (ct P w kb s l.pk hnx)
  have C2 := hid (fun Q' wx (k : RK Q' wx sb s) => rkTick2_any Q' wx sb s k hnx)
  have hln := tickL_len s l.rk.inv.good.few
  generalize R.tickE s = re at *
  generalize R.tickL s = rl at *
  generalize R.tickS s = s' at *
  clear l
  go_enter Tryz.func24, Tryz.ntmps24
  go_wp2_with fail
  refine C1.out.mono ?_
  rintro e w1 ⟨v1, P', rfl, ho1, pk1, hs1, hn1, t1⟩
  have PR := hid (L.out.prog f pk1 hs1 t1)
  have HS1 := hid hs1
  have hsz1 := t1.size
  have hb1 := hid (t1.below hB L.out.hp)
  obtain ⟨ao, ca, rfl, _, _⟩ := MissesIn.of_owns ho1
  have OW1 := hid ho1
  clear pk1 hs1 t1 c0 C1 ho1
  have c1 := PR.out.1.cell 1
  simp at c1
  go_wp2_with fail
  refine (C2.out Q w1 PR.out.2.2.1).mono ?_
  rintro e w2 ⟨v2, Q', rfl, ho2, rk2, hs2, hn2, t2⟩
  have RK2 := hid rk2
  have PK2 := hid (f.frame PR.out.2.1 (fun b hb => t2.block b (f.lt PR.out.2.1 b hb) (PR.out.2.2.2.1 b hb)) t2.size)
  have BB2 := hid (blk_turns PR.out.1 t2 L.out.nq)
  have ow1 := ints_turns OW1.out t2 (fun b hb hq => by have := (ownsRow_block OW1.out hb).1; have := L.out.rk.lt b hq; omega)
  obtain ⟨ao', ca', e1, _, hi1⟩ := MissesIn.of_owns ow1
  cases e1
  obtain ⟨bo, cb, rfl, _, hi2⟩ := MissesIn.of_owns ho2
  have HI1 := hid hi1
  have HI2 := hid hi2
  have hsz2 := t2.size
  have hb2 := hid (t2.below (B := B) (by omega) L.out.hq)
  have HS2 := hid hs2
  clear rk2 hs2 t2 c1 ow1 hi1 hi2 ho2 hn2
  have hfin : ∀ w3, Below w2.heap.size w2 w3 → (∃ P' Q', LK PK B w3 bb kb sb P' Q' s') ∧ Below B w w3 := by
    intro w3 hb3
    refine ⟨⟨P', Q', ?_, f.below PK2.out hb3, RK2.out.below hb3, fun b hb hq => ?_, PR.out.2.2.2.2.1, fun hq => ?_, fun b hb => ?_, fun b hb => ?_, L.out.hb⟩, ?_⟩
    · have h1 := BB2.out
      have hl := BB2.out.lt
      unfold Blk at h1 ⊢
      rw [hb3.block bb hl]
      exact h1
    · rcases HS2.out b hq with h1 | h1
      · exact PR.out.2.2.2.1 b hb h1
      · have := f.lt PR.out.2.1 b hb
        omega
    · rcases HS2.out bb hq with h1 | h1
      · exact L.out.nq h1
      · have := PR.out.1.lt
        omega
    · rcases HS1.out b hb with h1 | h1
      · exact L.out.hp b h1
      · omega
    · rcases HS2.out b hb with h1 | h1
      · exact L.out.hq b h1
      · omega
    · exact hb1.out.trans (hb2.out.trans (hb3.mono (by omega)))
  have FIN := hid hfin
  clear hfin
  go_wp2_with fail
  refine (sameMisses_eq w2 ao bo ca cb rl HI1.out HI2.out (by omega)).mono ?_
  rintro e w3 ⟨rfl, n, rfl⟩
  have HB3 := hid (bdrewN (Below.refl w2.heap.size w2) n)
  generalize w2.drewN n = w3 at *
  rcases hh with rfl | rfl | rfl | rfl | rfl | rfl | rfl | rfl
  all_goals
    go_wp2
    go_ret
    exact ⟨by simp, FIN.out _ HB3.out⟩

end

end Go.Proofs.YthnjabnlocpoaaaGreat

/-
  The law's own functions, over any program: owners, stores.
-/
namespace Go.Proofs.YthnjabnlocpoaaaGreat
open Go.RowKit

section
variable {PK : KP} {B : Nat} {w : World} {bb kb sb : Nat} {P Q : Nat → Prop} {s : RS}

set_option maxHeartbeats 1000000 in
theorem lOwners_any (f : KFrame PK) (co : COwner PK) (cw : CWaiting PK) (l : LK PK B w bb kb sb P Q s) :
    Calls Tryz.prog 22 #[.pointer (some ⟨bb, 0, none⟩)] w fun e w' => e = .returned (.bool true) ∧ Below w.heap.size w w' := by
  have L := hid l
  have hol : s.owner.length ≤ 8 := by have := l.rk.inv.good.own; have := l.rk.inv.good.mfew; omega
  clear l
  go_enter Tryz.func22, Tryz.ntmps22
  go_wp2
  go_loopw [3] (fun i wr => ∃ k : Nat, k ≤ s.owner.length + 2 ∧ i = .int .i64 ((k : Int) - 1) ∧ Below w.heap.size w wr) (fun i _ => s.owner.length + 2 - ((intOf i) + 1).toNat)
  case atStart => exact ⟨0, by omega, rfl, Below.refl _ _⟩
  case round =>
    obtain ⟨k, hk, rfl, hb⟩ := hrel
    have LK := hid (L.out.below f hb)
    have HB := hid hb
    clear hb
    have c1 := LK.out.blk.cell 1
    simp at c1
    obtain ⟨F, h, m, _, _⟩ := LK.out.rk.mem
    obtain ⟨ao, cO, hvO, _, _⟩ := owns_cells m.oth.own
    have c9 := m.blk.cell 9
    simp [rsCells] at c9
    rw [hvO] at c9
    clear m hvO
    by_cases hlt : k < s.owner.length + 2
    · have hle : ((k : Int) - 1) ≤ (s.owner.length : Int) := by omega
      go_wp2_with fail
      refine (lOwner_any f co LK.out ((k : Int) - 1)).mono ?_
      rintro e w1 ⟨rfl, hb1⟩
      have HB1 := hid (via HB.out HB.out.size hb1)
      have L1 := hid (LK.out.below f hb1)
      clear hb1 c1 c9
      go_wp2_with fail
      refine (lWaiting_any f cw L1.out 1 ((k : Int) - 1)).mono ?_
      rintro e w2 ⟨rfl, hb2⟩
      have HB2 := hid (via HB1.out HB1.out.size hb2)
      clear hb2
      go_wp2
      go_roundw
      case rel => exact ⟨k + 1, by omega, by go_num, HB2.out⟩
      case measure => simp [intOf]; omega
    · have hgt : (s.owner.length : Int) < (k : Int) - 1 := by omega
      go_wp2
      go_ret
      exact ⟨rfl, HB.out⟩

set_option maxHeartbeats 2000000 in
theorem lStores_any (f : KFrame PK) (cc : CCount PK) (cm : CMessages PK) (cw : CWaiting PK) (l : LK PK B w bb kb sb P Q s) :
    Calls Tryz.prog 23 #[.pointer (some ⟨bb, 0, none⟩)] w fun e w' => e = .returned (.bool true) ∧ Below w.heap.size w w' := by
  have L := hid l
  clear l
  go_enter Tryz.func23, Tryz.ntmps23
  go_wp2
  go_loopw [3] (fun i wr => ∃ k : Nat, k ≤ 7 ∧ i = .int .i64 ((k : Int) - 1) ∧ Below w.heap.size w wr) (fun i _ => 7 - ((intOf i) + 1).toNat)
  case atStart => exact ⟨0, by omega, rfl, Below.refl _ _⟩
  case round =>
    obtain ⟨k, hk, rfl, hb⟩ := hrel
    have HB := hid hb
    have L0 := hid (L.out.below f hb)
    clear hb
    by_cases hlt : k < 7
    · have hle : ((k : Int) - 1) ≤ 5 := by omega
      go_wp2_with fail
      refine (lCount_any f cc L0.out ((k : Int) - 1)).mono ?_
      rintro e w1 ⟨rfl, hb1⟩
      have HB1 := hid (via HB.out HB.out.size hb1)
      have L1 := hid (L0.out.below f hb1)
      clear hb1
      go_wp2_with fail
      refine (lMessages_any f cm L1.out ((k : Int) - 1)).mono ?_
      rintro e w2 ⟨rfl, hb2⟩
      have HB2 := hid (via HB1.out HB1.out.size hb2)
      have L2 := hid (L1.out.below f hb2)
      clear hb2
      go_wp2_with fail
      refine (lWaiting_any f cw L2.out 2 ((k : Int) - 1)).mono ?_
      rintro e w3 ⟨rfl, hb3⟩
      have HB3 := hid (via HB2.out HB2.out.size hb3)
      have L3 := hid (L2.out.below f hb3)
      clear hb3
      go_wp2_with fail
      refine (lWaiting_any f cw L3.out 3 ((k : Int) - 1)).mono ?_
      rintro e w4 ⟨rfl, hb4⟩
      have HB4 := hid (via HB3.out HB3.out.size hb4)
      have L4 := hid (L3.out.below f hb4)
      clear hb4
      go_wp2_with fail
      refine (lWaiting_any f cw L4.out 0 ((k : Int) - 1)).mono ?_
      rintro e w5 ⟨rfl, hb5⟩
      have HB5 := hid (via HB4.out HB4.out.size hb5)
      have L5 := hid (L4.out.below f hb5)
      clear hb5
      go_wp2_with fail
      refine (lWaiting_any f cw L5.out 4 ((k : Int) - 1)).mono ?_
      rintro e w6 ⟨rfl, hb6⟩
      have HB6 := hid (via HB5.out HB5.out.size hb6)
      clear hb6
      go_wp2
      go_roundw
      case rel => exact ⟨k + 1, by omega, by go_num, HB6.out⟩
      case measure => simp [intOf]; omega
    · have hgt : (5 : Int) < (k : Int) - 1 := by omega
      go_wp2
      go_ret
      exact ⟨rfl, HB.out⟩
end

end Go.Proofs.YthnjabnlocpoaaaGreat

/-
  The law's own functions, over any program: what can be seen, and a step.
-/
namespace Go.Proofs.YthnjabnlocpoaaaGreat
open Go.RowKit

/-- What a statement that holds hd asks of the program's calls that tell. -/
structure CSee (PK : KP) (hd : Int) : Prop where
  tick : hd = 14 ∨ hd = 15 ∨ hd = 31 → CNow PK ∧ CMisses PK
  run : hd = 4 ∨ hd = 13 ∨ hd = 14 ∨ hd = 15 ∨ hd = 31 → CRunning PK
  look : hd = 8 ∨ hd = 13 ∨ hd = 14 ∨ hd = 15 ∨ hd = 31 → CLook PK
  own : hd = 31 → COwner PK ∧ CWaiting PK
  sto : hd = 32 → CCount PK ∧ CMessages PK ∧ CWaiting PK

section
variable {PK : KP} {B : Nat} {w : World} {bb kb sb : Nat} {P Q : Nat → Prop} {s : RS}

set_option maxHeartbeats 2000000 in
theorem lAlike_any (f : KFrame PK) (hd : Int) (ct : CSee PK hd) (l : LK PK B w bb kb sb P Q s) (hh : Holds hd) :
    Calls Tryz.prog 13 #[.pointer (some ⟨bb, 0, none⟩), .int .i64 hd] w fun e w' => e = .returned (.bool true) ∧ Below w.heap.size w w' := by
  have L := hid l
  clear l
  rcases hh with rfl | rfl | rfl | rfl | rfl | rfl | rfl | rfl
  · clear ct
    go_enter Tryz.func13, Tryz.ntmps13
    go_wp2
    go_ret
    exact ⟨rfl, Below.refl _ _⟩
  · have CR := hid (fun wx (hb : Below w.heap.size w wx) => lRunning_any f (ct.run (by omega)) (L.out.below f hb))
    clear ct
    go_enter Tryz.func13, Tryz.ntmps13
    go_wp2_with fail
    refine (CR.out _ (Below.refl _ _)).mono ?_
    rintro e w0 ⟨rfl, hb0⟩
    have hc0 := hb0
    go_wp2
    go_ret
    exact ⟨rfl, hc0⟩
  · have CK := hid (fun wx (hb : Below w.heap.size w wx) => lLooks_any f (ct.look (by omega)) (L.out.below f hb))
    clear ct
    go_enter Tryz.func13, Tryz.ntmps13
    go_wp2_with fail
    refine (CK.out _ (Below.refl _ _)).mono ?_
    rintro e w0 ⟨rfl, hb0⟩
    have hc0 := hb0
    go_wp2
    go_ret
    exact ⟨rfl, hc0⟩
  · have CR := hid (fun wx (hb : Below w.heap.size w wx) => lRunning_any f (ct.run (by omega)) (L.out.below f hb))
    have CK := hid (fun wx (hb : Below w.heap.size w wx) => lLooks_any f (ct.look (by omega)) (L.out.below f hb))
    clear ct
    go_enter Tryz.func13, Tryz.ntmps13
    go_wp2_with fail
    refine (CR.out _ (Below.refl _ _)).mono ?_
    rintro e w0 ⟨rfl, hb0⟩
    have hc0 := hb0
    go_wp2_with fail
    refine (CK.out _ hc0).mono ?_
    rintro e w1 ⟨rfl, hb1⟩
    have hc1 := via hc0 hc0.size hb1
    go_wp2
    go_ret
    exact ⟨rfl, hc1⟩
  · have CL := hid (fun wx (hb : Below w.heap.size w wx) => lClock_any f (ct.tick (by omega)).1 (ct.tick (by omega)).2 (L.out.below f hb))
    have CR := hid (fun wx (hb : Below w.heap.size w wx) => lRunning_any f (ct.run (by omega)) (L.out.below f hb))
    have CK := hid (fun wx (hb : Below w.heap.size w wx) => lLooks_any f (ct.look (by omega)) (L.out.below f hb))
    clear ct
    go_enter Tryz.func13, Tryz.ntmps13
    go_wp2_with fail
    refine (CL.out _ (Below.refl _ _)).mono ?_
    rintro e w0 ⟨rfl, hb0⟩
    have hc0 := hb0
    go_wp2_with fail
    refine (CR.out _ hc0).mono ?_
    rintro e w1 ⟨rfl, hb1⟩
    have hc1 := via hc0 hc0.size hb1
    go_wp2_with fail
    refine (CK.out _ hc1).mono ?_
    rintro e w2 ⟨rfl, hb2⟩
    have hc2 := via hc1 hc1.size hb2
    go_wp2
    go_ret
    exact ⟨rfl, hc2⟩
  · have CL := hid (fun wx (hb : Below w.heap.size w wx) => lClock_any f (ct.tick (by omega)).1 (ct.tick (by omega)).2 (L.out.below f hb))
    have CR := hid (fun wx (hb : Below w.heap.size w wx) => lRunning_any f (ct.run (by omega)) (L.out.below f hb))
    have CK := hid (fun wx (hb : Below w.heap.size w wx) => lLooks_any f (ct.look (by omega)) (L.out.below f hb))
    clear ct
    go_enter Tryz.func13, Tryz.ntmps13
    go_wp2_with fail
    refine (CL.out _ (Below.refl _ _)).mono ?_
    rintro e w0 ⟨rfl, hb0⟩
    have hc0 := hb0
    go_wp2_with fail
    refine (CR.out _ hc0).mono ?_
    rintro e w1 ⟨rfl, hb1⟩
    have hc1 := via hc0 hc0.size hb1
    go_wp2_with fail
    refine (CK.out _ hc1).mono ?_
    rintro e w2 ⟨rfl, hb2⟩
    have hc2 := via hc1 hc1.size hb2
    go_wp2
    go_ret
    exact ⟨rfl, hc2⟩
  · have CL := hid (fun wx (hb : Below w.heap.size w wx) => lClock_any f (ct.tick (by omega)).1 (ct.tick (by omega)).2 (L.out.below f hb))
    have CR := hid (fun wx (hb : Below w.heap.size w wx) => lRunning_any f (ct.run (by omega)) (L.out.below f hb))
    have CK := hid (fun wx (hb : Below w.heap.size w wx) => lLooks_any f (ct.look (by omega)) (L.out.below f hb))
    have CO := hid (fun wx (hb : Below w.heap.size w wx) => lOwners_any f (ct.own (by omega)).1 (ct.own (by omega)).2 (L.out.below f hb))
    clear ct
    go_enter Tryz.func13, Tryz.ntmps13
    go_wp2_with fail
    refine (CL.out _ (Below.refl _ _)).mono ?_
    rintro e w0 ⟨rfl, hb0⟩
    have hc0 := hb0
    go_wp2_with fail
    refine (CR.out _ hc0).mono ?_
    rintro e w1 ⟨rfl, hb1⟩
    have hc1 := via hc0 hc0.size hb1
    go_wp2_with fail
    refine (CK.out _ hc1).mono ?_
    rintro e w2 ⟨rfl, hb2⟩
    have hc2 := via hc1 hc1.size hb2
    go_wp2_with fail
    refine (CO.out _ hc2).mono ?_
    rintro e w3 ⟨rfl, hb3⟩
    have hc3 := via hc2 hc2.size hb3
    go_wp2
    go_ret
    exact ⟨rfl, hc3⟩
  · have CS := hid (fun wx (hb : Below w.heap.size w wx) => lStores_any f (ct.sto (by omega)).1 (ct.sto (by omega)).2.1 (ct.sto (by omega)).2.2 (L.out.below f hb))
    clear ct
    go_enter Tryz.func13, Tryz.ntmps13
    go_wp2_with fail
    refine (CS.out _ (Below.refl _ _)).mono ?_
    rintro e w0 ⟨rfl, hb0⟩
    have hc0 := hb0
    go_wp2
    go_ret
    exact ⟨rfl, hc0⟩

/-- An entry of a script. -/
def R.entry (s : RS) (n : Int) : RS := if n = -1 then R.tickS s else R.pickS s n

set_option maxHeartbeats 1000000 in
theorem lStep_any (f : KFrame PK) (n hd : Int) (ct : CSee PK hd) (l : LK PK B w bb kb sb P Q s) (hB : B ≤ w.heap.size) (hnx : s.next ≤ 4611686018427386000) (cp : n ≠ -1 → CPick PK) (ck : n = -1 → CTick PK) (hh : Holds hd) :
    Calls Tryz.prog 14 #[.pointer (some ⟨bb, 0, none⟩), .int .i64 n, .int .i64 hd] w fun e w' => e = .returned (.bool true) ∧ (∃ P' Q', LK PK B w' bb kb sb P' Q' (R.entry s n)) ∧ Below B w w' := by
  have L := hid l
  have HH := hid hh
  clear l hh
  by_cases hn : n = -1
  · subst hn
    have e0 : R.entry s (-1) = R.tickS s := rfl
    rw [e0]
    have CK := hid (ck rfl)
    clear e0 ck cp
    go_enter Tryz.func14, Tryz.ntmps14
    go_wp2_with fail
    refine (lTicks_any f CK.out L.out hB hnx hd HH.out).mono ?_
    rintro e w1 ⟨rfl, ⟨P', Q', l1⟩, hb1⟩
    have L1 := hid l1
    have HB1 := hid hb1
    clear l1 hb1
    go_wp2_with fail
    refine (lAlike_any f hd ct L1.out HH.out).mono ?_
    rintro e w2 ⟨rfl, hb2⟩
    have L2 := hid (L1.out.below f hb2)
    have HB2 := hid (via HB1.out (by have := HB1.out.size; omega) hb2)
    clear hb2
    go_wp2
    go_ret
    exact ⟨rfl, ⟨P', Q', L2.out⟩, HB2.out⟩
  · have e0 : R.entry s n = R.pickS s n := by unfold R.entry; rw [if_neg hn]
    rw [e0]
    clear e0
    have hnb : (n == -1) = false := by simpa using hn
    have CP := hid (cp hn)
    clear cp ck
    go_enter Tryz.func14, Tryz.ntmps14
    go_wp2_with fail
    refine (lPicks_any f CP.out L.out hB hnx n hd HH.out).mono ?_
    rintro e w1 ⟨rfl, ⟨P', Q', l1⟩, hb1⟩
    have L1 := hid l1
    have HB1 := hid hb1
    clear l1 hb1
    go_wp2_with fail
    refine (lAlike_any f hd ct L1.out HH.out).mono ?_
    rintro e w2 ⟨rfl, hb2⟩
    have L2 := hid (L1.out.below f hb2)
    have HB2 := hid (via HB1.out (by have := HB1.out.size; omega) hb2)
    clear hb2
    go_wp2
    go_ret
    exact ⟨rfl, ⟨P', Q', L2.out⟩, HB2.out⟩
end

end Go.Proofs.YthnjabnlocpoaaaGreat

/-
  Walks: the lists of a set, looked through by package check.
-/
namespace Go.Proofs.YthnjabnlocpoaaaGreat
open Go.RowKit

set_option maxHeartbeats 400000 in
theorem firstBadMutex_any (ao : Option Addr) (cap : Nat) (l : List PairD) (w : World) (hl : PairsIn w.heap.size w ao l) (hn : (l.length : Int) ≤ 8) :
    Calls Tryz.prog 58 #[.slice ao l.length cap] w fun e w' => e = .returned (.int .i64 (P3.badOr P3.mutexP l)) ∧ Below w.heap.size w w' := by
  go_enter Tryz.func58, Tryz.ntmps58
  go_wp2
  go_loopw [7] (fun i wr => ∃ k : Nat, k ≤ l.length ∧ i = .int .i64 k ∧ (∀ j (h : j < k), (hl : j < l.length) → P3.mutexP l[j] = true) ∧ Below w.heap.size w wr) (fun i _ => l.length - (intOf i).toNat)
  case atStart => exact ⟨0, Nat.zero_le _, rfl, fun j h => absurd h (Nat.not_lt_zero _), Below.refl _ _⟩
  case round =>
    obtain ⟨k, hk, rfl, hall, hb⟩ := hrel
    by_cases hlt : k < l.length
    · obtain ⟨b, o, rfl, hbb, hx, hy⟩ := hl k hlt
      have H1 : Hid (∀ j (h : j < k), (hl : j < l.length) → P3.mutexP l[j] = true) := hall
      have HL : Hid (PairsIn w.heap.size w (some ⟨b, o, none⟩) l) := hl
      have hx' := (hb.cell (p := ⟨b, o + k * 2, none⟩) hbb).trans hx
      have hy' := (hb.cell (p := ⟨b, o + k * 2 + 1, none⟩) hbb).trans hy
      have hsz := hb.size
      clear hall hl hx hy
      go_wp2_with (go_at_call 91; refine (mutexFits_any _ _ _).mono ?_; rintro e w1 ⟨rfl, hb1⟩)
      · go_ret
        refine ⟨ret_int (P3.badOr_at P3.mutexP l k hlt ?_ (fun j h => H1.out j h (by omega))).symm, via (hb.alloc hb.size _) (by simp; omega) hb1⟩
        simpa [P3.mutexP] using ‹(!P3.mutexB l[k].x l[k].y) = true›
      · go_roundw
        case rel =>
          refine ⟨k + 1, by omega, by go_num, ?_, via (hb.alloc hb.size _) (by simp; omega) hb1⟩
          intro j h h'
          rcases Nat.lt_succ_iff_lt_or_eq.1 h with h1 | rfl
          · exact H1.out j h1 h'
          · simpa [P3.mutexP] using ‹(!P3.mutexB l[j].x l[j].y) = false›
        case measure => simp [intOf]; omega
    · have H1 : Hid (∀ j (h : j < k), (hl : j < l.length) → P3.mutexP l[j] = true) := hall
      have HL : Hid (PairsIn w.heap.size w ao l) := hl
      clear hall hl
      go_wp2
      go_ret
      exact ⟨ret_int (P3.badOr_none P3.mutexP l (fun j h => H1.out j (by omega) h)).symm, hb⟩

set_option maxHeartbeats 400000 in
theorem firstBadSem_any (ao : Option Addr) (cap : Nat) (l : List PairD) (w : World) (hl : PairsIn w.heap.size w ao l) (hn : (l.length : Int) ≤ 4) :
    Calls Tryz.prog 59 #[.slice ao l.length cap] w fun e w' => e = .returned (.int .i64 (P3.badOr P3.semP l)) ∧ Below w.heap.size w w' := by
  go_enter Tryz.func59, Tryz.ntmps59
  go_wp2
  go_loopw [7] (fun i wr => ∃ k : Nat, k ≤ l.length ∧ i = .int .i64 k ∧ (∀ j (h : j < k), (hl : j < l.length) → P3.semP l[j] = true) ∧ Below w.heap.size w wr) (fun i _ => l.length - (intOf i).toNat)
  case atStart => exact ⟨0, Nat.zero_le _, rfl, fun j h => absurd h (Nat.not_lt_zero _), Below.refl _ _⟩
  case round =>
    obtain ⟨k, hk, rfl, hall, hb⟩ := hrel
    have H1 : Hid (∀ j (h : j < k), (hl : j < l.length) → P3.semP l[j] = true) := hall
    clear hall
    by_cases hlt : k < l.length
    · obtain ⟨b, o, rfl, hbb, hx, hy⟩ := hl k hlt
      have hx' := (hb.cell (p := ⟨b, o + k * 2, none⟩) hbb).trans hx
      have hy' := (hb.cell (p := ⟨b, o + k * 2 + 1, none⟩) hbb).trans hy
      have hsz := hb.size
      clear hl hx hy
      cases hok : P3.semB l[k].x l[k].y
      · have HB : Hid (P3.semB l[k].x l[k].y = false) := hok
        clear hok
        have hB := HB.out
        unfold P3.semB at hB
        rw [decide_eq_false_iff_not] at hB
        have hor : l[k].y < 1 ∨ (1 ≤ l[k].y ∧ 100 < l[k].y) ∨ (1 ≤ l[k].y ∧ l[k].y ≤ 100 ∧ l[k].x < 0) ∨ (1 ≤ l[k].y ∧ l[k].y ≤ 100 ∧ 0 ≤ l[k].x ∧ l[k].y < l[k].x) := by omega
        clear hB
        rcases hor with h1 | ⟨h1, h2⟩ | ⟨h1, h2, h3⟩ | ⟨h1, h2, h3, h4⟩
        all_goals
          go_wp2
          go_ret
          exact ⟨ret_int (P3.badOr_at P3.semP l k hlt HB.out (fun j h => H1.out j h (by omega))).symm, hb.alloc hb.size _⟩
      · have HB : Hid (P3.semB l[k].x l[k].y = true) := hok
        clear hok
        have hB := HB.out
        unfold P3.semB at hB
        rw [decide_eq_true_iff] at hB
        obtain ⟨h1, h2, h3, h4⟩ := hB
        go_wp2
        go_roundw
        case rel =>
          refine ⟨k + 1, by omega, by go_num, ?_, hb.alloc hb.size _⟩
          intro j h h'
          rcases Nat.lt_succ_iff_lt_or_eq.1 h with h1 | rfl
          · exact H1.out j h1 h'
          · exact HB.out
        case measure => simp [intOf]; omega
    · clear hl
      go_wp2
      go_ret
      exact ⟨ret_int (P3.badOr_none P3.semP l (fun j h => H1.out j (by omega) h)).symm, hb⟩

set_option maxHeartbeats 400000 in
theorem firstBadQueue_any (ao : Option Addr) (cap : Nat) (l : List Int) (w : World) (hl : IntsIn w.heap.size w ao l) (hn : (l.length : Int) ≤ 4) :
    Calls Tryz.prog 60 #[.slice ao l.length cap] w fun e w' => e = .returned (.int .i64 (P3.badOr P3.queueB l)) ∧ Below w.heap.size w w' := by
  go_enter Tryz.func60, Tryz.ntmps60
  go_wp2
  go_loopw [7] (fun i wr => ∃ k : Nat, k ≤ l.length ∧ i = .int .i64 k ∧ (∀ j (h : j < k), (hl : j < l.length) → P3.queueB l[j] = true) ∧ Below w.heap.size w wr) (fun i _ => l.length - (intOf i).toNat)
  case atStart => exact ⟨0, Nat.zero_le _, rfl, fun j h => absurd h (Nat.not_lt_zero _), Below.refl _ _⟩
  case round =>
    obtain ⟨k, hk, rfl, hall, hb⟩ := hrel
    have H1 : Hid (∀ j (h : j < k), (hl : j < l.length) → P3.queueB l[j] = true) := hall
    clear hall
    by_cases hlt : k < l.length
    · obtain ⟨b, o, rfl, hbb, hx⟩ := hl k hlt
      have hx' := (hb.cell (p := ⟨b, o + k, none⟩) hbb).trans hx
      have hsz := hb.size
      clear hl hx
      cases hok : P3.queueB l[k]
      · have HB : Hid (P3.queueB l[k] = false) := hok
        clear hok
        have hB := HB.out
        unfold P3.queueB at hB
        rw [decide_eq_false_iff_not] at hB
        have hor : l[k] < 1 ∨ (1 ≤ l[k] ∧ 8 < l[k]) := by omega
        clear hB
        rcases hor with h1 | ⟨h1, h2⟩
        all_goals
          go_wp2
          go_ret
          exact ⟨ret_int (P3.badOr_at P3.queueB l k hlt HB.out (fun j h => H1.out j h (by omega))).symm, hb⟩
      · have HB : Hid (P3.queueB l[k] = true) := hok
        clear hok
        have hB := HB.out
        unfold P3.queueB at hB
        rw [decide_eq_true_iff] at hB
        obtain ⟨h1, h2⟩ := hB
        go_wp2
        go_roundw
        case rel =>
          refine ⟨k + 1, by omega, by go_num, ?_, hb⟩
          intro j h h'
          rcases Nat.lt_succ_iff_lt_or_eq.1 h with h1 | rfl
          · exact H1.out j h1 h'
          · exact HB.out
        case measure => simp [intOf]; omega
    · clear hl
      go_wp2
      go_ret
      exact ⟨ret_int (P3.badOr_none P3.queueB l (fun j h => H1.out j (by omega) h)).symm, hb⟩

set_option maxHeartbeats 400000 in
theorem firstBadThread_any (ao : Option Addr) (cap : Nat) (l : List ThreadD) (w : World) (hl : ThreadsIn w.heap.size w ao l) (hn : (l.length : Int) ≤ 16) :
    Calls Tryz.prog 61 #[.slice ao l.length cap] w fun e w' => e = .returned (.int .i64 (P3.badOr P3.threadP l)) ∧ Below w.heap.size w w' := by
  go_enter Tryz.func61, Tryz.ntmps61
  go_wp2
  go_loopw [7] (fun i wr => ∃ k : Nat, k ≤ l.length ∧ i = .int .i64 k ∧ (∀ j (h : j < k), (hl : j < l.length) → P3.threadP l[j] = true) ∧ Below w.heap.size w wr) (fun i _ => l.length - (intOf i).toNat)
  case atStart => exact ⟨0, Nat.zero_le _, rfl, fun j h => absurd h (Nat.not_lt_zero _), Below.refl _ _⟩
  case round =>
    obtain ⟨k, hk, rfl, hall, hb⟩ := hrel
    have H1 : Hid (∀ j (h : j < k), (hl : j < l.length) → P3.threadP l[j] = true) := hall
    clear hall
    by_cases hlt : k < l.length
    · obtain ⟨b, o, cv, cc, rfl, hbb, c0, c1, c2, c3, c4, _⟩ := hl k hlt
      have c0' := (hb.cell (p := ⟨b, o + k * 5, none⟩) hbb).trans c0
      have c1' := (hb.cell (p := ⟨b, o + k * 5 + 1, none⟩) hbb).trans c1
      have c2' := (hb.cell (p := ⟨b, o + k * 5 + 2, none⟩) hbb).trans c2
      have c3' := (hb.cell (p := ⟨b, o + k * 5 + 3, none⟩) hbb).trans c3
      have c4' := (hb.cell (p := ⟨b, o + k * 5 + 4, none⟩) hbb).trans c4
      have hsz := hb.size
      clear hl c0 c1 c2 c3 c4
      go_wp2_with (go_at_call 92; refine (threadFits_any _ _ _ _ _ _ _ _).mono ?_; rintro e w1 ⟨rfl, hb1⟩)
      · go_ret
        refine ⟨ret_int (P3.badOr_at P3.threadP l k hlt ?_ (fun j h => H1.out j h (by omega))).symm, via (hb.alloc hb.size _) (by simp; omega) hb1⟩
        simpa [P3.threadP] using ‹(!P3.threadB _ _ _ _ _) = true›
      · go_roundw
        case rel =>
          refine ⟨k + 1, by omega, by go_num, ?_, via (hb.alloc hb.size _) (by simp; omega) hb1⟩
          intro j h h'
          rcases Nat.lt_succ_iff_lt_or_eq.1 h with h1 | rfl
          · exact H1.out j h1 h'
          · simpa [P3.threadP] using ‹(!P3.threadB _ _ _ _ _) = false›
        case measure => simp [intOf]; omega
    · clear hl
      go_wp2
      go_ret
      exact ⟨ret_int (P3.badOr_none P3.threadP l (fun j h => H1.out j (by omega) h)).symm, hb⟩

end Go.Proofs.YthnjabnlocpoaaaGreat
