import Derived.Test.YthnjabnlocpoaaaGreatB08
import Derived.Test.YthnjabnlocpoaaaGreatB09
import Derived.Test.YthnjabnlocpoaaaGreatB11
import Derived.Test.YthnjabnlocpoaaaGreatB03
import Derived.Test.YthnjabnlocpoaaaGreatB02
/-
  Walks over package donate: what can be seen.
-/
namespace Go.Proofs.YthnjabnlocpoaaaGreat
open Go.RowKit

theorem RowKit.rowSrc {w : World} {g cap : Nat} {l : List Int} (hrow : w.ownsRow 0 3 1 (.slice (some ⟨g, 0, none⟩) l.length cap) l.length (intCells l)) : ∀ j u, (intCells l)[j]? = some u → ∃ ad, (some (⟨g, 0, none⟩ : Addr)) = some ad ∧ w.cell? (ad.add j) = some u := by
  intro j u hj
  refine ⟨_, rfl, ?_⟩
  have hjl : j < (intCells l).length := by
    rcases Nat.lt_or_ge j (intCells l).length with h' | h'
    · exact h'
    · rw [List.getElem?_eq_none h'] at hj; cases hj
  rw [intCells_length] at hjl
  rw [Addr.add_lit, Nat.zero_add, hrow.cellAt j (by omega)]
  exact hj

section
variable {F : Nat → Prop} {w : World} {kb : Nat} {h : KH} {s : RS} {tk wt : List Nat} {ws : List Int}

set_option maxHeartbeats 400000 in
theorem kNow_any (m : KMem F w kb h s tk wt ws) :
    Calls Tryz.prog 39 #[.pointer (some ⟨kb, 0, none⟩)] w fun e w' => e = .returned (.int .i64 s.now) ∧ Below w.heap.size w w' := by
  have c0 := m.blk.cell 0
  simp [kCells] at c0
  clear m
  go_enter Tryz.func39, Tryz.ntmps39
  go_wp2
  go_ret
  exact ⟨rfl, Below.refl _ _⟩

set_option maxRecDepth 100000 in
set_option maxHeartbeats 1000000 in
theorem kRunning_any (m : KMem F w kb h s tk wt ws) (hw8 : ws.length ≤ 8) :
    Calls Tryz.prog 42 #[.pointer (some ⟨kb, 0, none⟩)] w fun e w' => ∃ v, e = .returned v ∧ w'.ownsRow w.heap.size 3 1 v ws.length (intCells ws) ∧ Below w.heap.size w w' := by
  have c2 := m.blk.cell 5
  simp [kCells] at c2
  have M := hid m
  clear m
  obtain ⟨i3, hi3, hz30, hz31, hz32⟩ := info_parts Tryz.infoInt
  have HI3 := hid (And.intro hi3 (And.intro hz30 (And.intro hz31 hz32)))
  clear hi3 hz30 hz31 hz32
  go_enter Tryz.func42, Tryz.ntmps42
  go_upto_region 2 with (at_make; refine wpList_make_full _ rfl _ _ 25 rfl w.heap.size 3 i3 (.int .i64 0) 1 Tryz.underlying25 HI3.out.1 HI3.out.2.1 HI3.out.2.2.1 .i64 .i64 _ _ ws.length rfl rfl rfl rfl (by rw [HI3.out.2.2.2]; omega) (by unfold maxLen; omega) (Nat.le_refl _) ?_; intro w2 hown2 hg2; have O2 := hid hown2; have G2 := hid hg2; clear hown2 hg2)
  have hb2 : Below w.heap.size w w2 := (Below.refl _ _).grown G2.out (Nat.le_refl _) (by simp)
  have M2 := hid (M.out.below hb2)
  have HB2 := hid hb2
  have c2 := M2.out.blk.cell 5
  simp [kCells] at c2
  clear hb2
  go_wp2_with (refine wpList_copy_full rfl (.tmp 10) (.tmp 14) 25 rfl w.heap.size 3 i3 1 Tryz.underlying25 HI3.out.1 HI3.out.2.2.1 (by decide) w.heap.size ws.length ws.length _ rfl O2.out (some ⟨h.gW, 0, none⟩) h.cW (intCells ws) rfl (intCells_length _) (fun hh => (by cases hh)) (RowKit.rowSrc M2.out.wk) (intCells_one _) ?_; intro w3 hown3 hg3; have O3 := hid hown3; have G3 := hid hg3; clear hown3 hg3)
  go_ret
  refine ⟨_, rfl, O3.out, HB2.out.grown G3.out HB2.out.size (fun k hk => ?_)⟩
  cases hk
  exact Nat.le_refl _

set_option maxRecDepth 100000 in
set_option maxHeartbeats 1000000 in
theorem kFreeWorkers_any (w : World) (n : Nat) (hn : 1 ≤ n) (hn8 : n ≤ 8) :
    Calls Tryz.prog 33 #[.int .i64 n] w fun e w' => ∃ g, e = .returned (.slice (some ⟨g, 0, none⟩) n n) ∧ w'.ownsRow w.heap.size 3 1 (.slice (some ⟨g, 0, none⟩) n n) n (intCells (List.replicate n (-1))) ∧ Below w.heap.size w w' := by
  obtain ⟨i3, hi3, hz30, hz31, hz32⟩ := info_parts Tryz.infoInt
  have HI3 := hid (And.intro hi3 (And.intro hz30 (And.intro hz31 hz32)))
  clear hi3 hz30 hz31 hz32
  go_enter Tryz.func33, Tryz.ntmps33
  go_wp2_with (at_make; refine wpList_make_full _ rfl _ _ 25 rfl w.heap.size 3 i3 (.int .i64 0) 1 Tryz.underlying25 HI3.out.1 HI3.out.2.1 HI3.out.2.2.1 .i64 .i64 _ _ n rfl rfl rfl rfl (by rw [HI3.out.2.2.2]; omega) (by unfold maxLen; omega) (Nat.le_refl _) ?_; intro w2 hown2 hg2; have O2 := hid hown2; have G2 := hid hg2; clear hown2 hg2)
  have hr2 : w2.ownsRow w.heap.size 3 1 (.slice (some ⟨w.heap.size, 0, none⟩) n n) n (intCells (List.replicate 0 (-1) ++ List.replicate (n - 0) 0)) := by
    have := O2.out
    have e : (madeCells (Value.int IntKind.i64 0).cells (n * 1)).toList = intCells (List.replicate 0 (-1) ++ List.replicate (n - 0) 0) := by
      rw [Nat.mul_one]
      show (madeCells #[Value.int IntKind.i64 0] n).toList = _
      rw [toList_madeCells_one]
      simp [intCells]
    rwa [e] at this
  have R2 := hid hr2
  have hb2 : Below w.heap.size w w2 := (Below.refl _ _).grown G2.out (Nat.le_refl _) (by simp)
  have HB2 := hid hb2
  clear hr2 O2 G2 hb2
  go_loopw [9] (fun i wr => ∃ k : Nat, k ≤ n ∧ i = .int .i64 k ∧ wr.ownsRow w.heap.size 3 1 (.slice (some ⟨w.heap.size, 0, none⟩) n n) n (intCells (List.replicate k (-1) ++ List.replicate (n - k) 0)) ∧ Below w.heap.size w wr) (fun i _ => n - (intOf i).toNat)
  case atStart => exact ⟨0, Nat.zero_le _, rfl, R2.out, HB2.out⟩
  case round =>
    obtain ⟨k, hk, rfl, hrow, hb⟩ := hrel
    have ROW := hid hrow
    have HB := hid hb
    clear hrow hb
    by_cases hkl : k < n
    · have x0 : wr.cell? ⟨w.heap.size, k, none⟩ = some (.int .i64 0) := by
        rw [ROW.out.cellAt k (by omega)]
        simp only [intCells, List.map_append, List.map_replicate]
        rw [List.getElem?_append_right (by simp)]
        simp [show 0 < n - k by omega]
      have f0 := ROW.out.frozenAt k
      have r1 := (ROW.out.stored k (.int .i64 (-1))).1
      rw [intCells_set] at r1
      have e1 : (List.replicate k (-1 : Int) ++ List.replicate (n - k) 0).set k (-1) = List.replicate (k + 1) (-1) ++ List.replicate (n - (k + 1)) 0 := by
        rw [List.set_append_right _ _ (by simp)]
        have e2 : List.replicate (n - k) (0 : Int) = 0 :: List.replicate (n - (k + 1)) 0 := by
          rw [show n - k = (n - (k + 1)) + 1 by omega, List.replicate_succ]
        rw [e2, List.length_replicate, Nat.sub_self]
        simp [List.replicate_succ']
      rw [e1] at r1
      have R1 := hid r1
      have HB1 : Hid (Below w.heap.size w (wr.setCell ⟨w.heap.size, k, none⟩ (.int .i64 (-1)))) := HB.out.setCell (Nat.le_refl _) _
      have hkI : (k : Int) < (n : Int) := by omega
      clear r1 e1
      go_wp2
      go_roundw
      case rel => exact ⟨k + 1, by omega, by go_num, R1.out, HB1.out⟩
      case measure => simp [intOf]; omega
    · have e : k = n := by omega
      subst e
      go_wp2
      go_ret
      refine ⟨w.heap.size, rfl, ?_, HB.out⟩
      have := ROW.out
      rw [Nat.sub_self] at this
      simpa using this

set_option maxRecDepth 100000 in
set_option maxHeartbeats 1000000 in
theorem kMisses_any (m : KMem F w kb h s tk wt ws) (hmis : s.missed.length ≤ 16000000000) :
    Calls Tryz.prog 40 #[.pointer (some ⟨kb, 0, none⟩)] w fun e w' => ∃ v, e = .returned v ∧ w'.ownsRow w.heap.size 110 3 v s.missed.length (missCells s.missed) ∧ Below w.heap.size w w' := by
  have c4 := m.blk.cell 8
  simp [kCells] at c4
  obtain ⟨ao, ca, hv, hn, ha⟩ := owns_cells m.mss
  rw [hv] at c4
  have HV := hid hv
  have HN := hid hn
  have M := hid m
  clear m hv hn ha
  obtain ⟨i3, hi3, hz30, hz31, hz32⟩ := info_parts Tryz.infoMiss
  have HI3 := hid (And.intro hi3 (And.intro hz30 (And.intro hz31 hz32)))
  clear hi3 hz30 hz31 hz32
  go_enter Tryz.func40, Tryz.ntmps40
  go_upto_region 2 with (at_make; refine wpList_make_full _ rfl _ _ 64 rfl w.heap.size 110 i3 (.agg #[.int .i64 0, .int .i64 0, .int .i64 0]) 3 Tryz.underlying64 HI3.out.1 HI3.out.2.1 HI3.out.2.2.1 .i64 .i64 _ _ s.missed.length rfl rfl rfl rfl (by rw [HI3.out.2.2.2]; omega) (by unfold maxLen; omega) (Nat.le_refl _) ?_; intro w2 hown2 hg2; have O2 := hid hown2; have G2 := hid hg2; clear hown2 hg2)
  have hb2 : Below w.heap.size w w2 := (Below.refl _ _).grown G2.out (Nat.le_refl _) (by simp)
  have M2 := hid (M.out.below hb2)
  have HB2 := hid hb2
  have c4 := M2.out.blk.cell 8
  simp [kCells] at c4
  rw [HV.out] at c4
  have hsrc : ∀ j u, (missCells s.missed)[j]? = some u → ∃ ad, ao = some ad ∧ w2.cell? (ad.add j) = some u := by
    intro j u hj
    have hjl : j < (missCells s.missed).length := by
      rcases Nat.lt_or_ge j (missCells s.missed).length with h' | h'
      · exact h'
      · rw [List.getElem?_eq_none h'] at hj; cases hj
    rw [missCells_length] at hjl
    obtain ⟨ao', ca', hv', hn', ha'⟩ := owns_cells M2.out.mss
    rw [HV.out] at hv'
    cases hv'
    cases ao with
    | none => have := (hn' rfl).1; omega
    | some ad =>
      obtain ⟨gl, rfl, _, _, _, hc⟩ := ha' ad rfl
      refine ⟨_, rfl, ?_⟩
      rw [Addr.add_lit, Nat.zero_add, hc _ hjl]
      exact hj
  have HSRC := hid hsrc
  clear hb2 hsrc
  go_wp2_with (refine wpList_copy_full rfl (.tmp 10) (.tmp 14) 64 rfl w.heap.size 110 i3 3 Tryz.underlying64 HI3.out.1 HI3.out.2.2.1 (by decide) w.heap.size s.missed.length s.missed.length _ rfl O2.out ao ca (missCells s.missed) rfl (missCells_length _) (fun hh => (HN.out hh).2) HSRC.out (missCells_one _) ?_; intro w3 hown3 hg3; have O3 := hid hown3; have G3 := hid hg3; clear hown3 hg3)
  go_ret
  refine ⟨_, rfl, O3.out, HB2.out.grown G3.out HB2.out.size (fun k hk => ?_)⟩
  cases hk
  exact Nat.le_refl _

/-- What state tells. -/
def K.state (x : RT) (ws : List Int) (t : Nat) : Int := if x.rel ≤ x.ended then 0 else if x.for_ ≠ 0 then 3 else if Ln.placeIn ws (t : Int) = -1 then 1 else 2

set_option maxHeartbeats 1000000 in
theorem kState_any (m : KMem F w kb h s tk wt ws) (t : Nat) (ht : t < s.T.length) (hfew : s.T.length ≤ 16) (hw8 : ws.length ≤ 8) :
    Calls Tryz.prog 124 #[.pointer (some ⟨kb, 0, none⟩), .int .i64 t] w fun e w' => e = .returned (.int .i64 (K.state s.T[t] ws t)) ∧ ∃ n, w' = w.drewN n := by
  have HJ := hid (kHasJob_any m t ht hfew)
  have HW := hid (fun n => kWaits_any (m.drewN n) t ht hfew)
  have HP := hid (fun n => kPlaceOf_any (w.drewN n) (some ⟨h.gW, 0, none⟩) h.cW ws (t : Int) (fun i hi => ⟨h.gW, 0, rfl, m.wT.lt, by rw [Nat.zero_add]; exact m.wcell hi⟩) (by omega))
  have c2 := m.blk.cell 5
  simp [kCells] at c2
  have ES : Hid (K.state s.T[t] ws t = if s.T[t].rel ≤ s.T[t].ended then 0 else if s.T[t].for_ ≠ 0 then 3 else if Ln.placeIn ws (t : Int) = -1 then 1 else 2) := rfl
  clear m
  generalize K.state s.T[t] ws t = res at *
  generalize s.T[t] = x at *
  generalize Ln.placeIn ws (t : Int) = pl at *
  go_enter Tryz.func124, Tryz.ntmps124
  go_wp2_with fail
  refine HJ.out.mono ?_
  rintro e w1 ⟨rfl, n, rfl⟩
  by_cases hj : x.ended < x.rel
  · rw [if_neg (by omega)] at ES
    have hjd : decide (x.ended < x.rel) = true := by simpa using hj
    go_wp2_with fail
    refine (HW.out n).mono ?_
    rintro e w2 ⟨rfl, hw2⟩
    have hw3 := hw2.symm
    subst hw3
    clear hw2
    cases hw : (x.for_ != 0)
    · rw [if_neg (by simpa using hw)] at ES
      go_wp2_with fail
      refine (HP.out n).mono ?_
      rintro e w2 ⟨rfl, hw2⟩
      have hw3 := hw2.symm
      subst hw3
      clear hw2
      cases hp : (pl == -1)
      · rw [if_neg (by simpa using hp)] at ES
        go_wp2
        go_ret
        exact ⟨by rw [ES.out]; rfl, n, rfl⟩
      · rw [if_pos (by simpa using hp)] at ES
        go_wp2
        go_ret
        exact ⟨by rw [ES.out]; rfl, n, rfl⟩
    · rw [if_pos (by simpa using hw)] at ES
      go_wp2
      go_ret
      exact ⟨by rw [ES.out]; rfl, n, rfl⟩
  · rw [if_pos (by omega)] at ES
    have hjd : decide (x.ended < x.rel) = false := by simpa using hj
    go_wp2
    go_ret
    exact ⟨by rw [ES.out]; rfl, n, rfl⟩

def K.viewV (x : RT) (st lv : Int) : Value :=
  .agg #[.int .i64 st, .int .i64 x.base, .int .i64 lv, .int .i64 x.at_, .int .i64 x.last, .int .i64 0, .int .i64 x.rel, .int .i64 x.ended, .int .i64 x.for_, .int .i64 x.of_, .int .i64 x.until_]

theorem Blk.below' {w w' : World} {b : Nat} {cs : Array Value} {e : TypeId} (h : Blk w b cs e) (hb : Below w.heap.size w w') : Blk w' b cs e := by
  have hl := h.lt
  unfold Blk at h ⊢
  rw [hb.block _ hl]
  exact h

set_option maxRecDepth 100000 in
set_option maxHeartbeats 2000000 in
theorem kView_any (m : KMem F w kb h s tk wt ws) (f : KFit s) (a : Ln.WtOk s wt) (t : Nat) (ht : t < s.T.length) (hw8 : ws.length ≤ 8) :
    Calls Tryz.prog 102 #[.pointer (some ⟨kb, 0, none⟩), .int .i64 t] w fun e w' => e = .returned (K.viewV s.T[t] (K.state s.T[t] ws t) (R.Level s t)) ∧ Below w.heap.size w w' := by
  have hbA : Below w.heap.size w (w.alloc (.cells #[.int .i64 0, .int .i64 0, .int .i64 0, .int .i64 0, .int .i64 0, .int .i64 0, .int .i64 0, .int .i64 0, .int .i64 0, .int .i64 0, .int .i64 0] 113)) := (Below.refl _ _).alloc (Nat.le_refl _) _
  have XA := Blk.new w #[.int .i64 0, .int .i64 0, .int .i64 0, .int .i64 0, .int .i64 0, .int .i64 0, .int .i64 0, .int .i64 0, .int .i64 0, .int .i64 0, .int .i64 0] 113
  have M := hid m
  have FT := hid f
  have AW := hid a
  clear m f a
  go_enter Tryz.func102, Tryz.ntmps102
  go_upto_region 1 with fail
  generalize w.alloc (.cells #[.int .i64 0, .int .i64 0, .int .i64 0, .int .i64 0, .int .i64 0, .int .i64 0, .int .i64 0, .int .i64 0, .int .i64 0, .int .i64 0, .int .i64 0] 113) = wA at hbA XA ⊢
  have MA := hid (M.out.below hbA)
  have HBA := hid hbA
  have HXA := hid XA
  clear XA
  go_wp2_with fail
  refine (kState_any MA.out t ht FT.out.few hw8).mono ?_
  rintro e w1 ⟨rfl, n, rfl⟩
  have MB := hid (MA.out.drewN n)
  have HBB := hid (bdrewN HBA.out n)
  have HXB : Hid (Blk (wA.drewN n) w.heap.size #[.int .i64 0, .int .i64 0, .int .i64 0, .int .i64 0, .int .i64 0, .int .i64 0, .int .i64 0, .int .i64 0, .int .i64 0, .int .i64 0, .int .i64 0] 113) := HXA.out
  clear hbA MA HBA HXA
  generalize wA.drewN n = wB at *
  go_wp2_with fail
  refine (kLevel_any MB.out FT.out.few FT.out.ok FT.out.m8 AW.out t ht).mono ?_
  rintro e w1 ⟨rfl, hb1⟩
  have MC := hid (MB.out.below hb1)
  have HBC := hid (via HBB.out HBB.out.size hb1)
  have HXC := hid (HXB.out.below' hb1)
  clear hb1 MB HBB HXB
  have c1 := MC.out.blk.cell 1
  simp [kCells] at c1
  obtain ⟨cv, cc, hcs, _⟩ := MC.out.codes t ht
  have a0 := MC.out.tcell ht 0 (by decide)
  have a1 := MC.out.tcell ht 1 (by decide)
  have a2 := MC.out.tcell ht 2 (by decide)
  have a3 := MC.out.tcell ht 3 (by decide)
  have a4 := MC.out.tcell ht 4 (by decide)
  have a5 := MC.out.tcell ht 5 (by decide)
  have a6 := MC.out.tcell ht 6 (by decide)
  have a7 := MC.out.tcell ht 7 (by decide)
  have a8 := MC.out.tcell ht 8 (by decide)
  have a9 := MC.out.tcell ht 9 (by decide)
  have a10 := MC.out.tcell ht 10 (by decide)
  have a11 := MC.out.tcell ht 11 (by decide)
  rw [hcs] at a0
  simp only [ktCells] at a0 a1 a2 a3 a4 a5 a6 a7 a8 a9 a10 a11
  generalize (s.set.threads.getD t P3.none0).code.length = cl at *
  generalize s.set.start + (s.set.threads.getD t P3.none0).offset = fi at *
  generalize (s.set.threads.getD t P3.none0).period = pe at *
  generalize (s.set.threads.getD t P3.none0).deadline = de at *
  simp at a0 a1 a2 a3 a4 a5 a6 a7 a8 a9 a10 a11
  have x0 := HXC.out.cell 0
  have x1 := HXC.out.cell 1
  have x2 := HXC.out.cell 2
  have x3 := HXC.out.cell 3
  have x4 := HXC.out.cell 4
  have x5 := HXC.out.cell 5
  have x6 := HXC.out.cell 6
  have x7 := HXC.out.cell 7
  have x8 := HXC.out.cell 8
  have x9 := HXC.out.cell 9
  have x10 := HXC.out.cell 10
  simp at x0 x1 x2 x3 x4 x5 x6 x7 x8 x9 x10
  have z0 := HXC.out.frozen 0
  have z1 := HXC.out.frozen 1
  have z2 := HXC.out.frozen 2
  have z3 := HXC.out.frozen 3
  have z4 := HXC.out.frozen 4
  have z5 := HXC.out.frozen 5
  have z6 := HXC.out.frozen 6
  have z7 := HXC.out.frozen 7
  have z8 := HXC.out.frozen 8
  have z9 := HXC.out.frozen 9
  have z10 := HXC.out.frozen 10
  have hxl := HXC.out.lt
  have htI : (t : Int) < (s.T.length : Int) := by omega
  have hfew := FT.out.few
  have HVW : Hid (∀ st lv, K.viewV s.T[t] st lv = .agg #[.int .i64 st, .int .i64 s.T[t].base, .int .i64 lv, .int .i64 s.T[t].at_, .int .i64 s.T[t].last, .int .i64 0, .int .i64 s.T[t].rel, .int .i64 s.T[t].ended, .int .i64 s.T[t].for_, .int .i64 s.T[t].of_, .int .i64 s.T[t].until_]) := fun _ _ => rfl
  clear hcs
  generalize hst : K.state s.T[t] ws t = st at *
  have HST := hid hst
  clear hst
  generalize hlv : R.Level s t = lv at *
  have HLV := hid hlv
  clear hlv
  generalize hx : s.T[t] = x at *
  have HX := hid hx
  clear hx
  go_wp2
  refine bodyPost_ret (v := K.viewV x st lv) ?_ rfl ⟨by rw [HX.out, HST.out, HLV.out], ?_⟩
  · rw [HVW.out]
    simp [results, Tryz.results102, go_sem, x0, x1, x2, x3, x4, x5, x6, x7, x8, x9, x10, hxl]
  · refine Below.alloc ?_ (by simp [World.setCell]; omega) _
    iterate 11 refine Below.setCell ?_ (by simp) _
    exact HBC.out

def K.lookV (s : RS) (ws : List Int) (t : Int) : Value := if 0 ≤ t ∧ t < s.T.length then K.viewV (R.th s.T t.toNat) (K.state (R.th s.T t.toNat) ws t.toNat) (R.Level s t.toNat) else noView
def K.lookE (s : RS) (t : Int) : Int := if 0 ≤ t ∧ t < s.T.length then 0 else 7

set_option maxRecDepth 100000 in
set_option maxHeartbeats 2000000 in
theorem kLook_any (m : KMem F w kb h s tk wt ws) (f : KFit s) (a : Ln.WtOk s wt) (t : Int) (hw8 : ws.length ≤ 8) :
    Calls Tryz.prog 75 #[.pointer (some ⟨kb, 0, none⟩), .int .i64 t] w fun e w' => e = .returned (.tuple #[K.lookV s ws t, .int .i64 (K.lookE s t)]) ∧ Below w.heap.size w w' := by
  have c1 := m.blk.cell 1
  simp [kCells] at c1
  have hsl := m.blk.lt
  have M := hid m
  have hfew := f.few
  clear m
  by_cases hin : 0 ≤ t ∧ t < s.T.length
  · have E1 : K.lookV s ws t = K.viewV (R.th s.T t.toNat) (K.state (R.th s.T t.toNat) ws t.toNat) (R.Level s t.toNat) := by unfold K.lookV; rw [if_pos hin]
    have E2 : K.lookE s t = 0 := by unfold K.lookE; rw [if_pos hin]
    rw [E1, E2]
    clear E1 E2
    obtain ⟨h0, h1⟩ := hin
    obtain ⟨k, rfl⟩ := Int.eq_ofNat_of_zero_le h0
    have hk : k < s.T.length := by omega
    have ek : Int.toNat (k : Int) = k := by omega
    rw [ek, th_ext hk]
    have hbA : Below w.heap.size w (w.alloc (.cells #[.int .i64 0, .int .i64 0, .int .i64 0, .int .i64 0, .int .i64 0, .int .i64 0, .int .i64 0, .int .i64 0, .int .i64 0, .int .i64 0, .int .i64 0] 113)) := (Below.refl _ _).alloc (Nat.le_refl _) _
    have XA := Blk.new w #[.int .i64 0, .int .i64 0, .int .i64 0, .int .i64 0, .int .i64 0, .int .i64 0, .int .i64 0, .int .i64 0, .int .i64 0, .int .i64 0, .int .i64 0] 113
    have VW := hid (fun wx (hb : Below w.heap.size w wx) => kView_any (M.out.below hb) f a k hk hw8)
    obtain ⟨v0, v1, v2, v3, v4, v5, v6, v7, v8, v9, v10, hv⟩ : ∃ v0 v1 v2 v3 v4 v5 v6 v7 v8 v9 v10 : Int, K.viewV s.T[k] (K.state s.T[k] ws k) (R.Level s k) = .agg #[.int .i64 v0, .int .i64 v1, .int .i64 v2, .int .i64 v3, .int .i64 v4, .int .i64 v5, .int .i64 v6, .int .i64 v7, .int .i64 v8, .int .i64 v9, .int .i64 v10] := ⟨_, _, _, _, _, _, _, _, _, _, _, rfl⟩
    rw [hv] at VW
    rw [hv]
    clear hv ek
    go_enter Tryz.func75, Tryz.ntmps75
    go_upto_region 3 with fail
    generalize w.alloc (.cells #[.int .i64 0, .int .i64 0, .int .i64 0, .int .i64 0, .int .i64 0, .int .i64 0, .int .i64 0, .int .i64 0, .int .i64 0, .int .i64 0, .int .i64 0] 113) = wA at hbA XA ⊢
    have HBA := hid hbA
    have HXA := hid XA
    clear XA hbA
    go_wp2_with fail
    refine (VW.out wA HBA.out).mono ?_
    rintro e w1 ⟨rfl, hb1⟩
    have HXB := hid (show Blk w1 w.heap.size #[.int .i64 0, .int .i64 0, .int .i64 0, .int .i64 0, .int .i64 0, .int .i64 0, .int .i64 0, .int .i64 0, .int .i64 0, .int .i64 0, .int .i64 0] 113 from by
      have h1 := HXA.out
      have hl := HXA.out.lt
      unfold Blk at h1 ⊢
      rw [hb1.block _ hl]
      exact h1)
    have HBB := hid (via HBA.out HBA.out.size hb1)
    clear hb1
    have x0 := HXB.out.cell 0
    have x1 := HXB.out.cell 1
    have x2 := HXB.out.cell 2
    have x3 := HXB.out.cell 3
    have x4 := HXB.out.cell 4
    have x5 := HXB.out.cell 5
    have x6 := HXB.out.cell 6
    have x7 := HXB.out.cell 7
    have x8 := HXB.out.cell 8
    have x9 := HXB.out.cell 9
    have x10 := HXB.out.cell 10
    simp at x0 x1 x2 x3 x4 x5 x6 x7 x8 x9 x10
    have z0 := HXB.out.frozen 0
    have z1 := HXB.out.frozen 1
    have z2 := HXB.out.frozen 2
    have z3 := HXB.out.frozen 3
    have z4 := HXB.out.frozen 4
    have z5 := HXB.out.frozen 5
    have z6 := HXB.out.frozen 6
    have z7 := HXB.out.frozen 7
    have z8 := HXB.out.frozen 8
    have z9 := HXB.out.frozen 9
    have z10 := HXB.out.frozen 10
    go_wp2
    refine bodyPost_ret (v := .tuple #[.agg #[.int .i64 v0, .int .i64 v1, .int .i64 v2, .int .i64 v3, .int .i64 v4, .int .i64 v5, .int .i64 v6, .int .i64 v7, .int .i64 v8, .int .i64 v9, .int .i64 v10], .int .i64 0]) ?_ rfl ⟨rfl, ?_⟩
    · simp [results, Tryz.results75, go_sem, x0, x1, x2, x3, x4, x5, x6, x7, x8, x9, x10]
    · iterate 11 refine Below.setCell ?_ (by simp) _
      exact HBB.out
  · have E1 : K.lookV s ws t = noView := by unfold K.lookV; rw [if_neg hin]
    have E2 : K.lookE s t = 7 := by unfold K.lookE; rw [if_neg hin]
    rw [E1, E2]
    clear E1 E2
    go_enter Tryz.func75, Tryz.ntmps75
    by_cases hneg : t < 0
    · go_wp2
      exact bodyPost_ret (v := .tuple #[noView, .int .i64 7]) (by simp [results, Tryz.results75, go_sem, noView]) rfl ⟨rfl, (Below.refl _ _).alloc (Nat.le_refl _) _⟩
    · have hge : (s.T.length : Int) ≤ t := by omega
      go_wp2
      exact bodyPost_ret (v := .tuple #[noView, .int .i64 7]) (by simp [results, Tryz.results75, go_sem, noView]) rfl ⟨rfl, (Below.refl _ _).alloc (Nat.le_refl _) _⟩
end

end Go.Proofs.YthnjabnlocpoaaaGreat

/-
  Walks over package donateref: first.
-/
namespace Go.Proofs.YthnjabnlocpoaaaGreat
open Go.RowKit

set_option maxRecDepth 100000 in
set_option maxHeartbeats 4000000 in
theorem rFirst_any (F : Nat → Prop) (w : World) (sb : Nat) (h : RH) (s : RS) (m : RMem F w sb h s) (g : RGood s) (what of_ : Int) (lv : Option Addr) (lc : Nat) (l : List Int) (hl : IntsIn w.heap.size w lv l) (hll : l.length ≤ 100) :
    Calls Tryz.prog 105 #[.pointer (some ⟨sb, 0, none⟩), .int .i64 what, .int .i64 of_, .slice lv l.length lc] w fun e w' => e = .returned (.int .i64 (R.first s what of_ l)) ∧ ∃ n, w' = w.drewN n := by
  have c8 := m.blk.cell 8
  simp [rsCells] at c8
  have hfew := g.few
  have M := hid m
  have G := hid g
  have HLS := hid hl
  clear m g hl
  go_enter Tryz.func105, Tryz.ntmps105
  go_wp2
  go_loopw [9, 10] (fun b i wr => ∃ k : Nat, k ≤ s.T.length ∧ i = .int .i64 k ∧ b = .int .i64 (R.firstTo s what of_ l k) ∧ ∃ n, wr = w.drewN n) (fun _ i _ => s.T.length - (intOf i).toNat)
  case atStart => exact ⟨0, Nat.zero_le _, rfl, rfl, 0, rfl⟩
  case round =>
    obtain ⟨k, hk, rfl, rfl, n, rfl⟩ := hrel
    obtain ⟨hb0, hb1⟩ := R.firstTo_bd s what of_ l k
    by_cases hlt : k < s.T.length
    · have a9 := M.out.tcell hlt 9 (by decide)
      have a10 := M.out.tcell hlt 10 (by decide)
      have a12 := M.out.tcell hlt 12 (by decide)
      simp [rtCells] at a9 a10 a12
      have eth : R.th s.T k = s.T[k] := by simp [R.th, List.getD, hlt]
      have estep : R.firstTo s what of_ l (k + 1) = if (R.th s.T k).for_ ≠ what ∨ (R.th s.T k).of_ ≠ of_ then R.firstTo s what of_ l k
          else if R.namedTo l (k : Int) l.length = true then R.firstTo s what of_ l k
          else if R.firstTo s what of_ l k < 0 then (k : Int)
          else if R.goesFirst s k (R.firstTo s what of_ l k).toNat = true then (k : Int) else R.firstTo s what of_ l k := rfl
      rw [eth] at estep
      have hlb : 0 ≤ R.firstTo s what of_ l k → ∃ (hj : (R.firstTo s what of_ l k).toNat < s.T.length), R.th s.T (R.firstTo s what of_ l k).toNat = s.T[(R.firstTo s what of_ l k).toNat] := by
        intro hp
        have hj : (R.firstTo s what of_ l k).toNat < s.T.length := by omega
        exact ⟨hj, by simp [R.th, List.getD, hj]⟩
      have HLB := hid hlb
      have ES := hid estep
      have ETH := hid eth
      clear estep eth hlb
      have hgf : ∀ b : Nat, R.goesFirst s k b = (decide (R.Level s b < R.Level s k) || (decide (R.Level s k = R.Level s b) && decide (s.T[k].since < (R.th s.T b).since))) := by
        intro b
        unfold R.goesFirst
        rw [ETH.out]
      have HGF := hid hgf
      clear hgf
      have MN := hid (M.out.drewN n)
      generalize s.T[k] = x at *
      generalize R.firstTo s what of_ l k = b at *
      have hkI : (k : Int) < (s.T.length : Int) := by omega
      generalize hwn : w.drewN n = wn at *
      have HWN := hid hwn
      have hcn8 : wn.cell? ⟨sb, 8, none⟩ = some (Value.slice (some ⟨h.gT, 0, none⟩) s.T.length h.cT) := by rw [← hwn]; exact c8
      have hcn9 : wn.cell? ⟨h.gT, k * 13 + 9, none⟩ = some (.int .i64 x.for_) := by rw [← hwn]; exact a9
      have hcn10 : wn.cell? ⟨h.gT, k * 13 + 10, none⟩ = some (.int .i64 x.of_) := by rw [← hwn]; exact a10
      have hcn12 : wn.cell? ⟨h.gT, k * 13 + 12, none⟩ = some (.int .i64 x.since) := by rw [← hwn]; exact a12
      have HLN := hid (show IntsIn wn.heap.size wn lv l by rw [← hwn]; exact HLS.out)
      clear hwn a9 a10 a12
      cases hf : (x.for_ != what)
      · have HF := hid hf
        cases ho : (x.of_ != of_)
        · have HO := hid ho
          have ES2 : Hid (R.firstTo s what of_ l (k + 1) = if R.namedTo l (k : Int) l.length = true then b
              else if b < 0 then (k : Int)
              else if R.goesFirst s k b.toNat = true then (k : Int) else b) := by
            rw [ES.out, if_neg]
            exact hid rfl
            have h1 := HF.out
            have h2 := HO.out
            simp at h1 h2
            simp [h1, h2]
          go_wp2_with fail
          go_loop [11, 12] (fun b i => ∃ j : Nat, j ≤ l.length ∧ i = .int .i64 j ∧ b = .bool (R.namedTo l (k : Int) j)) (fun _ i => l.length - (intOf i).toNat)
          case atStart => exact ⟨0, Nat.zero_le _, rfl, rfl⟩
          case round =>
            obtain ⟨j, hj, rfl, rfl⟩ := hrel
            have ej : R.namedTo l (k : Int) (j + 1) = (R.namedTo l (k : Int) j || (l.getD j 0 == (k : Int))) := rfl
            have EJ := hid ej
            clear ej
            by_cases hjl : j < l.length
            · obtain ⟨lg, lo, hla, _, hlc⟩ := HLN.out j hjl
              subst hla
              have hgj : l.getD j 0 = l[j] := by simp [List.getD, hjl]
              rw [hgj] at EJ
              clear hgj
              generalize l[j] = y at *
              have hjI : (j : Int) < (l.length : Int) := by omega
              cases hnm : R.namedTo l (k : Int) j
              · rw [hnm] at EJ
                cases hy : (y == (k : Int))
                · rw [hy] at EJ
                  go_wp2
                  go_round
                  case rel => exact ⟨j + 1, by omega, by go_num, by rw [EJ.out]; rfl⟩
                  case measure => simp [intOf]; omega
                · rw [hy] at EJ
                  go_wp2
                  go_round
                  case rel => exact ⟨j + 1, by omega, by go_num, by rw [EJ.out]; rfl⟩
                  case measure => simp [intOf]; omega
              · rw [hnm] at EJ
                go_wp2
                go_round
                case rel => exact ⟨j + 1, by omega, by go_num, by rw [EJ.out]; rfl⟩
                case measure => simp [intOf]; omega
            · have e : j = l.length := by omega
              subst e
              cases hnm : R.namedTo l (k : Int) l.length
              · have HNM := hid hnm
                by_cases hbn : b < 0
                · go_wp2
                  go_roundw
                  case rel => exact ⟨k + 1, by omega, by go_num, by rw [ES2.out, HNM.out]; simp [hbn], _, HWN.out.symm⟩
                  case measure => simp [intOf]; omega
                · obtain ⟨hjb, hthb⟩ := HLB.out (by omega)
                  have hgfb := HGF.out b.toNat
                  rw [hthb] at hgfb
                  have hcb12 := MN.out.tcell hjb 12 (by decide)
                  simp [rtCells] at hcb12
                  have ES3 : Hid (R.firstTo s what of_ l (k + 1) = if R.goesFirst s k b.toNat = true then (k : Int) else b) := by
                    rw [ES2.out, HNM.out, if_neg (by decide), if_neg hbn]
                    exact hid rfl
                  have HB : Hid (b = (b.toNat : Int)) := hid (by omega)
                  have hbt : b.toNat < s.T.length := hjb
                  generalize hbb : b.toNat = bt at *
                  clear hbb
                  have hbe := HB.out
                  subst hbe
                  generalize s.T[bt].since = sb12 at *
                  have LV := hid (fun t ht => rLevelOf_any F wn sb h s MN.out G.out t ht)
                  have HGB := hid hgfb
                  clear hgfb hthb
                  have hbI : (bt : Int) < (s.T.length : Int) := by omega
                  have hbd : decide ((bt : Int) < 0) = false := by simp
                  go_wp2_with fail
                  refine (LV.out k hlt).mono ?_
                  rintro e w1 ⟨rfl, hw1⟩
                  have hw2 := hw1.symm
                  subst hw2
                  clear hw1
                  go_wp2_with fail
                  refine (LV.out bt hbt).mono ?_
                  rintro e w1 ⟨rfl, hw1⟩
                  have hw2 := hw1.symm
                  subst hw2
                  clear hw1
                  generalize R.Level s k = lk at *
                  generalize R.Level s bt = lt at *
                  rcases Int.lt_trichotomy lt lk with h1 | h1 | h1
                  · go_wp2_with fail
                    go_quiet (fail)
                    go_wp2
                    go_roundw
                    case rel => exact ⟨k + 1, by omega, by go_num, by rw [ES3.out, HGB.out]; simp [h1], _, by rw [← HWN.out, World.drewN_drewN]⟩
                    case measure => simp [intOf]; omega
                  · subst h1
                    have d1 : decide (lt < lt) = false := by simp
                    have d2 : (lt == lt) = true := by simp
                    by_cases h2 : x.since < sb12
                    · go_wp2_with fail
                      go_quiet (fail)
                      go_wp2
                      go_roundw
                      case rel => exact ⟨k + 1, by omega, by go_num, by rw [ES3.out, HGB.out]; simp [h2], _, by rw [← HWN.out, World.drewN_drewN]⟩
                      case measure => simp [intOf]; omega
                    · go_wp2_with fail
                      go_quiet (fail)
                      go_wp2
                      go_roundw
                      case rel => exact ⟨k + 1, by omega, by go_num, by rw [ES3.out, HGB.out]; have n2 : ¬ x.since < sb12 := (by omega); simp [n2], _, by rw [← HWN.out, World.drewN_drewN]⟩
                      case measure => simp [intOf]; omega
                  · have d1 : decide (lt < lk) = false := by simp; omega
                    have d2 : (lk == lt) = false := by simp; omega
                    go_wp2_with fail
                    go_quiet (fail)
                    go_wp2
                    go_roundw
                    case rel => exact ⟨k + 1, by omega, by go_num, by rw [ES3.out, HGB.out]; have n1 : ¬ lt < lk := (by omega); have n2 : ¬ lk = lt := (by omega); simp [n1, n2], _, by rw [← HWN.out, World.drewN_drewN]⟩
                    case measure => simp [intOf]; omega
              · have HNM := hid hnm
                go_wp2
                go_roundw
                case rel => exact ⟨k + 1, by omega, by go_num, by rw [ES2.out, HNM.out]; rfl, _, HWN.out.symm⟩
                case measure => simp [intOf]; omega
        · have HO := hid ho
          go_wp2_with fail
          go_roundw
          case rel => exact ⟨k + 1, by omega, by go_num, by rw [ES.out, if_pos (.inr (by simpa using HO.out))], _, HWN.out.symm⟩
          case measure => simp [intOf]; omega
      · have HF := hid hf
        go_wp2_with fail
        go_roundw
        case rel => exact ⟨k + 1, by omega, by go_num, by rw [ES.out, if_pos (.inl (by simpa using HF.out))], _, HWN.out.symm⟩
        case measure => simp [intOf]; omega
    · go_wp2
      go_ret
      have e : k = s.T.length := by omega
      subst e
      exact ⟨rfl, _, rfl⟩

end Go.Proofs.YthnjabnlocpoaaaGreat

/-
  Walks over package donateref: give, round.
-/
namespace Go.Proofs.YthnjabnlocpoaaaGreat
open Go.RowKit

section
variable {F : Nat → Prop} {w : World} {sb : Nat} {h : RH} {s : RS}
theorem rowAt {base : Nat} {v : Value} {l : List Int} (ho : w.ownsRow base 3 1 v l.length (intCells l)) (hpos : 0 < l.length) : ∃ g cap, v = .slice (some ⟨g, 0, none⟩) l.length cap ∧ (∀ i (hi : i < l.length), w.cell? ⟨g, i, none⟩ = some (.int .i64 l[i])) ∧ (∀ j, w.frozen? ⟨g, j, none⟩ = false) := by
  have h2 := ho.2
  rcases h2 with ⟨_, h0⟩ | ⟨g, cap, cur, rfl, _⟩
  · omega
  · refine ⟨g, cap, rfl, fun i hi => ?_, fun j => ho.frozenAt j⟩
    rw [ho.cellAt i (by omega)]
    simp [intCells, hi]
theorem RMem.ownAt (m : RMem F w sb h s) (hpos : 0 < s.owner.length) : ∃ g cap, h.vO = .slice (some ⟨g, 0, none⟩) s.owner.length cap ∧ (∀ i (hi : i < s.owner.length), w.cell? ⟨g, i, none⟩ = some (.int .i64 s.owner[i])) ∧ (∀ j, w.frozen? ⟨g, j, none⟩ = false) := rowAt m.oth.own hpos
theorem RMem.cntAt (m : RMem F w sb h s) (hpos : 0 < s.count.length) : ∃ g cap, h.vC = .slice (some ⟨g, 0, none⟩) s.count.length cap ∧ (∀ i (hi : i < s.count.length), w.cell? ⟨g, i, none⟩ = some (.int .i64 s.count[i])) ∧ (∀ j, w.frozen? ⟨g, j, none⟩ = false) := rowAt m.oth.cnt hpos
end

set_option maxHeartbeats 1000000 in
theorem rGive_any (F : Nat → Prop) (w : World) (sb : Nat) (h : RH) (s : RS) (m : RMem F w sb h s) (g : RGood s) (what of_ : Int) (hnx : s.next ≤ 4611686018427387000) :
    Calls Tryz.prog 130 #[.pointer (some ⟨sb, 0, none⟩), .int .i64 what, .int .i64 of_] w fun e w' => e = .returned (.int .i64 (R.giveT s what of_)) ∧ RMem F w' sb h (R.giveS s what of_) ∧ Only [sb, h.gT] w w' := by
  have hfew := g.few
  have hn0 := g.nxt0
  have M := hid m
  have G := hid g
  clear m g
  obtain ⟨hb0, hb1⟩ := R.firstTo_bd s what of_ [] s.T.length
  have hT : R.firstTo s what of_ [] s.T.length = R.giveT s what of_ := rfl
  have HT2 : Hid (R.first s what of_ [] = R.giveT s what of_) := rfl
  have HS : Hid (R.giveS s what of_ = if 0 ≤ R.giveT s what of_ then R.endW s (R.giveT s what of_).toNat 0 else s) := rfl
  rw [hT] at hb0 hb1
  clear hT
  generalize R.giveS s what of_ = s' at *
  generalize R.giveT s what of_ = t at *
  go_enter Tryz.func130, Tryz.ntmps130
  go_wp2_with fail
  refine (rFirst_any F w sb h s M.out G.out what of_ none 0 [] (fun i hi => absurd hi (by simp)) (by simp)).mono ?_
  rintro e w1 ⟨rfl, n, rfl⟩
  have M1 := hid (M.out.drewN n)
  have O1 : Hid (Only [sb, h.gT] w (w.drewN n)) := (Only.refl _ _).drewN n
  generalize w.drewN n = w1 at *
  rw [HT2.out]
  by_cases ht : 0 ≤ t
  · obtain ⟨j, rfl⟩ := Int.eq_ofNat_of_zero_le ht
    have hj : j < s.T.length := by omega
    have hd : decide ((0 : Int) ≤ (j : Int)) = true := by simp
    go_wp2_with fail
    refine (rEnd_any F w1 sb h s M1.out j hj hfew 0 hn0 (by omega)).mono ?_
    rintro e w2 ⟨rfl, hm2, ho2⟩
    have M2 := hid hm2
    have O2 := hid (O1.out.trans ho2)
    clear hm2 ho2
    go_wp2
    go_ret
    refine ⟨rfl, ?_, O2.out⟩
    rw [HS.out, if_pos ht]
    exact M2.out
  · go_wp2
    go_ret
    refine ⟨rfl, ?_, O1.out⟩
    rw [HS.out, if_neg (by omega)]
    exact M1.out

set_option maxRecDepth 100000 in
set_option maxHeartbeats 2000000 in
theorem rRound_any (F : Nat → Prop) (w : World) (sb : Nat) (h : RH) (s : RS) (m : RMem F w sb h s) (hfew : s.T.length ≤ 16) (hown : ∀ i (hi : i < s.owner.length), -1 ≤ s.owner[i] ∧ s.owner[i] < s.T.length)
    (hof : ∀ i (hi : i < s.T.length), s.T[i].for_ = 1 → 0 ≤ s.T[i].of_ ∧ s.T[i].of_ < s.owner.length) (t k : Nat) (hk : k < s.owner.length) (hol : s.owner.length ≤ 8) :
    Calls Tryz.prog 131 #[.pointer (some ⟨sb, 0, none⟩), .int .i64 t, .int .i64 k] w fun e w' => e = .returned (.bool (R.round s t k)) ∧ ∃ n, w' = w.drewN n := by
  obtain ⟨go, co, hvO, hco, hfo⟩ := m.ownAt (by omega)
  have c8 := m.blk.cell 8
  have c9 := m.blk.cell 9
  simp [rsCells] at c8 c9
  rw [hvO] at c9
  have ck := hco k hk
  have HCO := hid hco
  have HOW := hid hown
  have HOF := hid hof
  have M := hid m
  have ER : Hid (R.round s t k = R.roundTo s t (s.T.length + 1) s.owner[k]) := by
    have : s.owner.getD k 0 = s.owner[k] := by simp [List.getD, hk]
    unfold R.round
    rw [this]
    exact hid rfl
  obtain ⟨o0, o1⟩ := hown k hk
  clear m hown hof hco hfo hvO
  generalize R.round s t k = res at *
  generalize s.owner[k] = ok at *
  have hkI : (k : Int) < (s.owner.length : Int) := by omega
  go_enter Tryz.func131, Tryz.ntmps131
  go_wp2
  go_loopw [7, 8] (fun o i wr => ∃ (j : Nat) (x : Int), j ≤ s.T.length + 1 ∧ i = .int .i64 j ∧ o = .int .i64 x ∧ -1 ≤ x ∧ x < s.T.length ∧ res = R.roundTo s t (s.T.length + 1 - j) x ∧ ∃ n, wr = w.drewN n) (fun _ i _ => s.T.length + 1 - (intOf i).toNat)
  case atStart => exact ⟨0, ok, Nat.zero_le _, rfl, rfl, o0, o1, ER.out, 0, rfl⟩
  case round =>
    obtain ⟨j, x, hj, rfl, rfl, hx0, hx1, hres, n, rfl⟩ := hrel
    have HR := hid hres
    clear hres
    by_cases hjl : j < s.T.length + 1
    · have hjI : (j : Int) ≤ (s.T.length : Int) := by omega
      have e1 : s.T.length + 1 - j = (s.T.length - j) + 1 := by omega
      rw [e1] at HR
      have ES : Hid (res = if x < 0 ∨ x = (t : Int) then decide (x = (t : Int)) else if (R.th s.T x.toNat).for_ ≠ 1 then false else R.roundTo s t (s.T.length - j) (s.owner.getD (R.th s.T x.toNat).of_.toNat 0)) := HR.out
      clear HR e1
      by_cases hneg : x < 0
      · have hne : (x == (t : Int)) = false := by simp; omega
        go_wp2
        go_ret
        refine ⟨?_, n, rfl⟩
        rw [ES.out, if_pos (.inl hneg)]
        have : ¬ x = (t : Int) := by omega
        simp [this]
      · obtain ⟨y, rfl⟩ := Int.eq_ofNat_of_zero_le (show 0 ≤ x by omega)
        have hnd : decide ((y : Int) < 0) = false := by simp
        cases hyt : ((y : Int) == (t : Int))
        · have HY := hid hyt
          have hyl : y < s.T.length := by omega
          have a9 := M.out.tcell hyl 9 (by decide)
          have a10 := M.out.tcell hyl 10 (by decide)
          simp [rtCells] at a9 a10
          have eth : R.th s.T (Int.toNat (y : Int)) = s.T[y] := by simp [R.th, List.getD, hyl]
          have hof := HOF.out y hyl
          rw [eth] at ES
          have ES2 : Hid (res = if s.T[y].for_ ≠ 1 then false else R.roundTo s t (s.T.length - j) (s.owner.getD s.T[y].of_.toNat 0)) := by
            have hne := HY.out
            rw [ES.out, if_neg]
            · exact hid rfl
            · simp at hne
              omega
          clear ES eth
          generalize s.T[y] = z at *
          cases hz : (z.for_ != 1)
          · have HZ := hid hz
            have hz1 : z.for_ = 1 := by simpa using hz
            obtain ⟨f0, f1⟩ := hof hz1
            clear hz1 hof
            have HO0 : Hid (z.of_ = (z.of_.toNat : Int)) := hid (by omega)
            generalize hzo : z.of_ = zo at *
            obtain ⟨q, rfl⟩ := Int.eq_ofNat_of_zero_le f0
            clear hzo HO0
            have hq : q < s.owner.length := by omega
            have cq := HCO.out q hq
            obtain ⟨p0, p1⟩ := HOW.out q hq
            have eg : s.owner.getD (Int.toNat (q : Int)) 0 = s.owner[q] := by simp [List.getD, hq]
            rw [eg] at ES2
            clear eg
            generalize s.owner[q] = oq at *
            have hqI : (q : Int) < (s.owner.length : Int) := by omega
            have hyI : (y : Int) < (s.T.length : Int) := by omega
            go_wp2_with fail
            go_quiet (fail)
            go_wp2
            go_roundw
            case rel =>
              refine ⟨j + 1, oq, by omega, by go_num, rfl, p0, p1, ?_, _, rfl⟩
              rw [ES2.out, if_neg (by simpa using HZ.out), show s.T.length + 1 - (j + 1) = s.T.length - j by omega]
            case measure => simp [intOf]; omega
          · have HZ := hid hz
            go_wp2
            go_ret
            refine ⟨?_, n, rfl⟩
            rw [ES2.out, if_pos (by simpa using HZ.out)]
            rfl
        · have HY := hid hyt
          go_wp2
          go_ret
          refine ⟨?_, n, rfl⟩
          have hy : (y : Int) = (t : Int) := by simpa using HY.out
          rw [ES.out, if_pos (.inr hy)]
          simp [hy]
    · have e : j = s.T.length + 1 := by omega
      subst e
      go_wp2
      go_ret
      refine ⟨?_, n, rfl⟩
      rw [HR.out, Nat.sub_self]
      rfl

end Go.Proofs.YthnjabnlocpoaaaGreat

/-
  Walks over package donateref: unlock, lock.
-/
namespace Go.Proofs.YthnjabnlocpoaaaGreat
open Go.RowKit

theorem endW_parts (s : RS) (t : Nat) (c : Int) : (R.endW s t c).set = s.set ∧ (R.endW s t c).now = s.now ∧ (R.endW s t c).owner = s.owner ∧ (R.endW s t c).T.length = s.T.length ∧ (R.endW s t c).next = s.next + 1 ∧ (R.endW s t c).count = s.count ∧ (R.endW s t c).box = s.box ∧ (R.endW s t c).missed = s.missed := by
  unfold R.endW R.wake
  refine ⟨rfl, rfl, rfl, by simp, rfl, rfl, rfl, rfl⟩
theorem giveS_parts (s : RS) (a b : Int) : (R.giveS s a b).set = s.set ∧ (R.giveS s a b).now = s.now ∧ (R.giveS s a b).owner = s.owner ∧ (R.giveS s a b).T.length = s.T.length ∧ s.next ≤ (R.giveS s a b).next ∧ (R.giveS s a b).next ≤ s.next + 1 ∧ (R.giveS s a b).count = s.count ∧ (R.giveS s a b).box = s.box ∧ (R.giveS s a b).missed = s.missed := by
  unfold R.giveS
  split
  · obtain ⟨h1, h2, h3, h4, h5, h6, h7, h8⟩ := endW_parts s (R.giveT s a b).toNat 0
    exact ⟨h1, h2, h3, h4, by omega, by omega, h6, h7, h8⟩
  · exact ⟨rfl, rfl, rfl, rfl, Int.le_refl _, by omega, rfl, rfl, rfl⟩

/-- The blocks of the kernel that may turn. -/
def RH.foot (h : RH) : List Nat := h.gT :: (h.vO.ownBlock.toList ++ h.vC.ownBlock.toList ++ h.vB.ownBlock.toList ++ h.bs.flatMap (fun v => v.ownBlock.toList))
theorem RH.foot_two (h : RH) (sb : Nat) : ∀ b, b ∈ [sb, h.gT] → b ∈ sb :: h.foot := by
  intro b hb
  simp [RH.foot] at hb ⊢
  omega

set_option maxHeartbeats 1000000 in
theorem rUnlock_any (F : Nat → Prop) (w : World) (sb : Nat) (h : RH) (s : RS) (m : RMem F w sb h s) (ap : RApart F h) (g : RGood s) (t k : Nat) (hk : k < s.owner.length) (hnx : s.next ≤ 4611686018427387000) :
    Calls Tryz.prog 115 #[.pointer (some ⟨sb, 0, none⟩), .int .i64 t, .int .i64 k] w fun e w' => e = .returned (.int .i64 (R.unlockC s t k)) ∧ RMem F w' sb h (R.unlockS s t k) ∧ Only (sb :: h.foot) w w' := by
  have hol := g.own
  have hmf := g.mfew
  obtain ⟨go, co, hvO, hco, hfo⟩ := m.ownAt (by omega)
  have c9 := m.blk.cell 9
  simp [rsCells] at c9
  rw [hvO] at c9
  have ck := hco k hk
  have HVO := hid hvO
  have M := hid m
  have G := hid g
  have AP := hid ap
  have eg : s.owner.getD k 0 = s.owner[k] := by simp [List.getD, hk]
  have EC : Hid (R.unlockC s t k = if s.owner.getD k 0 = (t : Int) then 0 else 6) := rfl
  have ESS : Hid (R.unlockS s t k = if s.owner.getD k 0 = (t : Int) then { R.giveS s 1 (k : Int) with owner := s.owner.set k (R.giveT s 1 (k : Int)) } else s) := rfl
  rw [eg] at EC ESS
  clear m g ap hfo hco hvO eg
  generalize R.unlockC s t k = uc at *
  generalize R.unlockS s t k = us at *
  generalize s.owner[k] = ok at *
  have hkI : (k : Int) < (s.owner.length : Int) := by omega
  go_enter Tryz.func115, Tryz.ntmps115
  cases hq : (ok != (t : Int))
  · have HQ := hid hq
    go_wp2_with fail
    refine (rGive_any F w sb h s M.out G.out 1 k hnx).mono ?_
    rintro e w1 ⟨rfl, hm1, ho1⟩
    obtain ⟨p1, p2, p3, p4, p5, p6, p7, p8, p9⟩ := giveS_parts s 1 (k : Int)
    have M1 := hid hm1
    have O1 : Hid (Only (sb :: h.foot) w w1) := ho1.mono (RH.foot_two h sb)
    clear hm1 ho1
    obtain ⟨go1, co1, hvO1, hco1, hfo1⟩ := M1.out.ownAt (by rw [p3]; omega)
    have c91 := M1.out.blk.cell 9
    simp [rsCells] at c91
    have ck1 := hco1 k (by rw [p3]; exact hk)
    have f1 := hfo1 k
    have hvv := hvO1
    rw [HVO.out] at hvv
    simp at hvv
    obtain ⟨e1, e2, e3⟩ := hvv
    subst e1
    subst e3
    rw [HVO.out] at c91
    have HV1 := hid hvO1
    clear hvO1 hco1 hfo1 c9 ck e2
    go_wp2
    go_ret
    have hm2 := M1.out.setOwner AP.out HV1.out k (R.giveT s 1 (k : Int))
    have he : ok = (t : Int) := by simpa using HQ.out
    refine ⟨?_, ?_, O1.out.setCell (.inl ?_) _⟩
    · rw [EC.out, if_pos he]
      rfl
    · rw [ESS.out, if_pos he]
      rw [p3] at hm2
      exact hm2
    · rw [RH.foot, HVO.out]
      simp [Value.ownBlock]
  · have HQ := hid hq
    go_wp2
    go_ret
    have he : ¬ ok = (t : Int) := by simpa using HQ.out
    refine ⟨?_, ?_, Only.refl _ _⟩
    · rw [EC.out, if_neg he]
      rfl
    · rw [ESS.out, if_neg he]
      exact M.out

/-- Who owns and who waits for what are numbers of threads and mutexes. -/
structure RLinks (s : RS) : Prop where
  own : ∀ i (hi : i < s.owner.length), -1 ≤ s.owner[i] ∧ s.owner[i] < s.T.length
  of_ : ∀ i (hi : i < s.T.length), s.T[i].for_ = 1 → 0 ≤ s.T[i].of_ ∧ s.T[i].of_ < s.owner.length

set_option maxRecDepth 100000 in
set_option maxHeartbeats 2000000 in
theorem rLock_any (F : Nat → Prop) (w : World) (sb : Nat) (h : RH) (s : RS) (m : RMem F w sb h s) (ap : RApart F h) (g : RGood s) (ln : RLinks s) (t k : Nat) (ht : t < s.T.length) (hk : k < s.owner.length) (n : Int) (hn1 : n ≤ 1000) (hnx : s.next ≤ 4611686018427387000) :
    Calls Tryz.prog 117 #[.pointer (some ⟨sb, 0, none⟩), .int .i64 t, .int .i64 k, .int .i64 n] w fun e w' => e = .returned (.int .i64 (R.lockC s t k n)) ∧ RMem F w' sb h (R.lockS s t k n) ∧ Only (sb :: h.foot) w w' := by
  have hol := g.own
  have hmf := g.mfew
  have hfew := g.few
  have hn0 := g.nxt0
  have hnow : 0 ≤ s.now := by have := g.now0; have := g.now1; omega
  have hnow1 := g.now2
  obtain ⟨go, co, hvO, hco, hfo⟩ := m.ownAt (by omega)
  have c9 := m.blk.cell 9
  have c8 := m.blk.cell 8
  have c3 := m.blk.cell 3
  simp [rsCells] at c9 c8 c3
  rw [hvO] at c9
  have ck := hco k hk
  have fk := hfo k
  have hkm : k < s.set.mutexes.length := by omega
  obtain ⟨mb, mo, hma, hmb, hmx, hmy⟩ := m.set.mutexes k hkm
  have hmlt := m.lt mb hmb
  rw [hma] at c3
  have a0 := m.tcell ht 0 (by decide)
  simp [rtCells] at a0
  have hsl := m.blk.lt
  have HVO := hid hvO
  have hgl : go < w.heap.size := (ownsRow_block m.oth.own (by rw [hvO]; rfl)).2.1
  have hTl := m.gT_lt
  have M := hid m
  have G := hid g
  have AP := hid ap
  have LN := hid ln
  have eg : s.owner.getD k 0 = s.owner[k] := by simp [List.getD, hk]
  have em : s.set.mutexes.getD k R.pair0 = s.set.mutexes[k] := by simp [List.getD, hkm]
  have et : R.th s.T t = s.T[t] := by simp [R.th, List.getD, ht]
  have EC : Hid (R.lockC s t k n = if s.owner.getD k 0 = (t : Int) then 3
      else if (s.set.mutexes.getD k R.pair0).x = 1 ∧ (s.set.mutexes.getD k R.pair0).y < (R.th s.T t).base then 4
      else if s.owner.getD k 0 < 0 then 0
      else if R.round s t k = true then 5
      else if n = 0 then 2 else 1) := rfl
  have ESS : Hid (R.lockS s t k n = if R.lockC s t k n = 0 then { s with owner := s.owner.set k (t : Int) } else if R.lockC s t k n = 1 then R.beginW s t 1 (k : Int) n else s) := rfl
  rw [eg, em, et] at EC
  have RN := hid (fun wx mx => rRound_any F wx sb h s mx hfew ln.own ln.of_ t k hk (by omega))
  clear m g ap ln hfo hco hvO eg em et hma hmb
  generalize R.lockC s t k n = uc at *
  generalize R.lockS s t k n = us at *
  generalize hok : s.owner[k] = ok at *
  have HOK := hid hok
  clear hok
  generalize s.set.mutexes[k] = mx at *
  generalize s.T[t].base = bs at *
  have hkI : (k : Int) < (s.owner.length : Int) := by omega
  have hkI2 : (k : Int) < (s.set.mutexes.length : Int) := by omega
  have htI : (t : Int) < (s.T.length : Int) := by omega
  go_enter Tryz.func117, Tryz.ntmps117
  cases hq : (ok == (t : Int))
  · have HQ := hid hq
    have hne : ¬ ok = (t : Int) := by simpa using hq
    rw [if_neg hne] at EC
    have HNE := hid hne
    clear hne
    have MA := hid (M.out.below ((Below.refl _ _).alloc (Nat.le_refl _) (.cells #[.int .i64 mx.x, .int .i64 mx.y] 90)))
    have OA : Hid (Only (sb :: h.foot) w (w.alloc (.cells #[.int .i64 mx.x, .int .i64 mx.y] 90))) := Only.of_below ((Below.refl _ _).alloc (Nat.le_refl _) _)
    cases hx1 : (mx.x == 1)
    · have HX := hid hx1
      have hnx1 : ¬ (mx.x = 1 ∧ mx.y < bs) := by
        have : ¬ mx.x = 1 := by simpa using hx1
        exact fun hh => this hh.1
      rw [if_neg hnx1] at EC
      clear hnx1
      go_wp2_with fail
      go_quiet (fail)
      have MB := hid (MA.out.drewN nq)
      have OB := hid (OA.out.drewN nq)
      clear c9 c8 c3 ck fk a0 hmx hmy MA OA
      generalize (w.alloc (.cells #[.int .i64 mx.x, .int .i64 mx.y] 90)).drewN nq = wB at MB OB ⊢
      obtain ⟨go1, co1, hvO1, hco1, hfo1⟩ := MB.out.ownAt (by omega)
      have c9 := MB.out.blk.cell 9
      simp [rsCells] at c9
      rw [hvO1] at c9
      have ck := hco1 k hk
      rw [HOK.out] at ck
      have fk := hfo1 k
      have HV1 := hid hvO1
      clear hvO1 hco1 hfo1
      by_cases hneg : ok < 0
      · rw [if_pos hneg] at EC
        go_wp2
        go_ret
        have hm2 := MB.out.setOwner AP.out HV1.out k (t : Int)
        refine ⟨?_, ?_, OB.out.setCell (.inl ?_) _⟩
        · rw [EC.out]
          rfl
        · rw [ESS.out, EC.out]
          exact hm2
        · rw [RH.foot, HV1.out]
          simp [Value.ownBlock]
      · rw [if_neg hneg] at EC
        go_wp2_with fail
        refine (RN.out wB MB.out).mono ?_
        rintro e w1 ⟨rfl, n2, rfl⟩
        have MC := hid (MB.out.drewN n2)
        have OC := hid (OB.out.drewN n2)
        clear MB OB c9 ck fk
        generalize wB.drewN n2 = wC at *
        cases hr : R.round s t k
        · rw [hr, if_neg (by decide)] at EC
          cases hz : (n == 0)
          · have hz' : ¬ n = 0 := by simpa using hz
            rw [if_neg hz'] at EC
            clear hz'
            go_wp2_with fail
            refine (rBegin_any F wC sb h s MC.out t ht hfew 1 (k : Int) n hn1 hnow hnow1 hn0 (by omega)).mono ?_
            rintro e w2 ⟨rfl, hm2, ho2⟩
            have M2 := hid hm2
            have O2 := hid (OC.out.trans (ho2.mono (RH.foot_two h sb)))
            clear hm2 ho2
            go_wp2
            go_ret
            refine ⟨?_, ?_, O2.out⟩
            · rw [EC.out]
              rfl
            · rw [ESS.out, EC.out]
              exact M2.out
          · have hz' : n = 0 := by simpa using hz
            rw [if_pos hz'] at EC
            clear hz'
            go_wp2
            go_ret
            refine ⟨?_, ?_, OC.out⟩
            · rw [EC.out]
              rfl
            · rw [ESS.out, EC.out]
              exact MC.out
        · rw [hr, if_pos rfl] at EC
          go_wp2
          go_ret
          refine ⟨?_, ?_, OC.out⟩
          · rw [EC.out]
            rfl
          · rw [ESS.out, EC.out]
            exact MC.out
    · have HX := hid hx1
      have hx1' : mx.x = 1 := by simpa using hx1
      cases hx2 : decide (mx.y < bs)
      · have HX2 := hid hx2
        have hnx1 : ¬ (mx.x = 1 ∧ mx.y < bs) := by
          have : ¬ mx.y < bs := by simpa using hx2
          exact fun hh => this hh.2
        rw [if_neg hnx1] at EC
        clear hnx1 hx1'
        go_wp2_with fail
        go_quiet (fail)
        have MB := hid (MA.out.drewN nq)
        have OB := hid (OA.out.drewN nq)
        clear c9 c8 c3 ck fk a0 hmx hmy MA OA
        generalize (w.alloc (.cells #[.int .i64 mx.x, .int .i64 mx.y] 90)).drewN nq = wB at MB OB ⊢
        obtain ⟨go1, co1, hvO1, hco1, hfo1⟩ := MB.out.ownAt (by omega)
        have c9 := MB.out.blk.cell 9
        simp [rsCells] at c9
        rw [hvO1] at c9
        have ck := hco1 k hk
        rw [HOK.out] at ck
        have fk := hfo1 k
        have HV1 := hid hvO1
        clear hvO1 hco1 hfo1
        by_cases hneg : ok < 0
        · rw [if_pos hneg] at EC
          go_wp2
          go_ret
          have hm2 := MB.out.setOwner AP.out HV1.out k (t : Int)
          refine ⟨?_, ?_, OB.out.setCell (.inl ?_) _⟩
          · rw [EC.out]
            rfl
          · rw [ESS.out, EC.out]
            exact hm2
          · rw [RH.foot, HV1.out]
            simp [Value.ownBlock]
        · rw [if_neg hneg] at EC
          go_wp2_with fail
          refine (RN.out wB MB.out).mono ?_
          rintro e w1 ⟨rfl, n2, rfl⟩
          have MC := hid (MB.out.drewN n2)
          have OC := hid (OB.out.drewN n2)
          clear MB OB c9 ck fk
          generalize wB.drewN n2 = wC at *
          cases hr : R.round s t k
          · rw [hr, if_neg (by decide)] at EC
            cases hz : (n == 0)
            · have hz' : ¬ n = 0 := by simpa using hz
              rw [if_neg hz'] at EC
              clear hz'
              go_wp2_with fail
              refine (rBegin_any F wC sb h s MC.out t ht hfew 1 (k : Int) n hn1 hnow hnow1 hn0 (by omega)).mono ?_
              rintro e w2 ⟨rfl, hm2, ho2⟩
              have M2 := hid hm2
              have O2 := hid (OC.out.trans (ho2.mono (RH.foot_two h sb)))
              clear hm2 ho2
              go_wp2
              go_ret
              refine ⟨?_, ?_, O2.out⟩
              · rw [EC.out]
                rfl
              · rw [ESS.out, EC.out]
                exact M2.out
            · have hz' : n = 0 := by simpa using hz
              rw [if_pos hz'] at EC
              clear hz'
              go_wp2
              go_ret
              refine ⟨?_, ?_, OC.out⟩
              · rw [EC.out]
                rfl
              · rw [ESS.out, EC.out]
                exact MC.out
          · rw [hr, if_pos rfl] at EC
            go_wp2
            go_ret
            refine ⟨?_, ?_, OC.out⟩
            · rw [EC.out]
              rfl
            · rw [ESS.out, EC.out]
              exact MC.out
      · have hx2' : mx.y < bs := by simpa using hx2
        rw [if_pos ⟨hx1', hx2'⟩] at EC
        clear hx1'
        go_wp2_with fail
        go_quiet (fail)
        go_wp2
        go_ret
        refine ⟨?_, ?_, ?_⟩
        · rw [EC.out]
          rfl
        · rw [ESS.out, EC.out]
          exact MA.out.drewN _
        · exact OA.out.drewN _
  · have HQ := hid hq
    go_wp2
    go_ret
    have he : ok = (t : Int) := by simpa using HQ.out
    rw [if_pos he] at EC
    refine ⟨?_, ?_, ?_⟩
    · rw [EC.out]
      rfl
    · rw [ESS.out, EC.out]
      exact M.out.below ((Below.refl _ _).alloc (Nat.le_refl _) _)
    · exact Only.of_below ((Below.refl _ _).alloc (Nat.le_refl _) _)

end Go.Proofs.YthnjabnlocpoaaaGreat
