import Derived.Test.YtbkfildnijjioabA05
/-
  Walks over package donate: levels.
-/
namespace Go.Proofs.Ytbkfildnijjioab
open Go.RowKit

theorem R.atTo_map (T : List RT) (f : RT → Int) : R.atTo (fun i => f (R.th T i)) T.length T.length = T.map f := by
  apply List.ext_getElem
  · simp [R.atTo]
  · intro i h1 h2
    have hi : i < T.length := by simpa [R.atTo] using h1
    simp [R.atTo, R.th, List.getD, hi]

section
variable {F : Nat → Prop} {w : World} {kb : Nat} {h : KH} {s : RS} {tk wt : List Nat} {ws : List Int}

set_option maxRecDepth 100000 in
set_option maxHeartbeats 2000000 in
theorem kOwnLevels_any (m : KMem F w kb h s tk wt ws) (hfew : s.T.length ≤ 16) (ok : R.LinksOk s) (hm8 : s.owner.length ≤ 8) :
    Calls Try.prog 121 #[.pointer (some ⟨kb, 0, none⟩)] w fun e w' => ∃ g, e = .returned (.slice (some ⟨g, 0, none⟩) s.T.length s.T.length) ∧ w'.ownsRow w.heap.size 3 1 (.slice (some ⟨g, 0, none⟩) s.T.length s.T.length) s.T.length (intCells (R.ownTo s s.owner.length)) ∧ Below w.heap.size w w' := by
  have c1 := m.blk.cell 1
  simp [kCells] at c1
  have M := hid m
  have OK := hid ok
  clear m ok
  obtain ⟨i3, hi3, hz30, hz31, hz32⟩ := info_parts Try.infoInt
  have HI3 := hid (And.intro hi3 (And.intro hz30 (And.intro hz31 hz32)))
  clear hi3 hz30 hz31 hz32
  go_enter Try.func121, Try.ntmps121
  go_upto_region 2 with (at_make; refine wpList_make_full _ rfl _ _ 25 rfl w.heap.size 3 i3 (.int .i64 0) 1 Try.underlying25 HI3.out.1 HI3.out.2.1 HI3.out.2.2.1 .i64 .i64 _ _ s.T.length rfl rfl rfl rfl (by rw [HI3.out.2.2.2]; omega) (by unfold maxLen; omega) (Nat.le_refl _) ?_; intro w2 hown2 hg2; have O2 := hid hown2; have G2 := hid hg2; clear hown2 hg2)
  have hr2 : w2.ownsRow w.heap.size 3 1 (.slice (some ⟨w.heap.size, 0, none⟩) s.T.length s.T.length) s.T.length (intCells (R.atTo (fun i => (R.th s.T i).base) s.T.length 0)) := by
    have := O2.out
    have e : (madeCells (Value.int IntKind.i64 0).cells (s.T.length * 1)).toList = intCells (R.atTo (fun i => (R.th s.T i).base) s.T.length 0) := by
      rw [R.atTo_zero, Nat.mul_one]
      show (madeCells #[Value.int IntKind.i64 0] s.T.length).toList = _
      rw [toList_madeCells_one]
      simp [intCells]
    rwa [e] at this
  have R2 := hid hr2
  have hb2 : Below w.heap.size w w2 := (Below.refl _ _).grown G2.out (Nat.le_refl _) (by simp)
  have HB2 := hid hb2
  have c1 := (M.out.below hb2).blk.cell 1
  simp [kCells] at c1
  clear hr2 O2 G2 hb2
  go_wp2
  go_loopw [18] (fun i wr => ∃ k : Nat, k ≤ s.T.length ∧ i = .int .i64 k ∧ wr.ownsRow w.heap.size 3 1 (.slice (some ⟨w.heap.size, 0, none⟩) s.T.length s.T.length) s.T.length (intCells (R.atTo (fun i => (R.th s.T i).base) s.T.length k)) ∧ Below w.heap.size w wr) (fun i _ => s.T.length - (intOf i).toNat)
  case atStart => exact ⟨0, Nat.zero_le _, rfl, R2.out, HB2.out⟩
  case round =>
    obtain ⟨k, hk, rfl, hrow, hb⟩ := hrel
    have ROW := hid hrow
    have HB := hid hb
    have MK := hid (M.out.below hb)
    clear hrow hb R2 HB2 c1
    have c1 := MK.out.blk.cell 1
    have c2 := MK.out.blk.cell 2
    simp [kCells] at c1 c2
    by_cases hkl : k < s.T.length
    · have hlA := R.atTo_length (fun i => (R.th s.T i).base) s.T.length k
      have x0 : wr.cell? ⟨w.heap.size, k, none⟩ = some (.int .i64 ((R.atTo (fun i => (R.th s.T i).base) s.T.length k)[k]'(by omega))) := by
        rw [ROW.out.cellAt k (by omega)]
        simp [intCells, hlA, hkl]
      have f0 := ROW.out.frozenAt k
      have a1 := MK.out.tcell hkl 1 (by decide)
      simp [ktCells] at a1
      have eth : (R.th s.T k).base = s.T[k].base := by rw [th_ext hkl]
      have r1 := (ROW.out.stored k (.int .i64 s.T[k].base)).1
      rw [intCells_set, ← eth, R.atTo_set1 (fun i => (R.th s.T i).base) s.T.length k hkl, eth] at r1
      have R1 := hid r1
      have HB1 : Hid (Below w.heap.size w (wr.setCell ⟨w.heap.size, k, none⟩ (.int .i64 s.T[k].base))) := HB.out.setCell (Nat.le_refl _) _
      have hkI : (k : Int) < (s.T.length : Int) := by omega
      clear r1 eth c2
      generalize (R.atTo (fun i => (R.th s.T i).base) s.T.length k)[k]'(by omega) = old at *
      generalize s.T[k].base = ba at *
      go_wp2
      go_roundw
      case rel => exact ⟨k + 1, by omega, by go_num, R1.out, HB1.out⟩
      case measure => simp [intOf]; omega
    · have e : k = s.T.length := by omega
      subst e
      have hr0 := ROW.out
      rw [R.atTo_map s.T (fun x => x.base)] at hr0
      have R0 := hid (show wr.ownsRow w.heap.size 3 1 (.slice (some ⟨w.heap.size, 0, none⟩) s.T.length s.T.length) s.T.length (intCells (R.ownTo s 0)) from hr0)
      clear hr0 ROW
      go_wp2
      go_loopw [38] (fun i wr => ∃ k : Nat, k ≤ s.owner.length ∧ i = .int .i64 k ∧ wr.ownsRow w.heap.size 3 1 (.slice (some ⟨w.heap.size, 0, none⟩) s.T.length s.T.length) s.T.length (intCells (R.ownTo s k)) ∧ Below w.heap.size w wr) (fun i _ => s.owner.length - (intOf i).toNat)
      case atStart => exact ⟨0, Nat.zero_le _, rfl, R0.out, HB.out⟩
      case round =>
        obtain ⟨k, hk, rfl, hrow, hb⟩ := hrel
        have hlo := R.ownTo_length s k
        by_cases hkl : k < s.owner.length
        · have mX := M.out.below hb
          have b0 := mX.mcell hkl 0 (by decide)
          have b1 := mX.mcell hkl 1 (by decide)
          have b2 := mX.mcell hkl 2 (by decide)
          simp only [kmCells] at b0 b1 b2
          have ROW := hid hrow
          have HB := hid hb
          have MX := hid mX
          have hszx := hb.size
          have hob := OK.out.own k hkl
          have eo : s.owner.getD k 0 = s.owner[k] := by simp [List.getD, hkl]
          have ES : Hid (R.ownTo s (k + 1) = if 0 ≤ s.owner[k] ∧ (s.set.mutexes.getD k R.pair0).x = 1 ∧ (R.ownTo s k).getD s.owner[k].toNat 0 < (s.set.mutexes.getD k R.pair0).y then (R.ownTo s k).set s.owner[k].toNat (s.set.mutexes.getD k R.pair0).y else R.ownTo s k) := by
            rw [← eo]
            exact hid rfl
          rw [eo] at hob
          have hkI : (k : Int) < (s.owner.length : Int) := by omega
          clear hrow hb mX eo
          generalize R.ownTo s k = l at *
          generalize s.owner[k] = ow at *
          generalize (s.set.mutexes.getD k R.pair0).x = kd at *
          generalize (s.set.mutexes.getD k R.pair0).y = tp at *
          simp at b0 b1 b2
          go_upto_region 10 with fail
          have hbA : Below wr.heap.size wr (wr.alloc (.cells #[.int .i64 kd, .int .i64 tp, .int .i64 ow] 113)) := (Below.refl _ _).alloc (Nat.le_refl _) _
          have bA : Blk (wr.alloc (.cells #[.int .i64 kd, .int .i64 tp, .int .i64 ow] 113)) wr.heap.size #[.int .i64 kd, .int .i64 tp, .int .i64 ow] 113 := Blk.new _ _ _
          generalize wr.alloc (.cells #[.int .i64 kd, .int .i64 tp, .int .i64 ow] 113) = wA at hbA bA ⊢
          have q0 := bA.cell 0
          have q1 := bA.cell 1
          have q2 := bA.cell 2
          simp at q0 q1 q2
          have ROWA := hid (ownsRow_same ROW.out fun g hg => hbA.block g (ownsRow_block ROW.out hg).2.1)
          have HBA := hid (via HB.out HB.out.size hbA)
          clear b0 b1 b2 bA hbA MX c1 c2
          by_cases ho : ow = -1
          · subst ho
            have HE : Hid (R.ownTo s (k + 1) = l) := by
              rw [ES.out, if_neg (fun hh => by omega)]
              exact hid rfl
            go_wp2_with fail
            go_quiet (fail)
            go_wp2
            go_roundw
            case rel => exact ⟨k + 1, by omega, by go_num, by rw [HE.out]; exact ownsRow_same ROWA.out fun _ _ => rfl, bdrewN HBA.out _⟩
            case measure => simp [intOf]; omega
          · obtain ⟨o, rfl⟩ := Int.eq_ofNat_of_zero_le (show 0 ≤ ow by omega)
            have hol : o < s.T.length := by omega
            have hnn : ((o : Int) != -1) = true := by simp
            have x0 : wA.cell? ⟨w.heap.size, o, none⟩ = some (.int .i64 (l[o]'(by omega))) := by
              rw [ROWA.out.cellAt o (by omega)]
              simp [intCells, hlo, hol]
            have f0 := ROWA.out.frozenAt o
            have hoI : (o : Int) < (s.T.length : Int) := by omega
            have egl : l.getD (Int.toNat (o : Int)) 0 = l[o]'(by omega) := by simp [List.getD, hlo, hol]
            rw [egl] at ES
            clear egl
            generalize l[o]'(by omega) = lo at *
            cases hkd : (kd == 1)
            · have HE : Hid (R.ownTo s (k + 1) = l) := by
                rw [ES.out, if_neg (fun hh => by simp [hh.2.1] at hkd)]
                exact hid rfl
              go_wp2_with fail
              go_quiet (fail)
              go_wp2
              go_roundw
              case rel => exact ⟨k + 1, by omega, by go_num, by rw [HE.out]; exact ownsRow_same ROWA.out fun _ _ => rfl, bdrewN HBA.out _⟩
              case measure => simp [intOf]; omega
            · have hk1 : kd = 1 := by simpa using hkd
              by_cases htp : lo < tp
              · have r1 := (ROWA.out.stored o (.int .i64 tp)).1
                rw [intCells_set] at r1
                have HE : Hid (R.ownTo s (k + 1) = l.set o tp) := by
                  rw [ES.out, if_pos ⟨by omega, hk1, htp⟩]
                  exact hid rfl
                have R1 := hid r1
                have HB1 : Hid (Below w.heap.size w (wA.setCell ⟨w.heap.size, o, none⟩ (.int .i64 tp))) := HBA.out.setCell (Nat.le_refl _) _
                clear r1
                go_wp2_with fail
                go_quiet (fail)
                go_wp2
                go_roundw
                case rel => exact ⟨k + 1, by omega, by go_num, by rw [HE.out]; exact ownsRow_same R1.out fun _ _ => rfl, ⟨HB1.out.os, HB1.out.tape, HB1.out.output, HB1.out.size, HB1.out.block⟩⟩
                case measure => simp [intOf]; omega
              · have HE : Hid (R.ownTo s (k + 1) = l) := by
                  rw [ES.out, if_neg (fun hh => htp hh.2.2)]
                  exact hid rfl
                go_wp2_with fail
                go_quiet (fail)
                go_wp2
                go_roundw
                case rel => exact ⟨k + 1, by omega, by go_num, by rw [HE.out]; exact ownsRow_same ROWA.out fun _ _ => rfl, bdrewN HBA.out _⟩
                case measure => simp [intOf]; omega
        · have e : k = s.owner.length := by omega
          subst e
          have ROW := hid hrow
          have HB := hid hb
          clear hrow hb
          go_wp2
          go_ret
          exact ⟨_, rfl, ROW.out, HB.out⟩

theorem row_get {w : World} {base g n cap : Nat} {l : List Int} (h : w.ownsRow base 3 1 (.slice (some ⟨g, 0, none⟩) n cap) n (intCells l)) (hl : l.length = n) {i : Nat} (hi : i < n) : w.cell? ⟨g, i, none⟩ = some (.int .i64 (l.getD i 0)) := by
  rw [h.cellAt i (by omega)]
  have : i < l.length := by omega
  simp [intCells, List.getD, this]
theorem row_set {w : World} {base g n cap : Nat} {l : List Int} (h : w.ownsRow base 3 1 (.slice (some ⟨g, 0, none⟩) n cap) n (intCells l)) (i : Nat) (x : Int) : (w.setCell ⟨g, i, none⟩ (.int .i64 x)).ownsRow base 3 1 (.slice (some ⟨g, 0, none⟩) n cap) n (intCells (l.set i x)) := by
  have := (h.stored i (.int .i64 x)).1
  rwa [intCells_set] at this
theorem KMem.few (_m : KMem F w kb h s tk wt ws) (a : Ln.WtOk s wt) : wt.length ≤ s.T.length := by
  have := Ln.nodup_le' wt (List.range s.T.length) a.nodup (fun x hx => by simpa using ((a.mem x).1 hx).1)
  simpa using this

set_option maxRecDepth 100000 in
set_option maxHeartbeats 2000000 in
theorem kLevels_any (m : KMem F w kb h s tk wt ws) (hfew : s.T.length ≤ 16) (ok : R.LinksOk s) (hm8 : s.owner.length ≤ 8) (a : Ln.WtOk s wt) :
    Calls Try.prog 112 #[.pointer (some ⟨kb, 0, none⟩)] w fun e w' => ∃ g, e = .returned (.slice (some ⟨g, 0, none⟩) s.T.length s.T.length) ∧ w'.ownsRow w.heap.size 3 1 (.slice (some ⟨g, 0, none⟩) s.T.length s.T.length) s.T.length (intCells (R.levels s)) ∧ Below w.heap.size w w' := by
  have CO := hid (kOwnLevels_any m hfew ok hm8)
  have EL : Hid (R.lendTo s wt s.T.length = R.levels s) := R.lendTo_levels ok wt (fun u hu => ((a.mem u).1 hu).1) (fun u hu hf => (a.mem u).2 ⟨hu, by omega⟩)
  have hwl := m.few a
  have HW := hid (fun u hu => ((a.mem u).1 hu).1)
  have OK := hid ok
  have M := hid m
  clear m ok a
  generalize R.levels s = fin at *
  obtain ⟨ao, ca, hvW, _, hin, _⟩ := IntsIn.of_owns (l := Ln.ints wt) (by rw [Ln.ints_length]; exact M.out.wts)
  rw [Ln.ints_length] at hvW
  have IN := hid hin
  have HV := hid hvW
  clear hin hvW
  go_enter Try.func112, Try.ntmps112
  go_wp2_with fail
  refine CO.out.mono ?_
  rintro e w1 ⟨g, rfl, hr1, hb1⟩
  have c1 := (M.out.below hb1).blk.cell 1
  simp [kCells] at c1
  have HR1 := hid (show w1.ownsRow w.heap.size 3 1 (.slice (some ⟨g, 0, none⟩) s.T.length s.T.length) s.T.length (intCells (R.lendTo s wt 0)) from hr1)
  have HB1 := hid hb1
  have hgw : w.heap.size ≤ g := (ownsRow_block hr1 rfl).1
  clear hr1 hb1 CO
  go_wp2
  go_loopw [14] (fun i wr => ∃ k : Nat, k ≤ s.T.length ∧ i = .int .i64 k ∧ wr.ownsRow w.heap.size 3 1 (.slice (some ⟨g, 0, none⟩) s.T.length s.T.length) s.T.length (intCells (R.lendTo s wt k)) ∧ Below w.heap.size w wr) (fun i _ => s.T.length - (intOf i).toNat)
  case atStart => exact ⟨0, Nat.zero_le _, rfl, HR1.out, HB1.out⟩
  case round =>
    obtain ⟨k, hk, rfl, hrow, hb⟩ := hrel
    have ROW := hid hrow
    have HB := hid hb
    have MK := hid (M.out.below hb)
    clear hrow hb HR1 HB1 c1
    by_cases hkl : k < s.T.length
    · have hkI : (k : Int) < (s.T.length : Int) := by omega
      have c7 := MK.out.blk.cell 7
      simp [kCells] at c7
      rw [HV.out] at c7
      have ESO : Hid (R.lendTo s wt (k + 1) = wt.foldl (R.lend s) (R.lendTo s wt k)) := rfl
      have hl0 := R.lendTo_length s wt k
      generalize R.lendTo s wt k = l0 at *
      have R0 : Hid (wr.ownsRow w.heap.size 3 1 (.slice (some ⟨g, 0, none⟩) s.T.length s.T.length) s.T.length (intCells ((wt.take 0).foldl (R.lend s) l0))) := ROW.out
      go_wp2
      go_loopw [21] (fun i wx => ∃ j : Nat, j ≤ wt.length ∧ i = .int .i64 j ∧ wx.ownsRow w.heap.size 3 1 (.slice (some ⟨g, 0, none⟩) s.T.length s.T.length) s.T.length (intCells ((wt.take j).foldl (R.lend s) l0)) ∧ Below w.heap.size w wx) (fun i _ => wt.length - (intOf i).toNat)
      case atStart => exact ⟨0, Nat.zero_le _, rfl, R0.out, HB.out⟩
      case round =>
        obtain ⟨j, hj, rfl, hrow, hb⟩ := hrel
        have hlj : ((wt.take j).foldl (R.lend s) l0).length = s.T.length := by
          have := R.lendAll_length s (wt.take j) l0
          unfold R.lendAll at this
          rw [this, hl0]
        by_cases hjl : j < wt.length
        · have ES : Hid ((wt.take (j + 1)).foldl (R.lend s) l0 = R.lend s ((wt.take j).foldl (R.lend s) l0) wt[j]) := by
            rw [List.take_succ_eq_append_getElem hjl, List.foldl_append]
            exact hid rfl
          have hut := HW.out wt[j] (List.getElem_mem hjl)
          obtain ⟨b, o, ha, hbl, hcell⟩ := IN.out j (by rw [Ln.ints_length]; exact hjl)
          have e0 : (Ln.ints wt)[j]'(by rw [Ln.ints_length]; exact hjl) = (wt[j] : Int) := by simp [Ln.ints]
          rw [e0] at hcell
          have x1 : wr.cell? ⟨b, o + j, none⟩ = some (.int .i64 (wt[j] : Int)) := (hb.cell (p := ⟨b, o + j, none⟩) hbl).trans hcell
          subst ha
          have BO := hid (kBorrower_any (M.out.below hb) wt[j] hut hfew OK.out hm8)
          have hbd := R.lendee_bd OK.out wt[j] hut
          have EL1 : Hid (R.lend s ((wt.take j).foldl (R.lend s) l0) wt[j] = if 0 ≤ R.lendee s wt[j] ∧ ((wt.take j).foldl (R.lend s) l0).getD (R.lendee s wt[j]).toNat 0 < ((wt.take j).foldl (R.lend s) l0).getD wt[j] 0 then ((wt.take j).foldl (R.lend s) l0).set (R.lendee s wt[j]).toNat (((wt.take j).foldl (R.lend s) l0).getD wt[j] 0) else (wt.take j).foldl (R.lend s) l0) := rfl
          have ROW := hid hrow
          have HBX := hid hb
          have hjI : (j : Int) < (wt.length : Int) := by omega
          clear hrow hb hcell e0 R0
          rw [← ES.out] at EL1
          generalize (wt.take j).foldl (R.lend s) l0 = l at *
          generalize wt[j] = u at *
          generalize R.lendee s u = le at *
          have hutI : (u : Int) < (s.T.length : Int) := by omega
          go_wp2_with fail
          refine BO.out.mono ?_
          rintro e w3 ⟨rfl, n, rfl⟩
          have R3 := hid (show (wr.drewN n).ownsRow w.heap.size 3 1 (.slice (some ⟨g, 0, none⟩) s.T.length s.T.length) s.T.length (intCells l) from ownsRow_same ROW.out fun _ _ => rfl)
          have HB3 := hid (bdrewN HBX.out n)
          clear x1 c7 BO
          generalize wr.drewN n = w3 at *
          have y0 := row_get R3.out hlj hut
          by_cases hle : le = -1
          · subst hle
            have HE : Hid ((wt.take (j + 1)).foldl (R.lend s) l0 = l) := by
              rw [EL1.out, if_neg (fun hh => by omega)]
              exact hid rfl
            go_wp2_with fail
            go_quiet (fail)
            go_wp2
            go_roundw
            case rel => exact ⟨j + 1, by omega, by go_num, by rw [HE.out]; exact ownsRow_same R3.out fun _ _ => rfl, bdrewN HB3.out _⟩
            case measure => simp [intOf]; omega
          · obtain ⟨t, rfl⟩ := Int.eq_ofNat_of_zero_le (show 0 ≤ le by omega)
            have htl : t < s.T.length := by omega
            have htlI : (t : Int) < (s.T.length : Int) := by omega
            have y1 := row_get R3.out hlj htl
            have f1 := R3.out.frozenAt t
            have hnn : ((t : Int) != -1) = true := by simp
            have e3 : Int.toNat (t : Int) = t := by omega
            rw [e3] at EL1
            generalize hlu : l.getD u 0 = lu at *
            generalize hlt : l.getD t 0 = lt at *
            by_cases hlt2 : lt < lu
            · have HE : Hid ((wt.take (j + 1)).foldl (R.lend s) l0 = l.set t lu) := by
                rw [EL1.out, if_pos ⟨by omega, hlt2⟩]
                exact hid rfl
              have R4 := hid (row_set R3.out t lu)
              have HB4 : Hid (Below w.heap.size w (w3.setCell ⟨g, t, none⟩ (.int .i64 lu))) := HB3.out.setCell hgw _
              go_wp2_with fail
              go_quiet (fail)
              go_wp2
              go_roundw
              case rel => exact ⟨j + 1, by omega, by go_num, by rw [HE.out]; exact ownsRow_same R4.out fun _ _ => rfl, ⟨HB4.out.os, HB4.out.tape, HB4.out.output, HB4.out.size, HB4.out.block⟩⟩
              case measure => simp [intOf]; omega
            · have HE : Hid ((wt.take (j + 1)).foldl (R.lend s) l0 = l) := by
                rw [EL1.out, if_neg (fun hh => hlt2 hh.2)]
                exact hid rfl
              go_wp2_with fail
              go_quiet (fail)
              go_wp2
              go_roundw
              case rel => exact ⟨j + 1, by omega, by go_num, by rw [HE.out]; exact ownsRow_same R3.out fun _ _ => rfl, bdrewN HB3.out _⟩
              case measure => simp [intOf]; omega
        · have e : j = wt.length := by omega
          subst e
          have ROW := hid hrow
          have HBX := hid hb
          rw [List.take_length, ← ESO.out] at ROW
          clear hrow hb
          go_wp2
          go_roundw
          case rel => exact ⟨k + 1, by omega, by go_num, ROW.out, HBX.out⟩
          case measure => simp [intOf]; omega
    · have e : k = s.T.length := by omega
      subst e
      go_wp2
      go_ret
      refine ⟨_, rfl, ?_, HB.out⟩
      rw [← EL.out]
      exact ROW.out

set_option maxHeartbeats 400000 in
theorem kLevel_any (m : KMem F w kb h s tk wt ws) (hfew : s.T.length ≤ 16) (ok : R.LinksOk s) (hm8 : s.owner.length ≤ 8) (a : Ln.WtOk s wt) (t : Nat) (ht : t < s.T.length) :
    Calls Try.prog 100 #[.pointer (some ⟨kb, 0, none⟩), .int .i64 t] w fun e w' => e = .returned (.int .i64 (R.Level s t)) ∧ Below w.heap.size w w' := by
  have CL := hid (kLevels_any m hfew ok hm8 a)
  have hll : (R.levels s).length = s.T.length := by simp [R.levels]
  have EL : Hid ((R.levels s).getD t 0 = R.Level s t) := hid (by simp [R.levels, List.getD, ht])
  have htI : (t : Int) < (s.T.length : Int) := by omega
  clear m ok a
  generalize R.levels s = l at *
  generalize R.Level s t = res at *
  go_enter Try.func100, Try.ntmps100
  go_wp2_with fail
  refine CL.out.mono ?_
  rintro e w1 ⟨g, rfl, hr1, hb1⟩
  have y := row_get hr1 hll ht
  rw [EL.out] at y
  have HB := hid hb1
  clear hr1 hb1 CL
  go_wp2
  go_ret
  exact ⟨rfl, HB.out⟩
end

end Go.Proofs.Ytbkfildnijjioab

/-
  Walks over package donate: threads put in the order of their levels.
-/
namespace Go.Proofs.Ytbkfildnijjioab
open Go.RowKit

theorem ints_set (L : List Nat) (i t : Nat) : (intCells (Ln.ints L)).set i (.int .i64 (t : Int)) = intCells (Ln.ints (L.set i t)) := by
  rw [intCells_set]
  simp [Ln.ints, List.map_set]
theorem ints_get (L : List Nat) (i : Nat) (hi : i < L.length) : (intCells (Ln.ints L))[i]? = some (.int .i64 (L[i] : Int)) := by
  simp [intCells, Ln.ints, hi]
theorem shift_set' (r : List Nat) (x t : Nat) (B : List Nat) : (((x :: r).reverse ++ t :: B).set (r.length + 1) x).set r.length t = r.reverse ++ t :: x :: B := by
  have h1 : (x :: r).reverse ++ t :: B = r.reverse ++ ([x, t] ++ B) := by simp
  rw [h1, List.set_append_right _ _ (by simp), List.set_append_right _ _ (by simp)]
  simp
theorem Ln.byBack_length (lv : Nat → Int) (l : List Nat) : (Ln.byBack lv l).length = l.length := (Ln.byBack_perm lv l).length_eq

section
variable {F : Nat → Prop} {w : World} {kb : Nat} {h : KH} {s : RS} {tk wt : List Nat} {ws : List Int}

set_option maxRecDepth 100000 in
set_option maxHeartbeats 4000000 in
theorem kByLevel_any (m : KMem F w kb h s tk wt ws) (hfew : s.T.length ≤ 16) (ok : R.LinksOk s) (hm8 : s.owner.length ≤ 8) (a : Ln.WtOk s wt) (ao : Option Addr) (ca : Nat) (l : List Nat) (hl : IntsIn w.heap.size w ao (Ln.ints l)) (hll : l.length ≤ 16) (hlt : ∀ u ∈ l, u < s.T.length) :
    Calls Try.prog 98 #[.pointer (some ⟨kb, 0, none⟩), .slice ao l.length ca] w fun e w' => ∃ v, e = .returned v ∧ w'.ownsRow w.heap.size 3 1 v l.length (intCells (Ln.ints (Ln.byLv (R.Level s) l))) ∧ Below w.heap.size w w' := by
  have CL := hid (kLevels_any m hfew ok hm8 a)
  have HIN := hid hl
  have HLT := hid hlt
  have hlv : (R.levels s).length = s.T.length := by simp [R.levels]
  have ELV : Hid (∀ t, t < s.T.length → (R.levels s).getD t 0 = R.Level s t) := fun t ht => by simp [R.levels, List.getD, ht]
  clear m ok a hl hlt
  generalize R.levels s = LV at *
  generalize R.Level s = lv at *
  obtain ⟨i3, hi3, hz30, hz31, hz32⟩ := info_parts Try.infoInt
  have HI3 := hid (And.intro hi3 (And.intro hz30 (And.intro hz31 hz32)))
  clear hi3 hz30 hz31 hz32
  go_enter Try.func98, Try.ntmps98
  go_wp2_with fail
  refine CL.out.mono ?_
  rintro e w1 ⟨gL, rfl, hr1, hb1⟩
  have HB1 := hid hb1
  have HR1 := hid hr1
  have hgL := (ownsRow_block hr1 rfl).2.1
  have hsz1 := hb1.size
  have HIN1 := hid ((HIN.out.stays hb1).mono hb1.size)
  clear hr1 hb1 CL HIN
  go_wp2
  go_loopw [6, 14] (fun v i wr => ∃ k : Nat, k ≤ l.length ∧ i = .int .i64 k ∧ wr.ownsRow w1.heap.size 3 1 v k (intCells (Ln.ints (Ln.byBack lv (l.take k)).reverse)) ∧ Below w1.heap.size w1 wr) (fun _ i _ => l.length - (intOf i).toNat)
  case atStart => exact ⟨0, Nat.zero_le _, rfl, World.ownsRow_nil _ _ _ _, Below.refl _ _⟩
  case round =>
    obtain ⟨k, hk, rfl, hrow, hb⟩ := hrel
    have ROW1 := hid hrow
    have HBK := hid hb
    have hsz := hb.size
    clear hrow hb
    by_cases hkl : k < l.length
    · have hkI : (k : Int) < (l.length : Int) := by omega
      obtain ⟨b, o, ha, hbl, hcell⟩ := HIN1.out k (by rw [Ln.ints_length]; exact hkl)
      have e0 : (Ln.ints l)[k]'(by rw [Ln.ints_length]; exact hkl) = (l[k] : Int) := by simp [Ln.ints]
      rw [e0] at hcell
      have x1 : wr.cell? ⟨b, o + k, none⟩ = some (.int .i64 (l[k] : Int)) := (HBK.out.cell (p := ⟨b, o + k, none⟩) hbl).trans hcell
      subst ha
      have HEB : Hid (Ln.byBack lv (l.take (k + 1)) = Ln.ins (Ln.above lv) l[k] (Ln.byBack lv (l.take k))) := by
        rw [List.take_succ_eq_append_getElem hkl, Ln.byBack_snoc]
        exact hid rfl
      have hbl0 : (Ln.byBack lv (l.take k)).length = k := by rw [Ln.byBack_length]; simp; omega
      have HBX : Hid (∀ y ∈ Ln.byBack lv (l.take k), y < s.T.length) := fun y hy => HLT.out y (List.mem_of_mem_take ((Ln.byBack_perm lv (l.take k)).mem_iff.1 hy))
      have htl := HLT.out l[k] (List.getElem_mem hkl)
      clear hcell e0
      generalize l[k] = t at *
      generalize Ln.byBack lv (l.take k) = R0 at *
      subst hbl0
      go_upto_region 7 with (at_builtin; refine wpList_append_src rfl (.tmp 18) (.tmp 20) 25 rfl w1.heap.size 3 i3 (.int .i64 0) 1 8 Try.underlying25 HI3.out.1 HI3.out.2.1 HI3.out.2.2.1 HI3.out.2.2.2 rfl (by decide) u6 R0.length (intCells (Ln.ints R0.reverse)) rfl (ROW1.out.alloc _) (some ⟨wr.heap.size, 0, none⟩) 1 1 [.int .i64 (t : Int)] rfl rfl (fun h => (by cases h)) (fun j u hj => ⟨_, rfl, (by rw [Addr.add_lit, Nat.zero_add, (Blk.new wr #[.int .i64 (t : Int)] 3).cell]; simpa using hj)⟩) (by intro u hu; simp at hu; subst hu; rfl) (by unfold maxLen; omega) (by omega) (by simp; omega) ?_; intro v' w2 hown2 hg2; have O2 := hid hown2; have G2 := hid hg2; obtain ⟨tv5, tc5, rfl, hn5, ha5⟩ := owns_cells hown2; clear hown2 hg2)
      have hb2 : Below w1.heap.size w1 w2 := (HBK.out.alloc (by omega) _).grown G2.out (by simp; omega) (fun g hg => (ownsRow_block ROW1.out hg).1)
      have HB2 := hid hb2
      clear hb2
      cases tv5 with
      | none => have := (hn5 rfl).1; omega
      | some a5 =>
        obtain ⟨g5, rfl, hge5, _, _, _⟩ := ha5 a5 rfl
        clear ha5 hn5
        have O2' : Hid (w2.ownsRow w1.heap.size 3 1 (.slice (some ⟨g5, 0, none⟩) (R0.length + 1) tc5) (R0.length + 1) (intCells (Ln.ints (R0.reverse ++ [t])))) := by
          have e : intCells (Ln.ints (R0.reverse ++ [t])) = intCells (Ln.ints R0.reverse) ++ [.int .i64 (t : Int)] := by simp [Ln.ints, intCells]
          rw [e]
          exact O2.out
        clear O2 G2 ROW1 x1
        go_wp2
        go_loopw [9] (fun i wr => ∃ (r B : List Nat), i = .int .i64 (r.length : Int) ∧ r.length + 1 + B.length = R0.length + 1 ∧ (∀ y ∈ r, y < s.T.length) ∧ wr.ownsRow w1.heap.size 3 1 (.slice (some ⟨g5, 0, none⟩) (R0.length + 1) tc5) (R0.length + 1) (intCells (Ln.ints (r.reverse ++ t :: B))) ∧ (Ln.ins (Ln.above lv) t r).reverse ++ B = (Ln.ins (Ln.above lv) t R0).reverse ∧ Below w1.heap.size w1 wr) (fun i _ => (intOf i).toNat)
        case atStart => exact ⟨R0, [], by go_num, by simp, HBX.out, O2'.out, by simp, HB2.out⟩
        case round =>
          obtain ⟨r, B, rfl, hlen, hry, hrow, hins, hbw⟩ := hrel
          have ROWI := hid hrow
          have HINS := hid hins
          have HBW := hid hbw
          have HRY := hid hry
          have hszw := hbw.size
          clear hrow hins hbw hry
          cases r with
          | nil =>
            have HFIN : Hid (Ln.ins (Ln.above lv) t R0 = (t :: B).reverse) := by
              have h1 := HINS.out
              have h2 : t :: B = (Ln.ins (Ln.above lv) t R0).reverse := by simpa [Ln.ins] using h1
              rw [h2, List.reverse_reverse]
              exact hid rfl
            go_wp2_with fail
            go_quiet (fail)
            go_wp2
            go_roundw
            case rel =>
              refine ⟨R0.length + 1, by omega, by go_num, ?_, bdrewN HBW.out _⟩
              rw [HEB.out, HFIN.out]
              have h5 := ROWI.out
              simp only [List.reverse_nil, List.nil_append] at h5
              rw [List.reverse_reverse]
              exact ownsRow_same h5 fun _ _ => rfl
            case measure => simp [intOf]; omega
          | cons x r =>
            have hxl : x < s.T.length := HRY.out x (by simp)
            have hcl : r.length < ((x :: r).reverse ++ t :: B).length := by simp
            have hcl1 : r.length + 1 < ((x :: r).reverse ++ t :: B).length := by simp
            have gx : ((x :: r).reverse ++ t :: B)[r.length] = x := by simp
            have hlenR : r.length + 1 + 1 + B.length = R0.length + 1 := by simpa using hlen
            have y0 : wr.cell? ⟨g5, r.length, none⟩ = some (.int .i64 (x : Int)) := by
              rw [ROWI.out.cellAt r.length (by omega), ints_get _ _ hcl, gx]
            have y1 : wr.cell? ⟨g5, r.length + 1, none⟩ = some (.int .i64 (t : Int)) := by
              have gk : ((x :: r).reverse ++ t :: B)[r.length + 1] = t := by simp
              rw [ROWI.out.cellAt (r.length + 1) (by omega), ints_get _ _ hcl1, gk]
            have fz0 := ROWI.out.frozenAt r.length
            have fz1 := ROWI.out.frozenAt (r.length + 1)
            have LR := hid (ownsRow_same HR1.out fun g hg => by cases hg; exact HBW.out.block _ hgL)
            have l1 := row_get LR.out hlv htl
            have l2 := row_get LR.out hlv hxl
            rw [ELV.out t htl] at l1
            rw [ELV.out x hxl] at l2
            clear gx LR
            have e1 : ((x :: r).length : Int) = (r.length : Int) + 1 := by simp
            rw [e1]
            clear e1
            have r1 := ((ROWI.out.stored (r.length + 1) (.int .i64 (x : Int))).1.stored r.length (.int .i64 (t : Int))).1
            rw [ints_set, ints_set, shift_set'] at r1
            have EAH : Hid (Ln.above lv t x = decide (lv x < lv t)) := rfl
            have HINS1 : Hid (Ln.above lv t x = true → (Ln.ins (Ln.above lv) t r).reverse ++ x :: B = (Ln.ins (Ln.above lv) t R0).reverse) := by
              intro ht
              have h1 := HINS.out
              simp only [Ln.ins, if_pos ht] at h1
              rw [← h1]
              simp
            have HFIN : Hid (Ln.above lv t x = false → Ln.ins (Ln.above lv) t R0 = ((x :: r).reverse ++ t :: B).reverse) := by
              intro hf
              have h1 := HINS.out
              have hf' : ¬ (Ln.above lv t x = true) := by rw [hf]; decide
              simp only [Ln.ins, if_neg hf'] at h1
              have h2 : (x :: r).reverse ++ t :: B = (Ln.ins (Ln.above lv) t R0).reverse := by rw [← h1]; simp
              rw [h2, List.reverse_reverse]
            have HRY1 : Hid (∀ y ∈ r, y < s.T.length) := fun y hy => HRY.out y (by simp [hy])
            have R1 := hid r1
            have HBS : Hid (∀ n, Below w1.heap.size w1 (((wr.drewN n).setCell ⟨g5, r.length + 1, none⟩ (.int .i64 (x : Int))).setCell ⟨g5, r.length, none⟩ (.int .i64 (t : Int)))) := fun n => ((bdrewN HBW.out n).setCell hge5 _).setCell hge5 _
            clear r1
            generalize hq : r.length = q at *
            have HQ := hid hq
            clear hq hcl hcl1
            have hqI : (q : Int) + 1 ≤ 16 := by omega
            have hqB : (q : Int) < (R0.length : Int) + 1 := by omega
            have hqB1 : (q : Int) + 1 < (R0.length : Int) + 1 := by omega
            have htI : (t : Int) < (s.T.length : Int) := by omega
            have hxI : (x : Int) < (s.T.length : Int) := by omega
            generalize hlt : lv t = lt at *
            generalize hlx : lv x = lx at *
            by_cases hah : lx < lt
            · have HI2 := hid (HINS1.out (by rw [EAH.out]; simpa using hah))
              go_wp2_with fail
              go_quiet (fail)
              go_wp2
              go_roundw
              case rel =>
                refine ⟨r, x :: B, by rw [HQ.out], by simp; have := HQ.out; omega, HRY1.out, ?_, HI2.out, HBS.out _⟩
                exact ownsRow_same R1.out fun _ _ => rfl
              case measure => simp [intOf]
            · have HF2 := hid (HFIN.out (by rw [EAH.out]; simpa using hah))
              go_wp2_with fail
              go_quiet (fail)
              go_wp2
              go_roundw
              case rel =>
                refine ⟨R0.length + 1, by omega, by go_num, ?_, bdrewN HBW.out _⟩
                rw [HEB.out, HF2.out]
                rw [List.reverse_reverse]
                exact ownsRow_same ROWI.out fun _ _ => rfl
              case measure => simp [intOf]; omega
    · have e : k = l.length := by omega
      subst e
      rw [List.take_length] at ROW1
      go_wp2
      go_ret
      exact ⟨_, rfl, ownsRow_mono ROW1.out (by omega), via HB1.out hsz1 HBK.out⟩
end

end Go.Proofs.Ytbkfildnijjioab

/-
  Walks over package donate: lists that are picked out of lists.
-/
namespace Go.Proofs.Ytbkfildnijjioab
open Go.RowKit

theorem filter_take_succ {l : List Nat} {k : Nat} (hk : k < l.length) (p : Nat → Bool) : (l.take (k + 1)).filter p = if p l[k] = true then (l.take k).filter p ++ [l[k]] else (l.take k).filter p := by
  rw [List.take_succ_eq_append_getElem hk, List.filter_append]
  by_cases h : p l[k] = true
  · rw [if_pos h]
    simp [h]
  · rw [if_neg h]
    simp [h]
theorem ints_snoc (l : List Nat) (t : Nat) : intCells (Ln.ints (l ++ [t])) = intCells (Ln.ints l) ++ [.int .i64 (t : Int)] := by simp [Ln.ints, intCells]
theorem filter_take_le (l : List Nat) (k : Nat) (p : Nat → Bool) : ((l.take k).filter p).length ≤ k := by
  have h1 := List.length_filter_le p (l.take k)
  have h2 : (l.take k).length ≤ k := by simp; omega
  omega

set_option maxRecDepth 100000 in
set_option maxHeartbeats 1000000 in
theorem kWithout_any (w : World) (ao : Option Addr) (ca : Nat) (l : List Nat) (t : Nat) (hl : IntsIn w.heap.size w ao (Ln.ints l)) (hll : l.length ≤ 16) :
    Calls Try.prog 110 #[.slice ao l.length ca, .int .i64 t] w fun e w' => ∃ v, e = .returned v ∧ w'.ownsRow w.heap.size 3 1 v (Ln.less l t).length (intCells (Ln.ints (Ln.less l t))) ∧ Below w.heap.size w w' := by
  have HIN := hid hl
  clear hl
  obtain ⟨i3, hi3, hz30, hz31, hz32⟩ := info_parts Try.infoInt
  have HI3 := hid (And.intro hi3 (And.intro hz30 (And.intro hz31 hz32)))
  clear hi3 hz30 hz31 hz32
  go_enter Try.func110, Try.ntmps110
  go_wp2
  go_loopw [5, 10] (fun v i wr => ∃ k : Nat, k ≤ l.length ∧ i = .int .i64 k ∧ wr.ownsRow w.heap.size 3 1 v ((l.take k).filter (fun u => decide (u ≠ t))).length (intCells (Ln.ints ((l.take k).filter (fun u => decide (u ≠ t))))) ∧ Below w.heap.size w wr) (fun _ i _ => l.length - (intOf i).toNat)
  case atStart => exact ⟨0, Nat.zero_le _, rfl, World.ownsRow_nil _ _ _ _, Below.refl _ _⟩
  case round =>
    obtain ⟨k, hk, rfl, hrow, hb⟩ := hrel
    have ROW1 := hid hrow
    have HB := hid hb
    have hsz := hb.size
    clear hrow hb
    by_cases hkl : k < l.length
    · have hkI : (k : Int) < (l.length : Int) := by omega
      obtain ⟨b, o, ha, hbl, hcell⟩ := HIN.out k (by rw [Ln.ints_length]; exact hkl)
      have e0 : (Ln.ints l)[k]'(by rw [Ln.ints_length]; exact hkl) = (l[k] : Int) := by simp [Ln.ints]
      rw [e0] at hcell
      have x1 : wr.cell? ⟨b, o + k, none⟩ = some (.int .i64 (l[k] : Int)) := (HB.out.cell (p := ⟨b, o + k, none⟩) hbl).trans hcell
      subst ha
      have ES := hid (filter_take_succ hkl (fun u => decide (u ≠ t)))
      have hfl := filter_take_le l k (fun u => decide (u ≠ t))
      clear hcell e0
      generalize l[k] = y at *
      generalize (l.take k).filter (fun u => decide (u ≠ t)) = f at *
      by_cases hut : y = t
      · have HE : Hid ((l.take (k + 1)).filter (fun u => decide (u ≠ t)) = f) := by
          rw [ES.out, if_neg (by simpa using hut)]
          exact hid rfl
        subst hut
        go_wp2
        go_roundw
        case rel => exact ⟨k + 1, by omega, by go_num, by rw [HE.out]; exact ROW1.out, HB.out⟩
        case measure => simp [intOf]; omega
      · have HE : Hid ((l.take (k + 1)).filter (fun u => decide (u ≠ t)) = f ++ [y]) := by
          rw [ES.out, if_pos (by simpa using hut)]
          exact hid rfl
        have hne : ((y : Int) != (t : Int)) = true := by simp; omega
        go_wp2_with (at_builtin; refine wpList_append_src rfl (.tmp 17) (.tmp 19) 25 rfl w.heap.size 3 i3 (.int .i64 0) 1 8 Try.underlying25 HI3.out.1 HI3.out.2.1 HI3.out.2.2.1 HI3.out.2.2.2 rfl (by decide) u5 f.length (intCells (Ln.ints f)) rfl (ROW1.out.alloc _) (some ⟨wr.heap.size, 0, none⟩) 1 1 [.int .i64 (y : Int)] rfl rfl (fun h => (by cases h)) (fun j u hj => ⟨_, rfl, (by rw [Addr.add_lit, Nat.zero_add, (Blk.new wr #[.int .i64 (y : Int)] 3).cell]; simpa using hj)⟩) (by intro u hu; simp at hu; subst hu; rfl) (by unfold maxLen; omega) (by omega) (by simp; omega) ?_; intro v' w2 hown2 hg2; have O2 := hid hown2; have G2 := hid hg2; clear hown2 hg2)
        have HB2 : Hid (Below w.heap.size w w2) := (HB.out.alloc (by omega) _).grown G2.out (by simp; omega) (fun g hg => (ownsRow_block ROW1.out hg).1)
        go_roundw
        case rel => exact ⟨k + 1, by omega, by go_num, by rw [HE.out, ints_snoc, List.length_append]; exact O2.out, HB2.out⟩
        case measure => simp [intOf]; omega
    · have e : k = l.length := by omega
      subst e
      rw [List.take_length] at ROW1
      go_wp2
      go_ret
      exact ⟨_, rfl, ROW1.out, HB.out⟩

section
variable {F : Nat → Prop} {w : World} {kb : Nat} {h : KH} {s : RS} {tk wt : List Nat} {ws : List Int}

theorem KMem.tkIn (m : KMem F w kb h s tk wt ws) : ∃ ao ca, h.vTk = .slice ao tk.length ca ∧ IntsIn w.heap.size w ao (Ln.ints tk) := by
  obtain ⟨ao, ca, hv, _, hin, _⟩ := IntsIn.of_owns (l := Ln.ints tk) (by rw [Ln.ints_length]; exact m.tks)
  rw [Ln.ints_length] at hv
  exact ⟨ao, ca, hv, hin⟩
theorem KMem.wtIn (m : KMem F w kb h s tk wt ws) : ∃ ao ca, h.vWt = .slice ao wt.length ca ∧ IntsIn w.heap.size w ao (Ln.ints wt) := by
  obtain ⟨ao, ca, hv, _, hin, _⟩ := IntsIn.of_owns (l := Ln.ints wt) (by rw [Ln.ints_length]; exact m.wts)
  rw [Ln.ints_length] at hv
  exact ⟨ao, ca, hv, hin⟩
theorem Ln.TkOk.len (h : Ln.TkOk s tk) : tk.length = s.T.length := by
  have := h.perm.length_eq
  simpa using this
/-- The kernel's own way to tell who is awake is the document's. -/
def AwOk (s : RS) : Prop := ∀ t (ht : t < s.T.length), kAw s.T[t] = s.T[t].awake
theorem AwOk.filter (ha : AwOk s) {l : List Nat} (hl : ∀ u ∈ l, u < s.T.length) : l.filter (fun u => kAw (R.th s.T u)) = l.filter (Ln.awakes s.T) := by
  refine List.filter_congr fun u hu => ?_
  unfold Ln.awakes
  rw [th_ext (hl u hu)]
  exact ha u (hl u hu)

set_option maxRecDepth 100000 in
set_option maxHeartbeats 1000000 in
theorem kAwakeInOrder_any (m : KMem F w kb h s tk wt ws) (hfew : s.T.length ≤ 16) (ok : R.LinksOk s) (hm8 : s.owner.length ≤ 8) (a : Ln.Aux s tk wt) (aw : AwOk s) :
    Calls Try.prog 78 #[.pointer (some ⟨kb, 0, none⟩)] w fun e w' => ∃ v, e = .returned v ∧ w'.ownsRow w.heap.size 3 1 v (Ln.awakeLine s tk).length (intCells (Ln.ints (Ln.awakeLine s tk))) ∧ Below w.heap.size w w' := by
  obtain ⟨ao, ca, hv, hin⟩ := m.tkIn
  have c6 := m.blk.cell 6
  simp [kCells] at c6
  rw [hv] at c6
  have hll : tk.length = s.T.length := a.tk.len
  have HIN := hid hin
  have HLT : Hid (∀ u ∈ tk, u < s.T.length) := fun u hu => (a.tk.mem u).1 hu
  have AW := hid (fun wx (hb : Below w.heap.size w wx) (t : Nat) (ht : t < s.T.length) => kAwake_any (m.below hb) t ht hfew)
  have BY := hid (fun wx (hb : Below w.heap.size w wx) ao ca l hl h1 h2 => kByLevel_any (m.below hb) hfew ok hm8 a.wt ao ca l hl h1 h2)
  have EF := hid (AwOk.filter aw HLT.out)
  have EL : Hid (Ln.awakeLine s tk = Ln.byLv (R.Level s) (tk.filter (Ln.awakes s.T))) := rfl
  clear m a aw hin hv ok
  generalize Ln.awakeLine s tk = res at *
  obtain ⟨i3, hi3, hz30, hz31, hz32⟩ := info_parts Try.infoInt
  have HI3 := hid (And.intro hi3 (And.intro hz30 (And.intro hz31 hz32)))
  clear hi3 hz30 hz31 hz32
  go_enter Try.func78, Try.ntmps78
  go_wp2
  go_loopw [3, 11] (fun v i wr => ∃ k : Nat, k ≤ tk.length ∧ i = .int .i64 k ∧ wr.ownsRow w.heap.size 3 1 v ((tk.take k).filter (fun u => kAw (R.th s.T u))).length (intCells (Ln.ints ((tk.take k).filter (fun u => kAw (R.th s.T u))))) ∧ Below w.heap.size w wr) (fun _ i _ => tk.length - (intOf i).toNat)
  case atStart => exact ⟨0, Nat.zero_le _, rfl, World.ownsRow_nil _ _ _ _, Below.refl _ _⟩
  case round =>
    obtain ⟨k, hk, rfl, hrow, hb⟩ := hrel
    have ROW := hid hrow
    have HB := hid hb
    have hsz := hb.size
    clear hrow hb
    by_cases hkl : k < tk.length
    · have hkI : (k : Int) < (tk.length : Int) := by omega
      obtain ⟨b, o, ha, hbl, hcell⟩ := HIN.out k (by rw [Ln.ints_length]; exact hkl)
      have e0 : (Ln.ints tk)[k]'(by rw [Ln.ints_length]; exact hkl) = (tk[k] : Int) := by simp [Ln.ints]
      rw [e0] at hcell
      have x1 : wr.cell? ⟨b, o + k, none⟩ = some (.int .i64 (tk[k] : Int)) := (HB.out.cell (p := ⟨b, o + k, none⟩) hbl).trans hcell
      subst ha
      have ES := hid (filter_take_succ hkl (fun u => kAw (R.th s.T u)))
      have hfl := filter_take_le tk k (fun u => kAw (R.th s.T u))
      have htl := HLT.out tk[k] (List.getElem_mem hkl)
      have AWK := hid (AW.out wr HB.out tk[k] htl)
      have ETH : Hid (R.th s.T tk[k] = s.T[tk[k]]) := th_ext htl
      rw [ETH.out] at ES
      clear hcell e0 ETH
      generalize s.T[tk[k]] = x at *
      generalize tk[k] = y at *
      generalize (tk.take k).filter (fun u => kAw (R.th s.T u)) = f at *
      go_wp2_with fail
      refine AWK.out.mono ?_
      rintro e w1 ⟨rfl, n, rfl⟩
      have ROW1 : Hid ((wr.drewN n).ownsRow w.heap.size 3 1 u3 f.length (intCells (Ln.ints f))) := ownsRow_same ROW.out fun _ _ => rfl
      have HB1 : Hid (Below w.heap.size w (wr.drewN n)) := bdrewN HB.out n
      have hsz1 : w.heap.size ≤ (wr.drewN n).heap.size := hsz
      clear ROW HB AWK x1
      generalize wr.drewN n = w1 at *
      cases haw : kAw x
      · have HE : Hid ((tk.take (k + 1)).filter (fun u => kAw (R.th s.T u)) = f) := by
          rw [ES.out, haw, if_neg (by decide)]
          exact hid rfl
        go_wp2
        go_roundw
        case rel => exact ⟨k + 1, by omega, by go_num, by rw [HE.out]; exact ROW1.out, HB1.out⟩
        case measure => simp [intOf]; omega
      · have HE : Hid ((tk.take (k + 1)).filter (fun u => kAw (R.th s.T u)) = f ++ [y]) := by
          rw [ES.out, haw, if_pos rfl]
          exact hid rfl
        go_wp2_with (at_builtin; refine wpList_append_src rfl (.tmp 18) (.tmp 20) 25 rfl w.heap.size 3 i3 (.int .i64 0) 1 8 Try.underlying25 HI3.out.1 HI3.out.2.1 HI3.out.2.2.1 HI3.out.2.2.2 rfl (by decide) u3 f.length (intCells (Ln.ints f)) rfl (ROW1.out.alloc _) (some ⟨w1.heap.size, 0, none⟩) 1 1 [.int .i64 (y : Int)] rfl rfl (fun h => (by cases h)) (fun j u hj => ⟨_, rfl, (by rw [Addr.add_lit, Nat.zero_add, (Blk.new w1 #[.int .i64 (y : Int)] 3).cell]; simpa using hj)⟩) (by intro u hu; simp at hu; subst hu; rfl) (by unfold maxLen; omega) (by omega) (by simp; omega) ?_; intro v' w2 hown2 hg2; have O2 := hid hown2; have G2 := hid hg2; clear hown2 hg2)
        have HB2 : Hid (Below w.heap.size w w2) := (HB1.out.alloc (by omega) _).grown G2.out (by simp; omega) (fun g hg => (ownsRow_block ROW1.out hg).1)
        go_roundw
        case rel => exact ⟨k + 1, by omega, by go_num, by rw [HE.out, ints_snoc, List.length_append]; exact O2.out, HB2.out⟩
        case measure => simp [intOf]; omega
    · have e : k = tk.length := by omega
      subst e
      rw [List.take_length, EF.out] at ROW
      have hfl := List.length_filter_le (Ln.awakes s.T) tk
      have hfm : ∀ u ∈ tk.filter (Ln.awakes s.T), u < s.T.length := fun u hu => HLT.out u (List.mem_filter.1 hu).1
      have HFM := hid hfm
      clear hfm
      generalize tk.filter (Ln.awakes s.T) = f at *
      obtain ⟨a2, c2, rfl, _, hin2, _⟩ := IntsIn.of_owns (l := Ln.ints f) (by rw [Ln.ints_length]; exact ROW.out)
      rw [Ln.ints_length] at *
      have BYK := hid (BY.out wr HB.out a2 c2 f hin2 (by omega) HFM.out)
      clear hin2 BY
      go_wp2_with fail
      refine BYK.out.mono ?_
      rintro e w3 ⟨v, rfl, hr3, hb3⟩
      have R3 := hid hr3
      have HB3 := hid hb3
      clear hr3 hb3
      go_wp2
      go_ret
      refine ⟨_, rfl, ?_, via HB.out hsz HB3.out⟩
      rw [EL.out, Ln.byLv_length]
      exact ownsRow_mono R3.out hsz

set_option maxRecDepth 100000 in
set_option maxHeartbeats 1000000 in
theorem kWaitersInOrder_any (m : KMem F w kb h s tk wt ws) (hfew : s.T.length ≤ 16) (ok : R.LinksOk s) (hm8 : s.owner.length ≤ 8) (a : Ln.WtOk s wt) (what of_ : Int) :
    Calls Try.prog 88 #[.pointer (some ⟨kb, 0, none⟩), .int .i64 what, .int .i64 of_] w fun e w' => ∃ v, e = .returned v ∧ w'.ownsRow w.heap.size 3 1 v (Ln.lineW s wt what of_).length (intCells (Ln.ints (Ln.lineW s wt what of_))) ∧ Below w.heap.size w w' := by
  obtain ⟨ao, ca, hv, hin⟩ := m.wtIn
  have c7 := m.blk.cell 7
  simp [kCells] at c7
  rw [hv] at c7
  have hll : wt.length ≤ s.T.length := m.few a
  have HIN := hid hin
  have HLT : Hid (∀ u ∈ wt, u < s.T.length) := fun u hu => ((a.mem u).1 hu).1
  have M := hid m
  have BY := hid (fun wx (hb : Below w.heap.size w wx) ao ca l hl h1 h2 => kByLevel_any (m.below hb) hfew ok hm8 a ao ca l hl h1 h2)
  have EL : Hid (Ln.lineW s wt what of_ = Ln.byLv (R.Level s) (wt.filter (Ln.waitsFor s what of_))) := rfl
  clear m a hin hv ok
  generalize Ln.lineW s wt what of_ = res at *
  obtain ⟨i3, hi3, hz30, hz31, hz32⟩ := info_parts Try.infoInt
  have HI3 := hid (And.intro hi3 (And.intro hz30 (And.intro hz31 hz32)))
  clear hi3 hz30 hz31 hz32
  go_enter Try.func88, Try.ntmps88
  go_wp2
  go_loopw [7, 15] (fun v i wr => ∃ k : Nat, k ≤ wt.length ∧ i = .int .i64 k ∧ wr.ownsRow w.heap.size 3 1 v ((wt.take k).filter (Ln.waitsFor s what of_)).length (intCells (Ln.ints ((wt.take k).filter (Ln.waitsFor s what of_)))) ∧ Below w.heap.size w wr) (fun _ i _ => wt.length - (intOf i).toNat)
  case atStart => exact ⟨0, Nat.zero_le _, rfl, World.ownsRow_nil _ _ _ _, Below.refl _ _⟩
  case round =>
    obtain ⟨k, hk, rfl, hrow, hb⟩ := hrel
    have ROW1 := hid hrow
    have HB := hid hb
    have hsz := hb.size
    clear hrow hb
    by_cases hkl : k < wt.length
    · have hkI : (k : Int) < (wt.length : Int) := by omega
      obtain ⟨b, o, ha, hbl, hcell⟩ := HIN.out k (by rw [Ln.ints_length]; exact hkl)
      have e0 : (Ln.ints wt)[k]'(by rw [Ln.ints_length]; exact hkl) = (wt[k] : Int) := by simp [Ln.ints]
      rw [e0] at hcell
      have x1 : wr.cell? ⟨b, o + k, none⟩ = some (.int .i64 (wt[k] : Int)) := (HB.out.cell (p := ⟨b, o + k, none⟩) hbl).trans hcell
      subst ha
      have ES := hid (filter_take_succ hkl (Ln.waitsFor s what of_))
      have hfl := filter_take_le wt k (Ln.waitsFor s what of_)
      have htl := HLT.out wt[k] (List.getElem_mem hkl)
      have mK := M.out.below HB.out
      have c1 := mK.blk.cell 1
      simp [kCells] at c1
      have a9 := mK.tcell htl 10 (by decide)
      have a10 := mK.tcell htl 11 (by decide)
      simp [ktCells] at a9 a10
      have EW : Hid (Ln.waitsFor s what of_ wt[k] = (decide (s.T[wt[k]].for_ = what) && decide (s.T[wt[k]].of_ = of_))) := by
        unfold Ln.waitsFor
        rw [th_ext htl]
        exact hid rfl
      clear hcell e0 mK
      generalize s.T[wt[k]] = x at *
      generalize wt[k] = y at *
      generalize Ln.waitsFor s what of_ y = pu at *
      generalize (wt.take k).filter (Ln.waitsFor s what of_) = f at *
      have hutI : (y : Int) < (s.T.length : Int) := by omega
      cases h1 : (x.for_ == what)
      · have HE : Hid ((wt.take (k + 1)).filter (Ln.waitsFor s what of_) = f) := by
          have : pu = false := by rw [EW.out]; have h2 : ¬ x.for_ = what := by simpa using h1
                                  simp [h2]
          rw [ES.out, this, if_neg (by decide)]
          exact hid rfl
        go_wp2
        go_roundw
        case rel => exact ⟨k + 1, by omega, by go_num, by rw [HE.out]; exact ROW1.out, HB.out⟩
        case measure => simp [intOf]; omega
      · cases h2 : (x.of_ == of_)
        · have HE : Hid ((wt.take (k + 1)).filter (Ln.waitsFor s what of_) = f) := by
            have : pu = false := by rw [EW.out]; have h3 : ¬ x.of_ = of_ := by simpa using h2
                                    simp [h3]
            rw [ES.out, this, if_neg (by decide)]
            exact hid rfl
          go_wp2
          go_roundw
          case rel => exact ⟨k + 1, by omega, by go_num, by rw [HE.out]; exact ROW1.out, HB.out⟩
          case measure => simp [intOf]; omega
        · have HE : Hid ((wt.take (k + 1)).filter (Ln.waitsFor s what of_) = f ++ [y]) := by
            have : pu = true := by rw [EW.out]; have h3 : x.for_ = what := by simpa using h1
                                   have h4 : x.of_ = of_ := by simpa using h2
                                   simp [h3, h4]
            rw [ES.out, this, if_pos rfl]
            exact hid rfl
          go_wp2_with (at_builtin; refine wpList_append_src rfl (.tmp 43) (.tmp 45) 25 rfl w.heap.size 3 i3 (.int .i64 0) 1 8 Try.underlying25 HI3.out.1 HI3.out.2.1 HI3.out.2.2.1 HI3.out.2.2.2 rfl (by decide) u7 f.length (intCells (Ln.ints f)) rfl (ROW1.out.alloc _) (some ⟨wr.heap.size, 0, none⟩) 1 1 [.int .i64 (y : Int)] rfl rfl (fun h => (by cases h)) (fun j u hj => ⟨_, rfl, (by rw [Addr.add_lit, Nat.zero_add, (Blk.new wr #[.int .i64 (y : Int)] 3).cell]; simpa using hj)⟩) (by intro u hu; simp at hu; subst hu; rfl) (by unfold maxLen; omega) (by omega) (by simp; omega) ?_; intro v' w2 hown2 hg2; have O2 := hid hown2; have G2 := hid hg2; clear hown2 hg2)
          have HB2 : Hid (Below w.heap.size w w2) := (HB.out.alloc (by omega) _).grown G2.out (by simp; omega) (fun g hg => (ownsRow_block ROW1.out hg).1)
          go_roundw
          case rel => exact ⟨k + 1, by omega, by go_num, by rw [HE.out, ints_snoc, List.length_append]; exact O2.out, HB2.out⟩
          case measure => simp [intOf]; omega
    · have e : k = wt.length := by omega
      subst e
      rw [List.take_length] at ROW1
      have hfl := List.length_filter_le (Ln.waitsFor s what of_) wt
      have hfm : ∀ u ∈ wt.filter (Ln.waitsFor s what of_), u < s.T.length := fun u hu => HLT.out u (List.mem_filter.1 hu).1
      have HFM := hid hfm
      clear hfm
      generalize wt.filter (Ln.waitsFor s what of_) = f at *
      obtain ⟨a2, c2, rfl, _, hin2, _⟩ := IntsIn.of_owns (l := Ln.ints f) (by rw [Ln.ints_length]; exact ROW1.out)
      rw [Ln.ints_length] at *
      have BYK := hid (BY.out wr HB.out a2 c2 f hin2 (by omega) HFM.out)
      clear hin2 BY
      go_wp2_with fail
      refine BYK.out.mono ?_
      rintro e w3 ⟨v, rfl, hr3, hb3⟩
      have R3 := hid hr3
      have HB3 := hid hb3
      clear hr3 hb3
      go_wp2
      go_ret
      refine ⟨_, rfl, ?_, via HB.out hsz HB3.out⟩
      rw [EL.out, Ln.byLv_length]
      exact ownsRow_mono R3.out hsz

set_option maxRecDepth 100000 in
set_option maxHeartbeats 1000000 in
theorem kDueWaiters_any (m : KMem F w kb h s tk wt ws) (hfew : s.T.length ≤ 16) (a : Ln.WtOk s wt) :
    Calls Try.prog 103 #[.pointer (some ⟨kb, 0, none⟩)] w fun e w' => ∃ v, e = .returned v ∧ w'.ownsRow w.heap.size 3 1 v (Ln.dues s wt).length (intCells (Ln.ints (Ln.dues s wt))) ∧ Below w.heap.size w w' := by
  obtain ⟨ao, ca, hv, hin⟩ := m.wtIn
  have c7 := m.blk.cell 7
  simp [kCells] at c7
  rw [hv] at c7
  have hll : wt.length ≤ s.T.length := m.few a
  have HIN := hid hin
  have HLT : Hid (∀ u ∈ wt, u < s.T.length) := fun u hu => ((a.mem u).1 hu).1
  have M := hid m
  have EL : Hid (Ln.dues s wt = wt.filter (Ln.dueB s)) := rfl
  clear m a hin hv
  generalize Ln.dues s wt = res at *
  obtain ⟨i3, hi3, hz30, hz31, hz32⟩ := info_parts Try.infoInt
  have HI3 := hid (And.intro hi3 (And.intro hz30 (And.intro hz31 hz32)))
  clear hi3 hz30 hz31 hz32
  go_enter Try.func103, Try.ntmps103
  go_wp2
  go_loopw [3, 11] (fun v i wr => ∃ k : Nat, k ≤ wt.length ∧ i = .int .i64 k ∧ wr.ownsRow w.heap.size 3 1 v ((wt.take k).filter (Ln.dueB s)).length (intCells (Ln.ints ((wt.take k).filter (Ln.dueB s)))) ∧ Below w.heap.size w wr) (fun _ i _ => wt.length - (intOf i).toNat)
  case atStart => exact ⟨0, Nat.zero_le _, rfl, World.ownsRow_nil _ _ _ _, Below.refl _ _⟩
  case round =>
    obtain ⟨k, hk, rfl, hrow, hb⟩ := hrel
    have ROW := hid hrow
    have HB := hid hb
    have hsz := hb.size
    clear hrow hb
    by_cases hkl : k < wt.length
    · have hkI : (k : Int) < (wt.length : Int) := by omega
      obtain ⟨b, o, ha, hbl, hcell⟩ := HIN.out k (by rw [Ln.ints_length]; exact hkl)
      have e0 : (Ln.ints wt)[k]'(by rw [Ln.ints_length]; exact hkl) = (wt[k] : Int) := by simp [Ln.ints]
      rw [e0] at hcell
      have x1 : wr.cell? ⟨b, o + k, none⟩ = some (.int .i64 (wt[k] : Int)) := (HB.out.cell (p := ⟨b, o + k, none⟩) hbl).trans hcell
      subst ha
      have ES := hid (filter_take_succ hkl (Ln.dueB s))
      have hfl := filter_take_le wt k (Ln.dueB s)
      have htl := HLT.out wt[k] (List.getElem_mem hkl)
      have mK := M.out.below HB.out
      have c0 := mK.blk.cell 0
      have c1 := mK.blk.cell 1
      simp [kCells] at c0 c1
      have a11 := mK.tcell htl 12 (by decide)
      simp [ktCells] at a11
      have EW : Hid (Ln.dueB s wt[k] = decide (s.T[wt[k]].until_ = s.now)) := by
        unfold Ln.dueB
        rw [th_ext htl]
        exact hid rfl
      clear hcell e0 mK
      generalize s.T[wt[k]] = x at *
      generalize wt[k] = y at *
      generalize Ln.dueB s y = pu at *
      generalize (wt.take k).filter (Ln.dueB s) = f at *
      have hutI : (y : Int) < (s.T.length : Int) := by omega
      cases h1 : (x.until_ == s.now)
      · have HE : Hid ((wt.take (k + 1)).filter (Ln.dueB s) = f) := by
          have : pu = false := by rw [EW.out]; have h2 : ¬ x.until_ = s.now := by simpa using h1
                                  simp [h2]
          rw [ES.out, this, if_neg (by decide)]
          exact hid rfl
        go_wp2_with fail
        go_quiet (fail)
        go_wp2
        go_roundw
        case rel => exact ⟨k + 1, by omega, by go_num, by rw [HE.out]; exact ownsRow_same ROW.out fun _ _ => rfl, bdrewN HB.out _⟩
        case measure => simp [intOf]; omega
      · have HE : Hid ((wt.take (k + 1)).filter (Ln.dueB s) = f ++ [y]) := by
          have : pu = true := by rw [EW.out]; have h3 : x.until_ = s.now := by simpa using h1
                                 simp [h3]
          rw [ES.out, this, if_pos rfl]
          exact hid rfl
        go_wp2_with fail
        go_quiet (fail)
        have ROW1 : Hid ((wr.drewN nq).ownsRow w.heap.size 3 1 u3 f.length (intCells (Ln.ints f))) := ownsRow_same ROW.out fun _ _ => rfl
        have HB1 : Hid (Below w.heap.size w (wr.drewN nq)) := bdrewN HB.out nq
        have hsz1 : w.heap.size ≤ (wr.drewN nq).heap.size := hsz
        clear ROW HB x1 c0 c1 a11
        generalize wr.drewN nq = w1 at *
        go_wp2_with (at_builtin; refine wpList_append_src rfl (.tmp 29) (.tmp 31) 25 rfl w.heap.size 3 i3 (.int .i64 0) 1 8 Try.underlying25 HI3.out.1 HI3.out.2.1 HI3.out.2.2.1 HI3.out.2.2.2 rfl (by decide) u3 f.length (intCells (Ln.ints f)) rfl (ROW1.out.alloc _) (some ⟨w1.heap.size, 0, none⟩) 1 1 [.int .i64 (y : Int)] rfl rfl (fun h => (by cases h)) (fun j u hj => ⟨_, rfl, (by rw [Addr.add_lit, Nat.zero_add, (Blk.new w1 #[.int .i64 (y : Int)] 3).cell]; simpa using hj)⟩) (by intro u hu; simp at hu; subst hu; rfl) (by unfold maxLen; omega) (by omega) (by simp; omega) ?_; intro v' w2 hown2 hg2; have O2 := hid hown2; have G2 := hid hg2; clear hown2 hg2)
        have HB2 : Hid (Below w.heap.size w w2) := (HB1.out.alloc (by omega) _).grown G2.out (by simp; omega) (fun g hg => (ownsRow_block ROW1.out hg).1)
        go_roundw
        case rel => exact ⟨k + 1, by omega, by go_num, by rw [HE.out, ints_snoc, List.length_append]; exact O2.out, HB2.out⟩
        case measure => simp [intOf]; omega
    · have e : k = wt.length := by omega
      subst e
      rw [List.take_length, ← EL.out] at ROW
      go_wp2
      go_ret
      exact ⟨_, rfl, ROW.out, HB.out⟩
end

end Go.Proofs.Ytbkfildnijjioab
