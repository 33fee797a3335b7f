import Derived.Test.YtbkfildnijjioabA19
import Derived.Test.YtbkfildnijjioabA20
import Derived.Test.YtbkfildnijjioabA21
import Derived.Test.YtbkfildnijjioabA15
import Derived.Test.YtbkfildnijjioabA12
/-
  Walks over package donatekeep: lent.
-/
namespace Go.Proofs.Ytbkfildnijjioab
open Go.RowKit
section
variable {PK : KP} {B : Nat} {w : World} {wb kb : Nat} {P : Nat → Prop} {h : WH} {d : WD} {s : RS}
set_option maxRecDepth 100000 in
set_option maxHeartbeats 4000000 in
theorem wLent_any (c : CAll PK) (k : KWS PK B w wb kb P h d s) :
    Calls Try.prog 11 #[.pointer (some ⟨wb, 0, none⟩)] w fun e w' => e = .returned (.bool true) ∧ Below w.heap.size w w' := by
  have hfew := k.i.good.few
  have hpos := k.i.good.pos
  have hml : s.set.mutexes.length = s.owner.length := k.i.good.own.symm
  have hm8 : s.owner.length ≤ 8 := by have := k.i.good.mfew; omega
  have OK := hid (R.RInv.linksOk k.i)
  have K := hid k
  have ES0 := hid k.wd.co.set
  obtain ⟨i3, hi3, hz30, hz31, hz32⟩ := info_parts Try.infoInt
  have HI3 := hid (And.intro hi3 (And.intro hz30 (And.intro hz31 hz32)))
  obtain ⟨g0, cap0, cv, _, _⟩ := k.view
  clear hi3 hz30 hz31 hz32 k
  go_enter Try.func11, Try.ntmps11
  go_upto_region 3 with (at_make; refine wpList_make_full _ rfl _ _ 25 rfl w.heap.size 3 i3 (.int .i64 0) 1 Try.underlying25 HI3.out.1 HI3.out.2.1 HI3.out.2.2.1 .i64 .i64 _ _ s.T.length rfl rfl rfl rfl (by rw [HI3.out.2.2.2]; omega) (by unfold maxLen; omega) (Nat.le_refl _) ?_; intro w2 hown2 hg2; have O2 := hid hown2; have G2 := hid hg2; clear hown2 hg2)
  have hr2 : w2.ownsRow w.heap.size 3 1 (.slice (some ⟨w.heap.size, 0, none⟩) s.T.length s.T.length) s.T.length (intCells (R.atTo (fun i => (R.th s.T i).base) s.T.length 0)) := by
    have := O2.out
    have e : (madeCells (Value.int IntKind.i64 0).cells (s.T.length * 1)).toList = intCells (R.atTo (fun i => (R.th s.T i).base) s.T.length 0) := by
      rw [R.atTo_zero, Nat.mul_one]
      show (madeCells #[Value.int IntKind.i64 0] s.T.length).toList = _
      rw [toList_madeCells_one]
      simp [intCells]
    rwa [e] at this
  have R2 := hid hr2
  have hb2 : Below w.heap.size w w2 := (Below.refl _ _).grown G2.out (Nat.le_refl _) (by simp)
  have HB2 := hid hb2
  clear hr2 O2 G2 hb2 cv
  go_wp2
  go_loopw [5] (fun i wr => ∃ k : Nat, k ≤ s.T.length ∧ i = .int .i64 k ∧ wr.ownsRow w.heap.size 3 1 (.slice (some ⟨w.heap.size, 0, none⟩) s.T.length s.T.length) s.T.length (intCells (R.atTo (fun i => (R.th s.T i).base) s.T.length k)) ∧ Below w.heap.size w wr) (fun i _ => s.T.length - (intOf i).toNat)
  case atStart => exact ⟨0, Nat.zero_le _, rfl, R2.out, HB2.out⟩
  case round =>
    obtain ⟨k, hk, rfl, hrow, hb⟩ := hrel
    have ROW := hid hrow
    have HB := hid hb
    have MK := hid (K.out.below c.fr hb)
    clear hrow hb R2 HB2
    by_cases hkl : k < s.T.length
    · have hlA := R.atTo_length (fun i => (R.th s.T i).base) s.T.length k
      have x0 := wrow_get ROW.out hlA hkl
      have f0 := ROW.out.frozenAt k
      obtain ⟨gv, cv, cw, _, zv⟩ := MK.out.view
      have a1 := zv k hkl 1 (by decide)
      simp [vCells] at a1
      have eb : (viewD s k).base = (R.th s.T k).base := rfl
      rw [eb] at a1
      have r1 := wrow_set ROW.out k (R.th s.T k).base
      rw [R.atTo_set1 (fun i => (R.th s.T i).base) s.T.length k hkl] at r1
      have R1 := hid r1
      have HB1 : Hid (Below w.heap.size w (wr.setCell ⟨w.heap.size, k, none⟩ (.int .i64 (R.th s.T k).base))) := HB.out.setCell (Nat.le_refl _) _
      have hkI : (k : Int) < (s.T.length : Int) := by omega
      clear r1 zv eb
      generalize (R.atTo (fun i => (R.th s.T i).base) s.T.length k).getD k 0 = old at *
      generalize (R.th s.T k).base = ba at *
      go_wp2
      go_roundw
      case rel => exact ⟨k + 1, by omega, by go_num, R1.out, HB1.out⟩
      case measure => simp [intOf]; omega
    · have e : k = s.T.length := by omega
      subst e
      have hr0 := ROW.out
      rw [watTo_map s.T (fun x => x.base)] at hr0
      have R0 := hid (show wr.ownsRow w.heap.size 3 1 (.slice (some ⟨w.heap.size, 0, none⟩) s.T.length s.T.length) s.T.length (intCells (R.wantTo s 0)) from hr0)
      clear hr0 ROW
      go_wp2
      go_loopw [6] (fun i wr => ∃ k : Nat, k ≤ s.owner.length ∧ i = .int .i64 k ∧ wr.ownsRow w.heap.size 3 1 (.slice (some ⟨w.heap.size, 0, none⟩) s.T.length s.T.length) s.T.length (intCells (R.wantTo s k)) ∧ Below w.heap.size w wr) (fun i _ => s.owner.length - (intOf i).toNat)
      case atStart => exact ⟨0, Nat.zero_le _, rfl, R0.out, HB.out⟩
      case round =>
        obtain ⟨m, hm, rfl, hrow, hb⟩ := hrel
        have ROW := hid hrow
        have HB := hid hb
        have MK := hid (K.out.below c.fr hb)
        clear hrow hb R0
        have c3 := MK.out.k.m.blk.cell 3
        have c6 := MK.out.k.m.blk.cell 6
        simp [wCells] at c3 c6
        rw [ES0.out, hml] at c3
        by_cases hml2 : m < s.owner.length
        · have hmI : (m : Int) < (s.owner.length : Int) := by omega
          have hob := OK.out.own m hml2
          have C1 := hid (c.own P wr kb s MK.out.k.pk (m : Int))
          have ev : R.ownerV s (m : Int) = s.owner.getD m 0 := by unfold R.ownerV; rw [if_pos (by omega)]; rfl
          have ee : R.ownerE s (m : Int) = 0 := by unfold R.ownerE; rw [if_pos (by omega)]
          rw [ev, ee] at C1
          clear ev ee
          obtain ⟨ow, how⟩ : ∃ x, Hid (s.owner.getD m 0 = x) := ⟨_, hid rfl⟩
          rw [how.out] at C1 hob
          go_wp2_with fail
          refine C1.out.mono ?_
          rintro e w3 ⟨rfl, hb3⟩
          have HB3 := hid (via HB.out HB.out.size hb3)
          have K3 := hid (MK.out.below c.fr hb3)
          have ROW3 := hid (wrow_keep ROW.out hb3)
          have HLT3 : Hid (w.heap.size < w3.heap.size) := hid (by have := (ownsRow_block ROW3.out (g := w.heap.size) rfl).2.1; exact this)
          clear hb3 C1 c3 c6
          by_cases ho : ow = -1
          · subst ho
            have EW : Hid (R.wantTo s (m + 1) = R.wantTo s m) := by
              refine hid ?_
              show (if s.owner.getD m 0 < 0 then _ else _) = _
              rw [how.out, if_pos (by decide)]
            go_wp2
            go_roundw
            case rel => exact ⟨m + 1, by omega, by go_num, by rw [EW.out]; exact ROW3.out, HB3.out⟩
            case measure => simp [intOf]; omega
          · obtain ⟨o, rfl⟩ := Int.eq_ofNat_of_zero_le (show 0 ≤ ow by omega)
            have hol : o < s.T.length := by omega
            have hoI : (o : Int) < (s.T.length : Int) := by omega
            have hnn : ((o : Int) == -1) = false := by rw [beq_eq_false_iff_ne]; omega
            have hn1 : decide ((o : Int) < -1) = false := by rw [decide_eq_false_iff_not]; omega
            have hn2 : decide ((s.T.length : Int) ≤ (o : Int)) = false := by rw [decide_eq_false_iff_not]; omega
            have c3 := K3.out.k.m.blk.cell 3
            simp [wCells] at c3
            have hsm := K3.out.k.m.set
            rw [ES0.out] at c3 hsm
            rw [hml] at c3
            obtain ⟨bm, om, ham, hbm, z0, z1⟩ := hsm.mutexes m (by rw [hml]; exact hml2)
            rw [ham] at c3
            have epr : s.set.mutexes.getD m R.pair0 = s.set.mutexes[m]'(by rw [hml]; exact hml2) := by simp [List.getD, hml, hml2]
            rw [← epr] at z0 z1
            have EWT : Hid (R.wantTo s (m + 1) = R.wantIn s m o (R.wantTop s m o (R.wantTo s m)) s.T.length) := by
              refine hid ?_
              show (if s.owner.getD m 0 < 0 then _ else _) = _
              rw [how.out, if_neg (by omega)]
              rfl
            have ETP : Hid (R.wantTop s m o (R.wantTo s m) = if (s.set.mutexes.getD m R.pair0).x = 1 ∧ (R.wantTo s m).getD o 0 < (s.set.mutexes.getD m R.pair0).y then (R.wantTo s m).set o (s.set.mutexes.getD m R.pair0).y else R.wantTo s m) := hid rfl
            have EIN : Hid (∀ (l : List Int) (u : Nat), R.wantIn s m o l (u + 1) = if (s.set.mutexes.getD m R.pair0).x = 0 ∧ (R.th s.T u).for_ = 1 ∧ (R.th s.T u).of_ = (m : Int) ∧ (R.wantIn s m o l u).getD o 0 < R.Level s u then (R.wantIn s m o l u).set o (R.Level s u) else R.wantIn s m o l u) := hid (fun _ _ => rfl)
            obtain ⟨kd, hkd⟩ : ∃ x, Hid ((s.set.mutexes.getD m R.pair0).x = x) := ⟨_, hid rfl⟩
            obtain ⟨tp, htp⟩ : ∃ x, Hid ((s.set.mutexes.getD m R.pair0).y = x) := ⟨_, hid rfl⟩
            rw [hkd.out] at z0 ETP EIN
            rw [htp.out] at z1 ETP
            have hlw := R.wantTo_length s m
            have hx := wrow_get ROW3.out hlw hol
            have fx := ROW3.out.frozenAt o
            clear hsm epr ham
            obtain ⟨l0, hl0⟩ : ∃ x, Hid (R.wantTo s m = x) := ⟨_, hid rfl⟩
            rw [hl0.out] at ETP EWT ROW3 hlw hx
            go_upto_region 15 with fail
            have hbA : Below w3.heap.size w3 (w3.alloc (.cells #[.int .i64 kd, .int .i64 tp] 77)) := (Below.refl _ _).alloc (Nat.le_refl _) _
            have bA := Blk.new w3 #[.int .i64 kd, .int .i64 tp] 77
            generalize w3.alloc (.cells #[.int .i64 kd, .int .i64 tp] 77) = wA at hbA bA ⊢
            have KA := hid (K3.out.below c.fr hbA)
            have HBA := hid (via HB3.out HB3.out.size hbA)
            have ROWA := hid (wrow_keep ROW3.out hbA)
            have BA := hid bA
            have hsz3 := HB3.out.size
            have q0 := bA.cell 0
            have q1 := bA.cell 1
            simp at q0 q1
            clear hbA bA K3 ROW3 c3 z0 z1 hx fx
            have hx := wrow_get ROWA.out hlw hol
            have fx := ROWA.out.frozenAt o
            obtain ⟨lo, hlo⟩ : ∃ x, Hid (l0.getD o 0 = x) := ⟨_, hid rfl⟩
            rw [hlo.out] at hx ETP
            have hkd01 : (kd == 1) = true ∨ (kd == 1) = false := by cases (kd == 1) <;> simp
            have HNE : Hid (w3.heap.size ≠ w.heap.size) := hid (by have := HLT3.out; omega)
            rcases hkd01 with hk1 | hk1
            case' inl =>
              have hk1' : kd = 1 := by simpa using hk1
              by_cases hlt : lo < tp
              case' pos =>
                have EW : Hid (R.wantTo s (m + 1) = R.wantIn s m o (l0.set o tp) s.T.length) := by rw [EWT.out, ETP.out, if_pos ⟨hk1', hlt⟩]; exact hid rfl
                have HL1 : Hid ((l0.set o tp).length = s.T.length) := hid (by rw [List.length_set]; exact hlw)
                go_wp2_with fail
                go_quiet (fail)
                go_upto_region 17 with fail
                have rT := wrow_set (show (wA.drewN nq).ownsRow w.heap.size 3 1 (.slice (some ⟨w.heap.size, 0, none⟩) s.T.length s.T.length) s.T.length (intCells l0) from ROWA.out) o tp
                have hbT : Below w.heap.size w ((wA.drewN nq).setCell ⟨w.heap.size, o, none⟩ (.int .i64 tp)) := (bdrewN HBA.out nq).setCell (Nat.le_refl _) _
                have bT : Blk ((wA.drewN nq).setCell ⟨w.heap.size, o, none⟩ (.int .i64 tp)) w3.heap.size #[.int .i64 kd, .int .i64 tp] 77 := Blk.other (w := wA.drewN nq) BA.out (p := ⟨w.heap.size, o, none⟩) HNE.out _
                have ROWT := hid rT
                have HBT := hid hbT
                have BT := hid bT
                clear rT hbT bT hx fx q0 q1 hlt hk1 hk1' ROWA HBA BA KA hlo hl0 hlw
                generalize (wA.drewN nq).setCell ⟨w.heap.size, o, none⟩ (.int .i64 tp) = wT at ROWT HBT BT ⊢
                generalize l0.set o tp = l1 at EW ROWT HL1
              case' neg =>
                have EW : Hid (R.wantTo s (m + 1) = R.wantIn s m o l0 s.T.length) := by rw [EWT.out, ETP.out, if_neg (fun h => hlt h.2)]; exact hid rfl
                have HL1 : Hid (l0.length = s.T.length) := hid hlw
                go_wp2_with fail
                go_quiet (fail)
                go_upto_region 17 with fail
                have ROWT := hid (show (wA.drewN nq).ownsRow w.heap.size 3 1 (.slice (some ⟨w.heap.size, 0, none⟩) s.T.length s.T.length) s.T.length (intCells l0) from ROWA.out)
                have HBT := hid (bdrewN HBA.out nq)
                have BT := hid (show Blk (wA.drewN nq) w3.heap.size #[.int .i64 kd, .int .i64 tp] 77 from BA.out)
                clear hx fx q0 q1 hlt hk1 hk1' ROWA HBA BA KA hlo hl0 hlw
                generalize wA.drewN nq = wT at ROWT HBT BT ⊢
                generalize l0 = l1 at EW ROWT HL1
            case' inr =>
              have hk1' : kd ≠ 1 := by simpa using hk1
              have EW : Hid (R.wantTo s (m + 1) = R.wantIn s m o l0 s.T.length) := by rw [EWT.out, ETP.out, if_neg (fun h => hk1' h.1)]; exact hid rfl
              have HL1 : Hid (l0.length = s.T.length) := hid hlw
              go_wp2_with fail
              go_quiet (fail)
              go_upto_region 17 with fail
              have ROWT := hid (show (wA.drewN nq).ownsRow w.heap.size 3 1 (.slice (some ⟨w.heap.size, 0, none⟩) s.T.length s.T.length) s.T.length (intCells l0) from ROWA.out)
              have HBT := hid (bdrewN HBA.out nq)
              have BT := hid (show Blk (wA.drewN nq) w3.heap.size #[.int .i64 kd, .int .i64 tp] 77 from BA.out)
              clear hx fx q0 q1 hk1 hk1' ROWA HBA BA KA hlo hl0 hlw
              generalize wA.drewN nq = wT at ROWT HBT BT ⊢
              generalize l0 = l1 at EW ROWT HL1
            all_goals
              clear EWT ETP
              go_wp2
              go_loopw [10] (fun i wr => ∃ u : Nat, u ≤ s.T.length ∧ i = .int .i64 u ∧ wr.ownsRow w.heap.size 3 1 (.slice (some ⟨w.heap.size, 0, none⟩) s.T.length s.T.length) s.T.length (intCells (R.wantIn s m o l1 u)) ∧ Blk wr w3.heap.size #[.int .i64 kd, .int .i64 tp] 77 ∧ Below w.heap.size w wr) (fun i _ => s.T.length - (intOf i).toNat)
              case atStart => exact ⟨0, Nat.zero_le _, rfl, ROWT.out, BT.out, HBT.out⟩
              case round =>
                obtain ⟨u, hu, rfl, hrow, hblk, hb⟩ := hrel
                have ROW := hid hrow
                have HB := hid hb
                have BX := hid hblk
                have MK := hid (K.out.below c.fr hb)
                have q0 := hblk.cell 0
                have q1 := hblk.cell 1
                simp at q0 q1
                clear hrow hb hblk ROWT HBT BT
                by_cases hul : u < s.T.length
                · have huI : (u : Int) < (s.T.length : Int) := by omega
                  have ES := hid (EIN.out l1 u)
                  have hlw : Hid ((R.wantIn s m o l1 u).length = s.T.length) := hid ((R.wantIn_length s m o l1 u).trans HL1.out)
                  have hx := wrow_get ROW.out hlw.out hol
                  have fx := ROW.out.frozenAt o
                  obtain ⟨l2, hl2⟩ : ∃ x, Hid (R.wantIn s m o l1 u = x) := ⟨_, hid rfl⟩
                  rw [hl2.out] at ES hx ROW
                  obtain ⟨lo, hlo⟩ : ∃ x, Hid (l2.getD o 0 = x) := ⟨_, hid rfl⟩
                  rw [hlo.out] at ES hx
                  obtain ⟨gv, cv, cw, hgv, zv⟩ := MK.out.view
                  have a0 := zv u hul 0 (by decide)
                  have a1 := zv u hul 1 (by decide)
                  have a2 := zv u hul 2 (by decide)
                  have a3 := zv u hul 3 (by decide)
                  have a4 := zv u hul 4 (by decide)
                  have a5 := zv u hul 5 (by decide)
                  have a6 := zv u hul 6 (by decide)
                  have a7 := zv u hul 7 (by decide)
                  have a8 := zv u hul 8 (by decide)
                  have a9 := zv u hul 9 (by decide)
                  have a10 := zv u hul 10 (by decide)
                  simp [vCells] at a0 a1 a2 a3 a4 a5 a6 a7 a8 a9 a10
                  have e8 : Hid ((R.th s.T u).for_ = (viewD s u).for_) := hid rfl
                  have e9 : Hid ((R.th s.T u).of_ = (viewD s u).of_) := hid rfl
                  have e2 : Hid (R.Level s u = (viewD s u).lv) := hid rfl
                  rw [e8.out, e9.out, e2.out] at ES
                  generalize viewD s u = x at *
                  clear zv hgv
                  go_upto_region 21 with fail
                  have hbA : Below wr.heap.size wr (wr.alloc (.cells #[.int .i64 x.st, .int .i64 x.base, .int .i64 x.lv, .int .i64 x.at_, .int .i64 x.last, .int .i64 x.got, .int .i64 x.rel, .int .i64 x.ended, .int .i64 x.for_, .int .i64 x.of_, .int .i64 x.until_] 53)) := (Below.refl _ _).alloc (Nat.le_refl _) _
                  have bA := Blk.new wr #[.int .i64 x.st, .int .i64 x.base, .int .i64 x.lv, .int .i64 x.at_, .int .i64 x.last, .int .i64 x.got, .int .i64 x.rel, .int .i64 x.ended, .int .i64 x.for_, .int .i64 x.of_, .int .i64 x.until_] 53
                  have bM : Blk (wr.alloc (.cells #[.int .i64 x.st, .int .i64 x.base, .int .i64 x.lv, .int .i64 x.at_, .int .i64 x.last, .int .i64 x.got, .int .i64 x.rel, .int .i64 x.ended, .int .i64 x.for_, .int .i64 x.of_, .int .i64 x.until_] 53)) w3.heap.size #[.int .i64 kd, .int .i64 tp] 77 := BX.out.alloc _
                  generalize wr.alloc (.cells #[.int .i64 x.st, .int .i64 x.base, .int .i64 x.lv, .int .i64 x.at_, .int .i64 x.last, .int .i64 x.got, .int .i64 x.rel, .int .i64 x.ended, .int .i64 x.for_, .int .i64 x.of_, .int .i64 x.until_] 53) = wA at hbA bA bM ⊢
                  have ROWA := hid (wrow_keep ROW.out hbA)
                  have HBA := hid (via HB.out HB.out.size hbA)
                  have BM := hid bM
                  have p2 := bA.cell 2
                  have p8 := bA.cell 8
                  have p9 := bA.cell 9
                  have q0 := bM.cell 0
                  simp at p2 p8 p9 q0
                  clear hx fx a0 a1 a2 a3 a4 a5 a6 a7 a8 a9 a10 cw hbA bA bM MK BX ROW HB q1
                  have hx := wrow_get ROWA.out (by rw [← hl2.out]; exact hlw.out) hol
                  have fx := ROWA.out.frozenAt o
                  rw [hlo.out] at hx
                  by_cases hcond : kd = 0 ∧ x.for_ = 1 ∧ x.of_ = (m : Int) ∧ lo < x.lv
                  · obtain ⟨b1, b2, b3, b4⟩ := hcond
                    have EF : Hid (R.wantIn s m o l1 (u + 1) = l2.set o x.lv) := by rw [ES.out, if_pos ⟨b1, b2, b3, b4⟩]; exact hid rfl
                    have b1' : (kd == 0) = true := by simpa using b1
                    have b2' : (x.for_ == 1) = true := by simpa using b2
                    have b3' : (x.of_ == (m : Int)) = true := by simpa using b3
                    have r1 := wrow_set ROWA.out o x.lv
                    have R1 := hid r1
                    have HB1 : Hid (Below w.heap.size w (wA.setCell ⟨w.heap.size, o, none⟩ (.int .i64 x.lv))) := HBA.out.setCell (Nat.le_refl _) _
                    have B1 : Hid (Blk (wA.setCell ⟨w.heap.size, o, none⟩ (.int .i64 x.lv)) w3.heap.size #[.int .i64 kd, .int .i64 tp] 77) := hid (BM.out.other (p := ⟨w.heap.size, o, none⟩) HNE.out _)
                    clear r1 b1 b2 b3
                    go_wp2_with fail
                    go_quiet (fail)
                    go_wp2
                    go_roundw
                    case rel => exact ⟨u + 1, by omega, by go_num, by rw [EF.out]; exact ownsRow_same R1.out fun _ _ => rfl, B1.out, ⟨HB1.out.os, HB1.out.tape, HB1.out.output, HB1.out.size, HB1.out.block⟩⟩
                    case measure => simp [intOf]; omega
                  · have EF : Hid (R.wantIn s m o l1 (u + 1) = l2) := by rw [ES.out, if_neg hcond]; exact hid rfl
                    have hsub : (kd == 0) = false ∨ ((kd == 0) = true ∧ (x.for_ == 1) = false) ∨ ((kd == 0) = true ∧ (x.for_ == 1) = true ∧ (x.of_ == (m : Int)) = false) ∨ ((kd == 0) = true ∧ (x.for_ == 1) = true ∧ (x.of_ == (m : Int)) = true ∧ decide (lo < x.lv) = false) := by
                      simp only [beq_eq_false_iff_ne, beq_iff_eq, decide_eq_false_iff_not]
                      omega
                    clear hcond
                    rcases hsub with b1 | ⟨b1, b2⟩ | ⟨b1, b2, b3⟩ | ⟨b1, b2, b3, b4⟩
                    all_goals
                      go_wp2_with fail
                      go_quiet (fail)
                      go_wp2
                      go_roundw
                      case rel => exact ⟨u + 1, by omega, by go_num, by rw [EF.out]; exact ownsRow_same ROWA.out fun _ _ => rfl, BM.out, bdrewN HBA.out _⟩
                      case measure => simp [intOf]; omega
                · have e : u = s.T.length := by omega
                  subst e
                  go_wp2
                  go_roundw
                  case rel => exact ⟨m + 1, by omega, by go_num, by rw [EW.out]; exact ROW.out, HB.out⟩
                  case measure => simp [intOf]; omega
        · have e : m = s.owner.length := by omega
          subst e
          have hrl := ROW.out
          rw [R.wantTo_levels OK.out] at hrl
          have RL := hid hrl
          clear hrl ROW
          go_wp2
          go_loopw [12] (fun i wr => ∃ u : Nat, u ≤ s.T.length ∧ i = .int .i64 u ∧ wr.ownsRow w.heap.size 3 1 (.slice (some ⟨w.heap.size, 0, none⟩) s.T.length s.T.length) s.T.length (intCells (R.levels s)) ∧ Below w.heap.size w wr) (fun i _ => s.T.length - (intOf i).toNat)
          case atStart => exact ⟨0, Nat.zero_le _, rfl, RL.out, HB.out⟩
          case round =>
            obtain ⟨u, hu, rfl, hrow, hb⟩ := hrel
            have ROW := hid hrow
            have HB := hid hb
            have MK := hid (K.out.below c.fr hb)
            clear hrow hb RL
            by_cases hul : u < s.T.length
            · have huI : (u : Int) < (s.T.length : Int) := by omega
              have hx := wrow_get ROW.out (by simp [R.levels]) hul
              have elv : (R.levels s).getD u 0 = (viewD s u).lv := by simp [R.levels, List.getD, hul, viewD]
              rw [elv] at hx
              obtain ⟨gv, cv, cw, hgv, zv⟩ := MK.out.view
              have a2 := zv u hul 2 (by decide)
              simp [vCells] at a2
              generalize (viewD s u).lv = lv at *
              have hne : (lv != lv) = false := by simp
              clear zv hgv elv
              go_wp2_with fail
              go_quiet (fail)
              go_wp2
              go_roundw
              case rel => exact ⟨u + 1, by omega, by go_num, ownsRow_same ROW.out fun _ _ => rfl, bdrewN HB.out _⟩
              case measure => simp [intOf]; omega
            · go_wp2
              go_ret
              exact ⟨rfl, HB.out⟩
end
end Go.Proofs.Ytbkfildnijjioab

/-
  Lent: the law's own function.
-/
namespace Go.Proofs.Ytbkfildnijjioab
open Go.RowKit
set_option maxRecDepth 100000 in
set_option maxHeartbeats 2000000 in
theorem lawLent_any {PK : KP} (c : CAll PK) (tv mv sv qv av : Option Addr) (tc mc sc qc ac : Nat) (S : SetD) (l : List Int) (w : World) (hS : SetIn w.heap.size w tv mv sv qv S) (hF : Fits S) (hnil : (tv = none → tc = 0) ∧ (mv = none → mc = 0) ∧ (sv = none → sc = 0) ∧ (qv = none → qc = 0)) (hl : IntsIn w.heap.size w av l) (hll : l.length ≤ 9223372036854775807) :
    Calls Try.prog 3 #[.agg #[.int .i64 S.workers, .int .i64 S.start, .slice tv S.threads.length tc, .slice mv S.mutexes.length mc, .slice sv S.sems.length sc, .slice qv S.queues.length qc], .slice av l.length ac] w fun e w' =>
      e = .returned (.bool true) ∧ Below w.heap.size w w' := by
  have HS := hid hS
  have HF := hid hF
  have HN := hid hnil
  have HL := hid hl
  clear hS hF hnil hl
  go_enter Try.func3, Try.ntmps3
  by_cases hlong : l.length ≤ 1099511627776
  · have hlI : (l.length : Int) ≤ 1099511627776 := by omega
    go_wp2_with fail
    have hb0 : Below w.heap.size w (w.alloc (.cells #[.int .i64 S.workers, .int .i64 S.start, .slice tv S.threads.length tc, .slice mv S.mutexes.length mc, .slice sv S.sems.length sc, .slice qv S.queues.length qc] 27)) := (Below.refl _ _).alloc (Nat.le_refl _) _
    have hsz0 : w.heap.size ≤ (w.alloc (.cells #[.int .i64 S.workers, .int .i64 S.start, .slice tv S.threads.length tc, .slice mv S.mutexes.length mc, .slice sv S.sems.length sc, .slice qv S.queues.length qc] 27)).heap.size := by simp
    generalize w.alloc (.cells #[.int .i64 S.workers, .int .i64 S.start, .slice tv S.threads.length tc, .slice mv S.mutexes.length mc, .slice sv S.sems.length sc, .slice qv S.queues.length qc] 27) = w0 at hb0 hsz0 ⊢
    refine (wBeginS_any c tv mv sv qv tc mc sc qc S w0 (HS.out.later hb0) HF.out HN.out).mono ?_
    rintro e w1 ⟨hb1, hcase⟩
    have HB1 := hid (via hb0 hb0.size hb1)
    have hsz1 := hb1.size
    clear hb0 hb1
    rcases hcase with ⟨_, rfl⟩ | ⟨herr, hnx, B, wb, kb, P, h, hB, rfl, ks⟩
    · go_wp2
      go_ret
      exact ⟨rfl, HB1.out⟩
    · have K1 := hid ks
      have HBB : Hid (w.heap.size ≤ B) := hid (by omega)
      clear ks hB
      go_wp2_with fail
      refine (wLent_any c K1.out).mono ?_
      rintro e w2 ⟨rfl, hb2⟩
      have K2 := hid (K1.out.below c.fr hb2)
      have HB2 := hid (via HB1.out HB1.out.size hb2)
      clear hb2 K1
      go_wp2
      go_loopw [6, 7] (fun b i wr => ∃ (k : Nat) (s : RS) (d : WD) (P : Nat → Prop) (h : WH), k ≤ l.length ∧ b = .bool true ∧ i = .int .i64 k ∧ KWS PK B wr wb kb P h d s ∧ s.next ≤ 16 + 33 * k ∧ d.steps = k ∧ Below w.heap.size w wr) (fun _ i _ => l.length - (intOf i).toNat)
      case atStart => exact ⟨0, R.new S, firstD S, P, h, Nat.zero_le _, rfl, rfl, K2.out, by omega, rfl, HB2.out⟩
      case round =>
        obtain ⟨k, s, d, P, h, hk, rfl, rfl, hks, hnk, hst, hbk⟩ := hrel
        have KK := hid hks
        have HBK := hid hbk
        have HST := hid hst
        clear hks hbk hst K2 HB2
        by_cases hkl : k < l.length
        · obtain ⟨ab, aoff, ha, hab, hcell⟩ := HL.out k hkl
          subst ha
          have hcell' : wr.cell? ⟨ab, aoff + k, none⟩ = some (.int .i64 l[k]) := (HBK.out.cell (p := ⟨ab, aoff + k, none⟩) hab).trans hcell
          have hkI : (k : Int) < (l.length : Int) := by omega
          have hen := entry_next s l[k] KK.out.i
          have ESD := hid (stepD_steps d s l[k])
          generalize l[k] = x at *
          have ST := hid (wStepS_any c KK.out (by omega) (by rw [HST.out]; omega) (by rw [HST.out]; omega) x)
          go_wp2_with fail
          refine ST.out.mono ?_
          rintro e w3 ⟨rfl, ⟨P', h', k3⟩, hb3⟩
          have K3 := hid k3
          have HB3 := hid (HBK.out.trans (hb3.mono HBB.out))
          clear k3 hb3 hcell' ST
          go_wp2_with fail
          refine (wLent_any c K3.out).mono ?_
          rintro e w4 ⟨rfl, hb4⟩
          have K4 := hid (K3.out.below c.fr hb4)
          have HB4 := hid (via HB3.out HB3.out.size hb4)
          clear hb4 K3 HB3
          go_wp2
          go_roundw
          case rel => exact ⟨k + 1, R.entry s x, stepD d s x, P', h', by omega, rfl, by go_num, K4.out, by omega, by rw [ESD.out, HST.out]; omega, HB4.out⟩
          case measure => simp [intOf]; omega
        · have e : k = l.length := by omega
          subst e
          go_wp2
          go_ret
          exact ⟨rfl, HBK.out⟩
  · have hlI : (1099511627776 : Int) < (l.length : Int) := by omega
    go_wp2
    go_ret
    exact ⟨rfl, (Below.refl _ _).alloc (Nat.le_refl _) _⟩
end Go.Proofs.Ytbkfildnijjioab

/-
  Lent: the given statement out of the walk. (Written by wip/mkkeep.py.)
-/
namespace Go.Proofs.Ytbkfildnijjioab
open Go.ChangeShapes Go.WideShapes Go.ChangeAt Go.RowKit Go.Deep

set_option maxRecDepth 100000 in
theorem lent_lifted {PK : KP} (c : CAll PK) (os : Os) (started : os.Started) (H : Type) (enc : TypeId × Value → H) :
    ReturnsInHanded {} Try.checked os 3 .any (Rows.lentSpec.pre6 enc Try.prog Try.f3 Rows.lentRow.domain false) (Rows.lentSpec.post enc Try.prog Try.f3 false true false false) := by
  refine returnsInHanded_of_change_sized (C := Try.checked) Try.own started (by kernel_rfl) Try.func3
    (ChangeSpec.witness6 (enc := enc) (C := Try.checked) false ⟨#[], #[.agg #[.int .i64 0, .int .i64 0, .slice none 0 0, .slice none 0 0, .slice none 0 0, .slice none 0 0], .slice none 0 0], []⟩ 8 (by kernel_rfl) (by kernel_rfl) (by kernel_rfl) (by kernel_rfl)) ?_
  intro W base args ds gs before hval0 hW _ hsz0 _
  have hval : ∀ (j : Nat) t v, Try.f3.params[j]? = some t → args[j]? = some v → Value.okWide Try.prog W .any base t v := hval0
  have hsz : (DataW.weightsEach Try.prog (Try.f3.params.toList ++ Rows.lentSpec.plain.varTypes Try.prog) (ds ++ gs)).all (· ≤ reachBytes) = true := hsz0
  have hW' := hW
  obtain ⟨p, q, hA0, hV, rfl, hfz, hnd⟩ := hW
  have hA : DataW.TrodAll enc Try.prog W 0 (fun _ => true) true Try.f3.params.toList args.toList ds p := hA0
  rw [Try.params3] at hA hval hsz
  obtain ⟨v0, v1, d0, d1, p0, p1, rfl, rfl, rfl, h0, h1⟩ := trodAll_two hA
  obtain ⟨rfl, rfl⟩ := trodVars_none hV
  clear hA0 hval0 hsz0
  have hlight : Light d0 27 := by
    intro n hn
    have := List.all_eq_true.1 hsz n (DataW.weights_mem_each (j := 0) rfl rfl n hn)
    simpa using this
  have hlight1 : Light d1 25 := by
    intro n hn
    have := List.all_eq_true.1 hsz n (DataW.weights_mem_each (j := 1) rfl rfl n hn)
    simpa using this
  obtain ⟨S, tv, mv, sv, qv, tc, mc, sc, qc, hv, hin, hfit, hnil⟩ := open_set (hval 0 27 v0 rfl rfl) h0 hlight
  subst hv
  obtain ⟨av, ac, l, hv, hil, hll⟩ := open_script (hval 1 25 v1 rfl rfl) h1 hlight1
  subst hv
  unfold reachBytes at hll
  simp only [List.append_nil] at hW'
  refine (lawLent_any c tv mv sv qv av tc mc sc qc ac S l W hin hfit hnil hil (by omega)).mono fun e W' ⟨he, hb⟩ => ?_
  subst he
  refine ⟨_, rfl, _, _, _, [], p0 ++ p1, [], hW', ?_, ?_, rfl, hb.frame _, fun h => by cases h⟩
  · exact trodAll_mk1 (shut_bool Try.underlying4 _)
  · exact trodAll_mk2 (Below.trod Try.laidOut (by kernel_rfl) (of_decide_eq_true (by kernel_rfl)) h0 hb (fun x hx => hW'.lt x (by simp; exact .inl hx))) (Below.trod Try.laidOut (by kernel_rfl) (of_decide_eq_true (by kernel_rfl)) h1 hb (fun x hx => hW'.lt x (by simp; exact .inr hx)))

theorem lent_of {PK : KP} (c : CAll PK) : Rows.LentSaid :=
  OpenClaim.holds_of_wide 3 Try.f3 rfl rfl rfl rfl rfl rfl rfl ⟨rfl, rfl, rfl, rfl, rfl⟩ rfl rfl rfl rfl rfl (by kernel_rfl) Try.func3 (by kernel_rfl)
    (of_decide_eq_true (by kernel_rfl)) (by unfold Func.isWrapper; first | (rw [if_pos (by decide +kernel)]; kernel_rfl) | (rw [if_neg (by decide +kernel)]; exact ⟨rfl, rfl⟩))
    (fun os started H enc _ => lent_lifted c os started H enc)

end Go.Proofs.Ytbkfildnijjioab

/-
  Lent, of this program.
-/
namespace Go.Proofs.Ytbkfildnijjioab

theorem lent_holds : Rows.LentSaid := lent_of cAll

end Go.Proofs.Ytbkfildnijjioab
