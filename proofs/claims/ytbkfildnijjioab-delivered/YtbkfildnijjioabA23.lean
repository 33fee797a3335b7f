import Derived.Test.YtbkfildnijjioabA22
import Derived.BigQuiet
import Derived.Test.YtbkfildnijjioabA21
import Derived.Test.YtbkfildnijjioabA10
/-
  Walks over package donatekeep: line.
-/
namespace Go.Proofs.Ytbkfildnijjioab
open Go.RowKit
section
variable {PK : KP} {B : Nat} {w : World} {wb kb : Nat} {P : Nat → Prop} {h : WH} {d : WD} {s : RS}
/-- The steps at which waits began. -/
theorem KWS.since (k : KWS PK B w wb kb P h d s) : ∃ g cap, w.cell? ⟨wb, 11, none⟩ = some (.slice (some ⟨g, 0, none⟩) s.T.length cap) ∧ g < w.heap.size ∧ ∀ t, t < s.T.length → w.cell? ⟨g, t, none⟩ = some (.int .i64 (d.since.getD t 0)) := by
  have c := k.k.m.blk.cell 11
  simp [wCells] at c
  have hl := k.wd.since
  have hp := k.i.good.pos
  obtain ⟨g, cap, hv, hg, hc, _⟩ := row_at k.k.m.since (by omega)
  refine ⟨g, cap, by rw [c, hv, hl], hg, fun t ht => ?_⟩
  rw [hc t (by omega)]
  have : t < d.since.length := by omega
  simp [List.getD, this]
set_option maxRecDepth 100000 in
set_option maxHeartbeats 4000000 in
theorem wLine_any (c : CAll PK) (k : KWS PK B w wb kb P h d s) (what i : Int) (hw : what ≠ 0) (hi0 : 0 ≤ i) (hi1 : i < R.things s what) :
    Calls Try.prog 37 #[.pointer (some ⟨wb, 0, none⟩), .int .i64 what, .int .i64 i] w fun e w' => ∃ v, e = .returned (.tuple #[v, .bool true]) ∧ w'.ownsRow w.heap.size 3 1 v (R.waiting s what i).length (intCells (R.waiting s what i)) ∧ Below w.heap.size w w' := by
  have hfew := k.i.good.few
  have hpos := k.i.good.pos
  obtain ⟨_, tk, wt, _, ax⟩ := c.aux k.k.pk
  have LO := hid (line_ok (d := d) ax k.snc what i hw)
  have K := hid k
  have C1 := hid (c.wait P w kb s k.k.pk what i)
  have e1 : R.waitE s what i = 0 := by unfold R.waitE; rw [if_neg (by omega)]
  have e2 : R.waitL s what i = R.waiting s what i := by unfold R.waitL; rw [if_neg (by omega)]
  rw [e1, e2] at C1
  have y6 := k.k.m.blk.cell 6
  simp [wCells] at y6
  obtain ⟨L, hL⟩ : ∃ x, Hid (R.waiting s what i = x) := ⟨_, hid rfl⟩
  rw [hL.out] at C1 LO ⊢
  clear k ax e1 e2 hL
  go_enter Try.func37, Try.ntmps37
  go_wp2_with fail
  refine C1.out.mono ?_
  rintro e w1 ⟨v, rfl, hr1, hb1⟩
  obtain ⟨ar, cr, rfl, _, _⟩ := owns_cells hr1
  have R1 := hid hr1
  have HB1 := hid hb1
  have hsz1 := hb1.size
  have K1 := hid (K.out.below c.fr hb1)
  have hcl := cntW_le s what i s.T.length
  have hLl : L.length ≤ 16 := by have := LO.out.len; omega
  clear hr1 hb1 C1 y6
  go_wp2
  go_loopw [10, 11] (fun a i' wr => ∃ t : Nat, t ≤ s.T.length ∧ i' = .int .i64 t ∧ a = .int .i64 (cntW s what i t) ∧ wr = w1) (fun _ i' _ => s.T.length - (intOf i').toNat)
  case atStart => exact ⟨0, Nat.zero_le _, rfl, rfl, rfl⟩
  case round =>
    obtain ⟨t, ht, rfl, rfl, hwr⟩ := hrel
    have hwr2 := hwr.symm
    subst hwr2
    clear hwr
    obtain ⟨gv, cv, cw, hgv, zv⟩ := K1.out.view
    by_cases htl : t < s.T.length
    · have htI : (t : Int) < (s.T.length : Int) := by omega
      have a8 := zv t htl 8 (by decide)
      have a9 := zv t htl 9 (by decide)
      simp [vCells] at a8 a9
      have CS := hid (cntW_succ s what i t)
      have hct := cntW_le s what i t
      have e8 : (viewD s t).for_ = (R.th s.T t).for_ := rfl
      have e9 : (viewD s t).of_ = (R.th s.T t).of_ := rfl
      rw [e8] at a8
      rw [e9] at a9
      generalize cntW s what i t = cn at *
      generalize (R.th s.T t).for_ = fo at *
      generalize (R.th s.T t).of_ = oo at *
      clear zv hgv e8 e9
      by_cases h1 : fo = what
      · have b1 : (fo == what) = true := by simpa using h1
        by_cases h2 : oo = i
        · have b2 : (oo == i) = true := by simpa using h2
          have F : Hid (cntW s what i (t + 1) = cn + 1) := by rw [CS.out, if_pos ⟨h1, h2⟩]; exact hid rfl
          clear h1 h2
          go_wp2
          go_roundw
          case rel => exact ⟨t + 1, by omega, by go_num, by rw [F.out]; go_num, by first | rfl | trivial⟩
          case measure => simp [intOf]; omega
        · have b2 : (oo == i) = false := by simpa using h2
          have F : Hid (cntW s what i (t + 1) = cn) := by rw [CS.out, if_neg (fun h => h2 h.2)]; exact hid rfl
          clear h1 h2
          go_wp2
          go_roundw
          case rel => exact ⟨t + 1, by omega, by go_num, by rw [F.out], by first | rfl | trivial⟩
          case measure => simp [intOf]; omega
      · have b1 : (fo == what) = false := by simpa using h1
        have F : Hid (cntW s what i (t + 1) = cn) := by rw [CS.out, if_neg (fun h => h1 h.1)]; exact hid rfl
        clear h1
        go_wp2
        go_roundw
        case rel => exact ⟨t + 1, by omega, by go_num, by rw [F.out], by first | rfl | trivial⟩
        case measure => simp [intOf]; omega
    · have e : t = s.T.length := by omega
      subst e
      clear zv hgv
      have EL := hid LO.out.len
      rw [← EL.out]
      have hne : ((L.length : Int) != (L.length : Int)) = false := by simp
      go_wp2
      clear hne cw
      go_loopw [12] (fun i' wr => ∃ j : Nat, j ≤ L.length ∧ i' = .int .i64 j ∧ Below w1.heap.size w1 wr) (fun i' _ => L.length - (intOf i').toNat)
      case atStart => exact ⟨0, Nat.zero_le _, rfl, Below.refl _ _⟩
      case round =>
        obtain ⟨j, hj, rfl, hbj⟩ := hrel
        have KJ := hid (K1.out.below c.fr hbj)
        have HBJ := hid hbj
        have RJ := hid (wrow_keep R1.out hbj)
        have hszj := hbj.size
        clear hbj
        by_cases hjl : j < L.length
        · have hjI : (j : Int) < (L.length : Int) := by omega
          obtain ⟨gl, cl, hvl, hgl, zl, _⟩ := row_at RJ.out (by omega)
          simp at hvl
          obtain ⟨har, hcr⟩ := hvl
          subst har hcr
          obtain ⟨u, hu, hlu, hf, ho⟩ := LO.out.mem j hjl
          have zj := zl j hjl
          rw [hlu] at zj
          have huI : (u : Int) < (s.T.length : Int) := by omega
          have g0 : decide ((u : Int) < 0) = false := by rw [decide_eq_false_iff_not]; omega
          have g1 : decide ((s.T.length : Int) ≤ (u : Int)) = false := by rw [decide_eq_false_iff_not]; omega
          obtain ⟨gv, cv, cw, hgv, zv⟩ := KJ.out.view
          have GL := hid hgl
          have ZL := hid zl
          clear zv zl hgl
          go_wp2_with fail
          go_quiet (fail)
          have KQ := hid (KJ.out.below c.fr (bdrewN (Below.refl _ _) nq))
          have HBQ := hid (bdrewN HBJ.out nq)
          have RQ : Hid ((wr.drewN nq).ownsRow w.heap.size 3 1 (.slice (some ⟨gl, 0, none⟩) L.length cr) L.length (intCells L)) := RJ.out
          have zj : (wr.drewN nq).cell? ⟨gl, j, none⟩ = some (.int .i64 (u : Int)) := zj
          have hgl : gl < (wr.drewN nq).heap.size := GL.out
          have ZLQ : Hid (∀ i (hi : i < L.length), (wr.drewN nq).cell? ⟨gl, i, none⟩ = some (.int .i64 L[i])) := ZL.out
          clear KJ HBJ RJ cw g0 g1 GL ZL
          generalize wr.drewN nq = wQ at *
          obtain ⟨gv, cv, cw, hgv, zv⟩ := KQ.out.view
          have b0 := zv u hu 0 (by decide)
          have b1 := zv u hu 1 (by decide)
          have b2 := zv u hu 2 (by decide)
          have b3 := zv u hu 3 (by decide)
          have b4 := zv u hu 4 (by decide)
          have b5 := zv u hu 5 (by decide)
          have b6 := zv u hu 6 (by decide)
          have b7 := zv u hu 7 (by decide)
          have b8 := zv u hu 8 (by decide)
          have b9 := zv u hu 9 (by decide)
          have b10 := zv u hu 10 (by decide)
          simp [vCells] at b0 b1 b2 b3 b4 b5 b6 b7 b8 b9 b10
          have e8 : Hid ((viewD s u).for_ = what) := hid hf
          have e9 : Hid ((viewD s u).of_ = i) := hid ho
          have e0 : Hid ((viewD s u).st = 3) := hid ((st3 s u).2 (by rw [hf]; exact hw))
          have e2 : Hid ((viewD s u).lv = R.Level s u) := hid rfl
          generalize viewD s u = xb at *
          have hwl := KQ.out.k.m.blk.lt
          have n1 : wb ≠ wQ.heap.size := by omega
          have n2 : gv ≠ wQ.heap.size := by omega
          have n3 : gl ≠ wQ.heap.size := by omega
          clear zv
          go_wp2_with fail
          go_region_held3 (fun w' => w'.cell? ⟨wb, 12, none⟩ = some (.slice (some ⟨gv, 0, none⟩) s.T.length cv) ∧ w'.cell? ⟨gl, j, none⟩ = some (.int .i64 (u : Int)) ∧ w'.cell? ⟨gv, u * 11, none⟩ = some (.int .i64 xb.st) ∧ w'.cell? ⟨gv, u * 11 + 1, none⟩ = some (.int .i64 xb.base) ∧ w'.cell? ⟨gv, u * 11 + 2, none⟩ = some (.int .i64 xb.lv) ∧ w'.cell? ⟨gv, u * 11 + 3, none⟩ = some (.int .i64 xb.at_) ∧ w'.cell? ⟨gv, u * 11 + 4, none⟩ = some (.int .i64 xb.last) ∧ w'.cell? ⟨gv, u * 11 + 5, none⟩ = some (.int .i64 xb.got) ∧ w'.cell? ⟨gv, u * 11 + 6, none⟩ = some (.int .i64 xb.rel) ∧ w'.cell? ⟨gv, u * 11 + 7, none⟩ = some (.int .i64 xb.ended) ∧ w'.cell? ⟨gv, u * 11 + 8, none⟩ = some (.int .i64 xb.for_) ∧ w'.cell? ⟨gv, u * 11 + 9, none⟩ = some (.int .i64 xb.of_) ∧ w'.cell? ⟨gv, u * 11 + 10, none⟩ = some (.int .i64 xb.until_)) (go_keep) (fail)
          have hbA : Below wQ.heap.size wQ (wQ.alloc (.cells #[.int .i64 xb.st, .int .i64 xb.base, .int .i64 xb.lv, .int .i64 xb.at_, .int .i64 xb.last, .int .i64 xb.got, .int .i64 xb.rel, .int .i64 xb.ended, .int .i64 xb.for_, .int .i64 xb.of_, .int .i64 xb.until_] 53)).drew := ((Below.refl _ _).alloc (Nat.le_refl _) _).drew
          have bA : Blk (wQ.alloc (.cells #[.int .i64 xb.st, .int .i64 xb.base, .int .i64 xb.lv, .int .i64 xb.at_, .int .i64 xb.last, .int .i64 xb.got, .int .i64 xb.rel, .int .i64 xb.ended, .int .i64 xb.for_, .int .i64 xb.of_, .int .i64 xb.until_] 53)).drew wQ.heap.size #[.int .i64 xb.st, .int .i64 xb.base, .int .i64 xb.lv, .int .i64 xb.at_, .int .i64 xb.last, .int .i64 xb.got, .int .i64 xb.rel, .int .i64 xb.ended, .int .i64 xb.for_, .int .i64 xb.of_, .int .i64 xb.until_] 53 := Blk.new wQ #[.int .i64 xb.st, .int .i64 xb.base, .int .i64 xb.lv, .int .i64 xb.at_, .int .i64 xb.last, .int .i64 xb.got, .int .i64 xb.rel, .int .i64 xb.ended, .int .i64 xb.for_, .int .i64 xb.of_, .int .i64 xb.until_] 53
          generalize (wQ.alloc (.cells #[.int .i64 xb.st, .int .i64 xb.base, .int .i64 xb.lv, .int .i64 xb.at_, .int .i64 xb.last, .int .i64 xb.got, .int .i64 xb.rel, .int .i64 xb.ended, .int .i64 xb.for_, .int .i64 xb.of_, .int .i64 xb.until_] 53)).drew = wA at hbA bA ⊢
          have KA := hid (KQ.out.below c.fr hbA)
          have HBA := hid (via HBQ.out HBQ.out.size hbA)
          have RA := hid (wrow_keep RQ.out hbA)
          have BA := hid bA
          have hglA : gl < wA.heap.size := by have := hbA.size; omega
          have ZLA : Hid (∀ i (hi : i < L.length), wA.cell? ⟨gl, i, none⟩ = some (.int .i64 L[i])) := hid (fun i hi => (hbA.cell (p := ⟨gl, i, none⟩) hgl).trans (ZLQ.out i hi))
          have hszA := hbA.size
          clear hbA bA cw b0 b1 b2 b3 b4 b5 b6 b7 b8 b9 b10 zj KQ HBQ RQ n1 n2 n3 hgv hwl hgl
          have p0 := BA.out.cell 0
          have p2 := BA.out.cell 2
          have p8 := BA.out.cell 8
          have p9 := BA.out.cell 9
          simp at p0 p2 p8 p9
          rw [e0.out] at p0
          rw [e8.out] at p8
          rw [e9.out] at p9
          have f8 : (what != what) = false := by simp
          have f9 : (i != i) = false := by simp
          by_cases hj0 : j = 0
          · subst hj0
            go_wp2
            go_roundw
            case rel => exact ⟨1, by omega, by go_num, HBA.out⟩
            case measure => simp [intOf]; omega
          · obtain ⟨m, hjm0⟩ : ∃ m, j = m + 1 := ⟨j - 1, by omega⟩
            have hjp : (0 : Int) < (j : Int) := by omega
            have hlu2 : L[m + 1]'(by omega) = (u : Int) := by have h5 := hlu; simp only [hjm0] at h5; exact h5
            obtain ⟨u', hu', hlu', _, _⟩ := LO.out.mem m (by omega)
            have ordm := LO.out.ord m (by omega) u' u hlu' hlu2
            have hu'I : (u' : Int) < (s.T.length : Int) := by omega
            have zm := ZLA.out m (by omega)
            have zj := ZLA.out j hjl
            rw [hlu'] at zm
            rw [hlu] at zj
            obtain ⟨gv, cv, cw, hgv, zv⟩ := KA.out.view
            have a0 := zv u' hu' 0 (by decide)
            have a1 := zv u' hu' 1 (by decide)
            have a2 := zv u' hu' 2 (by decide)
            have a3 := zv u' hu' 3 (by decide)
            have a4 := zv u' hu' 4 (by decide)
            have a5 := zv u' hu' 5 (by decide)
            have a6 := zv u' hu' 6 (by decide)
            have a7 := zv u' hu' 7 (by decide)
            have a8 := zv u' hu' 8 (by decide)
            have a9 := zv u' hu' 9 (by decide)
            have a10 := zv u' hu' 10 (by decide)
            simp [vCells] at a0 a1 a2 a3 a4 a5 a6 a7 a8 a9 a10
            have e2' : Hid ((viewD s u').lv = R.Level s u') := hid rfl
            rw [← e2.out, ← e2'.out] at ordm
            have ORD := hid ordm
            generalize viewD s u' = xa at *
            have hwl := KA.out.k.m.blk.lt
            have n1 : wb ≠ wA.heap.size := by omega
            have n2 : gv ≠ wA.heap.size := by omega
            have n3 : gl ≠ wA.heap.size := by omega
            have hm1 : (j : Int) - 1 = (m : Int) := by omega
            have hmI : (m : Int) < (L.length : Int) := by omega
            have hmN : m < L.length := by omega
            have hmw : IntKind.i64.wrap (m : Int) = (m : Int) := by rw [IntKind.wrap_i64]; omega
            have HJM := hid hjm0
            clear hlu2 hlu' hj0
            clear hjm0
            clear zv ordm
            go_wp2_with fail
            go_region_held3 (fun w' => w'.cell? ⟨wb, 12, none⟩ = some (.slice (some ⟨gv, 0, none⟩) s.T.length cv) ∧ w'.cell? ⟨gl, m, none⟩ = some (.int .i64 (u' : Int)) ∧ w'.cell? ⟨gv, u' * 11, none⟩ = some (.int .i64 xa.st) ∧ w'.cell? ⟨gv, u' * 11 + 1, none⟩ = some (.int .i64 xa.base) ∧ w'.cell? ⟨gv, u' * 11 + 2, none⟩ = some (.int .i64 xa.lv) ∧ w'.cell? ⟨gv, u' * 11 + 3, none⟩ = some (.int .i64 xa.at_) ∧ w'.cell? ⟨gv, u' * 11 + 4, none⟩ = some (.int .i64 xa.last) ∧ w'.cell? ⟨gv, u' * 11 + 5, none⟩ = some (.int .i64 xa.got) ∧ w'.cell? ⟨gv, u' * 11 + 6, none⟩ = some (.int .i64 xa.rel) ∧ w'.cell? ⟨gv, u' * 11 + 7, none⟩ = some (.int .i64 xa.ended) ∧ w'.cell? ⟨gv, u' * 11 + 8, none⟩ = some (.int .i64 xa.for_) ∧ w'.cell? ⟨gv, u' * 11 + 9, none⟩ = some (.int .i64 xa.of_) ∧ w'.cell? ⟨gv, u' * 11 + 10, none⟩ = some (.int .i64 xa.until_)) (go_keep) (fail)
            have hbC : Below wA.heap.size wA (wA.alloc (.cells #[.int .i64 xa.st, .int .i64 xa.base, .int .i64 xa.lv, .int .i64 xa.at_, .int .i64 xa.last, .int .i64 xa.got, .int .i64 xa.rel, .int .i64 xa.ended, .int .i64 xa.for_, .int .i64 xa.of_, .int .i64 xa.until_] 53)).drew := ((Below.refl _ _).alloc (Nat.le_refl _) _).drew
            have bC : Blk (wA.alloc (.cells #[.int .i64 xa.st, .int .i64 xa.base, .int .i64 xa.lv, .int .i64 xa.at_, .int .i64 xa.last, .int .i64 xa.got, .int .i64 xa.rel, .int .i64 xa.ended, .int .i64 xa.for_, .int .i64 xa.of_, .int .i64 xa.until_] 53)).drew wA.heap.size #[.int .i64 xa.st, .int .i64 xa.base, .int .i64 xa.lv, .int .i64 xa.at_, .int .i64 xa.last, .int .i64 xa.got, .int .i64 xa.rel, .int .i64 xa.ended, .int .i64 xa.for_, .int .i64 xa.of_, .int .i64 xa.until_] 53 := Blk.new wA #[.int .i64 xa.st, .int .i64 xa.base, .int .i64 xa.lv, .int .i64 xa.at_, .int .i64 xa.last, .int .i64 xa.got, .int .i64 xa.rel, .int .i64 xa.ended, .int .i64 xa.for_, .int .i64 xa.of_, .int .i64 xa.until_] 53
            generalize (wA.alloc (.cells #[.int .i64 xa.st, .int .i64 xa.base, .int .i64 xa.lv, .int .i64 xa.at_, .int .i64 xa.last, .int .i64 xa.got, .int .i64 xa.rel, .int .i64 xa.ended, .int .i64 xa.for_, .int .i64 xa.of_, .int .i64 xa.until_] 53)).drew = wC at hbC bC ⊢
            have KC := hid (KA.out.below c.fr hbC)
            have HBC := hid (via HBA.out HBA.out.size hbC)
            have RC := hid (wrow_keep RA.out hbC)
            have BX := BA.out.only (Only.of_below (L := []) hbC) (by simp)
            have zm := (hbC.cell (p := ⟨gl, m, none⟩) hglA).trans zm
            have zj := (hbC.cell (p := ⟨gl, j, none⟩) hglA).trans zj
            clear hbC cw a0 a1 a2 a3 a4 a5 a6 a7 a8 a9 a10 KA HBA RA n1 n2 n3 hgv hwl p0 p2 p8 p9 BA
            have p2 := BX.cell 2
            have q2 := bC.cell 2
            simp at p2 q2
            clear BX bC
            obtain ⟨gs, cs, cw, hgs, zs⟩ := KC.out.since
            have s1 := zs u' hu'
            have s2 := zs u hu
            obtain ⟨va, hva⟩ : ∃ x, Hid (d.since.getD u' 0 = x) := ⟨_, hid rfl⟩
            obtain ⟨vb, hvb⟩ : ∃ x, Hid (d.since.getD u 0 = x) := ⟨_, hid rfl⟩
            rw [hva.out] at s1 ORD
            rw [hvb.out] at s2 ORD
            clear zs
            have hx1 : decide (xa.lv < xb.lv) = false := by rw [decide_eq_false_iff_not]; have := ORD.out; omega
            rcases ORD.out with o1 | ⟨o1, o2⟩
            case' inl =>
              have hx2 : (xa.lv == xb.lv) = false := by rw [beq_eq_false_iff_ne]; omega
              clear o1
            case' inr =>
              have hx2 : (xa.lv == xb.lv) = true := by rw [beq_iff_eq]; exact o1
              have hx3 : decide (vb ≤ va) = false := by rw [decide_eq_false_iff_not]; omega
              clear o1 o2
            all_goals
              go_wp2_with fail
              go_quiet (fail)
              go_wp2
              go_roundw
              case rel => exact ⟨j + 1, by omega, by go_num, bdrewN HBC.out _⟩
              case measure => simp [intOf]; omega
        · have e : j = L.length := by omega
          subst e
          go_wp2
          go_ret2
          exact ⟨_, rfl, RJ.out, via HB1.out HB1.out.size HBJ.out⟩
end
end Go.Proofs.Ytbkfildnijjioab

/-
  Walks over package donatekeep: lines.
-/
namespace Go.Proofs.Ytbkfildnijjioab
open Go.RowKit
/-- Lists of numbers, in a list of the law's own. -/
structure LL (N : Nat) (w : World) (v : Value) (ls : List (List Int)) (vs : List Value) : Prop where
  len : vs.length = ls.length
  row : w.ownsRow N 25 1 v ls.length vs
  each : ∀ j (hj : j < ls.length), w.ownsRow N 3 1 (vs.getD j (.slice none 0 0)) (ls[j]).length (intCells ls[j])
def LB (v : Value) (vs : List Value) (b : Nat) : Prop := v.ownBlock = some b ∨ ∃ u ∈ vs, u.ownBlock = some b
section
variable {N : Nat} {w w' : World} {v : Value} {ls : List (List Int)} {vs : List Value}
theorem LL.frame : FrameM (LB v vs) (fun w => LL N w v ls vs) := by
  intro w w' m hs hz
  refine ⟨m.len, ownsRow_same m.row fun g hg => hs g (.inl hg), fun j hj => ownsRow_same (m.each j hj) fun g hg => hs g (.inr ⟨vs.getD j (.slice none 0 0), ?_, hg⟩)⟩
  have : j < vs.length := by rw [m.len]; exact hj
  rw [List.getD_eq_getElem?_getD, List.getElem?_eq_getElem this]
  exact List.getElem_mem this
theorem LL.below (m : LL N w v ls vs) (hb : Below w.heap.size w w') : LL N w' v ls vs := ⟨m.len, wrow_keep m.row hb, fun j hj => wrow_keep (m.each j hj) hb⟩
theorem LL.mono {N' : Nat} (m : LL N w v ls vs) (h : N' ≤ N) : LL N' w v ls vs := ⟨m.len, ownsRow_mono m.row h, fun j hj => ownsRow_mono (m.each j hj) h⟩
theorem LL.nil (N : Nat) (w : World) : LL N w (.slice none 0 0) [] [] := ⟨rfl, World.ownsRow_nil _ _ _ _, fun j hj => by simp at hj⟩
theorem LL.ge (m : LL N w v ls vs) (b : Nat) (h : LB v vs b) : N ≤ b ∧ b < w.heap.size := by
  rcases h with h | ⟨u, hu, h⟩
  · have := ownsRow_block m.row h
    exact ⟨this.1, this.2.1⟩
  · obtain ⟨j, hj, rfl⟩ := List.mem_iff_getElem.1 hu
    have hj' : j < ls.length := by rw [← m.len]; exact hj
    have e : vs.getD j (.slice none 0 0) = vs[j] := by rw [List.getD_eq_getElem?_getD, List.getElem?_eq_getElem hj]; rfl
    have h2 := m.each j hj'
    rw [e] at h2
    have := ownsRow_block h2 h
    exact ⟨this.1, this.2.1⟩
/-- One of them: its cell. -/
theorem LL.at {g cap : Nat} {n : Nat} (m : LL N w (.slice (some ⟨g, 0, none⟩) n cap) ls vs) (j : Nat) (hj : j < ls.length) : ∃ a c, w.cell? ⟨g, j, none⟩ = some (.slice a (ls[j]).length c) := by
  obtain ⟨ao, cap', e, _, ha⟩ := owns_cells m.row
  simp at e
  obtain ⟨g', e2, _, _, _, hc⟩ := ha ⟨g, 0, none⟩ e.1.symm
  simp at e2
  subst e2
  obtain ⟨aj, cj, hv, _, _⟩ := owns_cells (m.each j hj)
  refine ⟨aj, cj, ?_⟩
  have hjv : j < vs.length := by rw [m.len]; exact hj
  have e3 : vs.getD j (.slice none 0 0) = vs[j] := by rw [List.getD_eq_getElem?_getD, List.getElem?_eq_getElem hjv]; rfl
  rw [hc j (by omega), List.getElem?_eq_getElem hjv, ← e3, hv]
theorem LL.at_row {g cap : Nat} {n j : Nat} {a : Option Addr} {c : Nat} {hj : j < ls.length} (m : LL N w (.slice (some ⟨g, 0, none⟩) n cap) ls vs) (h : w.cell? ⟨g, j, none⟩ = some (.slice a (ls[j]).length c)) : w.ownsRow N 3 1 (.slice a (ls[j]).length c) (ls[j]).length (intCells ls[j]) := by
  obtain ⟨ao, cap', e, _, ha⟩ := owns_cells m.row
  simp at e
  obtain ⟨g', e2, _, _, _, hc⟩ := ha ⟨g, 0, none⟩ e.1.symm
  simp at e2
  subst e2
  have hjv : j < vs.length := by rw [m.len]; exact hj
  have e3 : vs.getD j (.slice none 0 0) = vs[j] := by rw [List.getD_eq_getElem?_getD, List.getElem?_eq_getElem hjv]; rfl
  rw [hc j (by omega), List.getElem?_eq_getElem hjv, ← e3] at h
  have := m.each j hj
  rw [Option.some.inj h] at this
  exact this
theorem LL.put (m : LL N w v ls vs) {p : Addr} (u : Value) (hp : ¬ LB v vs p.block) : LL N (w.setCell p u) v ls vs := by
  refine LL.frame w _ m (fun b hb => Below.heap_setCell _ _ _ _ (fun e => ?_)) (by simp [World.setCell])
  exact hp (e ▸ hb)
/-- One list more. -/
theorem LL.snoc {u v' : Value} {l : List Int} {w1 w2 : World} (m : LL N w1 v ls vs) (r : w1.ownsRow N 3 1 u l.length (intCells l)) (hg : w1.grownBy w2 v.ownBlock) (r2 : w2.ownsRow N 25 1 v' (ls.length + 1) (vs ++ [u])) : LL N w2 v' (ls ++ [l]) (vs ++ [u]) := by
  have keep : ∀ (u : Value) (l : List Int), w1.ownsRow N 3 1 u l.length (intCells l) → w2.ownsRow N 3 1 u l.length (intCells l) := by
    intro u l r
    refine ownsRow_same r fun g hgu => hg.block g (ownsRow_block r hgu).2.1 (fun e => ?_)
    obtain ⟨_, _, cur, hc⟩ := ownsRow_block r hgu
    obtain ⟨_, _, cur', hc'⟩ := ownsRow_block m.row e.symm
    rw [hc] at hc'
    cases hc'
  refine ⟨by simp [m.len], by simpa using r2, fun j hj => ?_⟩
  by_cases e : j < ls.length
  · have h1 : (ls ++ [l])[j] = ls[j] := by rw [List.getElem_append_left e]
    have hv : j < vs.length := by rw [m.len]; exact e
    have h2 : (vs ++ [u]).getD j (.slice none 0 0) = vs.getD j (.slice none 0 0) := by simp [List.getD, List.getElem?_append_left hv]
    rw [h1, h2]
    exact keep _ _ (m.each j e)
  · have e2 : j = ls.length := by simp at hj; omega
    subst e2
    have h1 : (ls ++ [l])[ls.length]'hj = l := by simp
    have h2 : (vs ++ [u]).getD ls.length (.slice none 0 0) = u := by rw [← m.len]; simp [List.getD]
    rw [h1, h2]
    exact keep _ _ r
end
section
variable {PK : KP} {B : Nat} {w : World} {wb kb : Nat} {P : Nat → Prop} {h : WH} {d : WD} {s : RS}
def waitsTo (s : RS) (what : Int) (k : Nat) : List (List Int) := (List.range k).map fun j : Nat => R.waiting s what (j : Int)
theorem waitsTo_length (s : RS) (what : Int) (k : Nat) : (waitsTo s what k).length = k := by simp [waitsTo]
theorem waitsTo_succ (s : RS) (what : Int) (k : Nat) : waitsTo s what (k + 1) = waitsTo s what k ++ [R.waiting s what (k : Int)] := by simp [waitsTo, List.range_succ]
theorem waitsTo_get (s : RS) (what : Int) (k j : Nat) (hj : j < k) : (waitsTo s what k)[j]'(by rw [waitsTo_length]; exact hj) = R.waiting s what (j : Int) := by simp [waitsTo]
set_option maxRecDepth 100000 in
set_option maxHeartbeats 4000000 in
theorem wLines_any (c : CAll PK) (k : KWS PK B w wb kb P h d s) (what : Int) (n : Nat) (hw : what ≠ 0) (hn : (n : Int) ≤ R.things s what) (hn8 : n ≤ 8) :
    Calls Try.prog 24 #[.pointer (some ⟨wb, 0, none⟩), .int .i64 what, .int .i64 n] w fun e w' => ∃ v vs, e = .returned (.tuple #[v, .bool true]) ∧ LL w.heap.size w' v (waitsTo s what n) vs ∧ Below w.heap.size w w' := by
  have K := hid k
  clear k
  obtain ⟨i3, hi3, hz30, hz31, hz32⟩ := info_parts Try.infoInts
  have HI3 := hid (And.intro hi3 (And.intro hz30 (And.intro hz31 hz32)))
  clear hi3 hz30 hz31 hz32
  go_enter Try.func24, Try.ntmps24
  go_wp2
  go_loopw [8, 9] (fun v i wr => ∃ (j : Nat) (vs : List Value), j ≤ n ∧ i = .int .i64 j ∧ LL w.heap.size wr v (waitsTo s what j) vs ∧ Below w.heap.size w wr) (fun _ i _ => n - (intOf i).toNat)
  case atStart => exact ⟨0, [], Nat.zero_le _, rfl, LL.nil _ _, Below.refl _ _⟩
  case round =>
    obtain ⟨j, vs, hj, rfl, hll, hb⟩ := hrel
    have LLJ := hid hll
    have HB := hid hb
    have hsz := hb.size
    have KJ := hid (K.out.below c.fr hb)
    clear hll hb
    by_cases hjl : j < n
    · have hjI : (j : Int) < (n : Int) := by omega
      have ES := hid (waitsTo_succ s what j)
      have C1 := hid (wLine_any c KJ.out what (j : Int) hw (by omega) (by omega))
      go_wp2_with fail
      refine C1.out.mono ?_
      rintro e w1 ⟨u, rfl, hr1, hb1⟩
      obtain ⟨ar, cr, rfl, _, _⟩ := owns_cells hr1
      have LL1 := hid (LLJ.out.below hb1)
      have R1 := hid (ownsRow_mono hr1 hsz)
      have HB1 := hid (via HB.out HB.out.size hb1)
      have hsz1 := hb1.size
      have hlv := waitsTo_length s what j
      have HLV := hid LL1.out.len
      clear hr1 hb1 C1 LLJ KJ
      obtain ⟨L, hL⟩ : ∃ x, Hid (R.waiting s what (j : Int) = x) := ⟨_, hid rfl⟩
      rw [hL.out] at ES R1 ⊢
      clear hL
      obtain ⟨wl, hwl⟩ : ∃ x, Hid (waitsTo s what j = x) := ⟨_, hid rfl⟩
      rw [hwl.out] at ES LL1 hlv HLV
      clear hwl
      go_wp2_with (at_builtin; refine wpList_append_src rfl (.tmp 26) (.tmp 28) 37 rfl w.heap.size 25 i3 (.slice none 0 0) 1 24 Try.underlying37 HI3.out.1 HI3.out.2.1 HI3.out.2.2.1 HI3.out.2.2.2 rfl (by decide) u8 wl.length vs rfl (LL1.out.row.alloc _) (some ⟨w1.heap.size, 0, none⟩) 1 1 [.slice ar L.length cr] rfl rfl (fun h => (by cases h)) (fun j u hj => ⟨_, rfl, (by rw [Addr.add_lit, Nat.zero_add, (Blk.new w1 #[.slice ar L.length cr] 25).cell]; simpa using hj)⟩) (by intro u hu; simp at hu; subst hu; rfl) (by unfold maxLen; omega) (by omega) (by simp; omega) ?_; intro v' w2 hown2 hg2; have O2 := hid hown2; have G2 := hid hg2; clear hown2 hg2)
      go_roundw
      case rel =>
        have hbA : Below w1.heap.size w1 (w1.alloc (.cells #[.slice ar L.length cr] 25)) := (Below.refl _ _).alloc (Nat.le_refl _) _
        refine ⟨j + 1, vs ++ [.slice ar L.length cr], by omega, by go_num, ?_, (HB1.out.alloc (by omega) _).grown G2.out (by simp; omega) (fun g hg => (ownsRow_block LL1.out.row hg).1)⟩
        rw [ES.out]
        exact (LL1.out.below hbA).snoc (wrow_keep R1.out hbA) G2.out (by simpa using O2.out)
      case measure => simp [intOf]; omega
    · have e : j = n := by omega
      subst e
      go_wp2
      go_ret2
      exact ⟨_, vs, rfl, LLJ.out, HB.out⟩
end
end Go.Proofs.Ytbkfildnijjioab

/-
  Walks over package donatekeep: asked, began, frees, stays. (Written by a script in one piece.)
-/
namespace Go.Proofs.Ytbkfildnijjioab
open Go.RowKit
section
variable {PK : KP} {B : Nat} {w : World} {wb kb : Nat} {P : Nat → Prop} {h : WH} {d : WD} {s s0 : RS}
/-- The views ahead of the last step, and their cells. -/
theorem KWS.was (k : KWS PK B w wb kb P h d s) (hw : d.was = viewsD s0) (hl : s0.T.length = s.T.length) : ∃ g cap, w.cell? ⟨wb, 14, none⟩ = some (.slice (some ⟨g, 0, none⟩) s.T.length cap) ∧ g < w.heap.size ∧ ∀ t, t < s.T.length → ∀ j, j < 11 → w.cell? ⟨g, t * 11 + j, none⟩ = (vCells (viewD s0 t))[j]? := by
  have c := k.k.m.blk.cell 14
  simp [wCells] at c
  have hwl : d.was.length = s.T.length := by rw [hw, viewsD_length, hl]
  obtain ⟨g, cap, hv, hg, hc⟩ := view_row k.k.m.was (by rw [hwl]; exact k.i.good.pos)
  refine ⟨g, cap, by rw [c, hv, hwl], hg, fun t ht j hj => ?_⟩
  rw [hc t (by rw [hwl]; exact ht) j hj]
  have : d.was[t]'(by rw [hwl]; exact ht) = viewD s0 t := by simp [hw, viewsD_get]
  rw [this]
set_option maxRecDepth 100000 in
set_option maxHeartbeats 2000000 in
theorem wAsked_any (m : WMem B w wb kb h d) :
    Calls Try.prog 40 #[.pointer (some ⟨wb, 0, none⟩)] w fun e w' => e = .returned (.tuple #[.int .i64 (R.askFor d.i), .int .i64 (R.askOf d.i), .int .i64 (R.askN d.i)]) ∧ Below w.heap.size w w' := by
  have y18 := m.blk.cell 18
  have y19 := m.blk.cell 19
  have y20 := m.blk.cell 20
  simp [wCells] at y18 y19 y20
  obtain ⟨va, hva⟩ : ∃ x, Hid (R.askFor d.i = x) := ⟨_, hid rfl⟩
  obtain ⟨vb, hvb⟩ : ∃ x, Hid (R.askOf d.i = x) := ⟨_, hid rfl⟩
  obtain ⟨vc, hvc⟩ : ∃ x, Hid (R.askN d.i = x) := ⟨_, hid rfl⟩
  rw [hva.out, hvb.out, hvc.out]
  generalize d.i = ii at *
  clear m
  go_enter Try.func40, Try.ntmps40
  by_cases h5 : ii.op = 5
  · have e1 : va = 4 := by rw [← hva.out]; unfold R.askFor; rw [if_pos h5]
    have e2 : vb = 0 := by rw [← hvb.out]; unfold R.askOf; rw [if_neg (by omega)]
    have e3 : vc = ii.a := by rw [← hvc.out]; unfold R.askN; rw [if_pos h5]
    subst e1 e2 e3
    rw [h5] at y18
    go_wp2_with fail
    go_quiet (fail)
    go_wp2
    refine bodyPost_ret (v := .tuple #[.int .i64 4, .int .i64 0, .int .i64 ii.a]) ?_ rfl ⟨rfl, bdrewN (Below.refl _ _) _⟩
    simp [results, Try.results40, go_sem]
  by_cases h6 : ii.op = 6
  · have e1 : va = 1 := by rw [← hva.out]; unfold R.askFor; rw [if_neg h5, if_pos h6]
    have e2 : vb = ii.a := by rw [← hvb.out]; unfold R.askOf; rw [if_pos (.inl h6)]
    have e3 : vc = ii.b := by rw [← hvc.out]; unfold R.askN; rw [if_neg h5, if_pos (.inl h6)]
    subst e1 e2 e3
    rw [h6] at y18
    go_wp2_with fail
    go_quiet (fail)
    go_wp2
    refine bodyPost_ret (v := .tuple #[.int .i64 1, .int .i64 ii.a, .int .i64 ii.b]) ?_ rfl ⟨rfl, bdrewN (Below.refl _ _) _⟩
    simp [results, Try.results40, go_sem]
  by_cases h8 : ii.op = 8
  · have e1 : va = 2 := by rw [← hva.out]; unfold R.askFor; rw [if_neg h5, if_neg h6, if_pos h8]
    have e2 : vb = ii.a := by rw [← hvb.out]; unfold R.askOf; rw [if_pos (.inr (.inl h8))]
    have e3 : vc = ii.b := by rw [← hvc.out]; unfold R.askN; rw [if_neg h5, if_pos (.inr (.inl h8))]
    subst e1 e2 e3
    rw [h8] at y18
    go_wp2_with fail
    go_quiet (fail)
    go_wp2
    refine bodyPost_ret (v := .tuple #[.int .i64 2, .int .i64 ii.a, .int .i64 ii.b]) ?_ rfl ⟨rfl, bdrewN (Below.refl _ _) _⟩
    simp [results, Try.results40, go_sem]
  by_cases h11 : ii.op = 11
  · have e1 : va = 3 := by rw [← hva.out]; unfold R.askFor; rw [if_neg h5, if_neg h6, if_neg h8, if_pos h11]
    have e2 : vb = ii.a := by rw [← hvb.out]; unfold R.askOf; rw [if_pos (.inr (.inr h11))]
    have e3 : vc = ii.b := by rw [← hvc.out]; unfold R.askN; rw [if_neg h5, if_pos (.inr (.inr h11))]
    subst e1 e2 e3
    rw [h11] at y18
    go_wp2_with fail
    go_quiet (fail)
    go_wp2
    refine bodyPost_ret (v := .tuple #[.int .i64 3, .int .i64 ii.a, .int .i64 ii.b]) ?_ rfl ⟨rfl, bdrewN (Below.refl _ _) _⟩
    simp [results, Try.results40, go_sem]
  · have e1 : va = 0 := by rw [← hva.out]; unfold R.askFor; rw [if_neg h5, if_neg h6, if_neg h8, if_neg h11]
    have e2 : vb = 0 := by rw [← hvb.out]; unfold R.askOf; rw [if_neg (by omega)]
    have e3 : vc = 0 := by rw [← hvc.out]; unfold R.askN; rw [if_neg h5, if_neg (by omega)]
    subst e1 e2 e3
    have b5 : (ii.op == 5) = false := by simpa using h5
    have b6 : (ii.op == 6) = false := by simpa using h6
    have b8 : (ii.op == 8) = false := by simpa using h8
    have b11 : (ii.op == 11) = false := by simpa using h11
    go_wp2
    refine bodyPost_ret (v := .tuple #[.int .i64 0, .int .i64 0, .int .i64 0]) ?_ rfl ⟨rfl, Below.refl _ _⟩
    simp [results, Try.results40, go_sem]
set_option maxRecDepth 100000 in
set_option maxHeartbeats 2000000 in
theorem wFrees_any (m : WMem B w wb kb h d) (what of_ : Int) :
    Calls Try.prog 41 #[.pointer (some ⟨wb, 0, none⟩), .int .i64 what, .int .i64 of_] w fun e w' => e = .returned (.bool (freesB d.who d.i what of_)) ∧ Below w.heap.size w w' := by
  have y17 := m.blk.cell 17
  have y18 := m.blk.cell 18
  have y19 := m.blk.cell 19
  simp [wCells] at y17 y18 y19
  obtain ⟨va, hva⟩ : ∃ x, Hid (freesB d.who d.i what of_ = x) := ⟨_, hid rfl⟩
  rw [hva.out]
  generalize d.i = ii at *
  generalize d.who = who at *
  clear m
  go_enter Try.func41, Try.ntmps41
  by_cases h0 : ii.op = 0
  · have e1 : va = ((who != -1) && (what == 1)) := by rw [← hva.out]; unfold freesB; rw [if_pos h0]
    subst e1
    rw [h0] at y18
    cases hc1 : (who != -1) <;> cases hc2 : (what == 1)
    all_goals
      go_wp2
      go_ret
      exact ⟨by simp, Below.refl _ _⟩
  by_cases h7 : ii.op = 7
  · have e1 : va = ((what == 1) && (ii.a == of_)) := by rw [← hva.out]; unfold freesB; rw [if_neg h0, if_pos h7]
    subst e1
    rw [h7] at y18
    cases hc1 : (what == 1) <;> cases hc2 : (ii.a == of_)
    all_goals
      go_wp2
      go_ret
      exact ⟨by simp, Below.refl _ _⟩
  by_cases h9 : ii.op = 9
  · have e1 : va = ((what == 2) && (ii.a == of_)) := by rw [← hva.out]; unfold freesB; rw [if_neg h0, if_neg h7, if_pos h9]
    subst e1
    rw [h9] at y18
    cases hc1 : (what == 2) <;> cases hc2 : (ii.a == of_)
    all_goals
      go_wp2
      go_ret
      exact ⟨by simp, Below.refl _ _⟩
  by_cases h10 : ii.op = 10
  · have e1 : va = ((what == 3) && (ii.a == of_)) := by rw [← hva.out]; unfold freesB; rw [if_neg h0, if_neg h7, if_neg h9, if_pos h10]
    subst e1
    rw [h10] at y18
    cases hc1 : (what == 3) <;> cases hc2 : (ii.a == of_)
    all_goals
      go_wp2
      go_ret
      exact ⟨by simp, Below.refl _ _⟩
  · have e1 : va = false := by rw [← hva.out]; unfold freesB; rw [if_neg h0, if_neg h7, if_neg h9, if_neg h10]
    subst e1
    have b0 : (ii.op == 0) = false := by simpa using h0
    have b7 : (ii.op == 7) = false := by simpa using h7
    have b9 : (ii.op == 9) = false := by simpa using h9
    have b10 : (ii.op == 10) = false := by simpa using h10
    go_wp2
    go_ret
    exact ⟨rfl, Below.refl _ _⟩
set_option maxRecDepth 100000 in
set_option maxHeartbeats 4000000 in
theorem wStays_any (c : CAll PK) (k : KWS PK B w wb kb P h d s) (hw : d.was = viewsD s0) (hl : s0.T.length = s.T.length) (t : Nat) (ht : t < s.T.length) (sp : StaysP d.tick (freesB d.who d.i (viewD s0 t).for_ (viewD s0 t).of_) d.now (viewD s0 t) (viewD s t)) :
    Calls Try.prog 20 #[.pointer (some ⟨wb, 0, none⟩), .int .i64 t] w fun e w' => e = .returned (.bool true) ∧ Below w.heap.size w w' := by
  have hfew := k.i.good.few
  have K := hid k
  have SP := hid sp
  have htI : (t : Int) < (s.T.length : Int) := by omega
  obtain ⟨ga, ca, cwa, hga, za⟩ := k.was hw hl
  have a0 := za t ht 0 (by decide)
  have a1 := za t ht 1 (by decide)
  have a2 := za t ht 2 (by decide)
  have a3 := za t ht 3 (by decide)
  have a4 := za t ht 4 (by decide)
  have a5 := za t ht 5 (by decide)
  have a6 := za t ht 6 (by decide)
  have a7 := za t ht 7 (by decide)
  have a8 := za t ht 8 (by decide)
  have a9 := za t ht 9 (by decide)
  have a10 := za t ht 10 (by decide)
  simp [vCells] at a0 a1 a2 a3 a4 a5 a6 a7 a8 a9 a10
  clear k sp za
  generalize viewD s0 t = xa at *
  go_enter Try.func20, Try.ntmps20
  go_upto_region 2 with fail
  have hbA : Below w.heap.size w (w.alloc (.cells #[.int .i64 xa.st, .int .i64 xa.base, .int .i64 xa.lv, .int .i64 xa.at_, .int .i64 xa.last, .int .i64 xa.got, .int .i64 xa.rel, .int .i64 xa.ended, .int .i64 xa.for_, .int .i64 xa.of_, .int .i64 xa.until_] 53)) := (Below.refl _ _).alloc (Nat.le_refl _) _
  have bA := Blk.new w #[.int .i64 xa.st, .int .i64 xa.base, .int .i64 xa.lv, .int .i64 xa.at_, .int .i64 xa.last, .int .i64 xa.got, .int .i64 xa.rel, .int .i64 xa.ended, .int .i64 xa.for_, .int .i64 xa.of_, .int .i64 xa.until_] 53
  generalize w.alloc (.cells #[.int .i64 xa.st, .int .i64 xa.base, .int .i64 xa.lv, .int .i64 xa.at_, .int .i64 xa.last, .int .i64 xa.got, .int .i64 xa.rel, .int .i64 xa.ended, .int .i64 xa.for_, .int .i64 xa.of_, .int .i64 xa.until_] 53) = wA at hbA bA ⊢
  have KA := hid (K.out.below c.fr hbA)
  have HBA := hid hbA
  have BA := hid bA
  have hszA := hbA.size
  clear hbA bA cwa a0 a1 a2 a3 a4 a5 a6 a7 a8 a9 a10
  obtain ⟨gb, cb, cwb, hgb, zb⟩ := KA.out.view
  have b0 := zb t ht 0 (by decide)
  have b1 := zb t ht 1 (by decide)
  have b2 := zb t ht 2 (by decide)
  have b3 := zb t ht 3 (by decide)
  have b4 := zb t ht 4 (by decide)
  have b5 := zb t ht 5 (by decide)
  have b6 := zb t ht 6 (by decide)
  have b7 := zb t ht 7 (by decide)
  have b8 := zb t ht 8 (by decide)
  have b9 := zb t ht 9 (by decide)
  have b10 := zb t ht 10 (by decide)
  simp [vCells] at b0 b1 b2 b3 b4 b5 b6 b7 b8 b9 b10
  clear zb
  generalize viewD s t = xb at *
  go_upto_region 3 with fail
  have hbB : Below wA.heap.size wA (wA.alloc (.cells #[.int .i64 xb.st, .int .i64 xb.base, .int .i64 xb.lv, .int .i64 xb.at_, .int .i64 xb.last, .int .i64 xb.got, .int .i64 xb.rel, .int .i64 xb.ended, .int .i64 xb.for_, .int .i64 xb.of_, .int .i64 xb.until_] 53)) := (Below.refl _ _).alloc (Nat.le_refl _) _
  have bB := Blk.new wA #[.int .i64 xb.st, .int .i64 xb.base, .int .i64 xb.lv, .int .i64 xb.at_, .int .i64 xb.last, .int .i64 xb.got, .int .i64 xb.rel, .int .i64 xb.ended, .int .i64 xb.for_, .int .i64 xb.of_, .int .i64 xb.until_] 53
  have bA2 := BA.out.alloc (.cells #[.int .i64 xb.st, .int .i64 xb.base, .int .i64 xb.lv, .int .i64 xb.at_, .int .i64 xb.last, .int .i64 xb.got, .int .i64 xb.rel, .int .i64 xb.ended, .int .i64 xb.for_, .int .i64 xb.of_, .int .i64 xb.until_] 53)
  generalize wA.alloc (.cells #[.int .i64 xb.st, .int .i64 xb.base, .int .i64 xb.lv, .int .i64 xb.at_, .int .i64 xb.last, .int .i64 xb.got, .int .i64 xb.rel, .int .i64 xb.ended, .int .i64 xb.for_, .int .i64 xb.of_, .int .i64 xb.until_] 53) = wB at hbB bB bA2 ⊢
  have KB := hid (KA.out.below c.fr hbB)
  have HBB := hid (via HBA.out HBA.out.size hbB)
  clear hbB cwb b0 b1 b2 b3 b4 b5 b6 b7 b8 b9 b10 KA BA
  have p0 := bA2.cell 0
  have p4 := bA2.cell 4
  have p8 := bA2.cell 8
  have p9 := bA2.cell 9
  have p10 := bA2.cell 10
  have q0 := bB.cell 0
  have q4 := bB.cell 4
  have q8 := bB.cell 8
  have q9 := bB.cell 9
  have q10 := bB.cell 10
  simp at p0 p4 p8 p9 p10 q0 q4 q8 q9 q10
  have y7 := KB.out.k.m.blk.cell 7
  have y16 := KB.out.k.m.blk.cell 16
  simp [wCells] at y7 y16
  have HBA2 := hid bA2
  have HBB2 := hid bB
  clear bA2 bB
  rcases SP.out with ⟨r1, r2, r3, r4, r5, r6⟩ | ⟨r1, r2, r3, r4, r5, r6, r7⟩ | ⟨r1, r2, r3, r4, r5, r6, r7⟩
  · have g1 : (xa.st != 3) = true := by simpa using r1
    have g2 : (xb.st != 3) = true := by simpa using r2
    rw [r3] at q4
    rw [r4] at q8
    rw [r5] at q9
    rw [r6] at q10
    clear r1 r2 r3 r4 r5 r6 SP
    go_wp2
    go_ret
    exact ⟨rfl, HBB.out⟩
  · rw [r1] at p0
    rw [r2] at q0
    rw [r4] at q4
    rw [r5] at q8
    rw [r6] at q9
    rw [r7] at q10
    have g1 : (xa.until_ == -1) = true ∨ ((xa.until_ == -1) = false ∧ decide (d.now < xa.until_) = true) := by
      simp only [beq_iff_eq, beq_eq_false_iff_ne, decide_eq_true_iff]
      omega
    clear r1 r2 r3 r4 r5 r6 r7 SP
    rcases g1 with g1 | ⟨g1, g2⟩
    all_goals
      go_wp2_with fail
      go_quiet (fail)
      go_wp2
      go_ret
      exact ⟨rfl, bdrewN HBB.out _⟩
  · rw [r1] at p0
    rw [r4] at q8
    rw [r5] at q9
    rw [r6] at q10
    have g2 : (xb.st == 3) = false := by simpa using r2
    have g3 : (xb.st == 0) = false := by simpa using r3
    rcases r7 with ⟨s1, s2, s3⟩ | ⟨s1, s2, s3⟩
    · rw [s1] at y16
      rw [s2] at p10
      clear r1 r2 r3 r4 r5 r6 SP s1 s2
      by_cases h4 : xa.for_ = 4
      · rw [if_pos h4] at s3
        rw [s3] at q4
        rw [h4] at p8
        clear s3 h4
        go_wp2_with fail
        go_quiet (fail)
        go_wp2
        go_ret
        exact ⟨rfl, bdrewN HBB.out _⟩
      · rw [if_neg h4] at s3
        rw [s3] at q4
        have h4' : (xa.for_ == 4) = false := by simpa using h4
        clear s3 h4
        go_wp2_with fail
        go_quiet (fail)
        go_wp2
        go_ret
        exact ⟨rfl, bdrewN HBB.out _⟩
    · rw [s1] at y16
      rw [s3] at q4
      have FR := hid (fun (wx : World) (kx : KWS PK B wx wb kb P h d s) => wFrees_any kx.k.m xa.for_ xa.of_)
      rw [s2] at FR
      have S3 := hid s3
      clear r1 r2 r3 r4 r5 r6 SP s1 s2 s3
      go_wp2_with fail
      refine (FR.out wB KB.out).mono ?_
      rintro e w3 ⟨rfl, hb3⟩
      have HB3 := hid (via HBB.out HBB.out.size hb3)
      have q4 := (HBB2.out.only (Only.of_below (L := []) hb3) (by simp)).cell 4
      simp at q4
      rw [S3.out] at q4
      clear hb3
      go_wp2
      go_ret
      exact ⟨rfl, HB3.out⟩
set_option maxRecDepth 100000 in
set_option maxHeartbeats 4000000 in
theorem wBegan_any (c : CAll PK) (k : KWS PK B w wb kb P h d s) (hw : d.was = viewsD s0) (hl : s0.T.length = s.T.length) (t : Nat) (ht : t < s.T.length) (hwho : d.who = (t : Int)) (sp : BeganP d.i d.code d.now (viewD s0 t) (viewD s t)) (hn : -1 ≤ R.askN d.i ∧ R.askN d.i ≤ 1000) :
    Calls Try.prog 19 #[.pointer (some ⟨wb, 0, none⟩)] w fun e w' => e = .returned (.bool true) ∧ Below w.heap.size w w' := by
  have hfew := k.i.good.few
  have hnow : d.now = s.now := k.wd.co.now
  have hn2 := k.i.good.now2
  have hn1 := k.i.good.now1
  have hn0 := k.i.good.now0
  rw [hnow] at sp
  have K := hid k
  have SP := hid sp
  have htI : (t : Int) < (s.T.length : Int) := by omega
  obtain ⟨gb, cb, cwb, hgb, zb⟩ := k.view
  have b0 := zb t ht 0 (by decide)
  have b1 := zb t ht 1 (by decide)
  have b2 := zb t ht 2 (by decide)
  have b3 := zb t ht 3 (by decide)
  have b4 := zb t ht 4 (by decide)
  have b5 := zb t ht 5 (by decide)
  have b6 := zb t ht 6 (by decide)
  have b7 := zb t ht 7 (by decide)
  have b8 := zb t ht 8 (by decide)
  have b9 := zb t ht 9 (by decide)
  have b10 := zb t ht 10 (by decide)
  simp [vCells] at b0 b1 b2 b3 b4 b5 b6 b7 b8 b9 b10
  have y17 := k.k.m.blk.cell 17
  simp [wCells] at y17
  rw [hwho] at y17
  clear k sp zb
  generalize viewD s t = xb at *
  go_enter Try.func19, Try.ntmps19
  have hwl := K.out.k.m.blk.lt
  have n1 : wb ≠ w.heap.size := by omega
  have n2 : gb ≠ w.heap.size := by omega
  go_wp2_with fail
  go_region_held3 (fun w' => w'.cell? ⟨wb, 12, none⟩ = some (.slice (some ⟨gb, 0, none⟩) s.T.length cb) ∧ w'.cell? ⟨wb, 17, none⟩ = some (.int .i64 (t : Int)) ∧ w'.cell? ⟨gb, t * 11, none⟩ = some (.int .i64 xb.st) ∧ w'.cell? ⟨gb, t * 11 + 1, none⟩ = some (.int .i64 xb.base) ∧ w'.cell? ⟨gb, t * 11 + 2, none⟩ = some (.int .i64 xb.lv) ∧ w'.cell? ⟨gb, t * 11 + 3, none⟩ = some (.int .i64 xb.at_) ∧ w'.cell? ⟨gb, t * 11 + 4, none⟩ = some (.int .i64 xb.last) ∧ w'.cell? ⟨gb, t * 11 + 5, none⟩ = some (.int .i64 xb.got) ∧ w'.cell? ⟨gb, t * 11 + 6, none⟩ = some (.int .i64 xb.rel) ∧ w'.cell? ⟨gb, t * 11 + 7, none⟩ = some (.int .i64 xb.ended) ∧ w'.cell? ⟨gb, t * 11 + 8, none⟩ = some (.int .i64 xb.for_) ∧ w'.cell? ⟨gb, t * 11 + 9, none⟩ = some (.int .i64 xb.of_) ∧ w'.cell? ⟨gb, t * 11 + 10, none⟩ = some (.int .i64 xb.until_)) (go_keep) (fail)
  have hbA : Below w.heap.size w (w.alloc (.cells #[.int .i64 xb.st, .int .i64 xb.base, .int .i64 xb.lv, .int .i64 xb.at_, .int .i64 xb.last, .int .i64 xb.got, .int .i64 xb.rel, .int .i64 xb.ended, .int .i64 xb.for_, .int .i64 xb.of_, .int .i64 xb.until_] 53)).drew := ((Below.refl _ _).alloc (Nat.le_refl _) _).drew
  have bA : Blk (w.alloc (.cells #[.int .i64 xb.st, .int .i64 xb.base, .int .i64 xb.lv, .int .i64 xb.at_, .int .i64 xb.last, .int .i64 xb.got, .int .i64 xb.rel, .int .i64 xb.ended, .int .i64 xb.for_, .int .i64 xb.of_, .int .i64 xb.until_] 53)).drew w.heap.size #[.int .i64 xb.st, .int .i64 xb.base, .int .i64 xb.lv, .int .i64 xb.at_, .int .i64 xb.last, .int .i64 xb.got, .int .i64 xb.rel, .int .i64 xb.ended, .int .i64 xb.for_, .int .i64 xb.of_, .int .i64 xb.until_] 53 := Blk.new w #[.int .i64 xb.st, .int .i64 xb.base, .int .i64 xb.lv, .int .i64 xb.at_, .int .i64 xb.last, .int .i64 xb.got, .int .i64 xb.rel, .int .i64 xb.ended, .int .i64 xb.for_, .int .i64 xb.of_, .int .i64 xb.until_] 53
  generalize (w.alloc (.cells #[.int .i64 xb.st, .int .i64 xb.base, .int .i64 xb.lv, .int .i64 xb.at_, .int .i64 xb.last, .int .i64 xb.got, .int .i64 xb.rel, .int .i64 xb.ended, .int .i64 xb.for_, .int .i64 xb.of_, .int .i64 xb.until_] 53)).drew = wA at hbA bA ⊢
  have KA := hid (K.out.below c.fr hbA)
  have HBA := hid hbA
  have BA := hid bA
  clear hbA bA cwb b0 b1 b2 b3 b4 b5 b6 b7 b8 b9 b10 y17 n1 n2
  go_wp2_with fail
  refine (wAsked_any KA.out.k.m).mono ?_
  rintro e w3 ⟨rfl, hb3⟩
  have K3 := hid (KA.out.below c.fr hb3)
  have HB3 := hid (via HBA.out HBA.out.size hb3)
  have B3 := BA.out.only (Only.of_below (L := []) hb3) (by simp)
  have HW := hid hw
  have HLL := hid hl
  have HWHO := hid hwho
  clear hb3 KA HBA BA hw hl hwho
  have q0 := B3.cell 0
  have q4 := B3.cell 4
  have q8 := B3.cell 8
  have q9 := B3.cell 9
  have q10 := B3.cell 10
  simp at q0 q4 q8 q9 q10
  clear B3
  have y7 := K3.out.k.m.blk.cell 7
  have y18 := K3.out.k.m.blk.cell 18
  have y21 := K3.out.k.m.blk.cell 21
  simp [wCells] at y7 y18 y21
  rw [hnow] at y7
  obtain ⟨va, hva⟩ : ∃ x, Hid (R.askFor d.i = x) := ⟨_, hid rfl⟩
  obtain ⟨vb, hvb⟩ : ∃ x, Hid (R.askOf d.i = x) := ⟨_, hid rfl⟩
  obtain ⟨vc, hvc⟩ : ∃ x, Hid (R.askN d.i = x) := ⟨_, hid rfl⟩
  have GO := hid SP.out.go
  have WT := hid SP.out.wt
  rw [hva.out, hvb.out, hvc.out] at WT ⊢
  rw [hvc.out] at hn
  clear SP hva hvb hvc hnow
  generalize d.code = cd at *
  by_cases hc : cd = 1
  · obtain ⟨r1, r2, r3, r4, r5, r6, r7⟩ := WT.out hc
    rw [hc] at y21
    rw [r3] at q0
    rw [r4] at q4
    rw [r5] at q8
    rw [r6] at q9
    have g1 : (va != 0) = true := by simpa using r1
    have g2 : (vc != 0) = true := by simpa using r2
    clear GO WT r1 r2 r3 r4 r5 r6 hc
    by_cases hp : 0 < vc
    · rw [if_pos hp] at r7
      rw [r7] at q10
      clear r7
      go_wp2
      go_ret
      exact ⟨rfl, HB3.out⟩
    · rw [if_neg hp] at r7
      rw [r7] at q10
      have hp' : decide (0 < vc) = false := by simpa using hp
      clear r7 hp
      go_wp2
      go_ret
      exact ⟨rfl, HB3.out⟩
  · obtain ⟨r1, r2, r3, r4, r5, r6⟩ := GO.out hc
    have g0 : (cd != 1) = true := by simpa using hc
    have g1 : (d.i.op != 5) = true := by simpa using r2
    have g2 : (xb.st != 3) = true := by simpa using r3
    rw [r4] at q8
    rw [r5] at q9
    rw [r6] at q10
    clear GO WT r2 r3 r4 r5 r6 hc
    by_cases h3 : d.i.op = 3
    · rw [if_pos h3] at r1
      rw [r1] at q4
      rw [h3] at y18 g1
      obtain ⟨ga, ca, cwa, hga, za⟩ := K3.out.was HW.out HLL.out
      have a4 := za t ht 4 (by decide)
      simp [vCells] at a4
      have y17 := K3.out.k.m.blk.cell 17
      simp [wCells] at y17
      rw [HWHO.out] at y17
      clear r1 za h3
      generalize (viewD s0 t).last = la at *
      go_wp2_with fail
      go_quiet (fail)
      go_wp2
      go_ret
      exact ⟨rfl, bdrewN HB3.out _⟩
    · rw [if_neg h3] at r1
      rw [r1] at q4
      have h3' : (d.i.op == 3) = false := by simpa using h3
      clear r1 h3
      generalize d.i.op = op at *
      go_wp2
      go_ret
      exact ⟨rfl, HB3.out⟩
end
end Go.Proofs.Ytbkfildnijjioab

/-
  Walks over package donatekeep: what is alike is told alike: sameInts, sameMisses.
-/
namespace Go.Proofs.Ytbkfildnijjioab
open Go.RowKit
set_option maxHeartbeats 1000000 in
theorem wSameInts_eq (w : World) (ao bo : Option Addr) (ca cb : Nat) (l : List Int) (ha : IntsIn w.heap.size w ao l) (hb : IntsIn w.heap.size w bo l) (hl : l.length ≤ 1099511627776) :
    Calls Try.prog 43 #[.slice ao l.length ca, .slice bo l.length cb] w fun e w' => e = .returned (.bool true) ∧ ∃ n, w' = w.drewN n := by
  have HA := hid ha
  have HB := hid hb
  clear ha hb
  go_enter Try.func43, Try.ntmps43
  go_wp2
  go_loopw [5] (fun i wr => ∃ k : Nat, k ≤ l.length ∧ i = .int .i64 k ∧ ∃ n, wr = w.drewN n) (fun i _ => l.length - (intOf i).toNat)
  case atStart => exact ⟨0, Nat.zero_le _, rfl, 0, rfl⟩
  case round =>
    obtain ⟨k, hk, rfl, n, rfl⟩ := hrel
    by_cases hlt : k < l.length
    · obtain ⟨b1, o1, rfl, _, x1⟩ := HA.out k hlt
      obtain ⟨b2, o2, rfl, _, x2⟩ := HB.out k hlt
      have hkI : (k : Int) < (l.length : Int) := by omega
      go_wp2_with fail
      go_quiet (fail)
      go_wp2
      go_roundw
      case rel => exact ⟨k + 1, by omega, by go_num, _, rfl⟩
      case measure => simp [intOf]; omega
    · go_wp2
      go_ret
      exact ⟨rfl, _, rfl⟩
set_option maxHeartbeats 400000 in
theorem wSameMisses_eq (w : World) (ao bo : Option Addr) (ca cb : Nat) (l : List MissD) (ha : MissesIn w.heap.size w ao l) (hb : MissesIn w.heap.size w bo l) (hl : l.length ≤ 1099511627776) :
    Calls Try.prog 17 #[.slice ao l.length ca, .slice bo l.length cb] w fun e w' => e = .returned (.bool true) ∧ ∃ n, w' = w.drewN n := by
  have HA := hid ha
  have HB := hid hb
  clear ha hb
  go_enter Try.func17, Try.ntmps17
  go_wp2
  go_loopw [5] (fun i wr => ∃ k : Nat, k ≤ l.length ∧ i = .int .i64 k ∧ ∃ n, wr = w.drewN n) (fun i _ => l.length - (intOf i).toNat)
  case atStart => exact ⟨0, Nat.zero_le _, rfl, 0, rfl⟩
  case round =>
    obtain ⟨k, hk, rfl, n, rfl⟩ := hrel
    by_cases hlt : k < l.length
    · obtain ⟨b1, o1, rfl, _, x1, y1, z1⟩ := HA.out k hlt
      obtain ⟨b2, o2, rfl, _, x2, y2, z2⟩ := HB.out k hlt
      have hkI : (k : Int) < (l.length : Int) := by omega
      generalize l[k] = m at *
      go_wp2_with fail
      go_quiet (fail)
      go_wp2
      go_roundw
      case rel => exact ⟨k + 1, by omega, by go_num, _, rfl⟩
      case measure => simp [intOf]; omega
    · go_wp2
      go_ret
      exact ⟨rfl, _, rfl⟩
end Go.Proofs.Ytbkfildnijjioab
