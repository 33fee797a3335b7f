import Derived.Test.YtbkfildnijjioabA22
import Derived.BigQuiet
import Derived.Test.YtbkfildnijjioabA21
import Derived.Test.YtbkfildnijjioabA01
/-
  Walks over package donatekeep: line.
-/
namespace Go.Proofs.Ytbkfildnijjioab
open Go.RowKit
section
variable {PK : KP} {B : Nat} {w : World} {wb kb : Nat} {P : Nat → Prop} {h : WH} {d : WD} {s : RS}
/-- The steps at which waits began. -/
theorem KWS.since (k : KWS PK B w wb kb P h d s) : ∃ g cap, w.cell? ⟨wb, 11, none⟩ = some (.slice (some ⟨g, 0, none⟩) s.T.length cap) ∧ g < w.heap.size ∧ ∀ t, t < s.T.length → w.cell? ⟨g, t, none⟩ = some (.int .i64 (d.since.getD t 0)) := by
  have c := k.k.m.blk.cell 11
  simp [wCells] at c
  have hl := k.wd.since
  have hp := k.i.good.pos
  obtain ⟨g, cap, hv, hg, hc, _⟩ := row_at k.k.m.since (by omega)
  refine ⟨g, cap, by rw [c, hv, hl], hg, fun t ht => ?_⟩
  rw [hc t (by omega)]
  have : t < d.since.length := by omega
  simp [List.getD, this]
set_option maxRecDepth 100000 in
set_option maxHeartbeats 4000000 in
theorem wLine_any (c : CAll PK) (k : KWS PK B w wb kb P h d s) (what i : Int) (hw : what ≠ 0) (hi0 : 0 ≤ i) (hi1 : i < R.things s what) :
    Calls Try.prog 37 #[.pointer (some ⟨wb, 0, none⟩), .int .i64 what, .int .i64 i] w fun e w' => ∃ v, e = .returned (.tuple #[v, .bool true]) ∧ w'.ownsRow w.heap.size 3 1 v (R.waiting s what i).length (intCells (R.waiting s what i)) ∧ Below w.heap.size w w' := by
  have hfew := k.i.good.few
  have hpos := k.i.good.pos
  obtain ⟨_, tk, wt, _, ax⟩ := c.aux k.k.pk
  have LO := hid (line_ok (d := d) ax k.snc what i hw)
  have K := hid k
  have C1 := hid (c.wait P w kb s k.k.pk what i)
  have e1 : R.waitE s what i = 0 := by unfold R.waitE; rw [if_neg (by omega)]
  have e2 : R.waitL s what i = R.waiting s what i := by unfold R.waitL; rw [if_neg (by omega)]
  rw [e1, e2] at C1
  have y6 := k.k.m.blk.cell 6
  simp [wCells] at y6
  obtain ⟨L, hL⟩ : ∃ x, Hid (R.waiting s what i = x) := ⟨_, hid rfl⟩
  rw [hL.out] at C1 LO ⊢
  clear k ax e1 e2 hL
  go_enter Try.func37, Try.ntmps37
  go_wp2_with fail
  refine C1.out.mono ?_
  rintro e w1 ⟨v, rfl, hr1, hb1⟩
  obtain ⟨ar, cr, rfl, _, _⟩ := owns_cells hr1
  have R1 := hid hr1
  have HB1 := hid hb1
  have hsz1 := hb1.size
  have K1 := hid (K.out.below c.fr hb1)
  have hcl := cntW_le s what i s.T.length
  have hLl : L.length ≤ 16 := by have := LO.out.len; omega
  clear hr1 hb1 C1 y6
  go_wp2
  go_loopw [10, 11] (fun a i' wr => ∃ t : Nat, t ≤ s.T.length ∧ i' = .int .i64 t ∧ a = .int .i64 (cntW s what i t) ∧ wr = w1) (fun _ i' _ => s.T.length - (intOf i').toNat)
  case atStart => exact ⟨0, Nat.zero_le _, rfl, rfl, rfl⟩
  case round =>
    obtain ⟨t, ht, rfl, rfl, hwr⟩ := hrel
    have hwr2 := hwr.symm
    subst hwr2
    clear hwr
    obtain ⟨gv, cv, cw, hgv, zv⟩ := K1.out.view
    by_cases htl : t < s.T.length
    · have htI : (t : Int) < (s.T.length : Int) := by omega
      have a8 := zv t htl 8 (by decide)
      have a9 := zv t htl 9 (by decide)
      simp [vCells] at a8 a9
      have CS := hid (cntW_succ s what i t)
      have hct := cntW_le s what i t
      have e8 : (viewD s t).for_ = (R.th s.T t).for_ := rfl
      have e9 : (viewD s t).of_ = (R.th s.T t).of_ := rfl
      rw [e8] at a8
      rw [e9] at a9
      generalize cntW s what i t = cn at *
      generalize (R.th s.T t).for_ = fo at *
      generalize (R.th s.T t).of_ = oo at *
      clear zv hgv e8 e9
      by_cases h1 : fo = what
      · have b1 : (fo == what) = true := by simpa using h1
        by_cases h2 : oo = i
        · have b2 : (oo == i) = true := by simpa using h2
          have F : Hid (cntW s what i (t + 1) = cn + 1) := by rw [CS.out, if_pos ⟨h1, h2⟩]; exact hid rfl
          clear h1 h2
          go_wp2
          go_roundw
          case rel => exact ⟨t + 1, by omega, by go_num, by rw [F.out]; go_num, by first | rfl | trivial⟩
          case measure => simp [intOf]; omega
        · have b2 : (oo == i) = false := by simpa using h2
          have F : Hid (cntW s what i (t + 1) = cn) := by rw [CS.out, if_neg (fun h => h2 h.2)]; exact hid rfl
          clear h1 h2
          go_wp2
          go_roundw
          case rel => exact ⟨t + 1, by omega, by go_num, by rw [F.out], by first | rfl | trivial⟩
          case measure => simp [intOf]; omega
      · have b1 : (fo == what) = false := by simpa using h1
        have F : Hid (cntW s what i (t + 1) = cn) := by rw [CS.out, if_neg (fun h => h1 h.1)]; exact hid rfl
        clear h1
        go_wp2
        go_roundw
        case rel => exact ⟨t + 1, by omega, by go_num, by rw [F.out], by first | rfl | trivial⟩
        case measure => simp [intOf]; omega
    · have e : t = s.T.length := by omega
      subst e
      clear zv hgv
      have EL := hid LO.out.len
      rw [← EL.out]
      have hne : ((L.length : Int) != (L.length : Int)) = false := by simp
      go_wp2
      clear hne cw
      go_loopw [12] (fun i' wr => ∃ j : Nat, j ≤ L.length ∧ i' = .int .i64 j ∧ Below w1.heap.size w1 wr) (fun i' _ => L.length - (intOf i').toNat)
      case atStart => exact ⟨0, Nat.zero_le _, rfl, Below.refl _ _⟩
      case round =>
        obtain ⟨j, hj, rfl, hbj⟩ := hrel
        have KJ := hid (K1.out.below c.fr hbj)
        have HBJ := hid hbj
        have RJ := hid (wrow_keep R1.out hbj)
        have hszj := hbj.size
        clear hbj
        by_cases hjl : j < L.length
        · have hjI : (j : Int) < (L.length : Int) := by omega
          obtain ⟨gl, cl, hvl, hgl, zl, _⟩ := row_at RJ.out (by omega)
          simp at hvl
          obtain ⟨har, hcr⟩ := hvl
          subst har hcr
          obtain ⟨u, hu, hlu, hf, ho⟩ := LO.out.mem j hjl
          have zj := zl j hjl
          rw [hlu] at zj
          have huI : (u : Int) < (s.T.length : Int) := by omega
          have g0 : decide ((u : Int) < 0) = false := by rw [decide_eq_false_iff_not]; omega
          have g1 : decide ((s.T.length : Int) ≤ (u : Int)) = false := by rw [decide_eq_false_iff_not]; omega
          obtain ⟨gv, cv, cw, hgv, zv⟩ := KJ.out.view
          have GL := hid hgl
          have ZL := hid zl
          clear zv zl hgl
          go_wp2_with fail
          go_quiet (fail)
          have KQ := hid (KJ.out.below c.fr (bdrewN (Below.refl _ _) nq))
          have HBQ := hid (bdrewN HBJ.out nq)
          have RQ : Hid ((wr.drewN nq).ownsRow w.heap.size 3 1 (.slice (some ⟨gl, 0, none⟩) L.length cr) L.length (intCells L)) := RJ.out
          have zj : (wr.drewN nq).cell? ⟨gl, j, none⟩ = some (.int .i64 (u : Int)) := zj
          have hgl : gl < (wr.drewN nq).heap.size := GL.out
          have ZLQ : Hid (∀ i (hi : i < L.length), (wr.drewN nq).cell? ⟨gl, i, none⟩ = some (.int .i64 L[i])) := ZL.out
          clear KJ HBJ RJ cw g0 g1 GL ZL
          generalize wr.drewN nq = wQ at *
          obtain ⟨gv, cv, cw, hgv, zv⟩ := KQ.out.view
          have b0 := zv u hu 0 (by decide)
          have b1 := zv u hu 1 (by decide)
          have b2 := zv u hu 2 (by decide)
          have b3 := zv u hu 3 (by decide)
          have b4 := zv u hu 4 (by decide)
          have b5 := zv u hu 5 (by decide)
          have b6 := zv u hu 6 (by decide)
          have b7 := zv u hu 7 (by decide)
          have b8 := zv u hu 8 (by decide)
          have b9 := zv u hu 9 (by decide)
          have b10 := zv u hu 10 (by decide)
          simp [vCells] at b0 b1 b2 b3 b4 b5 b6 b7 b8 b9 b10
          have e8 : Hid ((viewD s u).for_ = what) := hid hf
          have e9 : Hid ((viewD s u).of_ = i) := hid ho
          have e0 : Hid ((viewD s u).st = 3) := hid ((st3 s u).2 (by rw [hf]; exact hw))
          have e2 : Hid ((viewD s u).lv = R.Level s u) := hid rfl
          generalize viewD s u = xb at *
          have hwl := KQ.out.k.m.blk.lt
          have n1 : wb ≠ wQ.heap.size := by omega
          have n2 : gv ≠ wQ.heap.size := by omega
          have n3 : gl ≠ wQ.heap.size := by omega
          clear zv
          go_wp2_with fail
          go_region_held3 (fun w' => w'.cell? ⟨wb, 12, none⟩ = some (.slice (some ⟨gv, 0, none⟩) s.T.length cv) ∧ w'.cell? ⟨gl, j, none⟩ = some (.int .i64 (u : Int)) ∧ w'.cell? ⟨gv, u * 11, none⟩ = some (.int .i64 xb.st) ∧ w'.cell? ⟨gv, u * 11 + 1, none⟩ = some (.int .i64 xb.base) ∧ w'.cell? ⟨gv, u * 11 + 2, none⟩ = some (.int .i64 xb.lv) ∧ w'.cell? ⟨gv, u * 11 + 3, none⟩ = some (.int .i64 xb.at_) ∧ w'.cell? ⟨gv, u * 11 + 4, none⟩ = some (.int .i64 xb.last) ∧ w'.cell? ⟨gv, u * 11 + 5, none⟩ = some (.int .i64 xb.got) ∧ w'.cell? ⟨gv, u * 11 + 6, none⟩ = some (.int .i64 xb.rel) ∧ w'.cell? ⟨gv, u * 11 + 7, none⟩ = some (.int .i64 xb.ended) ∧ w'.cell? ⟨gv, u * 11 + 8, none⟩ = some (.int .i64 xb.for_) ∧ w'.cell? ⟨gv, u * 11 + 9, none⟩ = some (.int .i64 xb.of_) ∧ w'.cell? ⟨gv, u * 11 + 10, none⟩ = some (.int .i64 xb.until_)) (go_keep) (fail)
          have hbA : Below wQ.heap.size wQ (wQ.alloc (.cells #[.int .i64 xb.st, .int .i64 xb.base, .int .i64 xb.lv, .int .i64 xb.at_, .int .i64 xb.last, .int .i64 xb.got, .int .i64 xb.rel, .int .i64 xb.ended, .int .i64 xb.for_, .int .i64 xb.of_, .int .i64 xb.until_] 53)).drew := ((Below.refl _ _).alloc (Nat.le_refl _) _).drew
          have bA : Blk (wQ.alloc (.cells #[.int .i64 xb.st, .int .i64 xb.base, .int .i64 xb.lv, .int .i64 xb.at_, .int .i64 xb.last, .int .i64 xb.got, .int .i64 xb.rel, .int .i64 xb.ended, .int .i64 xb.for_, .int .i64 xb.of_, .int .i64 xb.until_] 53)).drew wQ.heap.size #[.int .i64 xb.st, .int .i64 xb.base, .int .i64 xb.lv, .int .i64 xb.at_, .int .i64 xb.last, .int .i64 xb.got, .int .i64 xb.rel, .int .i64 xb.ended, .int .i64 xb.for_, .int .i64 xb.of_, .int .i64 xb.until_] 53 := Blk.new wQ #[.int .i64 xb.st, .int .i64 xb.base, .int .i64 xb.lv, .int .i64 xb.at_, .int .i64 xb.last, .int .i64 xb.got, .int .i64 xb.rel, .int .i64 xb.ended, .int .i64 xb.for_, .int .i64 xb.of_, .int .i64 xb.until_] 53
          generalize (wQ.alloc (.cells #[.int .i64 xb.st, .int .i64 xb.base, .int .i64 xb.lv, .int .i64 xb.at_, .int .i64 xb.last, .int .i64 xb.got, .int .i64 xb.rel, .int .i64 xb.ended, .int .i64 xb.for_, .int .i64 xb.of_, .int .i64 xb.until_] 53)).drew = wA at hbA bA ⊢
          have KA := hid (KQ.out.below c.fr hbA)
          have HBA := hid (via HBQ.out HBQ.out.size hbA)
          have RA := hid (wrow_keep RQ.out hbA)
          have BA := hid bA
          have hglA : gl < wA.heap.size := by have := hbA.size; omega
          have ZLA : Hid (∀ i (hi : i < L.length), wA.cell? ⟨gl, i, none⟩ = some (.int .i64 L[i])) := hid (fun i hi => (hbA.cell (p := ⟨gl, i, none⟩) hgl).trans (ZLQ.out i hi))
          have hszA := hbA.size
          clear hbA bA cw b0 b1 b2 b3 b4 b5 b6 b7 b8 b9 b10 zj KQ HBQ RQ n1 n2 n3 hgv hwl hgl
          have p0 := BA.out.cell 0
          have p2 := BA.out.cell 2
          have p8 := BA.out.cell 8
          have p9 := BA.out.cell 9
          simp at p0 p2 p8 p9
          rw [e0.out] at p0
          rw [e8.out] at p8
          rw [e9.out] at p9
          have f8 : (what != what) = false := by simp
          have f9 : (i != i) = false := by simp
          by_cases hj0 : j = 0
          · subst hj0
            go_wp2
            go_roundw
            case rel => exact ⟨1, by omega, by go_num, HBA.out⟩
            case measure => simp [intOf]; omega
          · obtain ⟨m, hjm0⟩ : ∃ m, j = m + 1 := ⟨j - 1, by omega⟩
            have hjp : (0 : Int) < (j : Int) := by omega
            have hlu2 : L[m + 1]'(by omega) = (u : Int) := by have h5 := hlu; simp only [hjm0] at h5; exact h5
            obtain ⟨u', hu', hlu', _, _⟩ := LO.out.mem m (by omega)
            have ordm := LO.out.ord m (by omega) u' u hlu' hlu2
            have hu'I : (u' : Int) < (s.T.length : Int) := by omega
            have zm := ZLA.out m (by omega)
            have zj := ZLA.out j hjl
            rw [hlu'] at zm
            rw [hlu] at zj
            obtain ⟨gv, cv, cw, hgv, zv⟩ := KA.out.view
            have a0 := zv u' hu' 0 (by decide)
            have a1 := zv u' hu' 1 (by decide)
            have a2 := zv u' hu' 2 (by decide)
            have a3 := zv u' hu' 3 (by decide)
            have a4 := zv u' hu' 4 (by decide)
            have a5 := zv u' hu' 5 (by decide)
            have a6 := zv u' hu' 6 (by decide)
            have a7 := zv u' hu' 7 (by decide)
            have a8 := zv u' hu' 8 (by decide)
            have a9 := zv u' hu' 9 (by decide)
            have a10 := zv u' hu' 10 (by decide)
            simp [vCells] at a0 a1 a2 a3 a4 a5 a6 a7 a8 a9 a10
            have e2' : Hid ((viewD s u').lv = R.Level s u') := hid rfl
            rw [← e2.out, ← e2'.out] at ordm
            have ORD := hid ordm
            generalize viewD s u' = xa at *
            have hwl := KA.out.k.m.blk.lt
            have n1 : wb ≠ wA.heap.size := by omega
            have n2 : gv ≠ wA.heap.size := by omega
            have n3 : gl ≠ wA.heap.size := by omega
            have hm1 : (j : Int) - 1 = (m : Int) := by omega
            have hmI : (m : Int) < (L.length : Int) := by omega
            have hmN : m < L.length := by omega
            have hmw : IntKind.i64.wrap (m : Int) = (m : Int) := by rw [IntKind.wrap_i64]; omega
            have HJM := hid hjm0
            clear hlu2 hlu' hj0
            clear hjm0
            clear zv ordm
            go_wp2_with fail
            go_region_held3 (fun w' => w'.cell? ⟨wb, 12, none⟩ = some (.slice (some ⟨gv, 0, none⟩) s.T.length cv) ∧ w'.cell? ⟨gl, m, none⟩ = some (.int .i64 (u' : Int)) ∧ w'.cell? ⟨gv, u' * 11, none⟩ = some (.int .i64 xa.st) ∧ w'.cell? ⟨gv, u' * 11 + 1, none⟩ = some (.int .i64 xa.base) ∧ w'.cell? ⟨gv, u' * 11 + 2, none⟩ = some (.int .i64 xa.lv) ∧ w'.cell? ⟨gv, u' * 11 + 3, none⟩ = some (.int .i64 xa.at_) ∧ w'.cell? ⟨gv, u' * 11 + 4, none⟩ = some (.int .i64 xa.last) ∧ w'.cell? ⟨gv, u' * 11 + 5, none⟩ = some (.int .i64 xa.got) ∧ w'.cell? ⟨gv, u' * 11 + 6, none⟩ = some (.int .i64 xa.rel) ∧ w'.cell? ⟨gv, u' * 11 + 7, none⟩ = some (.int .i64 xa.ended) ∧ w'.cell? ⟨gv, u' * 11 + 8, none⟩ = some (.int .i64 xa.for_) ∧ w'.cell? ⟨gv, u' * 11 + 9, none⟩ = some (.int .i64 xa.of_) ∧ w'.cell? ⟨gv, u' * 11 + 10, none⟩ = some (.int .i64 xa.until_)) (go_keep) (fail)
            have hbC : Below wA.heap.size wA (wA.alloc (.cells #[.int .i64 xa.st, .int .i64 xa.base, .int .i64 xa.lv, .int .i64 xa.at_, .int .i64 xa.last, .int .i64 xa.got, .int .i64 xa.rel, .int .i64 xa.ended, .int .i64 xa.for_, .int .i64 xa.of_, .int .i64 xa.until_] 53)).drew := ((Below.refl _ _).alloc (Nat.le_refl _) _).drew
            have bC : Blk (wA.alloc (.cells #[.int .i64 xa.st, .int .i64 xa.base, .int .i64 xa.lv, .int .i64 xa.at_, .int .i64 xa.last, .int .i64 xa.got, .int .i64 xa.rel, .int .i64 xa.ended, .int .i64 xa.for_, .int .i64 xa.of_, .int .i64 xa.until_] 53)).drew wA.heap.size #[.int .i64 xa.st, .int .i64 xa.base, .int .i64 xa.lv, .int .i64 xa.at_, .int .i64 xa.last, .int .i64 xa.got, .int .i64 xa.rel, .int .i64 xa.ended, .int .i64 xa.for_, .int .i64 xa.of_, .int .i64 xa.until_] 53 := Blk.new wA #[.int .i64 xa.st, .int .i64 xa.base, .int .i64 xa.lv, .int .i64 xa.at_, .int .i64 xa.last, .int .i64 xa.got, .int .i64 xa.rel, .int .i64 xa.ended, .int .i64 xa.for_, .int .i64 xa.of_, .int .i64 xa.until_] 53
            generalize (wA.alloc (.cells #[.int .i64 xa.st, .int .i64 xa.base, .int .i64 xa.lv, .int .i64 xa.at_, .int .i64 xa.last, .int .i64 xa.got, .int .i64 xa.rel, .int .i64 xa.ended, .int .i64 xa.for_, .int .i64 xa.of_, .int .i64 xa.until_] 53)).drew = wC at hbC bC ⊢
            have KC := hid (KA.out.below c.fr hbC)
            have HBC := hid (via HBA.out HBA.out.size hbC)
            have RC := hid (wrow_keep RA.out hbC)
            have BX := BA.out.only (Only.of_below (L := []) hbC) (by simp)
            have zm := (hbC.cell (p := ⟨gl, m, none⟩) hglA).trans zm
            have zj := (hbC.cell (p := ⟨gl, j, none⟩) hglA).trans zj
            clear hbC cw a0 a1 a2 a3 a4 a5 a6 a7 a8 a9 a10 KA HBA RA n1 n2 n3 hgv hwl p0 p2 p8 p9 BA
            have p2 := BX.cell 2
            have q2 := bC.cell 2
            simp at p2 q2
            clear BX bC
            obtain ⟨gs, cs, cw, hgs, zs⟩ := KC.out.since
            have s1 := zs u' hu'
            have s2 := zs u hu
            obtain ⟨va, hva⟩ : ∃ x, Hid (d.since.getD u' 0 = x) := ⟨_, hid rfl⟩
            obtain ⟨vb, hvb⟩ : ∃ x, Hid (d.since.getD u 0 = x) := ⟨_, hid rfl⟩
            rw [hva.out] at s1 ORD
            rw [hvb.out] at s2 ORD
            clear zs
            have hx1 : decide (xa.lv < xb.lv) = false := by rw [decide_eq_false_iff_not]; have := ORD.out; omega
            rcases ORD.out with o1 | ⟨o1, o2⟩
            case' inl =>
              have hx2 : (xa.lv == xb.lv) = false := by rw [beq_eq_false_iff_ne]; omega
              clear o1
            case' inr =>
              have hx2 : (xa.lv == xb.lv) = true := by rw [beq_iff_eq]; exact o1
              have hx3 : decide (vb ≤ va) = false := by rw [decide_eq_false_iff_not]; omega
              clear o1 o2
            all_goals
              go_wp2_with fail
              go_quiet (fail)
              go_wp2
              go_roundw
              case rel => exact ⟨j + 1, by omega, by go_num, bdrewN HBC.out _⟩
              case measure => simp [intOf]; omega
        · have e : j = L.length := by omega
          subst e
          go_wp2
          go_ret2
          exact ⟨_, rfl, RJ.out, via HB1.out HB1.out.size HBJ.out⟩
end
end Go.Proofs.Ytbkfildnijjioab

/-
  Walks over package donatekeep: lines.
-/
namespace Go.Proofs.Ytbkfildnijjioab
open Go.RowKit
/-- Lists of numbers, in a list of the law's own. -/
structure LL (N : Nat) (w : World) (v : Value) (ls : List (List Int)) (vs : List Value) : Prop where
  len : vs.length = ls.length
  row : w.ownsRow N 25 1 v ls.length vs
  each : ∀ j (hj : j < ls.length), w.ownsRow N 3 1 (vs.getD j (.slice none 0 0)) (ls[j]).length (intCells ls[j])
def LB (v : Value) (vs : List Value) (b : Nat) : Prop := v.ownBlock = some b ∨ ∃ u ∈ vs, u.ownBlock = some b
section
variable {N : Nat} {w w' : World} {v : Value} {ls : List (List Int)} {vs : List Value}
theorem LL.frame : FrameM (LB v vs) (fun w => LL N w v ls vs) := by
  intro w w' m hs hz
  refine ⟨m.len, ownsRow_same m.row fun g hg => hs g (.inl hg), fun j hj => ownsRow_same (m.each j hj) fun g hg => hs g (.inr ⟨vs.getD j (.slice none 0 0), ?_, hg⟩)⟩
  have : j < vs.length := by rw [m.len]; exact hj
  rw [List.getD_eq_getElem?_getD, List.getElem?_eq_getElem this]
  exact List.getElem_mem this
theorem LL.below (m : LL N w v ls vs) (hb : Below w.heap.size w w') : LL N w' v ls vs := ⟨m.len, wrow_keep m.row hb, fun j hj => wrow_keep (m.each j hj) hb⟩
theorem LL.mono {N' : Nat} (m : LL N w v ls vs) (h : N' ≤ N) : LL N' w v ls vs := ⟨m.len, ownsRow_mono m.row h, fun j hj => ownsRow_mono (m.each j hj) h⟩
theorem LL.nil (N : Nat) (w : World) : LL N w (.slice none 0 0) [] [] := ⟨rfl, World.ownsRow_nil _ _ _ _, fun j hj => by simp at hj⟩
theorem LL.ge (m : LL N w v ls vs) (b : Nat) (h : LB v vs b) : N ≤ b ∧ b < w.heap.size := by
  rcases h with h | ⟨u, hu, h⟩
  · have := ownsRow_block m.row h
    exact ⟨this.1, this.2.1⟩
  · obtain ⟨j, hj, rfl⟩ := List.mem_iff_getElem.1 hu
    have hj' : j < ls.length := by rw [← m.len]; exact hj
    have e : vs.getD j (.slice none 0 0) = vs[j] := by rw [List.getD_eq_getElem?_getD, List.getElem?_eq_getElem hj]; rfl
    have h2 := m.each j hj'
    rw [e] at h2
    have := ownsRow_block h2 h
    exact ⟨this.1, this.2.1⟩
/-- One of them: its cell. -/
theorem LL.at {g cap : Nat} {n : Nat} (m : LL N w (.slice (some ⟨g, 0, none⟩) n cap) ls vs) (j : Nat) (hj : j < ls.length) : ∃ a c, w.cell? ⟨g, j, none⟩ = some (.slice a (ls[j]).length c) := by
  obtain ⟨ao, cap', e, _, ha⟩ := owns_cells m.row
  simp at e
  obtain ⟨g', e2, _, _, _, hc⟩ := ha ⟨g, 0, none⟩ e.1.symm
  simp at e2
  subst e2
  obtain ⟨aj, cj, hv, _, _⟩ := owns_cells (m.each j hj)
  refine ⟨aj, cj, ?_⟩
  have hjv : j < vs.length := by rw [m.len]; exact hj
  have e3 : vs.getD j (.slice none 0 0) = vs[j] := by rw [List.getD_eq_getElem?_getD, List.getElem?_eq_getElem hjv]; rfl
  rw [hc j (by omega), List.getElem?_eq_getElem hjv, ← e3, hv]
theorem LL.at_row {g cap : Nat} {n j : Nat} {a : Option Addr} {c : Nat} {hj : j < ls.length} (m : LL N w (.slice (some ⟨g, 0, none⟩) n cap) ls vs) (h : w.cell? ⟨g, j, none⟩ = some (.slice a (ls[j]).length c)) : w.ownsRow N 3 1 (.slice a (ls[j]).length c) (ls[j]).length (intCells ls[j]) := by
  obtain ⟨ao, cap', e, _, ha⟩ := owns_cells m.row
  simp at e
  obtain ⟨g', e2, _, _, _, hc⟩ := ha ⟨g, 0, none⟩ e.1.symm
  simp at e2
  subst e2
  have hjv : j < vs.length := by rw [m.len]; exact hj
  have e3 : vs.getD j (.slice none 0 0) = vs[j] := by rw [List.getD_eq_getElem?_getD, List.getElem?_eq_getElem hjv]; rfl
  rw [hc j (by omega), List.getElem?_eq_getElem hjv, ← e3] at h
  have := m.each j hj
  rw [Option.some.inj h] at this
  exact this
theorem LL.put (m : LL N w v ls vs) {p : Addr} (u : Value) (hp : ¬ LB v vs p.block) : LL N (w.setCell p u) v ls vs := by
  refine LL.frame w _ m (fun b hb => Below.heap_setCell _ _ _ _ (fun e => ?_)) (by simp [World.setCell])
  exact hp (e ▸ hb)
/-- One list more. -/
theorem LL.snoc {u v' : Value} {l : List Int} {w1 w2 : World} (m : LL N w1 v ls vs) (r : w1.ownsRow N 3 1 u l.length (intCells l)) (hg : w1.grownBy w2 v.ownBlock) (r2 : w2.ownsRow N 25 1 v' (ls.length + 1) (vs ++ [u])) : LL N w2 v' (ls ++ [l]) (vs ++ [u]) := by
  have keep : ∀ (u : Value) (l : List Int), w1.ownsRow N 3 1 u l.length (intCells l) → w2.ownsRow N 3 1 u l.length (intCells l) := by
    intro u l r
    refine ownsRow_same r fun g hgu => hg.block g (ownsRow_block r hgu).2.1 (fun e => ?_)
    obtain ⟨_, _, cur, hc⟩ := ownsRow_block r hgu
    obtain ⟨_, _, cur', hc'⟩ := ownsRow_block m.row e.symm
    rw [hc] at hc'
    cases hc'
  refine ⟨by simp [m.len], by simpa using r2, fun j hj => ?_⟩
  by_cases e : j < ls.length
  · have h1 : (ls ++ [l])[j] = ls[j] := by rw [List.getElem_append_left e]
    have hv : j < vs.length := by rw [m.len]; exact e
    have h2 : (vs ++ [u]).getD j (.slice none 0 0) = vs.getD j (.slice none 0 0) := by simp [List.getD, List.getElem?_append_left hv]
    rw [h1, h2]
    exact keep _ _ (m.each j e)
  · have e2 : j = ls.length := by simp at hj; omega
    subst e2
    have h1 : (ls ++ [l])[ls.length]'hj = l := by simp
    have h2 : (vs ++ [u]).getD ls.length (.slice none 0 0) = u := by rw [← m.len]; simp [List.getD]
    rw [h1, h2]
    exact keep _ _ r
end
section
variable {PK : KP} {B : Nat} {w : World} {wb kb : Nat} {P : Nat → Prop} {h : WH} {d : WD} {s : RS}
def waitsTo (s : RS) (what : Int) (k : Nat) : List (List Int) := (List.range k).map fun j : Nat => R.waiting s what (j : Int)
theorem waitsTo_length (s : RS) (what : Int) (k : Nat) : (waitsTo s what k).length = k := by simp [waitsTo]
theorem waitsTo_succ (s : RS) (what : Int) (k : Nat) : waitsTo s what (k + 1) = waitsTo s what k ++ [R.waiting s what (k : Int)] := by simp [waitsTo, List.range_succ]
theorem waitsTo_get (s : RS) (what : Int) (k j : Nat) (hj : j < k) : (waitsTo s what k)[j]'(by rw [waitsTo_length]; exact hj) = R.waiting s what (j : Int) := by simp [waitsTo]
set_option maxRecDepth 100000 in
set_option maxHeartbeats 4000000 in
theorem wLines_any (c : CAll PK) (k : KWS PK B w wb kb P h d s) (what : Int) (n : Nat) (hw : what ≠ 0) (hn : (n : Int) ≤ R.things s what) (hn8 : n ≤ 8) :
    Calls Try.prog 24 #[.pointer (some ⟨wb, 0, none⟩), .int .i64 what, .int .i64 n] w fun e w' => ∃ v vs, e = .returned (.tuple #[v, .bool true]) ∧ LL w.heap.size w' v (waitsTo s what n) vs ∧ Below w.heap.size w w' := by
  have K := hid k
  clear k
  obtain ⟨i3, hi3, hz30, hz31, hz32⟩ := info_parts Try.infoInts
  have HI3 := hid (And.intro hi3 (And.intro hz30 (And.intro hz31 hz32)))
  clear hi3 hz30 hz31 hz32
  go_enter Try.func24, Try.ntmps24
  go_wp2
  go_loopw [8, 9] (fun v i wr => ∃ (j : Nat) (vs : List Value), j ≤ n ∧ i = .int .i64 j ∧ LL w.heap.size wr v (waitsTo s what j) vs ∧ Below w.heap.size w wr) (fun _ i _ => n - (intOf i).toNat)
  case atStart => exact ⟨0, [], Nat.zero_le _, rfl, LL.nil _ _, Below.refl _ _⟩
  case round =>
    obtain ⟨j, vs, hj, rfl, hll, hb⟩ := hrel
    have LLJ := hid hll
    have HB := hid hb
    have hsz := hb.size
    have KJ := hid (K.out.below c.fr hb)
    clear hll hb
    by_cases hjl : j < n
    · have hjI : (j : Int) < (n : Int) := by omega
      have ES := hid (waitsTo_succ s what j)
      have C1 := hid (wLine_any c KJ.out what (j : Int) hw (by omega) (by omega))
      go_wp2_with fail
      refine C1.out.mono ?_
      rintro e w1 ⟨u, rfl, hr1, hb1⟩
      obtain ⟨ar, cr, rfl, _, _⟩ := owns_cells hr1
      have LL1 := hid (LLJ.out.below hb1)
      have R1 := hid (ownsRow_mono hr1 hsz)
      have HB1 := hid (via HB.out HB.out.size hb1)
      have hsz1 := hb1.size
      have hlv := waitsTo_length s what j
      have HLV := hid LL1.out.len
      clear hr1 hb1 C1 LLJ KJ
      obtain ⟨L, hL⟩ : ∃ x, Hid (R.waiting s what (j : Int) = x) := ⟨_, hid rfl⟩
      rw [hL.out] at ES R1 ⊢
      clear hL
      obtain ⟨wl, hwl⟩ : ∃ x, Hid (waitsTo s what j = x) := ⟨_, hid rfl⟩
      rw [hwl.out] at ES LL1 hlv HLV
      clear hwl
      go_wp2_with (at_builtin; refine wpList_append_src rfl (.tmp 26) (.tmp 28) 37 rfl w.heap.size 25 i3 (.slice none 0 0) 1 24 Try.underlying37 HI3.out.1 HI3.out.2.1 HI3.out.2.2.1 HI3.out.2.2.2 rfl (by decide) u8 wl.length vs rfl (LL1.out.row.alloc _) (some ⟨w1.heap.size, 0, none⟩) 1 1 [.slice ar L.length cr] rfl rfl (fun h => (by cases h)) (fun j u hj => ⟨_, rfl, (by rw [Addr.add_lit, Nat.zero_add, (Blk.new w1 #[.slice ar L.length cr] 25).cell]; simpa using hj)⟩) (by intro u hu; simp at hu; subst hu; rfl) (by unfold maxLen; omega) (by omega) (by simp; omega) ?_; intro v' w2 hown2 hg2; have O2 := hid hown2; have G2 := hid hg2; clear hown2 hg2)
      go_roundw
      case rel =>
        have hbA : Below w1.heap.size w1 (w1.alloc (.cells #[.slice ar L.length cr] 25)) := (Below.refl _ _).alloc (Nat.le_refl _) _
        refine ⟨j + 1, vs ++ [.slice ar L.length cr], by omega, by go_num, ?_, (HB1.out.alloc (by omega) _).grown G2.out (by simp; omega) (fun g hg => (ownsRow_block LL1.out.row hg).1)⟩
        rw [ES.out]
        exact (LL1.out.below hbA).snoc (wrow_keep R1.out hbA) G2.out (by simpa using O2.out)
      case measure => simp [intOf]; omega
    · have e : j = n := by omega
      subst e
      go_wp2
      go_ret2
      exact ⟨_, vs, rfl, LLJ.out, HB.out⟩
end
end Go.Proofs.Ytbkfildnijjioab

/-
  Tokens, Delivered: what a step makes of counts and messages, in plain words (P14, P15).
-/
namespace Go.Proofs.Ytbkfildnijjioab
/-- What must be counted behind a step. -/
def TokP (who : Int) (i : InstrD) (code : Int) (a : Nat) (n most : Int) (L : List Int) (len : Nat) (vw : Nat → VD) (c : Int) : Prop :=
  ((who = -1 ∨ i.a ≠ (a : Int)) ∧ c = n) ∨
  (who ≠ -1 ∧ i.a = (a : Int) ∧
    ((i.op = 8 ∧ 0 < n ∧ c = n - 1 ∧ code = 0) ∨ (i.op = 8 ∧ ¬ 0 < n ∧ i.b = 0 ∧ c = 0 ∧ code = 2) ∨ (i.op = 8 ∧ ¬ 0 < n ∧ i.b ≠ 0 ∧ c = 0 ∧ code = 1) ∨
      (i.op = 9 ∧ (∃ u : Nat, ∃ h : 0 < L.length, L[0] = (u : Int) ∧ u < len ∧ (vw u).st ≠ 3 ∧ (vw u).last = 0) ∧ c = n ∧ code = 0) ∨
      (i.op = 9 ∧ L.length = 0 ∧ n = most ∧ c = n ∧ code = 7) ∨ (i.op = 9 ∧ L.length = 0 ∧ n ≠ most ∧ c = n + 1 ∧ code = 0) ∨
      (i.op ≠ 8 ∧ i.op ≠ 9 ∧ c = n)))
section
variable {d : WD} {s : RS}
theorem act_other (s : RS) (u g : Nat) (h0 : (R.instrAt s u).op ≠ 0) (h3 : (R.instrAt s u).op ≠ 3) (hne : g ≠ u) : R.th (R.actS s u).T g = R.th (R.doesS s u (R.instrAt s u)).T g := by
  rw [(R.actS_is s u h0 h3).1]
  have e1 : ∀ (v : RS) (c : Int), R.th (R.toLast v u c).T g = R.th v.T g := fun v c => by
    show R.th (v.T.modify u _) g = _
    rw [Ln.th_modify, if_neg (fun e => hne e.1)]
  have e2 : ∀ (v : RS) (c : Int), R.th (R.toAt v u c).T g = R.th v.T g := fun v c => by
    show R.th (v.T.modify u _) g = _
    rw [Ln.th_modify, if_neg (fun e => hne e.1)]
  rw [e1, e2]
theorem give_th (s : RS) (what of_ : Int) (h : 0 ≤ R.giveT s what of_) : (R.th (R.giveS s what of_).T (R.giveT s what of_).toNat).for_ = 0 ∧ (R.th (R.giveS s what of_).T (R.giveT s what of_).toNat).last = 0 := by
  obtain ⟨h1, _, _⟩ := R.giveT_spec s what of_ h
  unfold R.giveS
  rw [if_pos h, Ln.endW_th _ h1, if_pos rfl]
  exact ⟨rfl, rfl⟩
theorem tok_step {tk wt : List Nat} (i : RInv s) (x : R.Ext0 s) (a : Ln.Aux s tk wt) (sn : Snc d s) (n : Int) (b : Nat) (hb : b < s.count.length) :
    TokP (stepD d s n).who (stepD d s n).i (stepD d s n).code b (s.count.getD b 0) (s.set.sems.getD b R.pair0).y (R.waiting s 2 (b : Int)) s.T.length (viewD (R.entry s n)) ((R.entry s n).count.getD b 0) := by
  have e1 : (stepD d s n).who = (movedD d s n).who := rfl
  have e2 : (stepD d s n).i = (movedD d s n).i := rfl
  have e3 : (stepD d s n).code = (movedD d s n).code := rfl
  have c0 : 0 ≤ s.count.getD b 0 := by
    have := (i.bnd.cb b hb).1
    simpa [List.getD, hb] using this
  rcases moved_cases (d := d) i x n with ⟨e, em⟩ | ⟨_, e, em⟩ | ⟨u, _, p, e, em⟩
  · left
    rw [e1, em, e]
    exact ⟨.inl rfl, rfl⟩
  · left
    rw [e1, em, e, (R.tick_rest s).2.1]
    exact ⟨.inl rfl, rfl⟩
  · rw [e1, e2, e3, em, doesD_who, doesD_i, doesD_code, e]
    have ec : (R.settle (R.actS s u)).count = (R.actS s u).count := rfl
    rw [ec, R.actS_count]
    have lo := line_ok (d := d) a sn 2 (b : Int) (by decide)
    by_cases ha : (R.instrAt s u).a = (b : Int)
    · right
      refine ⟨by omega, ha, ?_⟩
      have hat : (R.instrAt s u).a.toNat = b := by omega
      by_cases h8 : (R.instrAt s u).op = 8
      · have hc : R.actC s u = R.downC s b (R.instrAt s u).b := by
          rw [(R.actS_is s u (by omega) (by omega)).2]
          unfold R.doesC
          rw [if_neg (by omega), if_neg (by omega), if_neg (by omega), if_pos h8, hat]
        rw [hc, if_pos h8, (R.downS_rest s u _ _).2.2, hat]
        unfold R.downC
        by_cases hp : 0 < s.count.getD b 0
        · left
          rw [if_pos hp, if_pos rfl]
          exact ⟨h8, hp, R.getD_set_self _ _ _ hb, rfl⟩
        · rw [if_neg hp]
          by_cases hz : (R.instrAt s u).b = 0
          · right; left
            rw [if_pos hz, if_neg (by decide)]
            exact ⟨h8, hp, hz, by omega, rfl⟩
          · right; right; left
            rw [if_neg hz, if_neg (by decide)]
            exact ⟨h8, hp, hz, by omega, rfl⟩
      · rw [if_neg h8]
        by_cases h9 : (R.instrAt s u).op = 9
        · have hc : R.actC s u = R.upC s b := by
            rw [(R.actS_is s u (by omega) (by omega)).2]
            unfold R.doesC
            rw [if_neg (by omega), if_neg (by omega), if_neg (by omega), if_neg (by omega), if_pos h9, hat]
          rw [hc, if_pos h9, (R.upS_rest s _).2.2, hat]
          unfold R.upC
          by_cases hg : 0 ≤ R.giveT s 2 (b : Int)
          · right; right; right; left
            rw [if_pos hg, if_pos (.inl hg)]
            refine ⟨h9, ?_, rfl, rfl⟩
            have hgv := lo.give
            have hlen : 0 < (R.waiting s 2 (b : Int)).length := by
              rcases Nat.eq_zero_or_pos (R.waiting s 2 (b : Int)).length with h | h
              · rw [dif_neg (by omega)] at hgv; omega
              · exact h
            rw [dif_pos hlen] at hgv
            obtain ⟨g1, g2, _⟩ := R.giveT_spec s 2 (b : Int) hg
            have hne : (R.giveT s 2 (b : Int)).toNat ≠ u := fun e5 => by rw [e5, p.f0] at g2; omega
            have ht := act_other s u _ (by omega) (by omega) hne
            have ed : R.doesS s u (R.instrAt s u) = R.giveS s 2 (b : Int) := by
              unfold R.doesS
              rw [if_neg (by omega), if_neg (by omega), if_neg (by omega), if_neg (by omega), if_neg (by omega), if_neg (by omega), if_pos h9, hat]
              unfold R.upS
              rw [if_pos hg]
            rw [ed] at ht
            have gt := give_th s 2 (b : Int) hg
            rw [← ht] at gt
            have ss := (R.settle_stay (R.actS s u) (R.giveT s 2 (b : Int)).toNat).1
            exact ⟨(R.giveT s 2 (b : Int)).toNat, hlen, by omega, g1, fun e5 => (st3 _ _).1 e5 (ss.for_.trans gt.1), ss.last.trans gt.2⟩
          · have hlen : (R.waiting s 2 (b : Int)).length = 0 := by
              have hgv := lo.give
              rcases Nat.eq_zero_or_pos (R.waiting s 2 (b : Int)).length with h | h
              · exact h
              · exfalso
                rw [dif_pos h] at hgv
                obtain ⟨v, _, hv, _⟩ := lo.mem 0 h
                omega
            rw [if_neg hg]
            by_cases hm : s.count.getD b 0 = (s.set.sems.getD b R.pair0).y
            · right; right; right; right; left
              rw [if_pos hm, if_pos (.inr hm)]
              exact ⟨h9, hlen, hm, rfl, rfl⟩
            · right; right; right; right; right; left
              rw [if_neg hm, if_neg (fun h => h.elim hg hm)]
              exact ⟨h9, hlen, hm, R.getD_set_self _ _ _ hb, rfl⟩
        · right; right; right; right; right; right
          rw [if_neg h9]
          exact ⟨h8, h9, rfl⟩
    · left
      refine ⟨.inr ha, ?_⟩
      by_cases h8 : (R.instrAt s u).op = 8
      · have := p.lo (by omega) (by omega)
        rw [if_pos h8, (R.downS_rest s u _ _).2.2]
        split
        · rw [R.getD_set_ne _ _ _ _ (by omega)]
        · rfl
      · rw [if_neg h8]
        by_cases h9 : (R.instrAt s u).op = 9
        · have := p.lo (by omega) (by omega)
          rw [if_pos h9, (R.upS_rest s _).2.2]
          split
          · rfl
          · rw [R.getD_set_ne _ _ _ _ (by omega)]
        · rw [if_neg h9]
theorem tok_new {S : SetD} : (R.new S).count = S.sems.map (fun m => m.x) := by
  show (R.settle (R.release (R.bare S))).count = _
  exact (releaseTo_rest (R.bare S) (R.bare S).T.length).1
/-- What is counted, and who waits. -/
theorem tok_dry {tk wt : List Nat} (x : R.Ext0 s) (a : Ln.Aux s tk wt) (sn : Snc d s) (b : Nat) (h : 0 < s.count.getD b 0) : (R.waiting s 2 (b : Int)).length = 0 := by
  have lo := line_ok (d := d) a sn 2 (b : Int) (by decide)
  rcases Nat.eq_zero_or_pos (R.waiting s 2 (b : Int)).length with h1 | h1
  · exact h1
  · obtain ⟨u, hu, _, hf, ho⟩ := lo.mem 0 h1
    exact absurd ⟨hf, ho⟩ (x.dry2 b h u hu)
end
end Go.Proofs.Ytbkfildnijjioab

/-
  Walks over package donatekeep: tokens.
-/
namespace Go.Proofs.Ytbkfildnijjioab
open Go.RowKit
section
variable {PK : KP} {B : Nat} {w : World} {wb kb : Nat} {P : Nat → Prop} {h : WH} {d : WD} {s : RS}
set_option maxRecDepth 100000 in
set_option maxHeartbeats 4000000 in
theorem wTokens_any (c : CAll PK) (k : KWS PK B w wb kb P h d s) (a : Nat) (ha : a < s.set.sems.length) (n cc : Int) (hn0 : 0 ≤ n) (hn1 : n ≤ 1000) (N : Nat) (ar : Option Addr) (cr : Nat) (L : List Int) (hL : w.ownsRow N 3 1 (.slice ar L.length cr) L.length (intCells L)) (hLl : L.length ≤ 1000)
    (tp : TokP d.who d.i d.code a n (s.set.sems.getD a R.pair0).y L s.T.length (viewD s) cc) :
    Calls Try.prog 26 #[.pointer (some ⟨wb, 0, none⟩), .int .i64 a, .int .i64 n, .slice ar L.length cr] w fun e w' => e = .returned (.tuple #[.int .i64 cc, .bool true]) ∧ Below w.heap.size w w' := by
  have hfew := k.i.good.few
  have K := hid k
  have ROW := hid hL
  have ES0 := hid k.wd.co.set
  have y17 := k.k.m.blk.cell 17
  have y18 := k.k.m.blk.cell 18
  have y19 := k.k.m.blk.cell 19
  have y20 := k.k.m.blk.cell 20
  have y21 := k.k.m.blk.cell 21
  simp [wCells] at y17 y18 y19 y20 y21
  have TP := hid tp
  clear k hL tp
  go_enter Try.func26, Try.ntmps26
  rcases TP.out with ⟨h1, h2⟩ | ⟨hw, hia, h1⟩
  · subst h2
    by_cases hw : d.who = -1
    · rw [hw] at y17
      clear TP h1 hw
      go_wp2
      go_ret2
      exact ⟨rfl, Below.refl _ _⟩
    · have hia : d.i.a ≠ (a : Int) := h1.resolve_left hw
      have b1 : (d.who == -1) = false := by simpa using hw
      have b2 : (d.i.a != (a : Int)) = true := by simpa using hia
      generalize d.who = who at *
      generalize d.i.a = ia at *
      clear TP h1 hw hia
      go_wp2
      go_ret2
      exact ⟨rfl, Below.refl _ _⟩
  · have b1 : (d.who == -1) = false := by simpa using hw
    have b2 : ((a : Int) != (a : Int)) = false := by simp
    rw [hia] at y19
    generalize d.who = who at *
    clear TP hw hia
    rcases h1 with ⟨q1, q2, q3, q4⟩ | ⟨q1, q2, q3, q4, q5⟩ | ⟨q1, q2, q3, q4, q5⟩ | ⟨q1, ⟨u, hl0, q2, q3, q4, q5⟩, q6, q7⟩ | ⟨q1, q2, q3, q4, q5⟩ | ⟨q1, q2, q3, q4, q5⟩ | ⟨q1, q2, q3⟩
    · rw [q1] at y18
      rw [q4] at y21
      subst q3
      clear q1 q4
      go_wp2_with fail
      go_quiet (fail)
      go_wp2
      go_ret2
      exact ⟨rfl, bdrewN (Below.refl _ _) _⟩
    · rw [q1] at y18
      rw [q3] at y20
      rw [q5] at y21
      subst q4
      have q2' : decide (0 < n) = false := by simpa using q2
      clear q1 q3 q5 q2
      go_wp2_with fail
      go_quiet (fail)
      go_wp2
      go_ret2
      exact ⟨rfl, bdrewN (Below.refl _ _) _⟩
    · rw [q1] at y18
      rw [q5] at y21
      subst q4
      have q2' : decide (0 < n) = false := by simpa using q2
      have q3' : (d.i.b == 0) = false := by simpa using q3
      generalize d.i.b = ib at *
      clear q1 q5 q2 q3
      go_wp2_with fail
      go_quiet (fail)
      go_wp2
      go_ret2
      exact ⟨rfl, bdrewN (Below.refl _ _) _⟩
    · rw [q1] at y18
      rw [q7] at y21
      subst q6
      have hlI : (0 : Int) < (L.length : Int) := by omega
      obtain ⟨gl, cl, hvl, hgl, zl, _⟩ := row_at ROW.out hl0
      simp at hvl
      obtain ⟨har, _⟩ := hvl
      subst har
      have z0 := zl 0 hl0
      rw [q2] at z0
      obtain ⟨gv, cv, cw, hgv, zv⟩ := K.out.view
      have b00 := zv u q3 0 (by decide)
      have b10 := zv u q3 1 (by decide)
      have b20 := zv u q3 2 (by decide)
      have b30 := zv u q3 3 (by decide)
      have b40 := zv u q3 4 (by decide)
      have b50 := zv u q3 5 (by decide)
      have b60 := zv u q3 6 (by decide)
      have b70 := zv u q3 7 (by decide)
      have b80 := zv u q3 8 (by decide)
      have b90 := zv u q3 9 (by decide)
      have b100 := zv u q3 10 (by decide)
      simp [vCells] at b00 b10 b20 b30 b40 b50 b60 b70 b80 b90 b100
      have Q4 := hid q4
      have Q5 := hid q5
      generalize viewD s u = xb at *
      have huI : (u : Int) < (s.T.length : Int) := by omega
      have hwl := K.out.k.m.blk.lt
      have n1 : wb ≠ w.heap.size := by omega
      have n2 : gv ≠ w.heap.size := by omega
      have n3 : gl ≠ w.heap.size := by omega
      clear q1 q7 q2 q4 q5 zl zv
      go_wp2_with fail
      go_region_held3 (fun w' => w'.cell? ⟨wb, 12, none⟩ = some (.slice (some ⟨gv, 0, none⟩) s.T.length cv) ∧ w'.cell? ⟨gl, 0, none⟩ = some (.int .i64 (u : Int)) ∧ w'.cell? ⟨gv, u * 11, none⟩ = some (.int .i64 xb.st) ∧ w'.cell? ⟨gv, u * 11 + 1, none⟩ = some (.int .i64 xb.base) ∧ w'.cell? ⟨gv, u * 11 + 2, none⟩ = some (.int .i64 xb.lv) ∧ w'.cell? ⟨gv, u * 11 + 3, none⟩ = some (.int .i64 xb.at_) ∧ w'.cell? ⟨gv, u * 11 + 4, none⟩ = some (.int .i64 xb.last) ∧ w'.cell? ⟨gv, u * 11 + 5, none⟩ = some (.int .i64 xb.got) ∧ w'.cell? ⟨gv, u * 11 + 6, none⟩ = some (.int .i64 xb.rel) ∧ w'.cell? ⟨gv, u * 11 + 7, none⟩ = some (.int .i64 xb.ended) ∧ w'.cell? ⟨gv, u * 11 + 8, none⟩ = some (.int .i64 xb.for_) ∧ w'.cell? ⟨gv, u * 11 + 9, none⟩ = some (.int .i64 xb.of_) ∧ w'.cell? ⟨gv, u * 11 + 10, none⟩ = some (.int .i64 xb.until_)) (go_keep) (fail)
      have hbA : Below w.heap.size w (w.alloc (.cells #[.int .i64 xb.st, .int .i64 xb.base, .int .i64 xb.lv, .int .i64 xb.at_, .int .i64 xb.last, .int .i64 xb.got, .int .i64 xb.rel, .int .i64 xb.ended, .int .i64 xb.for_, .int .i64 xb.of_, .int .i64 xb.until_] 53)).drew := ((Below.refl _ _).alloc (Nat.le_refl _) _).drew
      have bA : Blk (w.alloc (.cells #[.int .i64 xb.st, .int .i64 xb.base, .int .i64 xb.lv, .int .i64 xb.at_, .int .i64 xb.last, .int .i64 xb.got, .int .i64 xb.rel, .int .i64 xb.ended, .int .i64 xb.for_, .int .i64 xb.of_, .int .i64 xb.until_] 53)).drew w.heap.size #[.int .i64 xb.st, .int .i64 xb.base, .int .i64 xb.lv, .int .i64 xb.at_, .int .i64 xb.last, .int .i64 xb.got, .int .i64 xb.rel, .int .i64 xb.ended, .int .i64 xb.for_, .int .i64 xb.of_, .int .i64 xb.until_] 53 := Blk.new w #[.int .i64 xb.st, .int .i64 xb.base, .int .i64 xb.lv, .int .i64 xb.at_, .int .i64 xb.last, .int .i64 xb.got, .int .i64 xb.rel, .int .i64 xb.ended, .int .i64 xb.for_, .int .i64 xb.of_, .int .i64 xb.until_] 53
      generalize (w.alloc (.cells #[.int .i64 xb.st, .int .i64 xb.base, .int .i64 xb.lv, .int .i64 xb.at_, .int .i64 xb.last, .int .i64 xb.got, .int .i64 xb.rel, .int .i64 xb.ended, .int .i64 xb.for_, .int .i64 xb.of_, .int .i64 xb.until_] 53)).drew = wA at hbA bA ⊢
      have KA := hid (K.out.below c.fr hbA)
      have HBA := hid hbA
      have p0 := bA.cell 0
      have p4 := bA.cell 4
      simp at p0 p4
      have y21' := (hbA.cell (p := ⟨wb, 21, none⟩) hwl).trans y21
      clear hbA bA cw z0 y17 y18 y19 y20 y21 n1 n2 n3 hgv hgl b00 b10 b20 b30 b40 b50 b60 b70 b80 b90 b100
      rw [Q5.out] at p4
      have g1 : (xb.st != 3) = true := by simpa using Q4.out
      go_wp2_with fail
      go_quiet (fail)
      go_wp2
      go_ret2
      exact ⟨rfl, bdrewN HBA.out _⟩
    · rw [q1] at y18
      rw [q5] at y21
      subst q4
      rw [q2]
      have y4 := K.out.k.m.blk.cell 4
      simp [wCells] at y4
      have hsm := K.out.k.m.set
      rw [ES0.out] at y4 hsm
      obtain ⟨bm, om, ham, hbm, z0, z1⟩ := hsm.sems a ha
      rw [ham] at y4
      have epr : s.set.sems.getD a R.pair0 = s.set.sems[a] := by simp [List.getD, ha]
      rw [← epr] at z0 z1
      have haI : (a : Int) < (s.set.sems.length : Int) := by omega
      have q3' : (cc == (s.set.sems.getD a R.pair0).y) = true := by simpa using q3
      generalize (s.set.sems.getD a R.pair0).y = my at *
      generalize (s.set.sems.getD a R.pair0).x = mx at *
      clear q1 q5 q3 epr hsm
      go_wp2_with fail
      go_quiet (fail)
      go_wp2
      go_ret2
      exact ⟨rfl, bdrewN (Below.refl _ _) _⟩
    · rw [q1] at y18
      rw [q5] at y21
      subst q4
      rw [q2]
      have y4 := K.out.k.m.blk.cell 4
      simp [wCells] at y4
      have hsm := K.out.k.m.set
      rw [ES0.out] at y4 hsm
      obtain ⟨bm, om, ham, hbm, z0, z1⟩ := hsm.sems a ha
      rw [ham] at y4
      have epr : s.set.sems.getD a R.pair0 = s.set.sems[a] := by simp [List.getD, ha]
      rw [← epr] at z0 z1
      have haI : (a : Int) < (s.set.sems.length : Int) := by omega
      have q3' : (n == (s.set.sems.getD a R.pair0).y) = false := by simpa using q3
      generalize (s.set.sems.getD a R.pair0).y = my at *
      generalize (s.set.sems.getD a R.pair0).x = mx at *
      clear q1 q5 q3 epr hsm
      go_wp2_with fail
      go_quiet (fail)
      go_wp2
      go_ret2
      exact ⟨rfl, bdrewN (Below.refl _ _) _⟩
    · subst q3
      have b8 : (d.i.op == 8) = false := by simpa using q1
      have b9 : (d.i.op == 9) = false := by simpa using q2
      generalize d.i.op = op at *
      clear q1 q2
      go_wp2
      go_ret2
      exact ⟨rfl, Below.refl _ _⟩
end
end Go.Proofs.Ytbkfildnijjioab

/-
  A list that is turned entry by entry.
-/
namespace Go.Proofs.Ytbkfildnijjioab
def mixL {α : Type} (old new : List α) (j : Nat) : List α := new.take j ++ old.drop j
section
variable {α : Type} {old new : List α} {j : Nat}
theorem mixL_length (h : new.length = old.length) (hj : j ≤ old.length) : (mixL old new j).length = old.length := by simp [mixL]; omega
theorem mixL_zero : mixL old new 0 = old := by simp [mixL]
theorem mixL_full (h : new.length = old.length) : mixL old new old.length = new := by simp [mixL, ← h]
theorem mixL_get (h : new.length = old.length) (hj : j < old.length) : (mixL old new j)[j]? = old[j]? := by
  unfold mixL
  rw [List.getElem?_append_right (by simp; omega)]
  have : (new.take j).length = j := by simp; omega
  rw [this]
  simp
theorem mixL_set (h : new.length = old.length) (hj : j < old.length) : (mixL old new j).set j (new[j]'(by omega)) = mixL old new (j + 1) := by
  apply List.ext_getElem?
  intro i
  unfold mixL
  have hl : (new.take j).length = j := by simp; omega
  have hl2 : (new.take (j + 1)).length = j + 1 := by simp; omega
  rw [List.getElem?_set]
  by_cases e : j = i
  · subst e
    rw [if_pos rfl, List.getElem?_append_left (by omega)]
    have : j < (List.take j new ++ List.drop j old).length := by simp; omega
    rw [if_pos this]
    simp
  · rw [if_neg e]
    by_cases e2 : i < j
    · rw [List.getElem?_append_left (by omega), List.getElem?_append_left (by omega)]
      simp [e2, show i < j + 1 by omega]
    · rw [List.getElem?_append_right (by omega), List.getElem?_append_right (by omega), hl, hl2]
      simp only [List.getElem?_drop]
      congr 1
      omega
end
end Go.Proofs.Ytbkfildnijjioab
