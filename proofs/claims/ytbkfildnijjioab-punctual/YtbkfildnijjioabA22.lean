import Derived.Test.YtbkfildnijjioabA10
import Derived.Test.YtbkfildnijjioabA19
import Derived.Test.YtbkfildnijjioabA21
import Derived.Test.YtbkfildnijjioabA20
import Derived.Test.YtbkfildnijjioabA15
import Derived.Test.YtbkfildnijjioabA12
/-
  Walks over package donatekeep: what is alike is told alike: sameInts, sameMisses.
-/
namespace Go.Proofs.Ytbkfildnijjioab
open Go.RowKit
set_option maxHeartbeats 1000000 in
theorem wSameInts_eq (w : World) (ao bo : Option Addr) (ca cb : Nat) (l : List Int) (ha : IntsIn w.heap.size w ao l) (hb : IntsIn w.heap.size w bo l) (hl : l.length ≤ 1099511627776) :
    Calls Try.prog 43 #[.slice ao l.length ca, .slice bo l.length cb] w fun e w' => e = .returned (.bool true) ∧ ∃ n, w' = w.drewN n := by
  have HA := hid ha
  have HB := hid hb
  clear ha hb
  go_enter Try.func43, Try.ntmps43
  go_wp2
  go_loopw [5] (fun i wr => ∃ k : Nat, k ≤ l.length ∧ i = .int .i64 k ∧ ∃ n, wr = w.drewN n) (fun i _ => l.length - (intOf i).toNat)
  case atStart => exact ⟨0, Nat.zero_le _, rfl, 0, rfl⟩
  case round =>
    obtain ⟨k, hk, rfl, n, rfl⟩ := hrel
    by_cases hlt : k < l.length
    · obtain ⟨b1, o1, rfl, _, x1⟩ := HA.out k hlt
      obtain ⟨b2, o2, rfl, _, x2⟩ := HB.out k hlt
      have hkI : (k : Int) < (l.length : Int) := by omega
      go_wp2_with fail
      go_quiet (fail)
      go_wp2
      go_roundw
      case rel => exact ⟨k + 1, by omega, by go_num, _, rfl⟩
      case measure => simp [intOf]; omega
    · go_wp2
      go_ret
      exact ⟨rfl, _, rfl⟩
set_option maxHeartbeats 400000 in
theorem wSameMisses_eq (w : World) (ao bo : Option Addr) (ca cb : Nat) (l : List MissD) (ha : MissesIn w.heap.size w ao l) (hb : MissesIn w.heap.size w bo l) (hl : l.length ≤ 1099511627776) :
    Calls Try.prog 17 #[.slice ao l.length ca, .slice bo l.length cb] w fun e w' => e = .returned (.bool true) ∧ ∃ n, w' = w.drewN n := by
  have HA := hid ha
  have HB := hid hb
  clear ha hb
  go_enter Try.func17, Try.ntmps17
  go_wp2
  go_loopw [5] (fun i wr => ∃ k : Nat, k ≤ l.length ∧ i = .int .i64 k ∧ ∃ n, wr = w.drewN n) (fun i _ => l.length - (intOf i).toNat)
  case atStart => exact ⟨0, Nat.zero_le _, rfl, 0, rfl⟩
  case round =>
    obtain ⟨k, hk, rfl, n, rfl⟩ := hrel
    by_cases hlt : k < l.length
    · obtain ⟨b1, o1, rfl, _, x1, y1, z1⟩ := HA.out k hlt
      obtain ⟨b2, o2, rfl, _, x2, y2, z2⟩ := HB.out k hlt
      have hkI : (k : Int) < (l.length : Int) := by omega
      generalize l[k] = m at *
      go_wp2_with fail
      go_quiet (fail)
      go_wp2
      go_roundw
      case rel => exact ⟨k + 1, by omega, by go_num, _, rfl⟩
      case measure => simp [intOf]; omega
    · go_wp2
      go_ret
      exact ⟨rfl, _, rfl⟩
end Go.Proofs.Ytbkfildnijjioab

/-
  Walks over package donatekeep: late.
-/
namespace Go.Proofs.Ytbkfildnijjioab
open Go.RowKit
/-- Which job has its deadline now: the law's own reckoning. -/
theorem late_num (p g : Int) (hp : 0 ≤ p) (hg : 0 ≤ g) : (g = (if 0 < p then g / p else 0) * p → R.number p g = if 0 < p then g / p else 0) ∧ (g ≠ (if 0 < p then g / p else 0) * p → R.number p g = -1) := by
  have hg' : ¬ g < 0 := by omega
  unfold R.number
  rw [if_neg hg']
  by_cases h0 : p = 0
  · subst h0
    by_cases g0 : g = 0
    · simp [g0]
    · simp [g0]
  · have hpp : 0 < p := by omega
    have e := Int.mul_ediv_add_emod g p
    have e2 : g / p * p = p * (g / p) := Int.mul_comm _ _
    rw [if_neg h0, if_pos hpp, e2]
    refine ⟨fun h1 => ?_, fun h1 => ?_⟩
    · rw [if_neg (by omega)]
    · rw [if_pos (by omega)]
section
variable {PK : KP} {B : Nat} {w : World} {wb kb : Nat} {P : Nat → Prop} {h : WH} {d : WD} {s : RS}
set_option maxRecDepth 100000 in
set_option maxHeartbeats 4000000 in
theorem wLate_any (c : CAll PK) (k : KWS PK B w wb kb P h d s) :
    Calls Try.prog 16 #[.pointer (some ⟨wb, 0, none⟩)] w fun e w' => ∃ v, e = .returned v ∧ w'.ownsRow w.heap.size 82 3 v (R.late s).length (missCells (R.late s)) ∧ Below w.heap.size w w' := by
  have hfew := k.i.good.few
  have hlen := k.i.good.len
  have hn0 := k.i.good.now0
  have hn1 := k.i.good.now1
  have hn2 := k.i.good.now2
  have OFF := hid k.i.good.off
  have K := hid k
  have CO := hid k.wd.co
  obtain ⟨i3, hi3, hz30, hz31, hz32⟩ := info_parts Try.infoMiss
  have HI3 := hid (And.intro hi3 (And.intro hz30 (And.intro hz31 hz32)))
  clear hi3 hz30 hz31 hz32 k
  go_enter Try.func16, Try.ntmps16
  go_wp2
  go_loopw [3, 4] (fun v i wr => ∃ k : Nat, k ≤ s.T.length ∧ i = .int .i64 k ∧ wr.ownsRow w.heap.size 82 3 v (R.lateTo s k).length (missCells (R.lateTo s k)) ∧ Below w.heap.size w wr) (fun _ i _ => s.T.length - (intOf i).toNat)
  case atStart => exact ⟨0, Nat.zero_le _, rfl, World.ownsRow_nil _ _ _ _, Below.refl _ _⟩
  case round =>
    obtain ⟨k, hk, rfl, hown, hb⟩ := hrel
    have OW := hid hown
    have HB := hid hb
    have hsz := hb.size
    have hll := R.lateTo_len s k
    have MK := hid (K.out.below c.fr hb)
    clear hown hb
    have c2 := MK.out.k.m.blk.cell 2
    simp [wCells] at c2
    rw [CO.out.set, ← hlen] at c2
    by_cases hlt : k < s.T.length
    · have hlt2 : k < s.set.threads.length := by omega
      have hltI : (k : Int) < (s.T.length : Int) := by omega
      have hoff := OFF.out s.set.threads[k] (List.getElem_mem hlt2)
      have e0 : s.set.threads.getD k P3.none0 = s.set.threads[k] := by simp [List.getD, hlt2]
      have ES : Hid (R.lateTo s (k + 1) = if (s.set.threads[k]).deadline = 0 then R.lateTo s k
          else if 0 ≤ R.number (s.set.threads[k]).period (s.now - s.set.start - (s.set.threads[k]).offset - (s.set.threads[k]).deadline) ∧ (R.th s.T k).ended ≤ R.number (s.set.threads[k]).period (s.now - s.set.start - (s.set.threads[k]).offset - (s.set.threads[k]).deadline) then R.lateTo s k ++ [⟨(k : Int), R.number (s.set.threads[k]).period (s.now - s.set.start - (s.set.threads[k]).offset - (s.set.threads[k]).deadline), s.now⟩]
          else R.lateTo s k) := by rw [← e0]; exact hid rfl
      have hsm := MK.out.k.m.set
      rw [CO.out.set] at hsm
      obtain ⟨b, o, cv, cc, ha, hbb, x0, x1, x2, x3, x4, _⟩ := hsm.threads k hlt2
      rw [ha] at c2
      clear hsm e0
      generalize s.set.threads[k] = th at *
      go_upto_region 6 with fail
      have hbA : Below wr.heap.size wr (wr.alloc (.cells #[.int .i64 th.base, .int .i64 th.offset, .int .i64 th.period, .int .i64 th.deadline, .slice cv th.code.length cc] 75)) := (Below.refl _ _).alloc (Nat.le_refl _) _
      have bA := Blk.new wr #[.int .i64 th.base, .int .i64 th.offset, .int .i64 th.period, .int .i64 th.deadline, .slice cv th.code.length cc] 75
      generalize wr.alloc (.cells #[.int .i64 th.base, .int .i64 th.offset, .int .i64 th.period, .int .i64 th.deadline, .slice cv th.code.length cc] 75) = wA at hbA bA ⊢
      have KA := hid (MK.out.below c.fr hbA)
      have HBA := hid (via HB.out HB.out.size hbA)
      have OWA := hid (wrow_keep OW.out hbA)
      have BA := hid bA
      have hszA := hbA.size
      clear hbA bA x0 x1 x2 x3 x4 c2 ha MK OW HB
      have x1 := BA.out.cell 1
      have x2 := BA.out.cell 2
      have x3 := BA.out.cell 3
      simp at x1 x2 x3
      have c1 := KA.out.k.m.blk.cell 1
      have c7 := KA.out.k.m.blk.cell 7
      simp [wCells] at c1 c7
      rw [CO.out.set] at c1
      rw [CO.out.now] at c7
      go_wp2_with fail
      go_quiet (fail)
      have KQ := hid (KA.out.below c.fr (bdrewN (Below.refl _ _) nq))
      have HBQ := hid (bdrewN HBA.out nq)
      have BQ : Hid (Blk (wA.drewN nq) wr.heap.size #[.int .i64 th.base, .int .i64 th.offset, .int .i64 th.period, .int .i64 th.deadline, .slice cv th.code.length cc] 75) := BA.out
      have OWQ : Hid ((wA.drewN nq).ownsRow w.heap.size 82 3 u3 (R.lateTo s k).length (missCells (R.lateTo s k))) := OWA.out
      have hszQ : wr.heap.size ≤ (wA.drewN nq).heap.size := hszA
      clear KA HBA BA OWA x1 x2 x3 c1 c7
      generalize wA.drewN nq = wQ at *
      have x2 := BQ.out.cell 2
      have x3 := BQ.out.cell 3
      simp at x2 x3
      have c7 := KQ.out.k.m.blk.cell 7
      simp [wCells] at c7
      rw [CO.out.now] at c7
      have LN := hid (late_num th.period (s.now - s.set.start - th.offset - th.deadline) hoff.2.2.1)
      obtain ⟨gn, hgn⟩ : ∃ y, Hid (s.now - s.set.start - th.offset - th.deadline = y) := ⟨_, hid rfl⟩
      rw [hgn.out] at ES LN
      have hgb : -3000 ≤ gn ∧ gn ≤ 1000000000 := by have := hgn.out; omega
      generalize s.now - s.set.start - th.offset - th.deadline = gg at *
      have hgg := hgn.out
      subst hgg
      by_cases hd0 : th.deadline = 0
      · have F : Hid (R.lateTo s (k + 1) = R.lateTo s k) := by rw [ES.out, if_pos hd0]; exact hid rfl
        have hd0' : (th.deadline == 0) = true := by simpa using hd0
        go_wp2
        go_roundw
        case rel => exact ⟨k + 1, by omega, by go_num, by rw [F.out]; exact OWQ.out, HBQ.out⟩
        case measure => simp [intOf]; omega
      · have hd0' : (th.deadline == 0) = false := by simpa using hd0
        by_cases hneg : gg < 0
        · have F : Hid (R.lateTo s (k + 1) = R.lateTo s k) := by
            rw [ES.out, if_neg hd0]
            have : R.number th.period gg = -1 := by unfold R.number; rw [if_pos hneg]
            rw [this, if_neg (by omega)]
            exact hid rfl
          go_wp2
          go_roundw
          case rel => exact ⟨k + 1, by omega, by go_num, by rw [F.out]; exact OWQ.out, HBQ.out⟩
          case measure => simp [intOf]; omega
        · have hneg' : decide (gg < 0) = false := by simpa using hneg
          have LN2 := hid (LN.out (by omega))
          have y10 := KQ.out.k.m.blk.cell 10
          simp [wCells] at y10
          obtain ⟨gE, cE, hvE, hgE, zE, _⟩ := row_at KQ.out.k.m.ended (by rw [CO.out.ended]; simp; omega)
          have lE : d.ended.length = s.T.length := by rw [CO.out.ended]; simp
          have zEk := zE k (by rw [lE]; exact hlt)
          have eE : d.ended[k]'(by rw [lE]; exact hlt) = (R.th s.T k).ended := by simp [CO.out.ended, th_ext hlt]
          rw [eE] at zEk
          rw [hvE, lE] at y10
          generalize (R.th s.T k).ended = en at *
          clear zE hvE lE eE
          have main : ∀ job : Int, job = (if 0 < th.period then gg / th.period else 0) → 0 ≤ job ∧ job ≤ 1000000000 ∧ 0 ≤ job * th.period ∧ job * th.period ≤ 1000000000 := by
            intro job e
            by_cases hp : 0 < th.period
            · rw [if_pos hp] at e
              subst e
              have h3 := Int.ediv_nonneg (a := gg) (b := th.period) (by omega) (by omega)
              have h4 := Int.ediv_le_self (a := gg) th.period (by omega)
              have h5 := Int.mul_ediv_add_emod gg th.period
              have h6 := Int.emod_nonneg gg (b := th.period) (by omega)
              have h7 : gg / th.period * th.period = th.period * (gg / th.period) := Int.mul_comm _ _
              have h8 : 0 ≤ th.period * (gg / th.period) := Int.mul_nonneg (by omega) h3
              omega
            · rw [if_neg hp] at e
              subst e
              simp
          have MN := hid main
          clear main
          by_cases hp : 0 < th.period
          · have hq := MN.out (gg / th.period) (by rw [if_pos hp])
            rw [if_pos hp] at LN2
            have hpz : th.period ≠ 0 := by omega
            go_upto_region 11 with fail
            generalize gg / th.period = job at *
            by_cases hmul : gg = job * th.period
            · have hnum := LN2.out.1 hmul
              rw [hnum] at ES
              have hmul' : (gg == job * th.period) = true := by rw [beq_iff_eq]; exact hmul
              by_cases hen : en ≤ job
              · have F : Hid (R.lateTo s (k + 1) = R.lateTo s k ++ [⟨(k : Int), job, s.now⟩]) := by rw [ES.out, if_neg hd0, if_pos ⟨hq.1, hen⟩]; exact hid rfl
                clear hmul hnum
                go_wp2_with (at_builtin; refine wpList_append_src rfl (.tmp 73) (.tmp 81) 42 rfl w.heap.size 82 i3 (.agg #[.int .i64 0, .int .i64 0, .int .i64 0]) 3 24 Try.underlying42 HI3.out.1 HI3.out.2.1 HI3.out.2.2.1 HI3.out.2.2.2 rfl (by decide) u3 (R.lateTo s k).length (missCells (R.lateTo s k)) rfl (OWQ.out.alloc _) (some ⟨wQ.heap.size, 0, none⟩) 1 1 [.int .i64 (k : Int), .int .i64 job, .int .i64 s.now] rfl rfl (fun h => (by cases h)) (fun j u hj => ⟨_, rfl, (by rw [Addr.add_lit, Nat.zero_add, (Blk.new wQ #[.int .i64 (k : Int), .int .i64 job, .int .i64 s.now] 82).cell]; simpa using hj)⟩) (by intro u hu; simp at hu; rcases hu with rfl | rfl | rfl <;> rfl) (by unfold maxLen; omega) (by omega) (by simp; omega) ?_; intro v' w2 hown2 hg2; have O2 := hid hown2; have G2 := hid hg2; clear hown2 hg2)
                go_roundw
                case rel =>
                  refine ⟨k + 1, by omega, by go_num, ?_, (HBQ.out.alloc (by omega) _).grown G2.out (by simp; omega) (fun g hg => (ownsRow_block OWQ.out hg).1)⟩
                  rw [F.out, missCells_append]
                  simpa using O2.out
                case measure => simp [intOf]; omega
              · have F : Hid (R.lateTo s (k + 1) = R.lateTo s k) := by rw [ES.out, if_neg hd0, if_neg (fun h => hen h.2)]; exact hid rfl
                have hen' : decide (en ≤ job) = false := by simpa using hen
                clear hmul hnum
                go_wp2
                go_roundw
                case rel => exact ⟨k + 1, by omega, by go_num, by rw [F.out]; exact OWQ.out, HBQ.out⟩
                case measure => simp [intOf]; omega
            · have hnum := LN2.out.2 hmul
              rw [hnum] at ES
              have hmul' : (gg == job * th.period) = false := by rw [beq_eq_false_iff_ne]; exact hmul
              have F : Hid (R.lateTo s (k + 1) = R.lateTo s k) := by rw [ES.out, if_neg hd0, if_neg (fun h => by have := h.1; omega)]; exact hid rfl
              clear hmul hnum
              go_wp2
              go_roundw
              case rel => exact ⟨k + 1, by omega, by go_num, by rw [F.out]; exact OWQ.out, HBQ.out⟩
              case measure => simp [intOf]; omega
          · have hq := MN.out 0 (by rw [if_neg hp])
            rw [if_neg hp, Int.zero_mul] at LN2
            have hp' : decide (0 < th.period) = false := by simpa using hp
            go_upto_region 11 with fail
            by_cases hmul : gg = 0
            · have hnum := LN2.out.1 hmul
              rw [hnum] at ES
              have hmul' : (gg == 0) = true := by rw [beq_iff_eq]; exact hmul
              by_cases hen : en ≤ 0
              · have F : Hid (R.lateTo s (k + 1) = R.lateTo s k ++ [⟨(k : Int), 0, s.now⟩]) := by rw [ES.out, if_neg hd0, if_pos ⟨hq.1, hen⟩]; exact hid rfl
                clear hmul hnum
                go_wp2_with (at_builtin; refine wpList_append_src rfl (.tmp 73) (.tmp 81) 42 rfl w.heap.size 82 i3 (.agg #[.int .i64 0, .int .i64 0, .int .i64 0]) 3 24 Try.underlying42 HI3.out.1 HI3.out.2.1 HI3.out.2.2.1 HI3.out.2.2.2 rfl (by decide) u3 (R.lateTo s k).length (missCells (R.lateTo s k)) rfl (OWQ.out.alloc _) (some ⟨wQ.heap.size, 0, none⟩) 1 1 [.int .i64 (k : Int), .int .i64 0, .int .i64 s.now] rfl rfl (fun h => (by cases h)) (fun j u hj => ⟨_, rfl, (by rw [Addr.add_lit, Nat.zero_add, (Blk.new wQ #[.int .i64 (k : Int), .int .i64 0, .int .i64 s.now] 82).cell]; simpa using hj)⟩) (by intro u hu; simp at hu; rcases hu with rfl | rfl | rfl <;> rfl) (by unfold maxLen; omega) (by omega) (by simp; omega) ?_; intro v' w2 hown2 hg2; have O2 := hid hown2; have G2 := hid hg2; clear hown2 hg2)
                go_roundw
                case rel =>
                  refine ⟨k + 1, by omega, by go_num, ?_, (HBQ.out.alloc (by omega) _).grown G2.out (by simp; omega) (fun g hg => (ownsRow_block OWQ.out hg).1)⟩
                  rw [F.out, missCells_append]
                  simpa using O2.out
                case measure => simp [intOf]; omega
              · have F : Hid (R.lateTo s (k + 1) = R.lateTo s k) := by rw [ES.out, if_neg hd0, if_neg (fun h => hen h.2)]; exact hid rfl
                have hen' : decide (en ≤ 0) = false := by simpa using hen
                clear hmul hnum
                go_wp2
                go_roundw
                case rel => exact ⟨k + 1, by omega, by go_num, by rw [F.out]; exact OWQ.out, HBQ.out⟩
                case measure => simp [intOf]; omega
            · have hnum := LN2.out.2 hmul
              rw [hnum] at ES
              have hmul' : (gg == 0) = false := by rw [beq_eq_false_iff_ne]; exact hmul
              have F : Hid (R.lateTo s (k + 1) = R.lateTo s k) := by rw [ES.out, if_neg hd0, if_neg (fun h => by have := h.1; omega)]; exact hid rfl
              clear hmul hnum
              go_wp2
              go_roundw
              case rel => exact ⟨k + 1, by omega, by go_num, by rw [F.out]; exact OWQ.out, HBQ.out⟩
              case measure => simp [intOf]; omega
    · have e : k = s.T.length := by omega
      subst e
      go_wp2
      go_ret
      exact ⟨_, rfl, OW.out, HB.out⟩
end
end Go.Proofs.Ytbkfildnijjioab

/-
  Punctual: what Ticks tell, in plain words (P11).
-/
namespace Go.Proofs.Ytbkfildnijjioab
theorem lateTo_congr {s1 s2 : RS} (hs : s1.set = s2.set) (hn : s1.now = s2.now) (he : ∀ u, (R.th s1.T u).ended = (R.th s2.T u).ended) (k : Nat) : R.lateTo s1 k = R.lateTo s2 k := by
  induction k with
  | zero => rfl
  | succ k ih =>
    unfold R.lateTo R.numberAt
    rw [hs, hn, he k, ih]
theorem late_tick (s : RS) : R.late (R.tick s) = R.late (R.ticked s) := by
  unfold R.late
  have hl : (R.tick s).T.length = (R.ticked s).T.length := R.tick_len s
  rw [hl]
  refine lateTo_congr (s1 := R.tick s) (s2 := R.ticked s) (R.tick_rest s).2.2.2.2.1 (R.tick_rest s).2.2.2.1 (fun u => ?_) _
  exact ((R.cols_tick s).th u).2.2
theorem step_miss {d : WD} {s : RS} (i : RInv s) (x : R.Ext0 s) (n : Int) :
    ((stepD d s n).tick = true → (stepD d s n).told = R.late (R.entry s n) ∧ (R.entry s n).missed = s.missed ++ R.late (R.entry s n)) ∧ ((stepD d s n).tick = false → (R.entry s n).missed = s.missed) := by
  have e1 : (stepD d s n).tick = (movedD d s n).tick := rfl
  have e2 : (stepD d s n).told = (movedD d s n).told := rfl
  rcases moved_cases (d := d) i x n with ⟨e, em⟩ | ⟨_, e, em⟩ | ⟨u, _, p, e, em⟩
  · rw [e1, e2, em, e]
    exact ⟨fun h => (by cases h), fun _ => rfl⟩
  · rw [e1, e2, em, e, late_tick]
    exact ⟨fun _ => ⟨rfl, (R.tick_rest s).2.2.2.2.2⟩, fun h => (by cases h)⟩
  · rw [e1, e2, em, e, doesD_tick]
    have hol : s.owner.length ≤ 8 := by have := i.good.own; have := i.good.mfew; omega
    exact ⟨fun h => (by cases h), fun _ => (like_actS s u hol).mis⟩
theorem late_len (s : RS) : (R.late s).length ≤ s.T.length := R.lateTo_len s _
end Go.Proofs.Ytbkfildnijjioab

/-
  Punctual: the law's own function.
-/
namespace Go.Proofs.Ytbkfildnijjioab
open Go.RowKit
set_option maxRecDepth 100000 in
set_option maxHeartbeats 2000000 in
theorem lawPunctual_any {PK : KP} (c : CAll PK) (cn : CNew PK (fun _ => True)) (tv mv sv qv av : Option Addr) (tc mc sc qc ac : Nat) (S : SetD) (l : List Int) (w : World) (hS : SetIn w.heap.size w tv mv sv qv S) (hF : Fits S) (hnil : (tv = none → tc = 0) ∧ (mv = none → mc = 0) ∧ (sv = none → sc = 0) ∧ (qv = none → qc = 0)) (hl : IntsIn w.heap.size w av l) (hll : l.length ≤ 9223372036854775807) :
    Calls Try.prog 5 #[.agg #[.int .i64 S.workers, .int .i64 S.start, .slice tv S.threads.length tc, .slice mv S.mutexes.length mc, .slice sv S.sems.length sc, .slice qv S.queues.length qc], .slice av l.length ac] w fun e w' =>
      e = .returned (.bool true) ∧ Below w.heap.size w w' := by
  obtain ⟨i3, hi3, hz30, hz31, hz32⟩ := info_parts Try.infoMiss
  have HI3 := hid (And.intro hi3 (And.intro hz30 (And.intro hz31 hz32)))
  clear hi3 hz30 hz31 hz32
  have HS := hid hS
  have HF := hid hF
  have HN := hid hnil
  have HL := hid hl
  clear hS hF hnil hl
  go_enter Try.func5, Try.ntmps5
  by_cases hlong : l.length ≤ 1099511627776
  · have hlI : (l.length : Int) ≤ 1099511627776 := by omega
    go_wp2_with fail
    have hb0 : Below w.heap.size w (w.alloc (.cells #[.int .i64 S.workers, .int .i64 S.start, .slice tv S.threads.length tc, .slice mv S.mutexes.length mc, .slice sv S.sems.length sc, .slice qv S.queues.length qc] 27)) := (Below.refl _ _).alloc (Nat.le_refl _) _
    have hsz0 : w.heap.size ≤ (w.alloc (.cells #[.int .i64 S.workers, .int .i64 S.start, .slice tv S.threads.length tc, .slice mv S.mutexes.length mc, .slice sv S.sems.length sc, .slice qv S.queues.length qc] 27)).heap.size := by simp
    generalize w.alloc (.cells #[.int .i64 S.workers, .int .i64 S.start, .slice tv S.threads.length tc, .slice mv S.mutexes.length mc, .slice sv S.sems.length sc, .slice qv S.queues.length qc] 27) = w0 at hb0 hsz0 ⊢
    refine (wBeginS_any c cn tv mv sv qv tc mc sc qc S w0 (HS.out.later hb0) HF.out HN.out).mono ?_
    rintro e w1 ⟨hb1, hcase⟩
    have HB1 := hid (via hb0 hb0.size hb1)
    have hsz1 := hb1.size
    clear hb0 hb1
    rcases hcase with ⟨_, rfl⟩ | ⟨herr, hnx, B, wb, kb, P, h, hB, rfl, ks⟩
    · go_wp2
      go_ret
      exact ⟨rfl, HB1.out⟩
    · have K1 := hid ks
      have HBB : Hid (w.heap.size ≤ B) := hid (by omega)
      clear ks hB
      have hmis : (R.new S).missed = [] := by
        show (R.settle (R.release (R.bare S))).missed = []
        exact (releaseTo_rest (R.bare S) (R.bare S).T.length).2.2
      have HM0 := hid hmis
      clear hmis
      go_wp2
      go_loopw [7, 8] (fun v i wr => ∃ (k : Nat) (s : RS) (d : WD) (P : Nat → Prop) (h : WH), k ≤ l.length ∧ i = .int .i64 k ∧ KWS PK B wr wb kb P h d s ∧ s.next ≤ 16 + 33 * k ∧ d.steps = k ∧ wr.ownsRow B 82 3 v s.missed.length (missCells s.missed) ∧ Apart wr wb P h B (fun b => v.ownBlock = some b) ∧ Below w.heap.size w wr) (fun _ i _ => l.length - (intOf i).toNat)
      case atStart => exact ⟨0, R.new S, firstD S, P, h, Nat.zero_le _, rfl, K1.out, by omega, rfl, by rw [HM0.out]; exact World.ownsRow_nil _ _ _ _, (fun b hb => by cases hb), HB1.out⟩
      case round =>
        obtain ⟨k, s, d, P, h, hk, rfl, hks, hnk, hst, hrow, hap, hbk⟩ := hrel
        have KK := hid hks
        have HBK := hid hbk
        have HST := hid hst
        have ROW := hid hrow
        have AP := hid hap
        clear hks hbk hst K1 HB1 hrow hap
        by_cases hkl : k < l.length
        · obtain ⟨ab, aoff, ha, hab, hcell⟩ := HL.out k hkl
          subst ha
          have hcell' : wr.cell? ⟨ab, aoff + k, none⟩ = some (.int .i64 l[k]) := (HBK.out.cell (p := ⟨ab, aoff + k, none⟩) hab).trans hcell
          have hkI : (k : Int) < (l.length : Int) := by omega
          have hen := entry_next s l[k] KK.out.i
          have ESD := hid (stepD_steps d s l[k])
          generalize l[k] = x at *
          have ST := hid (wStepL_any c KK.out frame_row AP.out ROW.out (by omega) (by rw [HST.out]; omega) (by rw [HST.out]; omega) x)
          go_wp2_with fail
          refine ST.out.mono ?_
          rintro e w3 ⟨rfl, ⟨P', h', k3, ap3, row3⟩, hb3⟩
          have K3 := hid k3
          have AP3 := hid ap3
          have ROW3 := hid row3
          have HB3 := hid (HBK.out.trans (hb3.mono HBB.out))
          have SM := hid (step_miss (d := d) KK.out.i KK.out.x.toExt0 x)
          have hmb := K3.out.i.mis
          have hn2 := K3.out.i.good.now2
          have hn0 := K3.out.i.good.now0
          have hfew := K3.out.i.good.few
          have hll := late_len (R.entry s x)
          have y16 := k3.k.m.blk.cell 16
          have y22 := k3.k.m.blk.cell 22
          simp [wCells] at y16 y22
          clear k3 ap3 row3 hb3 hcell' ST
          cases htick : (stepD d s x).tick
          case' false =>
            have EM := hid (SM.out.2 htick)
            rw [htick] at y16
            have ROW5 := hid (show w3.ownsRow B 82 3 u7 (R.entry s x).missed.length (missCells (R.entry s x).missed) from by rw [EM.out]; exact ROW3.out)
            have K5 := K3
            have AP5 := AP3
            have HB5 := HB3
            go_upto_region 19 with fail
            generalize hu7 : u7 = v7 at *
            generalize hw3 : w3 = w5 at *
          case' true =>
            obtain ⟨et, em⟩ := SM.out.1 htick
            have ET := hid et
            have EM := hid em
            rw [htick] at y16
            obtain ⟨at_, ct, hvt, hnt, hmt⟩ := MissesIn.of_owns K3.out.k.m.told
            have HMT := hid hmt
            rw [hvt, et] at y22
            rw [et] at HMT
            clear et em hmt
            go_wp2_with fail
            refine (wLate_any c K3.out).mono ?_
            rintro e w4 ⟨v4, rfl, hr4, hb4⟩
            have K4 := hid (K3.out.below c.fr hb4)
            have AP4 := hid (AP3.out.below hb4.size)
            have ROW4 := hid (wrow_keep ROW3.out hb4)
            have HB4 := hid (via HB3.out HB3.out.size hb4)
            obtain ⟨al, cl, rfl, hnl, hml⟩ := MissesIn.of_owns hr4
            have R4 := hid hr4
            have HML := hid hml
            have HMT4 := hid (HMT.out.on hb4)
            have y22 := K4.out.k.m.blk.cell 22
            simp [wCells] at y22
            rw [hvt, ET.out] at y22
            clear hb4 hr4 hml HMT y16
            go_wp2_with fail
            refine (wSameMisses_eq w4 at_ al ct cl (R.late (R.entry s x)) HMT4.out HML.out (by omega)).mono ?_
            rintro e w4' ⟨rfl, nn, rfl⟩
            have hown : (w4.drewN nn).ownsRow B 82 3 u7 s.missed.length (missCells s.missed) := ROW4.out
            have HOWN := hid hown
            have KQ := hid (K4.out.below c.fr (bdrewN (Below.refl _ _) nn))
            have HBQ := hid (bdrewN HB4.out nn)
            have APQ : Hid (Apart (w4.drewN nn) wb P' h' B (fun b => u7.ownBlock = some b)) := AP4.out
            have HMQ : Hid (MissesIn (w4.drewN nn).heap.size (w4.drewN nn) al (R.late (R.entry s x))) := HML.out
            have RQ : Hid ((w4.drewN nn).ownsRow w3.heap.size 82 3 (.slice al (R.late (R.entry s x)).length cl) (R.late (R.entry s x)).length (missCells (R.late (R.entry s x)))) := R4.out
            clear hown K4 AP4 ROW4 HB4 R4 HML HMT4 y22
            generalize w4.drewN nn = wQ at *
            have hml2 : s.missed.length ≤ 16000000000 := by
              have := KK.out.i.mis
              have := KK.out.i.good.now2
              have := KK.out.i.good.now0
              omega
            have HSRC : Hid (∀ (j : Nat) (u : Value), (missCells (R.late (R.entry s x)))[j]? = some u → ∃ ad, al = some ad ∧ wQ.cell? (ad.add j) = some u) := by
              refine hid ?_
              intro j u hj
              obtain ⟨ao, cap, e1, hn, ha⟩ := owns_cells RQ.out
              have hjl : j < (missCells (R.late (R.entry s x))).length := (List.getElem?_eq_some_iff.1 hj).1
              rw [missCells_length] at hjl
              simp at e1
              rw [e1.1]
              cases ao with
              | none => have := (hn rfl).1; omega
              | some a =>
                obtain ⟨g, rfl, _, _, _, hc⟩ := ha a rfl
                refine ⟨_, rfl, ?_⟩
                rw [Addr.add_lit, Nat.zero_add, hc j hjl]
                exact hj
            have hlnil : al = none → cl = 0 := by
              intro e
              obtain ⟨ao, cap, e1, hn, _⟩ := owns_cells RQ.out
              simp at e1
              rw [e1.2]
              exact (hn (e1.1.symm.trans e)).2
            have HLN := hid hlnil
            clear hlnil
            go_upto_region 19 with (at_builtin; refine wpList_append_src_at rfl (.tmp 56) (.tmp 57) 42 rfl B 82 i3 (.agg #[.int .i64 0, .int .i64 0, .int .i64 0]) 3 24 Try.underlying42 HI3.out.1 HI3.out.2.1 HI3.out.2.2.1 HI3.out.2.2.2 rfl (by decide) u7 s.missed.length (missCells s.missed) rfl HOWN.out al (R.late (R.entry s x)).length cl (missCells (R.late (R.entry s x))) rfl (missCells_length _) (fun hh => HLN.out hh) HSRC.out (missCells_one _) (by unfold maxLen; omega) (by omega) KQ.out.k.m.bsz ?_; intro v7 w5 hown5 hg5 hat5; have O5 := hid hown5; have G5 := hid hg5; have A5 := hid hat5; clear hown5 hg5 hat5)
            have AQ2 := hid (fun g hg => ⟨(APQ.out g hg).1, (APQ.out g hg).2.2⟩ : ∀ g, u7.ownBlock = some g → B ≤ g ∧ ¬ P' g ∧ ¬ WB wb h' g)
            obtain ⟨k5, hb5⟩ := KQ.out.grown c.fr G5.out AQ2.out
            have K5 := hid k5
            have HB5 := hid (HBQ.out.trans (hb5.mono HBB.out))
            have ROW5 : Hid (w5.ownsRow B 82 3 v7 (R.entry s x).missed.length (missCells (R.entry s x).missed)) := by
              rw [EM.out, missCells_two, List.length_append]
              exact hid O5.out
            have AP5 : Hid (Apart w5 wb P' h' B (fun b => v7.ownBlock = some b)) := by
              refine hid fun b hb => ?_
              have hlt := (ownsRow_block ROW5.out hb).2.1
              rcases A5.out with e | e
              · have hb' : v7.ownBlock = some b := hb
                rw [e] at hb'
                have := AQ2.out b hb'
                exact ⟨this.1, hlt, this.2⟩
              · have hb' : v7.ownBlock = some b := hb
                rw [e] at hb'
                have e2 : wQ.heap.size = b := Option.some.inj hb'
                have := KQ.out.fresh c.fr (g := b) (by omega)
                exact ⟨this.1, hlt, this.2⟩
            clear k5 hb5 O5 G5 A5 KQ HBQ APQ HMQ RQ HOWN HSRC AQ2
          all_goals
            have y6 := K5.out.k.m.blk.cell 6
            simp [wCells] at y6
            go_wp2_with fail
            refine (c.mis P' w5 kb (R.entry s x) K5.out.k.pk).mono ?_
            rintro e w6 ⟨v6, rfl, hr6, hb6⟩
            have K6 := hid (K5.out.below c.fr hb6)
            have AP6 := hid (AP5.out.below hb6.size)
            have ROW6 := hid (wrow_keep ROW5.out hb6)
            have HB6 := hid (via HB5.out HB5.out.size hb6)
            obtain ⟨am, cm, rfl, _, hmm⟩ := MissesIn.of_owns hr6
            obtain ⟨aa, ca, hva, _, hma⟩ := MissesIn.of_owns ROW6.out
            have HMM := hid hmm
            have HMA := hid hma
            have hmb2 : (R.entry s x).missed.length ≤ 1099511627776 := by omega
            clear hb6 hr6 hmm hma y6 hmb
            subst hva
            go_wp2_with fail
            refine (wSameMisses_eq w6 am aa cm ca (R.entry s x).missed HMM.out HMA.out hmb2).mono ?_
            rintro e w7 ⟨rfl, nn2, rfl⟩
            have K7 := hid (K6.out.below c.fr (bdrewN (Below.refl _ _) nn2))
            have HB7 := hid (bdrewN HB6.out nn2)
            go_wp2
            go_roundw
            case rel => exact ⟨k + 1, R.entry s x, stepD d s x, P', h', by omega, by go_num, K7.out, by omega, by rw [ESD.out, HST.out]; omega, ROW6.out, AP6.out, HB7.out⟩
            case measure => simp [intOf]; omega
        · have e : k = l.length := by omega
          subst e
          go_wp2
          go_ret
          exact ⟨rfl, HBK.out⟩
  · have hlI : (1099511627776 : Int) < (l.length : Int) := by omega
    go_wp2
    go_ret
    exact ⟨rfl, (Below.refl _ _).alloc (Nat.le_refl _) _⟩
end Go.Proofs.Ytbkfildnijjioab

/-
  Punctual: the given statement out of the walk. (Written by wip/mkkeep.py.)
-/
namespace Go.Proofs.Ytbkfildnijjioab
open Go.ChangeShapes Go.WideShapes Go.ChangeAt Go.RowKit Go.Deep

set_option maxRecDepth 100000 in
theorem punctual_lifted {PK : KP} (c : CAll PK) (cn : CNew PK (fun _ => True)) (os : Os) (started : os.Started) (H : Type) (enc : TypeId × Value → H) :
    ReturnsInHanded {} Try.checked os 5 .any (Rows.punctualSpec.pre6 enc Try.prog Try.f5 Rows.punctualRow.domain false) (Rows.punctualSpec.post enc Try.prog Try.f5 false true false false) := by
  refine returnsInHanded_of_change_sized (C := Try.checked) Try.own started (by kernel_rfl) Try.func5
    (ChangeSpec.witness6 (enc := enc) (C := Try.checked) false ⟨#[], #[.agg #[.int .i64 0, .int .i64 0, .slice none 0 0, .slice none 0 0, .slice none 0 0, .slice none 0 0], .slice none 0 0], []⟩ 8 (by kernel_rfl) (by kernel_rfl) (by kernel_rfl) (by kernel_rfl)) ?_
  intro W base args ds gs before hval0 hW _ hsz0 _
  have hval : ∀ (j : Nat) t v, Try.f5.params[j]? = some t → args[j]? = some v → Value.okWide Try.prog W .any base t v := hval0
  have hsz : (DataW.weightsEach Try.prog (Try.f5.params.toList ++ Rows.punctualSpec.plain.varTypes Try.prog) (ds ++ gs)).all (· ≤ reachBytes) = true := hsz0
  have hW' := hW
  obtain ⟨p, q, hA0, hV, rfl, hfz, hnd⟩ := hW
  have hA : DataW.TrodAll enc Try.prog W 0 (fun _ => true) true Try.f5.params.toList args.toList ds p := hA0
  rw [Try.params5] at hA hval hsz
  obtain ⟨v0, v1, d0, d1, p0, p1, rfl, rfl, rfl, h0, h1⟩ := trodAll_two hA
  obtain ⟨rfl, rfl⟩ := trodVars_none hV
  clear hA0 hval0 hsz0
  have hlight : Light d0 27 := by
    intro n hn
    have := List.all_eq_true.1 hsz n (DataW.weights_mem_each (j := 0) rfl rfl n hn)
    simpa using this
  have hlight1 : Light d1 25 := by
    intro n hn
    have := List.all_eq_true.1 hsz n (DataW.weights_mem_each (j := 1) rfl rfl n hn)
    simpa using this
  obtain ⟨S, tv, mv, sv, qv, tc, mc, sc, qc, hv, hin, hfit, hnil⟩ := open_set (hval 0 27 v0 rfl rfl) h0 hlight
  subst hv
  obtain ⟨av, ac, l, hv, hil, hll⟩ := open_script (hval 1 25 v1 rfl rfl) h1 hlight1
  subst hv
  unfold reachBytes at hll
  simp only [List.append_nil] at hW'
  refine (lawPunctual_any c cn tv mv sv qv av tc mc sc qc ac S l W hin hfit hnil hil (by omega)).mono fun e W' ⟨he, hb⟩ => ?_
  subst he
  refine ⟨_, rfl, _, _, _, [], p0 ++ p1, [], hW', ?_, ?_, rfl, hb.frame _, fun h => by cases h⟩
  · exact trodAll_mk1 (shut_bool Try.underlying4 _)
  · exact trodAll_mk2 (Below.trod Try.laidOut (by kernel_rfl) (of_decide_eq_true (by kernel_rfl)) h0 hb (fun x hx => hW'.lt x (by simp; exact .inl hx))) (Below.trod Try.laidOut (by kernel_rfl) (of_decide_eq_true (by kernel_rfl)) h1 hb (fun x hx => hW'.lt x (by simp; exact .inr hx)))

theorem punctual_of {PK : KP} (c : CAll PK) (cn : CNew PK (fun _ => True)) : Rows.PunctualSaid :=
  OpenClaim.holds_of_wide 5 Try.f5 rfl rfl rfl rfl rfl rfl rfl ⟨rfl, rfl, rfl, rfl, rfl⟩ rfl rfl rfl rfl rfl (by kernel_rfl) Try.func5 (by kernel_rfl)
    (of_decide_eq_true (by kernel_rfl)) (by unfold Func.isWrapper; first | (rw [if_pos (by decide +kernel)]; kernel_rfl) | (rw [if_neg (by decide +kernel)]; exact ⟨rfl, rfl⟩))
    (fun os started H enc _ => punctual_lifted c cn os started H enc)

end Go.Proofs.Ytbkfildnijjioab

/-
  Punctual, of this program.
-/
namespace Go.Proofs.Ytbkfildnijjioab

theorem punctual_holds : Rows.PunctualSaid := punctual_of cAll cNew

end Go.Proofs.Ytbkfildnijjioab
