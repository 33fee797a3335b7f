import Derived.Test.YtbkfildnijjioabA23
import Derived.Test.YtbkfildnijjioabA22
import Derived.BigQuiet
/-
  Walks over package donatekeep: onward, open, met, heir.
-/
namespace Go.Proofs.Ytbkfildnijjioab
open Go.RowKit
/-- What was seen of owners and of those who wait, in memory. -/
structure CH (N : Nat) (w : World) (cb : Nat) (ao : Option Addr) (co : Nat) (vl : Value) (own : List Int) (ls : List (List Int)) (vs : List Value) : Prop where
  blk : Blk w cb #[.slice ao own.length co, vl] 39
  own : w.ownsRow N 3 1 (.slice ao own.length co) own.length (intCells own)
  ll : LL N w vl ls vs
  ge : N ≤ cb
def CB (cb : Nat) (ao : Option Addr) (vl : Value) (vs : List Value) (b : Nat) : Prop := b = cb ∨ (Value.slice ao 0 0).ownBlock = some b ∨ LB vl vs b
section
variable {N : Nat} {w w' : World} {cb : Nat} {ao : Option Addr} {co : Nat} {vl : Value} {own : List Int} {ls : List (List Int)} {vs : List Value}
theorem own_blk (ao : Option Addr) (n c n' c' : Nat) : (Value.slice ao n c).ownBlock = (Value.slice ao n' c').ownBlock := by cases ao <;> rfl
theorem CH.frame : FrameM (CB cb ao vl vs) (fun w => CH N w cb ao co vl own ls vs) := by
  intro w w' m hs hz
  refine ⟨?_, ownsRow_same m.own fun g hg => hs g (.inr (.inl (by rw [own_blk ao 0 0 own.length co]; exact hg))), LL.frame w w' m.ll (fun b hb => hs b (.inr (.inr hb))) hz, m.ge⟩
  have h1 := m.blk
  unfold Blk at h1 ⊢
  rw [hs cb (.inl rfl)]
  exact h1
theorem CH.below (m : CH N w cb ao co vl own ls vs) (hb : Below w.heap.size w w') : CH N w' cb ao co vl own ls vs := by
  refine ⟨?_, wrow_keep m.own hb, m.ll.below hb, m.ge⟩
  have h1 := m.blk
  have hl := m.blk.lt
  unfold Blk at h1 ⊢
  rw [hb.block cb hl]
  exact h1
theorem CH.mono {N' : Nat} (m : CH N w cb ao co vl own ls vs) (h : N' ≤ N) : CH N' w cb ao co vl own ls vs := ⟨m.blk, ownsRow_mono m.own h, m.ll.mono h, by have := m.ge; omega⟩
theorem CH.bd (m : CH N w cb ao co vl own ls vs) (b : Nat) (h : CB cb ao vl vs b) : N ≤ b ∧ b < w.heap.size := by
  rcases h with rfl | h | h
  · exact ⟨m.ge, m.blk.lt⟩
  · have := ownsRow_block m.own (g := b) (by rw [own_blk ao own.length co 0 0]; exact h)
    exact ⟨this.1, this.2.1⟩
  · exact m.ll.ge b h
theorem CH.cell0 (m : CH N w cb ao co vl own ls vs) : w.cell? ⟨cb, 0, none⟩ = some (.slice ao own.length co) := by
  have := m.blk.cell 0
  simpa using this
theorem CH.cell1 (m : CH N w cb ao co vl own ls vs) : w.cell? ⟨cb, 1, none⟩ = some vl := by
  have := m.blk.cell 1
  simpa using this
end
section
variable {PK : KP} {B : Nat} {w : World} {wb kb : Nat} {P : Nat → Prop} {h : WH} {d : WD} {s : RS} {N cb : Nat} {ao : Option Addr} {co : Nat} {vl : Value} {own : List Int} {ls : List (List Int)} {vs : List Value}
set_option maxRecDepth 100000 in
set_option maxHeartbeats 4000000 in
theorem wOnward_any (_c : CAll PK) (k : KWS PK B w wb kb P h d s) (ch : CH N w cb ao co vl own ls vs) (hol : own.length ≤ 8) (t : Nat) (ht : t < s.T.length) :
    Calls Try.prog 38 #[.pointer (some ⟨wb, 0, none⟩), .pointer (some ⟨cb, 0, none⟩), .int .i64 t] w fun e w' => e = .returned (.int .i64 (onwd own s t)) ∧ Below w.heap.size w w' := by
  have hfew := k.i.good.few
  have htI : (t : Int) < (s.T.length : Int) := by omega
  have CHH := hid ch
  obtain ⟨gv, cv, cw, hgv, zv⟩ := k.view
  have b0 := zv t ht 0 (by decide)
  have b1 := zv t ht 1 (by decide)
  have b2 := zv t ht 2 (by decide)
  have b3 := zv t ht 3 (by decide)
  have b4 := zv t ht 4 (by decide)
  have b5 := zv t ht 5 (by decide)
  have b6 := zv t ht 6 (by decide)
  have b7 := zv t ht 7 (by decide)
  have b8 := zv t ht 8 (by decide)
  have b9 := zv t ht 9 (by decide)
  have b10 := zv t ht 10 (by decide)
  simp [vCells] at b0 b1 b2 b3 b4 b5 b6 b7 b8 b9 b10
  have EO : Hid (onwd own s t = if (viewD s t).for_ = 1 ∧ 0 ≤ (viewD s t).of_ ∧ (viewD s t).of_ < own.length then own.getD (viewD s t).of_.toNat 0 else -1) := hid rfl
  obtain ⟨rr, hrr⟩ : ∃ y, Hid (onwd own s t = y) := ⟨_, hid rfl⟩
  rw [hrr.out] at EO ⊢
  generalize viewD s t = xb at *
  clear k ch zv
  go_enter Try.func38, Try.ntmps38
  go_upto_region 2 with fail
  have hbA : Below w.heap.size w (w.alloc (.cells #[.int .i64 xb.st, .int .i64 xb.base, .int .i64 xb.lv, .int .i64 xb.at_, .int .i64 xb.last, .int .i64 xb.got, .int .i64 xb.rel, .int .i64 xb.ended, .int .i64 xb.for_, .int .i64 xb.of_, .int .i64 xb.until_] 53)) := (Below.refl _ _).alloc (Nat.le_refl _) _
  have bA := Blk.new w #[.int .i64 xb.st, .int .i64 xb.base, .int .i64 xb.lv, .int .i64 xb.at_, .int .i64 xb.last, .int .i64 xb.got, .int .i64 xb.rel, .int .i64 xb.ended, .int .i64 xb.for_, .int .i64 xb.of_, .int .i64 xb.until_] 53
  generalize w.alloc (.cells #[.int .i64 xb.st, .int .i64 xb.base, .int .i64 xb.lv, .int .i64 xb.at_, .int .i64 xb.last, .int .i64 xb.got, .int .i64 xb.rel, .int .i64 xb.ended, .int .i64 xb.for_, .int .i64 xb.of_, .int .i64 xb.until_] 53) = wA at hbA bA ⊢
  have CHA := hid (CHH.out.below hbA)
  have HBA := hid hbA
  have BA := hid bA
  have p8 := bA.cell 8
  have p9 := bA.cell 9
  simp at p8 p9
  clear hbA bA cw b0 b1 b2 b3 b4 b5 b6 b7 b8 b9 b10 CHH
  have z0 := CHA.out.cell0
  by_cases hc : xb.for_ = 1 ∧ 0 ≤ xb.of_ ∧ xb.of_ < own.length
  · have er : rr = own.getD xb.of_.toNat 0 := by rw [EO.out, if_pos hc]
    obtain ⟨c1, c2, c3⟩ := hc
    obtain ⟨j, hj⟩ := Int.eq_ofNat_of_zero_le c2
    have hjl : j < own.length := by omega
    rw [hj] at p9
    rw [c1] at p8
    obtain ⟨gl, cl, hvl, hgl, zl, _⟩ := row_at CHA.out.own (by omega)
    simp at hvl
    obtain ⟨hvl1, _⟩ := hvl
    subst hvl1
    have zj := zl j hjl
    have ej : own[j] = rr := by rw [er, hj]; simp [List.getD, hjl]
    rw [ej] at zj
    have hjI : (j : Int) < (own.length : Int) := by omega
    have g1 : decide ((j : Int) < 0) = false := by rw [decide_eq_false_iff_not]; omega
    have g2 : decide ((own.length : Int) ≤ (j : Int)) = false := by rw [decide_eq_false_iff_not]; omega
    have HRR := hid er
    clear EO er c1 c2 c3 hj zl ej hrr
    generalize own.length = M at *
    go_wp2_with fail
    go_quiet (fail)
    have z0 : (wA.drewN nq).cell? ⟨cb, 0, none⟩ = some (.slice (some ⟨gl, 0, none⟩) M co) := z0
    have zj : (wA.drewN nq).cell? ⟨gl, j, none⟩ = some (.int .i64 rr) := zj
    have p9 : (wA.drewN nq).cell? ⟨w.heap.size, 9, none⟩ = some (.int .i64 (j : Int)) := p9
    have HBQ := hid (bdrewN HBA.out nq)
    clear HBA BA p8
    generalize wA.drewN nq = wQ at *
    go_wp2_with fail
    go_quiet (fail)
    go_wp2
    go_ret
    exact ⟨rfl, bdrewN HBQ.out _⟩
  · have er : rr = -1 := by rw [EO.out, if_neg hc]
    subst er
    have hsub : (xb.for_ != 1) = true ∨ ((xb.for_ != 1) = false ∧ decide (xb.of_ < 0) = true) ∨ ((xb.for_ != 1) = false ∧ decide (xb.of_ < 0) = false ∧ decide ((own.length : Int) ≤ xb.of_) = true) := by
      simp only [bne_iff_ne, bne_eq_false_iff_eq, decide_eq_true_iff, decide_eq_false_iff_not]
      omega
    generalize own.length = M at *
    clear hc EO hrr
    rcases hsub with g1 | ⟨g1, g2⟩ | ⟨g1, g2, g3⟩
    all_goals
      go_wp2_with fail
      go_quiet (fail)
      go_wp2
      go_ret
      exact ⟨rfl, bdrewN HBA.out _⟩
theorem onwd_bd (hown : ∀ i, i < own.length → -1 ≤ own.getD i 0 ∧ own.getD i 0 < s.T.length) (u : Nat) : -1 ≤ onwd own s u ∧ onwd own s u < s.T.length := by
  unfold onwd
  split
  · rename_i h
    exact hown _ (by omega)
  · omega
set_option maxRecDepth 100000 in
set_option maxHeartbeats 4000000 in
theorem wOpen_any (c : CAll PK) (k : KWS PK B w wb kb P h d s) (ch : CH N w cb ao co vl own ls vs) (hol : own.length ≤ 8) (hown : ∀ i, i < own.length → -1 ≤ own.getD i 0 ∧ own.getD i 0 < s.T.length) (hgo : ∀ t, t < s.T.length → goTo own s s.T.length (t : Int) = -1) :
    Calls Try.prog 14 #[.pointer (some ⟨wb, 0, none⟩), .pointer (some ⟨cb, 0, none⟩)] w fun e w' => e = .returned (.bool true) ∧ Below w.heap.size w w' := by
  have hfew := k.i.good.few
  have K := hid k
  have CHH := hid ch
  have HOW := hid hown
  have HGO := hid hgo
  clear k ch hown hgo
  go_enter Try.func14, Try.ntmps14
  go_wp2
  go_loopw [5] (fun i wr => ∃ t : Nat, t ≤ s.T.length ∧ i = .int .i64 t ∧ Below w.heap.size w wr) (fun i _ => s.T.length - (intOf i).toNat)
  case atStart => exact ⟨0, Nat.zero_le _, rfl, Below.refl _ _⟩
  case round =>
    obtain ⟨t, ht, rfl, hb⟩ := hrel
    have HB := hid hb
    have KT := hid (K.out.below c.fr hb)
    clear hb
    obtain ⟨gv, cv, cw, hgv, _⟩ := KT.out.view
    by_cases htl : t < s.T.length
    · have htI : (t : Int) < (s.T.length : Int) := by omega
      go_wp2
      clear cw
      go_loopw [6, 7] (fun u i wr => ∃ (j : Nat) (o : Int), j ≤ s.T.length ∧ i = .int .i64 j ∧ u = .int .i64 o ∧ -1 ≤ o ∧ o < s.T.length ∧ goTo own s (s.T.length - j) o = -1 ∧ Below w.heap.size w wr) (fun _ i _ => s.T.length - (intOf i).toNat)
      case atStart => exact ⟨0, (t : Int), Nat.zero_le _, rfl, rfl, by omega, by omega, HGO.out t htl, HB.out⟩
      case round =>
        obtain ⟨j, o, hj, rfl, rfl, ho0, ho1, hg, hb⟩ := hrel
        have HB := hid hb
        have HG := hid hg
        have KJ := hid (K.out.below c.fr hb)
        have CHJ := hid (CHH.out.below hb)
        clear hb hg
        obtain ⟨gv, cv, cw, hgv, _⟩ := KJ.out.view
        by_cases hjl : j < s.T.length
        · have hjI : (j : Int) < (s.T.length : Int) := by omega
          by_cases hom : o = -1
          · subst hom
            go_wp2
            go_roundw
            case rel => exact ⟨t + 1, by omega, by go_num, HB.out⟩
            case measure => simp [intOf]; omega
          · obtain ⟨u, rfl⟩ := Int.eq_ofNat_of_zero_le (show 0 ≤ o by omega)
            have hul : u < s.T.length := by omega
            have hne : ((u : Int) != -1) = true := by simp
            have OB := hid (onwd_bd HOW.out u)
            have HG2 : Hid (goTo own s (s.T.length - (j + 1)) (onwd own s u) = -1) := by
              have h1 := HG.out
              rw [show s.T.length - j = (s.T.length - (j + 1)) + 1 by omega] at h1
              unfold goTo at h1
              rw [if_neg hom] at h1
              exact hid h1
            have C1 := hid (wOnward_any c KJ.out CHJ.out hol u hul)
            generalize onwd own s u = o2 at *
            go_wp2_with fail
            refine C1.out.mono ?_
            rintro e w3 ⟨rfl, hb3⟩
            have HB3 := hid (via HB.out HB.out.size hb3)
            clear hb3 C1
            go_wp2
            go_roundw
            case rel => exact ⟨j + 1, o2, by omega, by go_num, rfl, OB.out.1, OB.out.2, HG2.out, HB3.out⟩
            case measure => simp [intOf]; omega
        · have e : s.T.length = j := by omega
          have hom : o = -1 := by
            have h1 := HG.out
            rw [e, Nat.sub_self] at h1
            exact h1
          subst hom
          have hj2 : decide ((j : Int) < (s.T.length : Int)) = false := by rw [decide_eq_false_iff_not]; omega
          clear e
          go_wp2
          go_roundw
          case rel => exact ⟨t + 1, by omega, by go_num, HB.out⟩
          case measure => simp [intOf]; omega
    · go_wp2
      go_ret
      exact ⟨rfl, HB.out⟩
set_option maxRecDepth 100000 in
set_option maxHeartbeats 4000000 in
theorem wMet_any (c : CAll PK) (k : KWS PK B w wb kb P h d s) (ch : CH N w cb ao co vl own ls vs) (hol : own.length ≤ 8) (hown : ∀ i, i < own.length → -1 ≤ own.getD i 0 ∧ own.getD i 0 < s.T.length) (t m : Nat) (hm : m < own.length) :
    Calls Try.prog 89 #[.pointer (some ⟨wb, 0, none⟩), .pointer (some ⟨cb, 0, none⟩), .int .i64 t, .int .i64 m] w fun e w' => e = .returned (.bool (metTo own s t (s.T.length + 1) (own.getD m 0))) ∧ Below w.heap.size w w' := by
  have hfew := k.i.good.few
  have K := hid k
  have CHH := hid ch
  have HOW := hid hown
  have HO0 := hid (hown m hm)
  have hmI : (m : Int) < (own.length : Int) := by omega
  have z0 := ch.cell0
  obtain ⟨gl, cl, hvl, hgl, zl, _⟩ := row_at ch.own (by omega)
  simp at hvl
  obtain ⟨hvl1, _⟩ := hvl
  subst hvl1
  have zm := zl m hm
  have em : own[m] = own.getD m 0 := by simp [List.getD, hm]
  rw [em] at zm
  obtain ⟨BR, hBR⟩ : ∃ y, Hid (metTo own s t (s.T.length + 1) (own.getD m 0) = y) := ⟨_, hid rfl⟩
  rw [hBR.out]
  obtain ⟨o0, ho0⟩ : ∃ y, Hid (own.getD m 0 = y) := ⟨_, hid rfl⟩
  rw [ho0.out] at zm hBR HO0
  clear k ch hown zl em
  generalize hOL : own.length = M at *
  go_enter Try.func89, Try.ntmps89
  go_wp2
  clear z0 zm
  go_loopw [9, 10] (fun u i wr => ∃ (j : Nat) (o : Int), j ≤ s.T.length + 1 ∧ i = .int .i64 j ∧ u = .int .i64 o ∧ -1 ≤ o ∧ o < s.T.length ∧ metTo own s t (s.T.length + 1 - j) o = BR ∧ Below w.heap.size w wr) (fun _ i _ => s.T.length + 1 - (intOf i).toNat)
  case atStart => exact ⟨0, o0, Nat.zero_le _, rfl, rfl, HO0.out.1, HO0.out.2, hBR.out, Below.refl _ _⟩
  case round =>
    obtain ⟨j, o, hj, rfl, rfl, hp0, hp1, hg, hb⟩ := hrel
    have HB := hid hb
    have HG := hid hg
    have KJ := hid (K.out.below c.fr hb)
    have CHJ := hid (CHH.out.below hb)
    clear hb hg
    obtain ⟨gv, cv, cw, hgv, _⟩ := KJ.out.view
    by_cases hjl : j ≤ s.T.length
    · have hjI : (j : Int) ≤ (s.T.length : Int) := by omega
      have e5 : s.T.length + 1 - j = (s.T.length - j) + 1 := by omega
      by_cases hom : o = -1
      · have hB : BR = false := by
          have h1 := HG.out
          rw [e5] at h1
          unfold metTo at h1
          rw [if_pos hom] at h1
          exact h1.symm
        subst hom hB
        go_wp2
        go_ret
        exact ⟨rfl, HB.out⟩
      · have hne : (o != -1) = true := by simpa using hom
        by_cases hot : o = (t : Int)
        · have hB : BR = true := by
            have h1 := HG.out
            rw [e5] at h1
            unfold metTo at h1
            rw [if_neg hom, if_pos hot] at h1
            exact h1.symm
          subst hot hB
          go_wp2
          go_ret
          exact ⟨rfl, HB.out⟩
        · obtain ⟨u, rfl⟩ := Int.eq_ofNat_of_zero_le (show 0 ≤ o by omega)
          have hul : u < s.T.length := by omega
          have hnt : ((u : Int) == (t : Int)) = false := by rw [beq_eq_false_iff_ne]; exact hot
          have OB := hid (onwd_bd (own := own) (s := s) (by rw [hOL]; exact HOW.out) u)
          have HG2 : Hid (metTo own s t (s.T.length + 1 - (j + 1)) (onwd own s u) = BR) := by
            have h1 := HG.out
            rw [e5] at h1
            unfold metTo at h1
            rw [if_neg hom, if_neg hot] at h1
            rw [show s.T.length + 1 - (j + 1) = s.T.length - j by omega]
            exact hid h1
          have C1 := hid (wOnward_any c KJ.out CHJ.out (by rw [hOL]; exact hol) u hul)
          generalize onwd own s u = o2 at *
          clear hot hom
          go_wp2_with fail
          refine C1.out.mono ?_
          rintro e w3 ⟨rfl, hb3⟩
          have HB3 := hid (via HB.out HB.out.size hb3)
          clear hb3 C1
          go_wp2
          go_roundw
          case rel => exact ⟨j + 1, o2, by omega, by go_num, rfl, OB.out.1, OB.out.2, HG2.out, HB3.out⟩
          case measure => simp [intOf]; omega
    · have e : s.T.length + 1 - j = 0 := by omega
      have hB : BR = false := by
        have h1 := HG.out
        rw [e] at h1
        exact h1.symm
      have hj2 : decide ((j : Int) ≤ (s.T.length : Int)) = false := by rw [decide_eq_false_iff_not]; omega
      subst hB
      clear e
      go_wp2
      go_ret
      exact ⟨rfl, HB.out⟩
end
end Go.Proofs.Ytbkfildnijjioab

/-
  Walks over package donatekeep: heir, locked.
-/
namespace Go.Proofs.Ytbkfildnijjioab
open Go.RowKit
section
variable {PK : KP} {B : Nat} {w : World} {wb kb : Nat} {P : Nat → Prop} {h : WH} {d : WD} {s : RS} {N cb : Nat} {ao : Option Addr} {co : Nat} {vl : Value} {own : List Int} {ls : List (List Int)} {vs : List Value}
theorem CH.lines (m : CH N w cb ao co vl own ls vs) (h : 0 < ls.length) : ∃ gl cl, vl = .slice (some ⟨gl, 0, none⟩) ls.length cl := by
  obtain ⟨a, c, e, hn, ha⟩ := owns_cells m.ll.row
  cases a with
  | none => have := (hn rfl).1; omega
  | some ad =>
    obtain ⟨g, rfl, _, _, _, _⟩ := ha ad rfl
    exact ⟨g, c, e⟩
theorem CH.owners (m : CH N w cb ao co vl own ls vs) (h : 0 < own.length) : ∃ g, ao = some ⟨g, 0, none⟩ ∧ ∀ j, j < own.length → w.cell? ⟨g, j, none⟩ = some (.int .i64 (own.getD j 0)) := by
  obtain ⟨g, cl, hv, _, zl, _⟩ := row_at m.own h
  simp at hv
  refine ⟨g, hv.1, fun j hj => ?_⟩
  rw [zl j hj]
  simp [List.getD, hj]
set_option maxRecDepth 100000 in
set_option maxHeartbeats 4000000 in
theorem wHeir_any (ch : CH N w cb ao co vl own ls vs) (hl8 : ls.length ≤ 8) (m : Nat) (hm : m < ls.length) (hL17 : (ls[m]).length ≤ 1000) :
    Calls Try.prog 66 #[.pointer (some ⟨cb, 0, none⟩), .int .i64 m] w fun e w' => e = .returned (.int .i64 (heirOf ls[m])) ∧ w' = w := by
  obtain ⟨gl, cl, rfl⟩ := ch.lines (by omega)
  have z1 := ch.cell1
  have hmI : (m : Int) < (ls.length : Int) := by omega
  obtain ⟨aj, cj, zlj⟩ := ch.ll.at m hm
  have hrow := ch.ll.at_row zlj
  obtain ⟨rr, hrr⟩ : ∃ y, Hid (heirOf ls[m] = y) := ⟨_, hid rfl⟩
  rw [hrr.out]
  unfold heirOf at hrr
  by_cases h0 : 0 < (ls[m]).length
  · have er := hrr.out
    rw [dif_pos h0] at er
    obtain ⟨g, c2, hv, _, zl, _⟩ := row_at hrow h0
    simp at hv
    obtain ⟨hv1, _⟩ := hv
    subst hv1
    have z0 := zl 0 h0
    rw [er] at z0
    have h0I : (0 : Int) < ((ls[m]).length : Int) := by omega
    have hz : (((ls[m]).length : Int) == 0) = false := by rw [beq_eq_false_iff_ne]; omega
    have hz2 : ¬ (ls[m]).length = 0 := by omega
    clear zl hrow er hrr ch
    generalize (ls[m]).length = ln at *
    generalize ls.length = M at *
    go_enter Try.func66, Try.ntmps66
    go_wp2
    go_ret
    exact ⟨rfl, rfl⟩
  · have er := hrr.out
    rw [dif_neg h0] at er
    subst er
    have hz : (ls[m]).length = 0 := by omega
    rw [hz] at zlj
    clear hrow hrr ch hz h0 hL17
    generalize ls.length = M at *
    go_enter Try.func66, Try.ntmps66
    go_wp2
    go_ret
    exact ⟨rfl, rfl⟩
set_option maxRecDepth 100000 in
set_option maxHeartbeats 6000000 in
theorem wLocked_any (c : CAll PK) (k : KWS PK B w wb kb P h d s) (ch : CH N w cb ao co vl own ls vs) (hol : own.length = s.set.mutexes.length) (hol8 : own.length ≤ 8) (hown : ∀ i, i < own.length → -1 ≤ own.getD i 0 ∧ own.getD i 0 < s.T.length) (m t : Nat) (hm : m < own.length) (ht : t < s.T.length) (hwho : d.who = (t : Int)) (hia : d.i.a = (m : Int)) (o' : Int)
    (lp : LockP (t : Int) d.i.b d.code m (own.getD m 0) o' (s.set.mutexes.getD m R.pair0).x (s.set.mutexes.getD m R.pair0).y (viewD s t).base (metTo own s t (s.T.length + 1) (own.getD m 0)) (viewD s t).for_ (viewD s t).of_) :
    Calls Try.prog 65 #[.pointer (some ⟨wb, 0, none⟩), .pointer (some ⟨cb, 0, none⟩)] w fun e w' => e = .returned (.tuple #[.int .i64 o', .bool true]) ∧ Below w.heap.size w w' := by
  have hfew := k.i.good.few
  have K := hid k
  have CHH := hid ch
  have HOW := hid hown
  have ES0 := hid k.wd.co.set
  have HOL := hid hol
  obtain ⟨go, hgo, zo⟩ := ch.owners (by omega)
  subst hgo
  have zom := zo m hm
  have z0 := ch.cell0
  have hmI : (m : Int) < (own.length : Int) := by omega
  have hmM : (m : Int) < (s.set.mutexes.length : Int) := by omega
  have htI : (t : Int) < (s.T.length : Int) := by omega
  have y3 := k.k.m.blk.cell 3
  have y19 := k.k.m.blk.cell 19
  simp [wCells] at y3 y19
  rw [hia] at y19
  have hsm := k.k.m.set
  rw [ES0.out] at y3 hsm
  obtain ⟨bm, om, ham, hbm, x0, x1⟩ := hsm.mutexes m (by omega)
  rw [ham] at y3
  have epr : s.set.mutexes.getD m R.pair0 = s.set.mutexes[m]'(by omega) := by simp [List.getD, show m < s.set.mutexes.length by omega]
  rw [← epr] at x0 x1
  have C1 := hid (fun (wx : World) (kx : KWS PK B wx wb kb P h d s) (cx : CH N wx cb (some ⟨go, 0, none⟩) co vl own ls vs) => wMet_any c kx cx hol8 HOW.out t m hm)
  obtain ⟨MB, hMB⟩ : ∃ y, Hid (metTo own s t (s.T.length + 1) (own.getD m 0) = y) := ⟨_, hid rfl⟩
  rw [hMB.out] at lp C1
  obtain ⟨o0, ho0⟩ : ∃ y, Hid (own.getD m 0 = y) := ⟨_, hid rfl⟩
  rw [ho0.out] at lp zom
  obtain ⟨kd, hkd⟩ : ∃ x, Hid ((s.set.mutexes.getD m R.pair0).x = x) := ⟨_, hid rfl⟩
  obtain ⟨tp, htp⟩ : ∃ x, Hid ((s.set.mutexes.getD m R.pair0).y = x) := ⟨_, hid rfl⟩
  rw [hkd.out] at lp x0
  rw [htp.out] at lp x1
  have LP := hid lp
  have HWHO := hid hwho
  have hMe : s.set.mutexes.length = own.length := hol.symm
  rw [hMe] at y3 hmM
  clear k ch lp hwho hia hsm epr zo ham hown hol hMe hMB ho0 hkd htp
  have ELN : Hid (0 < own.length) := hid (by omega)
  go_enter Try.func65, Try.ntmps65
  go_upto_region 4 with fail
  have hbA : Below w.heap.size w (w.alloc (.cells #[.int .i64 kd, .int .i64 tp] 77)) := (Below.refl _ _).alloc (Nat.le_refl _) _
  have bA := Blk.new w #[.int .i64 kd, .int .i64 tp] 77
  generalize w.alloc (.cells #[.int .i64 kd, .int .i64 tp] 77) = wA at hbA bA ⊢
  have KA := hid (K.out.below c.fr hbA)
  have CHA := hid (CHH.out.below hbA)
  have HBA := hid hbA
  have p0 := bA.cell 0
  have p1 := bA.cell 1
  simp at p0 p1
  clear hbA bA y3 y19 x0 x1 z0 zom K CHH
  have y17 := KA.out.k.m.blk.cell 17
  have y21 := KA.out.k.m.blk.cell 21
  simp [wCells] at y17 y21
  rw [HWHO.out] at y17
  obtain ⟨gv, cv, cw, hgv, zv⟩ := KA.out.view
  have a1 := zv t ht 1 (by decide)
  simp [vCells] at a1
  obtain ⟨ba, hba⟩ : ∃ y, Hid ((viewD s t).base = y) := ⟨_, hid rfl⟩
  rw [hba.out] at LP a1
  clear hba
  rcases LP.out with ⟨q1, q2, q3⟩ | ⟨q1, q2, q3, q4⟩ | ⟨q1, q2, q3, q4, q5⟩ | hrest
  · subst q2
    rw [q3] at y21
    subst q1
    clear LP q3 zv
    go_wp2_with fail
    go_quiet (fail)
    go_wp2
    go_ret2
    exact ⟨rfl, bdrewN HBA.out _⟩
  · subst q3
    rw [q4] at y21
    have g1 : (o' == (t : Int)) = false := by rw [beq_eq_false_iff_ne]; exact q1
    have g2 : (kd == 1) = true := by simpa using q2.1
    have g3 : decide (tp < ba) = true := by rw [decide_eq_true_iff]; exact q2.2
    clear LP q1 q2 q4 zv
    go_wp2_with fail
    go_quiet (fail)
    have y21 : (wA.drewN nq).cell? ⟨wb, 21, none⟩ = some (.int .i64 4) := y21
    have HBQ := hid (bdrewN HBA.out nq)
    clear HBA
    generalize wA.drewN nq = wQ at *
    go_wp2_with fail
    go_quiet (fail)
    go_wp2
    go_ret2
    exact ⟨rfl, bdrewN HBQ.out _⟩
  · subst q3 q4
    rw [q5] at y21
    have g1 : ((-1 : Int) == (t : Int)) = false := by rw [beq_eq_false_iff_ne]; omega
    have hq : (kd == 1) = false ∨ ((kd == 1) = true ∧ decide (tp < ba) = false) := by
      simp only [beq_iff_eq, beq_eq_false_iff_ne, decide_eq_false_iff_not]
      omega
    clear LP q1 q2 q5 zv
    rcases hq with g2 | ⟨g2, g3⟩
    all_goals
      go_wp2_with fail
      go_quiet (fail)
      have y21 : (wA.drewN nq).cell? ⟨wb, 21, none⟩ = some (.int .i64 0) := y21
      have y17 : (wA.drewN nq).cell? ⟨wb, 17, none⟩ = some (.int .i64 (t : Int)) := y17
      have HBQ := hid (bdrewN HBA.out nq)
      clear HBA
      generalize wA.drewN nq = wQ at *
      go_wp2_with fail
      go_quiet (fail)
      go_wp2
      go_ret2
      exact ⟨rfl, bdrewN HBQ.out _⟩
  · have hr : o0 ≠ (t : Int) ∧ ¬ (kd = 1 ∧ tp < ba) ∧ o0 ≠ -1 ∧ o' = o0 := by
      rcases hrest with ⟨a, b, c, _, e, _⟩ | ⟨a, b, c, _, _, e, _⟩ | ⟨a, b, c, _, _, e, _⟩ <;> exact ⟨a, b, c, e⟩
    have HR := hid hrest
    obtain ⟨r1, r2, r3, r4⟩ := hr
    subst r4
    have g1 : (o' == (t : Int)) = false := by rw [beq_eq_false_iff_ne]; exact r1
    have g4 : (o' == -1) = false := by rw [beq_eq_false_iff_ne]; exact r3
    have hq : (kd == 1) = false ∨ ((kd == 1) = true ∧ decide (tp < ba) = false) := by
      simp only [beq_iff_eq, beq_eq_false_iff_ne, decide_eq_false_iff_not]
      omega
    clear LP r1 r2 r3 hrest zv
    rcases hq with g2 | ⟨g2, g3⟩
    all_goals
      go_wp2_with fail
      go_quiet (fail)
      have KQ := hid (KA.out.below c.fr (bdrewN (Below.refl _ _) nq))
      have CHQ := hid (CHA.out.below (bdrewN (Below.refl _ _) nq))
      have y17 : (wA.drewN nq).cell? ⟨wb, 17, none⟩ = some (.int .i64 (t : Int)) := y17
      have HBQ := hid (bdrewN HBA.out nq)
      clear HBA KA CHA cw a1 p0 p1 y21
      generalize wA.drewN nq = wQ at *
      go_wp2_with fail
      refine (C1.out wQ KQ.out CHQ.out).mono ?_
      rintro e w3 ⟨rfl, hb3⟩
      have K3 := hid (KQ.out.below c.fr hb3)
      have HB3 := hid (via HBQ.out HBQ.out.size hb3)
      clear hb3 KQ HBQ y17 CHQ
      have y17 := K3.out.k.m.blk.cell 17
      have y20 := K3.out.k.m.blk.cell 20
      have y21 := K3.out.k.m.blk.cell 21
      simp [wCells] at y17 y20 y21
      rw [HWHO.out] at y17
      rcases HR.out with ⟨_, _, _, q1, _, q2⟩ | ⟨_, _, _, q1, q2, _, q3⟩ | ⟨_, _, _, q1, q2, _, q3, q4, q5⟩
      · subst q1
        rw [q2] at y21
        clear HR q2
        go_wp2_with fail
        go_quiet (fail)
        go_wp2
        go_ret2
        exact ⟨rfl, bdrewN HB3.out _⟩
      · subst q1
        rw [q2] at y20
        rw [q3] at y21
        clear HR q2 q3
        go_wp2_with fail
        go_quiet (fail)
        go_wp2
        go_ret2
        exact ⟨rfl, bdrewN HB3.out _⟩
      · subst q1
        rw [q3] at y21
        have gb : (d.i.b == 0) = false := by simpa using q2
        obtain ⟨gv, cv, cw, hgv, zv⟩ := K3.out.view
        have b00 := zv t ht 0 (by decide)
        have b10 := zv t ht 1 (by decide)
        have b20 := zv t ht 2 (by decide)
        have b30 := zv t ht 3 (by decide)
        have b40 := zv t ht 4 (by decide)
        have b50 := zv t ht 5 (by decide)
        have b60 := zv t ht 6 (by decide)
        have b70 := zv t ht 7 (by decide)
        have b80 := zv t ht 8 (by decide)
        have b90 := zv t ht 9 (by decide)
        have b100 := zv t ht 10 (by decide)
        simp [vCells] at b00 b10 b20 b30 b40 b50 b60 b70 b80 b90 b100
        have Q4 := hid q4
        have Q5 := hid q5
        generalize viewD s t = xb at *
        generalize d.i.b = ib at *
        have hwl := K3.out.k.m.blk.lt
        have n1 : wb ≠ w3.heap.size := by omega
        have n2 : gv ≠ w3.heap.size := by omega
        clear HR q2 q3 q4 q5 zv
        go_wp2_with fail
        go_region_held3 (fun w' => w'.cell? ⟨wb, 12, none⟩ = some (.slice (some ⟨gv, 0, none⟩) s.T.length cv) ∧ w'.cell? ⟨wb, 17, none⟩ = some (.int .i64 (t : Int)) ∧ w'.cell? ⟨gv, t * 11, none⟩ = some (.int .i64 xb.st) ∧ w'.cell? ⟨gv, t * 11 + 1, none⟩ = some (.int .i64 xb.base) ∧ w'.cell? ⟨gv, t * 11 + 2, none⟩ = some (.int .i64 xb.lv) ∧ w'.cell? ⟨gv, t * 11 + 3, none⟩ = some (.int .i64 xb.at_) ∧ w'.cell? ⟨gv, t * 11 + 4, none⟩ = some (.int .i64 xb.last) ∧ w'.cell? ⟨gv, t * 11 + 5, none⟩ = some (.int .i64 xb.got) ∧ w'.cell? ⟨gv, t * 11 + 6, none⟩ = some (.int .i64 xb.rel) ∧ w'.cell? ⟨gv, t * 11 + 7, none⟩ = some (.int .i64 xb.ended) ∧ w'.cell? ⟨gv, t * 11 + 8, none⟩ = some (.int .i64 xb.for_) ∧ w'.cell? ⟨gv, t * 11 + 9, none⟩ = some (.int .i64 xb.of_) ∧ w'.cell? ⟨gv, t * 11 + 10, none⟩ = some (.int .i64 xb.until_)) (go_keep) (fail)
        have hbC : Below w3.heap.size w3 (w3.alloc (.cells #[.int .i64 xb.st, .int .i64 xb.base, .int .i64 xb.lv, .int .i64 xb.at_, .int .i64 xb.last, .int .i64 xb.got, .int .i64 xb.rel, .int .i64 xb.ended, .int .i64 xb.for_, .int .i64 xb.of_, .int .i64 xb.until_] 53)).drew := ((Below.refl _ _).alloc (Nat.le_refl _) _).drew
        have bC : Blk (w3.alloc (.cells #[.int .i64 xb.st, .int .i64 xb.base, .int .i64 xb.lv, .int .i64 xb.at_, .int .i64 xb.last, .int .i64 xb.got, .int .i64 xb.rel, .int .i64 xb.ended, .int .i64 xb.for_, .int .i64 xb.of_, .int .i64 xb.until_] 53)).drew w3.heap.size #[.int .i64 xb.st, .int .i64 xb.base, .int .i64 xb.lv, .int .i64 xb.at_, .int .i64 xb.last, .int .i64 xb.got, .int .i64 xb.rel, .int .i64 xb.ended, .int .i64 xb.for_, .int .i64 xb.of_, .int .i64 xb.until_] 53 := Blk.new w3 #[.int .i64 xb.st, .int .i64 xb.base, .int .i64 xb.lv, .int .i64 xb.at_, .int .i64 xb.last, .int .i64 xb.got, .int .i64 xb.rel, .int .i64 xb.ended, .int .i64 xb.for_, .int .i64 xb.of_, .int .i64 xb.until_] 53
        generalize (w3.alloc (.cells #[.int .i64 xb.st, .int .i64 xb.base, .int .i64 xb.lv, .int .i64 xb.at_, .int .i64 xb.last, .int .i64 xb.got, .int .i64 xb.rel, .int .i64 xb.ended, .int .i64 xb.for_, .int .i64 xb.of_, .int .i64 xb.until_] 53)).drew = wC at hbC bC ⊢
        have HBC := hid (via HB3.out HB3.out.size hbC)
        have y21 := (hbC.cell (p := ⟨wb, 21, none⟩) hwl).trans y21
        have p8 := bC.cell 8
        have p9 := bC.cell 9
        simp at p8 p9
        rw [Q4.out] at p8
        rw [Q5.out] at p9
        clear hbC bC cw y17 y20 n1 n2 hgv hwl K3 b00 b10 b20 b30 b40 b50 b60 b70 b80 b90 b100
        have gm : ((m : Int) == (m : Int)) = true := by simp
        go_wp2_with fail
        go_quiet (fail)
        go_wp2
        go_ret2
        exact ⟨rfl, bdrewN HBC.out _⟩
end
end Go.Proofs.Ytbkfildnijjioab

/-
  Walks over package donatekeep: passed, turned.
-/
namespace Go.Proofs.Ytbkfildnijjioab
open Go.RowKit
section
variable {PK : KP} {B : Nat} {w : World} {wb kb : Nat} {P : Nat → Prop} {h : WH} {d : WD} {s : RS} {N cb : Nat} {ao : Option Addr} {co : Nat} {vl : Value} {own : List Int} {ls : List (List Int)} {vs : List Value}
/-- What a Lock must end with, of the thread that moved. -/
def LockS (d : WD) (s : RS) (own : List Int) (m : Nat) (o' : Int) : Prop :=
  ∃ t : Nat, d.who = (t : Int) ∧ t < s.T.length ∧ LockP (t : Int) d.i.b d.code m (own.getD m 0) o' (s.set.mutexes.getD m R.pair0).x (s.set.mutexes.getD m R.pair0).y (viewD s t).base (metTo own s t (s.T.length + 1) (own.getD m 0)) (viewD s t).for_ (viewD s t).of_
set_option maxRecDepth 100000 in
set_option maxHeartbeats 6000000 in
theorem wPassed_any (c : CAll PK) (k : KWS PK B w wb kb P h d s) (ch : CH N w cb ao co vl own ls vs) (hol : own.length = s.set.mutexes.length) (hol8 : own.length ≤ 8) (hown : ∀ i, i < own.length → -1 ≤ own.getD i 0 ∧ own.getD i 0 < s.T.length) (hls : ls.length = own.length) (m : Nat) (hm : m < own.length) (hL17 : (ls[m]'(by omega)).length ≤ 1000) (o' : Int)
    (pp : PassP d.who d.i d.code m (own.getD m 0) o' (ls[m]'(by omega)) (LockS d s own m o')) :
    Calls Try.prog 39 #[.pointer (some ⟨wb, 0, none⟩), .pointer (some ⟨cb, 0, none⟩), .int .i64 m] w fun e w' => e = .returned (.tuple #[.int .i64 o', .bool true]) ∧ Below w.heap.size w w' := by
  have K := hid k
  have CHH := hid ch
  have HB := hid (Below.refl w.heap.size w)
  obtain ⟨go, hgo, zo⟩ := ch.owners (by omega)
  subst hgo
  have zom := zo m hm
  have z0 := ch.cell0
  have hmI : (m : Int) < (own.length : Int) := by omega
  have y17 := k.k.m.blk.cell 17
  have y18 := k.k.m.blk.cell 18
  have y19 := k.k.m.blk.cell 19
  have y21 := k.k.m.blk.cell 21
  simp [wCells] at y17 y18 y19 y21
  have HH := hid (fun (wx : World) (cx : CH N wx cb (some ⟨go, 0, none⟩) co vl own ls vs) => wHeir_any cx (by omega) m (by omega) hL17)
  have HLK := hid (fun (wx : World) (kx : KWS PK B wx wb kb P h d s) (cx : CH N wx cb (some ⟨go, 0, none⟩) co vl own ls vs) (t : Nat) (ht : t < s.T.length) (e1 : d.who = (t : Int)) (e2 : d.i.a = (m : Int)) lp => wLocked_any c kx cx hol hol8 hown m t hm ht e1 e2 o' lp)
  obtain ⟨hr, hhr⟩ : ∃ y, Hid (heirOf (ls[m]'(by omega)) = y) := ⟨_, hid rfl⟩
  unfold LockS at pp
  have PP := hid pp
  unfold PassP at PP
  rw [hhr.out] at PP
  have HH' : Hid (∀ (wx : World) (_ : CH N wx cb (some ⟨go, 0, none⟩) co vl own ls vs), Calls Try.prog 66 #[.pointer (some ⟨cb, 0, none⟩), .int .i64 m] wx fun e w' => e = .returned (.int .i64 hr) ∧ w' = wx) := by
    have := HH.out
    rw [hhr.out] at this
    exact hid this
  obtain ⟨o0, ho0⟩ : ∃ y, Hid (own.getD m 0 = y) := ⟨_, hid rfl⟩
  have PPL := hid PP.out
  rw [ho0.out] at PP zom
  clear k ch pp zo hown hol hhr hL17 HH hls PPL
  have gm : ((m : Int) == (m : Int)) = true := by simp
  rcases PP.out with ⟨q1, q2⟩ | ⟨q0, q1, q2, t, q3, q4, q5⟩ | ⟨q0, q1, q2, q3, q4, q5⟩ | ⟨q0, q1, q2, q3, q4, q5⟩ | ⟨q0, q1, q2, q3, q4⟩ | ⟨q0, q1, q2, q3⟩ | ⟨q0, q1, q2, q3⟩ | ⟨q0, q1, q2, q3, q4⟩
  · subst q2
    rw [q1] at y17
    clear PP HLK q1
    generalize own.length = M at *
    go_enter Try.func39, Try.ntmps39
    go_wp2
    go_ret2
    exact ⟨rfl, HB.out⟩
  · have LK := hid (fun wx kx cx => HLK.out wx kx cx t q4 q3 q2 (by rw [ho0.out]; exact q5))
    have g0 : (d.who == -1) = false := by rw [beq_eq_false_iff_ne]; exact q0
    rw [q1] at y18
    rw [q2] at y19
    clear PP HLK q0 q1 q2 q3 q4 q5
    go_enter Try.func39, Try.ntmps39
    go_wp2_with fail
    go_quiet (fail)
    have KQ := hid (K.out.below c.fr (bdrewN (Below.refl _ _) nq))
    have CHQ := hid (CHH.out.below (bdrewN (Below.refl _ _) nq))
    have y18 : (w.drewN nq).cell? ⟨wb, 18, none⟩ = some (.int .i64 6) := y18
    have y19 : (w.drewN nq).cell? ⟨wb, 19, none⟩ = some (.int .i64 (m : Int)) := y19
    have HBQ := hid (bdrewN HB.out nq)
    clear HB K CHH
    generalize w.drewN nq = wQ at *
    go_wp2_with fail
    refine (LK.out wQ KQ.out CHQ.out).mono ?_
    rintro e w3 ⟨rfl, hb3⟩
    have HB3 := hid (via HBQ.out HBQ.out.size hb3)
    clear hb3
    go_wp2
    go_ret2
    exact ⟨rfl, HB3.out⟩
  · subst q4
    have g0 : (d.who == -1) = false := by rw [beq_eq_false_iff_ne]; exact q0
    have gw : (o0 == d.who) = true := by simpa using q3
    rw [q1] at y18
    rw [q2] at y19
    rw [q5] at y21
    clear PP HLK q0 q1 q2 q3 q5
    go_enter Try.func39, Try.ntmps39
    go_wp2_with fail
    go_quiet (fail)
    have CHQ := hid (CHH.out.below (bdrewN (Below.refl _ _) nq))
    have y18 : (w.drewN nq).cell? ⟨wb, 18, none⟩ = some (.int .i64 7) := y18
    have y19 : (w.drewN nq).cell? ⟨wb, 19, none⟩ = some (.int .i64 (m : Int)) := y19
    have y21 : (w.drewN nq).cell? ⟨wb, 21, none⟩ = some (.int .i64 0) := y21
    have HBQ := hid (bdrewN HB.out nq)
    clear HB K CHH
    generalize w.drewN nq = wQ at *
    go_wp2_with fail
    go_quiet ((go_at_call 66; exact Calls.quiet_of_same (HH'.out _ (CHQ.out.below (bdrewN (Below.refl _ _) _)))))
    go_wp2
    go_ret2
    exact ⟨rfl, bdrewN HBQ.out _⟩
  · subst q4
    have g0 : (d.who == -1) = false := by rw [beq_eq_false_iff_ne]; exact q0
    have gw : (o' == d.who) = false := by rw [beq_eq_false_iff_ne]; exact q3
    rw [q1] at y18
    rw [q2] at y19
    rw [q5] at y21
    clear PP HLK q0 q1 q2 q3 q5
    generalize own.length = M at *
    go_enter Try.func39, Try.ntmps39
    go_wp2_with fail
    go_quiet (fail)
    have y18 : (w.drewN nq).cell? ⟨wb, 18, none⟩ = some (.int .i64 7) := y18
    have y19 : (w.drewN nq).cell? ⟨wb, 19, none⟩ = some (.int .i64 (m : Int)) := y19
    have y21 : (w.drewN nq).cell? ⟨wb, 21, none⟩ = some (.int .i64 6) := y21
    have z0 : (w.drewN nq).cell? ⟨cb, 0, none⟩ = some (.slice (some ⟨go, 0, none⟩) M co) := z0
    have zom : (w.drewN nq).cell? ⟨go, m, none⟩ = some (.int .i64 o') := zom
    have HBQ := hid (bdrewN HB.out nq)
    clear HB K CHH
    generalize w.drewN nq = wQ at *
    go_wp2_with fail
    go_quiet (fail)
    go_wp2
    go_ret2
    exact ⟨rfl, bdrewN HBQ.out _⟩
  · subst q3
    have g0 : (d.who == -1) = false := by rw [beq_eq_false_iff_ne]; exact q0
    have gw : (o0 == d.who) = true := by simpa using q2
    rw [q1] at y18
    rw [q4] at y21
    clear PP HLK q0 q1 q2 q4
    go_enter Try.func39, Try.ntmps39
    go_wp2_with fail
    go_quiet (fail)
    have CHQ := hid (CHH.out.below (bdrewN (Below.refl _ _) nq))
    have y18 : (w.drewN nq).cell? ⟨wb, 18, none⟩ = some (.int .i64 0) := y18
    have y21 : (w.drewN nq).cell? ⟨wb, 21, none⟩ = some (.int .i64 0) := y21
    have HBQ := hid (bdrewN HB.out nq)
    clear HB K CHH
    generalize w.drewN nq = wQ at *
    go_wp2_with fail
    go_quiet ((go_at_call 66; exact Calls.quiet_of_same (HH'.out _ (CHQ.out.below (bdrewN (Below.refl _ _) _)))))
    go_wp2
    go_ret2
    exact ⟨rfl, bdrewN HBQ.out _⟩
  · subst q3
    have g0 : (d.who == -1) = false := by rw [beq_eq_false_iff_ne]; exact q0
    have gw : (o' == d.who) = false := by rw [beq_eq_false_iff_ne]; exact q2
    rw [q1] at y18
    clear PP HLK q0 q1 q2
    generalize own.length = M at *
    go_enter Try.func39, Try.ntmps39
    go_wp2_with fail
    go_quiet (fail)
    have y18 : (w.drewN nq).cell? ⟨wb, 18, none⟩ = some (.int .i64 0) := y18
    have z0 : (w.drewN nq).cell? ⟨cb, 0, none⟩ = some (.slice (some ⟨go, 0, none⟩) M co) := z0
    have zom : (w.drewN nq).cell? ⟨go, m, none⟩ = some (.int .i64 o') := zom
    have HBQ := hid (bdrewN HB.out nq)
    clear HB K CHH
    generalize w.drewN nq = wQ at *
    go_wp2
    go_ret2
    exact ⟨rfl, HBQ.out⟩
  · subst q3
    have g0 : (d.who == -1) = false := by rw [beq_eq_false_iff_ne]; exact q0
    have ga : (d.i.a == (m : Int)) = false := by rw [beq_eq_false_iff_ne]; exact q2
    clear PP HLK q0 q2
    generalize d.i.a = ia at *
    generalize own.length = M at *
    rcases q1 with q1 | q1
    all_goals
      rw [q1] at y18
      clear q1
      go_enter Try.func39, Try.ntmps39
      go_wp2_with fail
      go_quiet (fail)
      have y18' := (show (w.drewN nq).cell? ⟨wb, 18, none⟩ = _ from y18)
      have y19 : (w.drewN nq).cell? ⟨wb, 19, none⟩ = some (.int .i64 ia) := y19
      have z0 : (w.drewN nq).cell? ⟨cb, 0, none⟩ = some (.slice (some ⟨go, 0, none⟩) M co) := z0
      have zom : (w.drewN nq).cell? ⟨go, m, none⟩ = some (.int .i64 o') := zom
      have HBQ := hid (bdrewN HB.out nq)
      clear HB K CHH y18
      generalize w.drewN nq = wQ at *
      go_wp2
      go_ret2
      exact ⟨rfl, HBQ.out⟩
  · subst q4
    have g0 : (d.who == -1) = false := by rw [beq_eq_false_iff_ne]; exact q0
    have g1 : (d.i.op == 0) = false := by rw [beq_eq_false_iff_ne]; exact q1
    have g2 : (d.i.op == 6) = false := by rw [beq_eq_false_iff_ne]; exact q2
    have g3 : (d.i.op == 7) = false := by rw [beq_eq_false_iff_ne]; exact q3
    clear PP HLK q0 q1 q2 q3
    generalize own.length = M at *
    generalize d.i.op = io at *
    go_enter Try.func39, Try.ntmps39
    go_wp2_with fail
    go_quiet (fail)
    have y18 : (w.drewN nq).cell? ⟨wb, 18, none⟩ = some (.int .i64 io) := y18
    have z0 : (w.drewN nq).cell? ⟨cb, 0, none⟩ = some (.slice (some ⟨go, 0, none⟩) M co) := z0
    have zom : (w.drewN nq).cell? ⟨go, m, none⟩ = some (.int .i64 o') := zom
    have HBQ := hid (bdrewN HB.out nq)
    clear HB K CHH
    generalize w.drewN nq = wQ at *
    go_wp2
    go_ret2
    exact ⟨rfl, HBQ.out⟩
set_option maxRecDepth 100000 in
set_option maxHeartbeats 6000000 in
theorem wTurned_any {N2 cb2 : Nat} {ao2 : Option Addr} {co2 : Nat} {vl2 : Value} {own2 : List Int} {ls2 : List (List Int)} {vs2 : List Value} (c : CAll PK) (k : KWS PK B w wb kb P h d s) (ch : CH N w cb ao co vl own ls vs) (ch2 : CH N2 w cb2 ao2 co2 vl2 own2 ls2 vs2) (hol : own.length = s.set.mutexes.length) (hol8 : own.length ≤ 8) (hown : ∀ i, i < own.length → -1 ≤ own.getD i 0 ∧ own.getD i 0 < s.T.length) (hls : ls.length = own.length) (hol2 : own2.length = own.length) (hL17 : ∀ m (hm : m < own.length), (ls[m]'(by omega)).length ≤ 1000)
    (pp : ∀ m (hm : m < own.length), PassP d.who d.i d.code m (own.getD m 0) (own2.getD m 0) (ls[m]'(by omega)) (LockS d s own m (own2.getD m 0))) :
    Calls Try.prog 15 #[.pointer (some ⟨wb, 0, none⟩), .pointer (some ⟨cb, 0, none⟩), .pointer (some ⟨cb2, 0, none⟩)] w fun e w' => e = .returned (.bool true) ∧ Below w.heap.size w w' := by
  have K := hid k
  have CHH := hid ch
  have CH2 := hid ch2
  have HPS := hid (fun (wx : World) (kx : KWS PK B wx wb kb P h d s) (cx : CH N wx cb ao co vl own ls vs) (m : Nat) (hm : m < own.length) => wPassed_any c kx cx hol hol8 hown hls m hm (hL17 m hm) (own2.getD m 0) (pp m hm))
  have HO2 := hid hol2
  have HW0 := hid (Below.refl w.heap.size w)
  clear k ch ch2 pp hL17 hown hol hls hol2
  obtain ⟨M, hM⟩ : ∃ x, Hid (own.length = x) := ⟨_, hid rfl⟩
  rw [hM.out] at hol8 HO2
  go_enter Try.func15, Try.ntmps15
  go_wp2
  go_loopw [7] (fun i wr => ∃ j : Nat, j ≤ M ∧ i = .int .i64 j ∧ Below w.heap.size w wr) (fun i _ => M - (intOf i).toNat)
  case atStart => exact ⟨0, Nat.zero_le _, rfl, HW0.out⟩
  case round =>
    obtain ⟨j, hj, rfl, hb⟩ := hrel
    have HB := hid hb
    have KJ := hid (K.out.below c.fr hb)
    have CJ := hid (CHH.out.below hb)
    have CJ2 := hid (CH2.out.below hb)
    clear hb
    have z0 := CJ.out.cell0
    rw [hM.out] at z0
    by_cases hjl : j < M
    · have hjI : (j : Int) < (M : Int) := by omega
      have C1 := hid (HPS.out wr KJ.out CJ.out j (by rw [hM.out]; exact hjl))
      go_wp2_with fail
      refine C1.out.mono ?_
      rintro e w3 ⟨rfl, hb3⟩
      have HB3 := hid (via HB.out HB.out.size hb3)
      have C3 := hid (CJ2.out.below hb3)
      clear hb3 C1 z0
      have z2 := C3.out.cell0
      obtain ⟨go, hgo, zo⟩ := C3.out.owners (by rw [HO2.out]; omega)
      rw [hgo] at z2
      rw [HO2.out] at z2 zo
      have zom := zo j hjl
      clear zo hgo
      obtain ⟨o2, ho2⟩ : ∃ y, Hid (own2.getD j 0 = y) := ⟨_, hid rfl⟩
      rw [ho2.out] at zom ⊢
      have hne : (o2 != o2) = false := by simp
      go_wp2
      go_roundw
      case rel => exact ⟨j + 1, by omega, by go_num, HB3.out⟩
      case measure => simp [intOf]; omega
    · have e : j = M := by omega
      subst e
      go_wp2
      go_ret
      exact ⟨rfl, HB.out⟩
end
end Go.Proofs.Ytbkfildnijjioab

/-
  Walks over package donatekeep: seen.
-/
namespace Go.Proofs.Ytbkfildnijjioab
open Go.RowKit
/-- Owners and lines while they are gathered. -/
structure CS (N : Nat) (w : World) (cb : Nat) (vo vl : Value) (own : List Int) (ls : List (List Int)) (vs : List Value) : Prop where
  blk : Blk w cb #[vo, vl] 39
  own : w.ownsRow N 3 1 vo own.length (intCells own)
  ll : LL N w vl ls vs
  ge : N ≤ cb
  dis : ∀ b, vo.ownBlock = some b → ∀ u ∈ vs, u.ownBlock ≠ some b
section
variable {N : Nat} {w w' : World} {cb : Nat} {vo vl : Value} {own : List Int} {ls : List (List Int)} {vs : List Value}
theorem row_ne_blk {e e' : TypeId} {size n : Nat} {v : Value} {xs : List Value} {cs : Array Value} (r : w.ownsRow N e size v n xs) (b : Blk w cb cs e') (he : e ≠ e') : v.ownBlock ≠ some cb := by
  intro h
  obtain ⟨_, _, cur, hc⟩ := ownsRow_block r h
  unfold Blk at b
  rw [hc] at b
  simp at b
  exact he b.2
theorem row_ne_row {e e' : TypeId} {N' size n size' n' b : Nat} {v v' : Value} {xs xs' : List Value} (r : w.ownsRow N e size v n xs) (r' : w.ownsRow N' e' size' v' n' xs') (he : e ≠ e') (h : v.ownBlock = some b) : v'.ownBlock ≠ some b := by
  intro h'
  obtain ⟨_, _, cur, hc⟩ := ownsRow_block r h
  obtain ⟨_, _, cur', hc'⟩ := ownsRow_block r' h'
  rw [hc] at hc'
  simp at hc'
  exact he hc'.2
theorem CS.below (m : CS N w cb vo vl own ls vs) (hb : Below w.heap.size w w') : CS N w' cb vo vl own ls vs := by
  refine ⟨?_, wrow_keep m.own hb, m.ll.below hb, m.ge, m.dis⟩
  have h1 := m.blk
  have hl := m.blk.lt
  unfold Blk at h1 ⊢
  rw [hb.block cb hl]
  exact h1
theorem CS.done (m : CS N w cb vo vl own ls vs) : ∃ ao co, vo = .slice ao own.length co ∧ CH N w cb ao co vl own ls vs := by
  have h := m.own
  obtain ⟨ao, co, e, _, _⟩ := owns_cells h
  subst e
  exact ⟨ao, co, rfl, m.blk, m.own, m.ll, m.ge⟩
theorem LL.ne_blk {cs : Array Value} {v : Value} {e' : TypeId} (m : LL N w v ls vs) (b : Blk w cb cs e') (h1 : 25 ≠ e') (h2 : 3 ≠ e') : ¬ LB v vs cb := by
  rintro (h | ⟨u, hu, h⟩)
  · exact row_ne_blk m.row b h1 h
  · obtain ⟨j, hj, rfl⟩ := List.mem_iff_getElem.1 hu
    have := m.each j (by rw [← m.len]; exact hj)
    have e : vs.getD j (.slice none 0 0) = vs[j] := by simp [List.getD, hj]
    rw [e] at this
    exact row_ne_blk this b h2 h
theorem CS.growO (k : CS N w cb vo vl own ls vs) {wA w5 : World} {v' : Value} {l : List Int} (hb : Below w.heap.size w wA) (hg : wA.grownBy w5 vo.ownBlock) (hr : w5.ownsRow N 3 1 v' l.length (intCells l)) (hat : v'.ownBlock = vo.ownBlock ∨ v'.ownBlock = some wA.heap.size) :
    CS N (w5.setCell ⟨cb, 0, none⟩ v') cb v' vl l ls vs ∧ Below N w (w5.setCell ⟨cb, 0, none⟩ v') ∧ ∀ (u : Value) (L : List Int), w.ownsRow N 3 1 u L.length (intCells L) → (∀ b, u.ownBlock = some b → vo.ownBlock ≠ some b) → (w5.setCell ⟨cb, 0, none⟩ v').ownsRow N 3 1 u L.length (intCells L) ∧ ∀ b, u.ownBlock = some b → v'.ownBlock ≠ some b := by
  have kA := k.below hb
  have hne := row_ne_blk kA.own kA.blk (by decide)
  have b5 := kA.blk.grown hg (fun e => hne e.symm)
  have keep : ∀ (u : Value) (L : List Int), wA.ownsRow N 3 1 u L.length (intCells L) → (∀ b, u.ownBlock = some b → vo.ownBlock ≠ some b) → (w5.setCell ⟨cb, 0, none⟩ v').ownsRow N 3 1 u L.length (intCells L) ∧ ∀ b, u.ownBlock = some b → v'.ownBlock ≠ some b := by
    intro u L r hd
    have r5 : w5.ownsRow N 3 1 u L.length (intCells L) := ownsRow_same r fun g h => hg.block g (ownsRow_block r h).2.1 (fun e => hd g h e.symm)
    refine ⟨ownsRow_same r5 fun g h => Below.heap_setCell _ _ _ _ (fun e => ?_), fun b h e => ?_⟩
    · have e : g = cb := e
      subst e
      exact row_ne_blk r5 b5 (by decide) h
    · rcases hat with h1 | h1
      · rw [h1] at e; exact hd b h e
      · rw [h1] at e
        have := (ownsRow_block r h).2.1
        have := Option.some.inj e
        omega
  refine ⟨⟨by simpa using b5.set 0 v', ownsRow_same hr fun g h => Below.heap_setCell _ _ _ _ (fun e => ?_), LL.frame wA _ kA.ll (fun b h => ?_) ?_, k.ge, fun b h u hu e => ?_⟩, ?_, fun u L r hd => keep u L (wrow_keep r hb) hd⟩
  · have e : g = cb := e
    subst e
    exact row_ne_blk hr b5 (by decide) h
  · have hbc : b ≠ cb := by
      intro e
      subst e
      exact kA.ll.ne_blk kA.blk (by decide) (by decide) h
    rw [Below.heap_setCell _ _ _ _ hbc]
    refine hg.block b (kA.ll.ge b h).2 (fun e => ?_)
    rcases h with h | ⟨u, hu, h⟩
    · exact row_ne_row kA.own kA.ll.row (by decide) e.symm h
    · exact k.dis b e.symm u hu h
  · have := hg.size
    simp [World.setCell]
    exact this
  · rcases hat with h1 | h1
    · rw [h1] at h; exact k.dis b h u hu e
    · rw [h1] at h
      have h2 := (kA.ll.ge b (.inr ⟨u, hu, e⟩)).2
      have := Option.some.inj h
      omega
  · have hNs : N ≤ w.heap.size := by have := k.ge; have := k.blk.lt; omega
    exact (((hb.mono hNs).grown hg (by have := hb.size; omega) (fun g h => (ownsRow_block kA.own h).1))).setCell k.ge v'
theorem CS.growL (k : CS N w cb vo vl own ls vs) {wA w5 : World} {u v' : Value} {L : List Int} (r : w.ownsRow N 3 1 u L.length (intCells L)) (hd : ∀ b, u.ownBlock = some b → vo.ownBlock ≠ some b) (hb : Below w.heap.size w wA) (hg : wA.grownBy w5 vl.ownBlock) (hr : w5.ownsRow N 25 1 v' (ls.length + 1) (vs ++ [u])) :
    CS N (w5.setCell ⟨cb, 1, none⟩ v') cb vo v' own (ls ++ [L]) (vs ++ [u]) ∧ Below N w (w5.setCell ⟨cb, 1, none⟩ v') := by
  have kA := k.below hb
  have hne := row_ne_blk kA.ll.row kA.blk (by decide)
  have b5 := kA.blk.grown hg (fun e => hne e.symm)
  have l5 := kA.ll.snoc (wrow_keep r hb) hg hr
  refine ⟨⟨by simpa using b5.set 1 v', ownsRow_same kA.own fun g h => ?_, l5.put _ (fun h => l5.ne_blk b5 (by decide) (by decide) h), k.ge, fun b h u' hu e => ?_⟩, ?_⟩
  · have hbc : g ≠ cb := by
      intro e
      subst e
      exact row_ne_blk kA.own kA.blk (by decide) h
    rw [Below.heap_setCell _ _ _ _ hbc]
    exact hg.block g (ownsRow_block kA.own h).2.1 (fun e => row_ne_row kA.own kA.ll.row (by decide) h e.symm)
  · rcases List.mem_append.1 hu with hu | hu
    · exact k.dis b h u' hu e
    · simp at hu
      subst hu
      exact hd b e h
  · have hNs : N ≤ w.heap.size := by have := k.ge; have := k.blk.lt; omega
    exact (((hb.mono hNs).grown hg (by have := hb.size; omega) (fun g h => (ownsRow_block kA.ll.row h).1))).setCell k.ge v'
end
section
variable {PK : KP} {B : Nat} {w : World} {wb kb : Nat} {P : Nat → Prop} {h : WH} {d : WD} {s : RS}
set_option maxRecDepth 100000 in
set_option maxHeartbeats 6000000 in
theorem wSeen_any (c : CAll PK) (k : KWS PK B w wb kb P h d s) :
    Calls Try.prog 13 #[.pointer (some ⟨wb, 0, none⟩)] w fun e w' => ∃ cb ao co vl vs, e = .returned (.tuple #[.pointer (some ⟨cb, 0, none⟩), .bool true]) ∧ CH w.heap.size w' cb ao co vl s.owner (waitsTo s 1 s.owner.length) vs ∧ Below w.heap.size w w' := by
  have hfew := k.i.good.few
  have hol : s.owner.length = s.set.mutexes.length := k.i.good.own
  have hm8 : s.set.mutexes.length ≤ 8 := k.i.good.mfew
  have K := hid k
  have ES0 := hid k.wd.co.set
  have HOL := hid hol
  obtain ⟨i3, hi3, hz30, hz31, hz32⟩ := info_parts Try.infoInt
  have HI3 := hid (And.intro hi3 (And.intro hz30 (And.intro hz31 hz32)))
  clear hi3 hz30 hz31 hz32
  obtain ⟨i4, hi4, hz40, hz41, hz42⟩ := info_parts Try.infoInts
  have HI4 := hid (And.intro hi4 (And.intro hz40 (And.intro hz41 hz42)))
  clear hi4 hz40 hz41 hz42
  obtain ⟨M, hM⟩ : ∃ x, Hid (s.owner.length = x) := ⟨_, hid rfl⟩
  have HMM : Hid (s.set.mutexes.length = M) := hid (by rw [← hol]; exact hM.out)
  rw [HMM.out] at hm8
  clear k hol
  go_enter Try.func13, Try.ntmps13
  go_upto_region 3 with fail
  have hbA : Below w.heap.size w (w.alloc (.cells #[.slice none 0 0, .slice none 0 0] 39)) := (Below.refl _ _).alloc (Nat.le_refl _) _
  have bA := Blk.new w #[.slice none 0 0, .slice none 0 0] 39
  generalize w.alloc (.cells #[.slice none 0 0, .slice none 0 0] 39) = wA at hbA bA ⊢
  have HBA := hid hbA
  have CA : Hid (CS w.heap.size wA w.heap.size (.slice none 0 0) (.slice none 0 0) [] [] []) := hid ⟨bA, World.ownsRow_nil _ _ _ _, LL.nil _ _, Nat.le_refl _, fun b h => by cases h⟩
  clear hbA bA
  go_wp2
  go_loopw [5] (fun i wr => ∃ (j : Nat) (vo vl : Value) (vs : List Value), j ≤ M ∧ i = .int .i64 j ∧ CS w.heap.size wr w.heap.size vo vl (s.owner.take j) (waitsTo s 1 j) vs ∧ Below w.heap.size w wr) (fun i _ => M - (intOf i).toNat)
  case atStart => exact ⟨0, _, _, [], Nat.zero_le _, rfl, CA.out, HBA.out⟩
  case round =>
    obtain ⟨j, vo, vl, vs, hj, rfl, hcs, hb⟩ := hrel
    have HB := hid hb
    have CSJ := hid hcs
    have KJ := hid (K.out.below c.fr hb)
    clear hb hcs CA HBA
    have y3 := KJ.out.k.m.blk.cell 3
    have y6 := KJ.out.k.m.blk.cell 6
    simp [wCells] at y3 y6
    rw [ES0.out, HMM.out] at y3
    by_cases hjl : j < M
    · have hjI : (j : Int) < (M : Int) := by omega
      have hjo : j < s.owner.length := by rw [hM.out]; exact hjl
      have C1 := hid (c.own P wr kb s KJ.out.k.pk (j : Int))
      have ev : R.ownerV s (j : Int) = s.owner.getD j 0 := by unfold R.ownerV; rw [if_pos (by omega)]; rfl
      have ee : R.ownerE s (j : Int) = 0 := by unfold R.ownerE; rw [if_pos (by omega)]
      rw [ev, ee] at C1
      clear ev ee
      obtain ⟨_, tk, wt, _, ax⟩ := c.aux KJ.out.k.pk
      have SO := hid (seen_ok (d := d) KJ.out.i KJ.out.x.toExt0 ax KJ.out.snc j hjo)
      clear ax
      have ET : Hid (s.owner.take (j + 1) = s.owner.take j ++ [s.owner.getD j 0]) := by
        refine hid ?_
        rw [List.take_succ_eq_append_getElem hjo]
        simp [List.getD, hjo]
      have HLT : Hid ((s.owner.take j).length = j) := hid (by rw [List.length_take, hM.out]; omega)
      obtain ⟨ol, hol⟩ : ∃ x, Hid (s.owner.take j = x) := ⟨_, hid rfl⟩
      rw [hol.out] at CSJ ET HLT
      clear hol
      have ES := hid (waitsTo_succ s 1 j)
      have hth : R.things s 1 = (s.owner.length : Int) := by unfold R.things; rw [if_pos rfl]
      have C2 := hid (fun (wx : World) (kx : KWS PK B wx wb kb P h d s) => wLine_any c kx 1 (j : Int) (by decide) (by omega) (by rw [hth]; omega))
      clear hth
      obtain ⟨o, hoo⟩ : ∃ y, Hid (s.owner.getD j 0 = y) := ⟨_, hid rfl⟩
      rw [hoo.out] at C1 SO ET
      clear hoo
      go_wp2_with fail
      refine C1.out.mono ?_
      rintro e w1 ⟨rfl, hb1⟩
      have K1 := hid (KJ.out.below c.fr hb1)
      have CS1 := hid (CSJ.out.below hb1)
      have HB1 := hid (via HB.out HB.out.size hb1)
      clear hb1 C1 KJ CSJ HB y3 y6
      go_wp2_with fail
      refine (C2.out w1 K1.out).mono ?_
      rintro e w2 ⟨u, rfl, hr2, hb2⟩
      obtain ⟨ar, cr, rfl, _, _⟩ := owns_cells hr2
      have K2 := hid (K1.out.below c.fr hb2)
      have CS2 := hid (CS1.out.below hb2)
      have HB2 := hid (via HB1.out HB1.out.size hb2)
      have R2 := hid (ownsRow_mono hr2 HB1.out.size)
      have D2 : Hid (∀ b, (Value.slice ar (R.waiting s 1 (j : Int)).length cr).ownBlock = some b → vo.ownBlock ≠ some b) := hid (fun b h1 h2 => by
        have e1 := (ownsRow_block hr2 h1).1
        have e2 := (ownsRow_block CS1.out.own h2).2.1
        omega)
      have hsz1 := HB1.out.size
      clear hb2 hr2 K1 CS1 HB1 C2
      obtain ⟨L, hL⟩ : ∃ x, Hid (R.waiting s 1 (j : Int) = x) := ⟨_, hid rfl⟩
      rw [hL.out] at ES R2 SO D2 ⊢
      clear hL
      obtain ⟨gv, cv, cw, hgv, zv⟩ := K2.out.view
      obtain ⟨⟨g1, g2⟩, g3, g4⟩ := SO.out
      have e1 : decide (o < -1) = false := by rw [decide_eq_false_iff_not]; omega
      have e2 : decide ((s.T.length : Int) ≤ o) = false := by rw [decide_eq_false_iff_not]; omega
      have hcase : (o == -1) = true ∧ (o != -1) = false ∧ L.length = 0 ∨ ∃ u : Nat, o = (u : Int) ∧ u < s.T.length ∧ (viewD s u).st ≠ 0 := by
        by_cases q : o = -1
        · left
          exact ⟨by simp [q], by simp [q], g3 q⟩
        · right
          refine ⟨o.toNat, by omega, by omega, g4 q⟩
      clear SO g1 g2 g3 g4
      rcases hcase with ⟨q1, q2, q3⟩ | ⟨u, q1, q2, q3⟩
      case' inl =>
        have q4 : decide (0 < (L.length : Int)) = false := by rw [decide_eq_false_iff_not]; omega
        have q5 : decide (0 < L.length) = false := by rw [decide_eq_false_iff_not]; omega
        have q6 : ¬ (0 < L.length) := by omega
        have q7 : ¬ ((0 : Int) < (L.length : Int)) := by omega
        clear q3 zv
        go_upto_region 13 with fail
        clear q4 q1 q2 e1 e2 q5 q6 q7
      case' inr =>
        subst q1
        have q4 : ((u : Int) == -1) = false := by rw [beq_eq_false_iff_ne]; omega
        have q5 : ((u : Int) != -1) = true := by rw [bne_iff_ne]; omega
        have a0 := zv u q2 0 (by decide)
        simp [vCells] at a0
        generalize (viewD s u).st = st at *
        have q6 : (st == 0) = false := by rw [beq_eq_false_iff_ne]; exact q3
        have q7 : (u : Int) < (s.T.length : Int) := by omega
        clear q3 zv
        go_upto_region 13 with fail
        clear q4 q5 q6 q7 e1 e2 a0 q2
        generalize (u : Int) = o at *
      all_goals
        have c0 := CS2.out.blk.cell 0
        have f0 := CS2.out.blk.frozen 0
        simp at c0
        have hwl := CS2.out.blk.lt
        have hsz2 := HB2.out.size
        have HNE := hid (row_ne_blk CS2.out.own CS2.out.blk (by decide))
        go_upto_region 14 with (at_builtin; refine wpList_append_src_at rfl (.tmp 80) (.tmp 82) 25 rfl w.heap.size 3 i3 (.int .i64 0) 1 8 Try.underlying25 HI3.out.1 HI3.out.2.1 HI3.out.2.2.1 HI3.out.2.2.2 rfl (by decide) vo ol.length (intCells ol) rfl (CS2.out.own.alloc _) (some ⟨w2.heap.size, 0, none⟩) 1 1 [.int .i64 o] rfl rfl (fun h => (by cases h)) (fun j u hj => ⟨_, rfl, (by rw [Addr.add_lit, Nat.zero_add, (Blk.new w2 #[.int .i64 o] 3).cell]; simpa using hj)⟩) (by intro u hu; simp at hu; subst hu; rfl) (by have := HLT.out; unfold maxLen; omega) (by have := HLT.out; omega) (by simp; omega) ?_; intro v9 u9 ho9 hg9 ha9; obtain ⟨tv9, tc9, rfl, _, _⟩ := owns_cells ho9; have zz9 : u9.frozen? ⟨w.heap.size, 0, none⟩ = false := (by rw [World.frozen?_of_block (hg9.block w.heap.size (by simp; omega) (fun e => HNE.out e.symm))]; exact ((CS2.out.blk.alloc (.cells #[.int .i64 o] 3)).frozen 0)); have yy9 : u9.cell? ⟨w.heap.size, 0, none⟩ = some vo := (by rw [World.cell?_of_block (hg9.block w.heap.size (by simp; omega) (fun e => HNE.out e.symm))]; exact ((CS2.out.blk.alloc (.cells #[.int .i64 o] 3)).cell 0).trans (by simp)); have O9 := hid ho9; have G9 := hid hg9; have A9 := hid ha9; clear ho9 hg9 ha9)
        obtain ⟨k3, hb3, kr3⟩ := CS2.out.growO ((Below.refl _ _).alloc (Nat.le_refl _) _) G9.out (l := ol ++ [o]) (by rw [List.length_append]; simpa [intCells] using O9.out) A9.out
        obtain ⟨r3, d3⟩ := kr3 _ _ R2.out D2.out
        have CS3 := hid k3
        have HB3 := hid (HB2.out.trans hb3)
        have R3 := hid r3
        have D3 := hid d3
        clear k3 hb3 kr3 r3 d3 c0 f0 zz9 yy9 O9 G9 A9 CS2 HB2 R2 D2 hwl HNE hsz2
        generalize u9.setCell ⟨w.heap.size, 0, none⟩ (.slice tv9 _ tc9) = w3 at CS3 HB3 R3 ⊢
        generalize Value.slice tv9 _ tc9 = vo3 at CS3 D3
        have c1 := CS3.out.blk.cell 1
        have f1 := CS3.out.blk.frozen 1
        simp at c1
        have hwl := CS3.out.blk.lt
        have hsz3 := HB3.out.size
        have HNE := hid (row_ne_blk CS3.out.ll.row CS3.out.blk (by decide))
        have hlv := hid (waitsTo_length s 1 j)
        obtain ⟨wl, hwl2⟩ : ∃ x, Hid (waitsTo s 1 j = x) := ⟨_, hid rfl⟩
        rw [hwl2.out] at ES CS3 hlv
        clear hwl2
        go_wp2_with (at_builtin; refine wpList_append_src_at rfl (.tmp 90) (.tmp 92) 37 rfl w.heap.size 25 i4 (.slice none 0 0) 1 24 Try.underlying37 HI4.out.1 HI4.out.2.1 HI4.out.2.2.1 HI4.out.2.2.2 rfl (by decide) vl wl.length vs rfl (CS3.out.ll.row.alloc _) (some ⟨w3.heap.size, 0, none⟩) 1 1 [.slice ar L.length cr] rfl rfl (fun h => (by cases h)) (fun j u hj => ⟨_, rfl, (by rw [Addr.add_lit, Nat.zero_add, (Blk.new w3 #[.slice ar L.length cr] 25).cell]; simpa using hj)⟩) (by intro u hu; simp at hu; subst hu; rfl) (by have := hlv.out; unfold maxLen; omega) (by have := hlv.out; omega) (by simp; omega) ?_; intro v10 u10 ho10 hg10 ha10; obtain ⟨tv10, tc10, rfl, _, _⟩ := owns_cells ho10; have zz10 : u10.frozen? ⟨w.heap.size, 1, none⟩ = false := (by rw [World.frozen?_of_block (hg10.block w.heap.size (by simp; omega) (fun e => HNE.out e.symm))]; exact ((CS3.out.blk.alloc (.cells #[.slice ar L.length cr] 25)).frozen 1)); have yy10 : u10.cell? ⟨w.heap.size, 1, none⟩ = some vl := (by rw [World.cell?_of_block (hg10.block w.heap.size (by simp; omega) (fun e => HNE.out e.symm))]; exact ((CS3.out.blk.alloc (.cells #[.slice ar L.length cr] 25)).cell 1).trans (by simp)); have O10 := hid ho10; have G10 := hid hg10; clear ho10 hg10 ha10)
        obtain ⟨k4, hb4⟩ := CS3.out.growL R3.out D3.out ((Below.refl _ _).alloc (Nat.le_refl _) _) G10.out (by simpa using O10.out)
        have CS4 := hid k4
        have HB4 := hid (HB3.out.trans hb4)
        clear k4 hb4 c1 f1 zz10 yy10
        go_roundw
        case rel => exact ⟨j + 1, _, _, _, by omega, by go_num, by rw [ET.out, ES.out]; exact CS4.out, HB4.out⟩
        case measure => simp [intOf]; omega
    · have e : j = M := by omega
      subst e
      have hcs := CSJ.out
      rw [List.take_of_length_le (by rw [hM.out]; exact Nat.le_refl _)] at hcs
      obtain ⟨ao, co, _, hch⟩ := hcs.done
      have CH1 := hid hch
      clear hcs hch
      go_wp2
      go_ret2
      exact ⟨w.heap.size, ao, co, vl, vs, rfl, by rw [hM.out]; exact CH1.out, HB.out⟩
end
end Go.Proofs.Ytbkfildnijjioab
