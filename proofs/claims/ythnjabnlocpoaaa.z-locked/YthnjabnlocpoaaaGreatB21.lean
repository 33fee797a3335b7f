import Derived.Test.YthnjabnlocpoaaaGreatB19
import Derived.Test.YthnjabnlocpoaaaGreatB20
import Derived.Test.YthnjabnlocpoaaaGreatB09
import Derived.ProofKit
import Derived.SizedLaws
import Derived.Deep.Slices
import Derived.Deep.Fields
import Derived.Deep.Strs
import Derived.Test.YthnjabnlocpoaaaGreatRows
/-
  The law's own function upTo.
-/
namespace Go.Proofs.YthnjabnlocpoaaaGreat
open Go.RowKit

def codeUpTo (most : Int) (c : List InstrD) : Bool := c.all fun i => decide (i.op ≤ most)
def setUpTo (most : Int) (S : SetD) : Bool := S.threads.all fun t => codeUpTo most t.code

set_option maxHeartbeats 1000000 in
theorem lUpTo_any (tv mv sv qv : Option Addr) (tc mc sc qc : Nat) (S : SetD) (most : Int) (w : World) (hS : SetIn w.heap.size w tv mv sv qv S) (hF : Fits S) :
    Calls Tryz.prog 11 #[.agg #[.int .i64 S.workers, .int .i64 S.start, .slice tv S.threads.length tc, .slice mv S.mutexes.length mc, .slice sv S.sems.length sc, .slice qv S.queues.length qc], .int .i64 most] w fun e w' =>
      e = .returned (.bool (setUpTo most S)) ∧ Below w.heap.size w w' := by
  have HS := hid hS
  have hlen : S.threads.length * 56 ≤ reachBytes := hF.threads
  have HF := hid hF
  unfold reachBytes at hlen
  clear hS hF
  go_enter Tryz.func11, Tryz.ntmps11
  go_upto_region 1 with fail
  have hb0 : Below w.heap.size w (w.alloc (.cells #[.int .i64 S.workers, .int .i64 S.start, .slice tv S.threads.length tc, .slice mv S.mutexes.length mc, .slice sv S.sems.length sc, .slice qv S.queues.length qc] 27)) := (Below.refl _ _).alloc (Nat.le_refl _) _
  have X0 := Blk.new w #[.int .i64 S.workers, .int .i64 S.start, .slice tv S.threads.length tc, .slice mv S.mutexes.length mc, .slice sv S.sems.length sc, .slice qv S.queues.length qc] 27
  generalize w.alloc (.cells #[.int .i64 S.workers, .int .i64 S.start, .slice tv S.threads.length tc, .slice mv S.mutexes.length mc, .slice sv S.sems.length sc, .slice qv S.queues.length qc] 27) = w0 at hb0 X0 ⊢
  have x2 := X0.cell 2
  simp at x2
  have HB := hid hb0
  have HS0 := hid (HS.out.later hb0)
  clear X0 hb0
  go_wp2
  go_loop [5] (fun i => ∃ k : Nat, k ≤ S.threads.length ∧ i = .int .i64 k ∧ ∀ j (hj : j < S.threads.length), j < k → codeUpTo most S.threads[j].code = true) (fun i => S.threads.length - (intOf i).toNat)
  case atStart => exact ⟨0, Nat.zero_le _, rfl, fun _ _ h => absurd h (Nat.not_lt_zero _)⟩
  case round =>
    obtain ⟨k, hk, rfl, hall⟩ := hrel
    have HA := hid hall
    clear hall
    by_cases hlt : k < S.threads.length
    · obtain ⟨b, o, cv, cc, hta, hbb, _, _, _, _, y4, hcode, _⟩ := HS0.out.threads k hlt
      rw [hta] at x2
      have hcl : S.threads[k].code.length * 24 ≤ reachBytes := HF.out.codes k hlt
      unfold reachBytes at hcl
      have HC := hid hcode
      have hkI : (k : Int) < (S.threads.length : Int) := by omega
      clear hta hcode
      generalize hcd : S.threads[k].code = c at *
      have HCD := hid hcd
      clear hcd
      go_wp2
      go_loop [7] (fun i => ∃ m : Nat, m ≤ c.length ∧ i = .int .i64 m ∧ ∀ j (hj : j < c.length), j < m → c[j].op ≤ most) (fun i => c.length - (intOf i).toNat)
      case atStart => exact ⟨0, Nat.zero_le _, rfl, fun _ _ h => absurd h (Nat.not_lt_zero _)⟩
      case round =>
        obtain ⟨m, hm, rfl, hall⟩ := hrel
        have HA2 := hid hall
        clear hall
        by_cases hml : m < c.length
        · obtain ⟨b', o', hca, hb', z0, _, _⟩ := HC.out m hml
          subst hca
          have hmI : (m : Int) < (c.length : Int) := by omega
          by_cases hop : c[m].op ≤ most
          · have HOP := hid hop
            have HST : Hid (∀ j (hj : j < c.length), j < m + 1 → c[j].op ≤ most) := by
              intro j hj hjm
              rcases Nat.lt_or_ge j m with h1 | h1
              · exact HA2.out j hj h1
              · have e : j = m := by omega
                subst e
                exact HOP.out
            generalize c[m].op = op at *
            go_wp2
            go_round
            case rel => exact ⟨m + 1, by omega, by go_num, HST.out⟩
            case measure => simp [intOf]; omega
          · have hno : setUpTo most S = false := by
              unfold setUpTo
              rw [List.all_eq_false]
              refine ⟨S.threads[k], List.getElem_mem hlt, ?_⟩
              rw [HCD.out]
              unfold codeUpTo
              intro hh
              rw [List.all_eq_true] at hh
              have := hh c[m] (List.getElem_mem hml)
              simp at this
              omega
            have HNO := hid hno
            have hop' : most < c[m].op := by omega
            generalize c[m].op = op at *
            clear hno
            go_wp2
            go_ret
            refine ⟨?_, HB.out⟩
            rw [HNO.out]
            rfl
        · have e : m = c.length := by omega
          subst e
          have hgood : codeUpTo most S.threads[k].code = true := by
            rw [HCD.out]
            unfold codeUpTo
            rw [List.all_eq_true]
            intro x hx
            obtain ⟨j, hj, rfl⟩ := List.mem_iff_getElem.1 hx
            simpa using HA2.out j hj hj
          have HST : Hid (∀ j (hj : j < S.threads.length), j < k + 1 → codeUpTo most S.threads[j].code = true) := by
            intro j hj hjm
            rcases Nat.lt_or_ge j k with h1 | h1
            · exact HA.out j hj h1
            · have e : j = k := by omega
              subst e
              exact hgood
          clear hgood
          go_wp2
          go_round
          case rel => exact ⟨k + 1, by omega, by go_num, HST.out⟩
          case measure => simp [intOf]; omega
    · go_wp2
      go_ret
      refine ⟨?_, HB.out⟩
      have : setUpTo most S = true := by
        unfold setUpTo
        rw [List.all_eq_true]
        intro t ht
        obtain ⟨j, hj, rfl⟩ := List.mem_iff_getElem.1 ht
        exact HA.out j hj (by omega)
      rw [this]
      rfl

end Go.Proofs.YthnjabnlocpoaaaGreat

/-
  Walks over package donate: step, Pick.
-/
namespace Go.Proofs.YthnjabnlocpoaaaGreat
open Go.RowKit

theorem toAt_self (s : RS) (t : Nat) (ht : t < s.T.length) : R.toAt s t (R.th s.T t).at_ = s := by
  have e : s.T.modify t (fun x => { x with at_ := (R.th s.T t).at_ }) = s.T := by
    apply List.ext_getElem
    · simp
    · intro i h1 h2
      rw [List.getElem_modify]
      split
      · rename_i e
        subst e
        have e2 : (R.th s.T t).at_ = s.T[t].at_ := by rw [th_ext ht]
        simp only [e2]
      · rfl
  unfold R.toAt
  rw [e]
theorem doesS_len (s : RS) (t : Nat) (i : InstrD) (h7 : i.op ≤ 7) : (R.doesS s t i).T.length = s.T.length := (R.keepW_doesS s t i h7).len
theorem at_doesS (s : RS) (t : Nat) (ht : t < s.T.length) (i : InstrD) (h7 : i.op ≤ 7) : (R.th (R.doesS s t i).T t).at_ = (R.th s.T t).at_ := by
  have h1 := R.doesS_toAt s t (R.th s.T t).at_ i
  rw [toAt_self s t ht] at h1
  rw [h1]
  show (R.th ((R.doesS s t i).T.modify t _) t).at_ = _
  rw [Ln.th_modify, if_pos ⟨rfl, by rw [doesS_len s t i h7]; exact ht⟩]

section
variable {F : Nat → Prop} {w w' : World} {kb : Nat} {h : KH} {s : RS} {tk wt : List Nat} {ws : List Int}

theorem KFit.unmod {s s' : RS} {t : Nat} {g : RT → RT} (f : KFit s') (hg : ∀ x, (g x).for_ = x.for_ ∧ (g x).of_ = x.of_) (h : s' = { s with T := s.T.modify t g } := by rfl) : KFit s := by
  subst h
  have hth : ∀ u, (R.th (s.T.modify t g) u).for_ = (R.th s.T u).for_ ∧ (R.th (s.T.modify t g) u).of_ = (R.th s.T u).of_ := fun u => by
    rw [Ln.th_modify]
    split
    · exact hg _
    · exact ⟨rfl, rfl⟩
  refine ⟨by simpa using f.few, f.m8, f.ok.len, fun i hi => by simpa using f.ok.own i hi, fun u hu hf => ?_, f.ok.kind⟩
  have h1 := f.ok.of1 u (by simpa using hu) (by show (R.th (s.T.modify t g) u).for_ = 1; rw [(hth u).1]; exact hf)
  have h2 : 0 ≤ (R.th (s.T.modify t g) u).of_ ∧ (R.th (s.T.modify t g) u).of_ < s.owner.length := h1
  rwa [(hth u).2] at h2

set_option maxRecDepth 100000 in
set_option maxHeartbeats 4000000 in
theorem kStep_any (m : KMem F w kb h s tk wt ws) (f : KFit s) (a : Ln.Aux s tk wt) (t : Nat) (ht : t < s.T.length) (hf0 : s.T[t].for_ = 0) (g0 : 0 ≤ s.now) (g1 : s.now ≤ 1000000000) (hat : 0 ≤ s.T[t].at_ ∧ s.T[t].at_ ≤ 1000) (hen : 0 ≤ s.T[t].ended ∧ s.T[t].ended ≤ 2000000000) (hc32 : (s.set.threads.getD t P3.none0).code.length ≤ 32)
    (h0 : 0 ≤ (R.instrAt s t).op) (h7 : (R.instrAt s t).op ≤ 7) (ki : KIns s (R.instrAt s t)) (fa : KFit (R.actS s t)) :
    Calls Tryz.prog 88 #[.pointer (some ⟨kb, 0, none⟩), .int .i64 t] w fun e w' => e = .returned (.int .i64 (R.actC s t)) ∧ ∃ h' tk' wt', KMem F w' kb h' (R.actS s t) tk' wt' ws ∧ Ln.Aux (R.actS s t) tk' wt' ∧ Only (kb :: h.gT :: h.gM :: h.vWt.ownBlock.toList) w w' ∧ KUp w h h' := by
  have NI := hid (kNextInstr_any m t ht f.few hat.1 hc32)
  have M := hid m
  have FT := hid f
  have AX := hid a
  have hfew := f.few
  have hm8 := f.m8
  have ACT0 : Hid ((R.instrAt s t).op = 0 → R.actS s t = R.stop s t ∧ R.actC s t = 0) := fun e => by
    refine ⟨?_, ?_⟩
    · unfold R.actS
      rw [if_pos e]
    · unfold R.actC
      rw [if_pos (.inl e)]
  have ACT3 : Hid ((R.instrAt s t).op = 3 → R.actS s t = (if s.T[t].last = (R.instrAt s t).a then R.toAt s t (R.instrAt s t).b else R.toAt s t (s.T[t].at_ + 1)) ∧ R.actC s t = 0) := fun e => by
    refine ⟨?_, ?_⟩
    · unfold R.actS
      rw [if_neg (by omega), if_pos e, th_ext ht]
    · unfold R.actC
      rw [if_pos (.inr e)]
  have ACT : Hid ((R.instrAt s t).op ≠ 0 → (R.instrAt s t).op ≠ 3 → R.actS s t = R.toLast (R.toAt (R.doesS s t (R.instrAt s t)) t (s.T[t].at_ + 1)) t (R.doesC s t (R.instrAt s t)) ∧ R.actC s t = R.doesC s t (R.instrAt s t)) := fun e1 e2 => by
    have := R.actS_is s t e1 e2
    rwa [th_ext ht] at this
  have ATD : Hid ((R.th (R.doesS s t (R.instrAt s t)).T t).at_ = s.T[t].at_) := by rw [at_doesS s t ht _ h7, th_ext ht]; exact hid rfl
  have LND := hid (doesS_len s t (R.instrAt s t) h7)
  have DO := hid (fun wx (hb : Below w.heap.size w wx) hop => kDo_any (m.below hb) f a t ht hf0 g0 g1 (R.instrAt s t) ki hop)
  have EJ := hid (fun wx (hb : Below w.heap.size w wx) => kEndJob_any (m.below hb) f a t ht hen)
  have JW := hid (fun wx (hb : Below w.heap.size w wx) => kJumpWhen_any (m.below hb) t ht hfew (R.instrAt s t).a (R.instrAt s t).b hat)
  have FA := hid fa
  clear m f a ki fa
  generalize R.actS s t = sa at *
  generalize R.actC s t = ca at *
  generalize R.instrAt s t = i at *
  go_enter Tryz.func88, Tryz.ntmps88
  go_wp2_with fail
  refine NI.out.mono ?_
  rintro e w1 ⟨rfl, hb1⟩
  have HB1 := hid hb1
  have hsz1 := hb1.size
  clear hb1 NI
  go_upto_region 2 with fail
  have hbA : Below w1.heap.size w1 (w1.alloc (.cells #[.int .i64 i.op, .int .i64 i.a, .int .i64 i.b] 41)) := (Below.refl _ _).alloc (Nat.le_refl _) _
  have XA := Blk.new w1 #[.int .i64 i.op, .int .i64 i.a, .int .i64 i.b] 41
  generalize w1.alloc (.cells #[.int .i64 i.op, .int .i64 i.a, .int .i64 i.b] 41) = wA at hbA XA ⊢
  have HBA := hid (via HB1.out HB1.out.size hbA)
  have hszA := HBA.out.size
  have x0 := XA.cell 0
  have x1 := XA.cell 1
  have x2 := XA.cell 2
  simp at x0 x1 x2
  clear hbA XA HB1
  by_cases e0 : i.op = 0
  · obtain ⟨hs, hc⟩ := ACT0.out e0
    have HS := hid hs
    have HC := hid hc
    have EJA := hid (EJ.out wA HBA.out)
    rw [e0] at x0
    clear ACT ACT0 ACT3 hs hc e0 DO JW EJ
    go_wp2_with fail
    refine EJA.out.mono ?_
    rintro e w2 ⟨rfl, h2, tk2, wt2, m2, a2, o2, u2⟩
    have M2 := hid m2
    have A2 := hid a2
    have U2 := hid ((KUp.refl w h).trans u2 hszA)
    have O2 : Hid (Only (kb :: h.gT :: h.gM :: h.vWt.ownBlock.toList) w w2) := (Only.of_below HBA.out).trans (o2.mono (fun b hb => by simp at hb ⊢; rcases hb with h | h | h <;> simp [h]))
    clear m2 a2 o2 u2 EJA
    go_wp2
    go_ret
    refine ⟨ret_int HC.out.symm, h2, tk2, wt2, ?_, ?_, O2.out, U2.out⟩
    · rw [HS.out]; exact M2.out
    · rw [HS.out]; exact A2.out
  · by_cases e3 : i.op = 3
    · obtain ⟨hs, hc⟩ := ACT3.out e3
      have HS := hid hs
      have HC := hid hc
      have JWA := hid (JW.out wA HBA.out)
      rw [e3] at x0
      have AA : Hid (Ln.Aux (if s.T[t].last = i.a then R.toAt s t i.b else R.toAt s t (s.T[t].at_ + 1)) tk wt) := by
        split
        · exact hid (AX.out.modify FT.out.ok t _ (fun _ => ⟨rfl, rfl, rfl, rfl, id⟩))
        · exact hid (AX.out.modify FT.out.ok t _ (fun _ => ⟨rfl, rfl, rfl, rfl, id⟩))
      clear ACT ACT0 ACT3 hs hc e0 e3 DO JW EJ
      generalize (if s.T[t].last = i.a then R.toAt s t i.b else R.toAt s t (s.T[t].at_ + 1)) = sj at *
      go_wp2_with fail
      refine JWA.out.mono ?_
      rintro e w2 ⟨rfl, h2, m2, o2, u2⟩
      have M2 := hid m2
      have U2 := hid ((KUp.refl w h).trans u2 hszA)
      have O2 : Hid (Only (kb :: h.gT :: h.gM :: h.vWt.ownBlock.toList) w w2) := (Only.of_below HBA.out).trans (o2.mono (fun b hb => by simp at hb ⊢; rcases hb with h | h <;> simp [h]))
      clear m2 o2 u2 JWA
      go_wp2
      go_ret
      refine ⟨ret_int HC.out.symm, h2, tk, wt, ?_, ?_, O2.out, U2.out⟩
      · rw [HS.out]; exact M2.out
      · rw [HS.out]; exact AA.out
    · obtain ⟨hs, hc⟩ := ACT.out e0 e3
      have HS := hid hs
      have HC := hid hc
      have DOA := hid (DO.out wA HBA.out (by omega))
      have n0 : (i.op == 0) = false := by simpa using e0
      have n3 : (i.op == 3) = false := by simpa using e3
      clear ACT ACT0 ACT3 hs hc DO JW EJ
      generalize R.doesS s t i = sd at *
      generalize R.doesC s t i = cd at *
      go_wp2_with fail
      refine DOA.out.mono ?_
      rintro e w2 ⟨rfl, h2, tk2, wt2, m2, a2, o2, u2⟩
      have M2 := hid m2
      have A2 := hid a2
      have U2 := hid ((KUp.refl w h).trans u2 hszA)
      have O2 : Hid (Only (kb :: h.gT :: h.gM :: h.vWt.ownBlock.toList) w w2) := (Only.of_below HBA.out).trans o2
      have ht2 : t < sd.T.length := by rw [LND.out]; exact ht
      have c1 := m2.blk.cell 1
      simp [kCells] at c1
      have a5 := m2.tcell ht2 5 (by decide)
      have a6 := m2.tcell ht2 6 (by decide)
      simp [ktCells] at a5 a6
      have eat : sd.T[t].at_ = s.T[t].at_ := by have := ATD.out; rwa [th_ext ht2] at this
      rw [eat] at a5
      have f5 := m2.tfrozen (t * 12 + 5)
      have f6 := m2.tfrozen (t * 12 + 6)
      obtain ⟨h3, m3, u3⟩ := m2.setT' ht2 (j := 5) (by decide) (.int .i64 (s.T[t].at_ + 1)) (fun x => { x with at_ := s.T[t].at_ + 1 }) (ktCells_at _ _ _ _ _)
      have ht3 : t < (sd.T.modify t (fun x => { x with at_ := s.T[t].at_ + 1 })).length := by simpa using ht2
      obtain ⟨h4, m4, u4⟩ := m3.setT' (t := t) ht3 (j := 6) (by decide) (.int .i64 cd) (fun x => { x with last := cd }) (ktCells_last _ _ _ _ _)
      have m4' : KMem F ((w2.setCell ⟨h2.gT, t * 12 + 5, none⟩ (.int .i64 (s.T[t].at_ + 1))).setCell ⟨h2.gT, t * 12 + 6, none⟩ (.int .i64 cd)) kb h4 (R.toLast (R.toAt sd t (s.T[t].at_ + 1)) t cd) tk2 wt2 ws := by
        have := m4
        rw [u3.gT] at this
        exact this
      have M4 := hid m4'
      have U4 := hid ((U2.out.trans u3 O2.out.size).trans u4 (Nat.le_trans O2.out.size (setCell_sz _ _ _)))
      have O4 := hid ((O2.out.setCell (p := ⟨h2.gT, t * 12 + 5, none⟩) (.inl (by simp [U2.out.gT])) (.int .i64 (s.T[t].at_ + 1))).setCell (p := ⟨h2.gT, t * 12 + 6, none⟩) (.inl (by simp [U2.out.gT])) (.int .i64 cd))
      have htI : (t : Int) < (sd.T.length : Int) := by omega
      have hfd : sd.T.length ≤ 16 := by rw [LND.out]; exact hfew
      clear m2 a2 o2 u2 m3 u3 m4 m4' u4 DOA
      generalize s.T[t].at_ = at_ at *
      generalize sd.T[t].last = ol at *
      obtain ⟨hat0, hat1⟩ := hat
      go_wp2
      go_ret
      refine ⟨ret_int HC.out.symm, h4, tk2, wt2, ?_, ?_, O4.out, U4.out⟩
      · rw [HS.out]; exact M4.out
      · rw [HS.out]
        have f3 := FA.out
        rw [HS.out] at f3
        have f2 : KFit (R.toAt sd t (at_ + 1)) := KFit.unmod (t := t) (g := fun x => { x with last := cd }) f3 (fun _ => ⟨rfl, rfl⟩)
        have f1 : KFit sd := KFit.unmod (t := t) (g := fun x => { x with at_ := at_ + 1 }) f2 (fun _ => ⟨rfl, rfl⟩)
        have a3 : Ln.Aux (R.toAt sd t (at_ + 1)) tk2 wt2 := A2.out.modify f1.ok t _ (fun _ => ⟨rfl, rfl, rfl, rfl, id⟩)
        exact a3.modify f2.ok t _ (fun _ => ⟨rfl, rfl, rfl, rfl, id⟩)

theorem WkW.of_keep {n : Nat} {s s' : RS} (wk : Ln.Wk n ws s.T) (k : R.KeepW s s') : Ln.WkW n ws s'.T := by
  refine ⟨wk.len, fun t ht => ?_, fun v hv => ?_, fun v hv t ht ha => ?_⟩
  · have ht' : t < s.T.length := by rw [← k.len]; exact ht
    have := k.wkr t
    rw [th_ext ht, th_ext ht'] at this
    have hb := wk.tb t ht'
    have := wk.len
    rcases this with h | h <;> omega
  · rw [k.len]
    exact wk.wb v hv
  · have ht' : t < s.T.length := by rw [← k.len]; exact ht
    have := k.wkr t
    rw [th_ext ht, th_ext ht'] at this
    rcases this with h | h
    · rw [h]
      exact wk.eq v hv t ht'
    · rw [h.2] at ha
      cases ha
/-- Of sets with the instructions up to Unlock alone. -/
def KPL (Q : Nat → Prop) (w : World) (kb : Nat) (s : RS) : Prop := KPK Q w kb s ∧ setUpTo 7 s.set = true
theorem upTo_instr {S : SetD} {t : Nat} (h : setUpTo 7 S = true) (ht : t < S.threads.length) (i : InstrD) (hi : i ∈ S.threads[t].code) : i.op ≤ 7 := by
  unfold setUpTo at h
  have h1 := List.all_eq_true.1 h S.threads[t] (List.getElem_mem ht)
  unfold codeUpTo at h1
  have := List.all_eq_true.1 h1 i hi
  simpa using this
/-- What a step wants to know, out of what holds behind every step. -/
theorem step_ready {s : RS} (inv : RInv s) (h7 : setUpTo 7 s.set = true) (hnx : s.next ≤ 4611686018427386000) {wk : Int} (hw : ¬ (wk < 0 ∨ s.set.workers ≤ wk)) (hon : ¬ R.on s.T wk < 0) :
    ∃ t : Nat, R.on s.T wk = (t : Int) ∧ ∃ (ht : t < s.T.length), s.T[t].for_ = 0 ∧ (0 ≤ s.T[t].at_ ∧ s.T[t].at_ ≤ 1000) ∧ (0 ≤ s.T[t].ended ∧ s.T[t].ended ≤ 2000000000) ∧ (s.set.threads.getD t P3.none0).code.length ≤ 32 ∧ 0 ≤ (R.instrAt s t).op ∧ (R.instrAt s t).op ≤ 7 ∧ KIns s (R.instrAt s t) ∧ RInv (R.settle (R.actS s t)) ∧ R.pickS s wk = R.settle (R.actS s t) := by
  obtain ⟨o0, o1⟩ := R.on_bd s.T wk
  have hsp := R.on_spec s.T wk (by omega)
  obtain ⟨t, ht0⟩ := Int.eq_ofNat_of_zero_le (show 0 ≤ R.on s.T wk by omega)
  have ht : t < s.T.length := by omega
  have etn : (R.on s.T wk).toNat = t := by omega
  rw [etn, th_ext ht] at hsp
  have haw : s.T[t].awake = true := inv.wk t ht (by rw [hsp]; omega)
  have hx := inv.thr t ht
  have htc : t < s.set.threads.length := by have := inv.good.len; omega
  have ecl : R.codeLen s.set t = s.set.threads[t].code.length := by simp [R.codeLen, List.getD, htc]
  have ecd : s.set.threads.getD t P3.none0 = s.set.threads[t] := by simp [List.getD, htc]
  have hf0 : s.T[t].for_ = 0 := Classical.byContradiction fun hc => by
    have := (hx.fw hc).2
    rw [haw] at this
    cases this
  have hcl := (inv.toRMid.code.code t htc).1
  have hat := inv.toRMid.code.at_ t ht
  have hen := inv.toRMid.code.ended t ht
  have hpk : R.pickS s wk = R.settle (R.actS s t) := by
    unfold R.pickS
    rw [if_neg hw, if_neg hon, etn]
  have hri := inv.pick wk hnx
  rw [hpk] at hri
  have hins : (0 ≤ (R.instrAt s t).op ∧ (R.instrAt s t).op ≤ 7) ∧ KIns s (R.instrAt s t) := by
    have eI : R.instrAt s t = (s.set.threads[t].code)[s.T[t].at_.toNat]?.getD ⟨0, 0, 0⟩ := by
      unfold R.instrAt
      rw [th_ext ht, ecd]
    rcases Nat.lt_or_ge s.T[t].at_.toNat s.set.threads[t].code.length with h' | h'
    · have eI2 : R.instrAt s t = s.set.threads[t].code[s.T[t].at_.toNat] := by rw [eI]; simp [h']
      rw [eI2]
      exact ⟨⟨(inv.toRMid.ins t htc _ (List.getElem_mem h')).1.op0, upTo_instr h7 htc _ (List.getElem_mem h')⟩, inv.toRMid.kins t htc _ (List.getElem_mem h')⟩
    · have eI2 : R.instrAt s t = ⟨0, 0, 0⟩ := by rw [eI, List.getElem?_eq_none h']; rfl
      rw [eI2]
      exact ⟨⟨Int.le_refl _, by decide⟩, fun e => (by cases e), fun e => (by cases e), fun e => (by rcases e with e | e <;> cases e), fun e => (by cases e)⟩
  exact ⟨t, ht0, ht, hf0, ⟨by omega, by omega⟩, ⟨by omega, by omega⟩, by rw [ecd]; exact hcl, hins.1.1, hins.1.2, hins.2, hri, hpk⟩
/-- Behind a step, ahead of the workers: as behind them, but for the workers. -/
theorem RInv.unsettle {s : RS} (inv : RInv (R.settle s)) : KFit s ∧ AwOk s := by
  have f := inv.toRMid.fit
  have hl := settle_len s
  refine ⟨⟨by rw [← hl]; exact f.few, f.m8, f.ok.len, fun i hi => ?_, fun u hu hf => ?_, f.ok.kind⟩, fun t ht => ?_⟩
  · have := f.ok.own i hi
    rw [hl] at this
    exact this
  · obtain ⟨x, hx⟩ := settle_thr hu
    have := f.ok.of1 u (by rw [hl]; exact hu) (by rw [hx]; exact hf)
    rw [hx] at this
    exact this
  · have h1 := inv.toRMid.awOk t (by rw [hl]; exact ht)
    obtain ⟨x, hx⟩ := settle_get ht
    rw [hx] at h1
    exact h1
end

end Go.Proofs.YthnjabnlocpoaaaGreat

/-
  Walks over package donate: Pick.
-/
namespace Go.Proofs.YthnjabnlocpoaaaGreat
open Go.RowKit

theorem KPL.frame : KFrame KPL := ⟨fun k b hb => kframe.lt k.1 b hb, fun k hs hz => ⟨kframe.frame k.1 hs hz, k.2⟩⟩
theorem KPL.see (hd : Int) (h : hd ≠ 32) : CSee KPL hd :=
  ⟨fun _ => ⟨fun Q w kb s k => cNow Q w kb s k.1, fun Q w kb s k => cMisses Q w kb s k.1⟩, fun _ => fun Q w kb s k => cRunning Q w kb s k.1, fun _ => fun Q w kb s k => cLook Q w kb s k.1, fun _ => ⟨fun Q w kb s k => cOwner Q w kb s k.1, fun Q w kb s k => cWaiting Q w kb s k.1⟩, fun e => absurd e h⟩
theorem new_set (S : SetD) : (R.new S).set = S := by
  show (R.release (R.bare S)).set = S
  exact R.releaseTo_set _ _
theorem upTo_mono {a b : Int} {S : SetD} (hab : a ≤ b) (h : setUpTo a S = true) : setUpTo b S = true := by
  unfold setUpTo codeUpTo at *
  refine List.all_eq_true.2 fun t ht => List.all_eq_true.2 fun i hi => ?_
  have := List.all_eq_true.1 (List.all_eq_true.1 h t ht) i hi
  simp at this ⊢
  omega
theorem KPL.new {m : Int} (hm : m ≤ 7) : CNew KPL (fun S => setUpTo m S = true) := by
  intro tv mv sv qv tc mc sc qc S w hS hF hnil hup
  refine (cNew tv mv sv qv tc mc sc qc S w hS hF hnil trivial).mono ?_
  rintro e w' ⟨hb, h | ⟨h0, kb, P, he, hk, hp⟩⟩
  · exact ⟨hb, .inl h⟩
  · exact ⟨hb, .inr ⟨h0, kb, P, he, ⟨hk, by rw [new_set]; exact upTo_mono hm hup⟩, hp⟩⟩

theorem settle_set (s : RS) : (R.settle s).set = s.set := rfl
theorem wake_set (s : RS) (t : Nat) : (R.wake s t).set = s.set := rfl
theorem doesS_set (s : RS) (t : Nat) (i : InstrD) (h7 : i.op ≤ 7) : (R.doesS s t i).set = s.set := by
  have hg : ∀ what of_, (R.giveS s what of_).set = s.set := fun what of_ => (giveS_owner s what of_).2.1
  unfold R.doesS R.lockS R.unlockS
  repeat (first | rfl | (exact hg _ _) | omega | split)
theorem stop_set (s : RS) (t : Nat) : (R.stop s t).set = s.set := by
  have h := (unlocksTo_len (R.stop0 s t) t s.owner.length).2.2
  unfold R.stop
  split <;> exact h

theorem actS_set (s : RS) (t : Nat) (h7 : (R.instrAt s t).op ≤ 7) : (R.actS s t).set = s.set := by
  unfold R.actS
  split
  · exact stop_set s t
  · split
    · split <;> rfl
    · exact doesS_set (R.toAt s t _) t _ h7

section
variable {Q : Nat → Prop} {w : World} {kb : Nat} {s : RS}
set_option maxRecDepth 100000 in
set_option maxHeartbeats 4000000 in
theorem KPL.pick : CPick KPL := by
  intro Q w kb s kk hnx wk
  obtain ⟨k, h7⟩ := kk
  obtain ⟨F, h, tk, wt, ws, m, a, hq, wkk, f, h8⟩ := k.open
  have hlen := wkk.len
  have hw1 := k.inv.good.wk1
  have hw0 := k.inv.good.wk0
  have hbA : Below w.heap.size w (w.alloc (.cells #[.int .i64 0, .int .i64 0, .int .i64 0] 84)) := (Below.refl _ _).alloc (Nat.le_refl _) _
  have XA := Blk.new w #[.int .i64 0, .int .i64 0, .int .i64 0] 84
  have HK := hid k
  have stay : R.pickS s wk = s → ∀ w', Below w.heap.size w w' → ∃ Q', KPL Q' w' kb (R.pickS s wk) ∧ (∀ b, Q' b → Q b ∨ w.heap.size ≤ b) ∧ Turns Q w w' := by
    intro e w' hb
    rw [e]
    exact ⟨Q, ⟨kframe.below k hb, h7⟩, fun b hb => .inl hb, Turns.of_below hb⟩
  have STAY := hid stay
  clear stay
  by_cases hw : wk < 0 ∨ s.set.workers ≤ wk
  · have E1 : R.pickT s wk = 0 := by unfold R.pickT; rw [if_pos hw]
    have E2 : R.pickA s wk = 0 := by unfold R.pickA; rw [if_pos hw]
    have E3 : R.pickC s wk = 0 := by unfold R.pickC; rw [if_pos hw]
    have E4 : R.pickE s wk = 7 := by unfold R.pickE; rw [if_pos hw]
    have E5 : R.pickS s wk = s := by unfold R.pickS; rw [if_pos hw]
    rw [E1, E2, E3, E4]
    have ST := hid (STAY.out E5)
    have c5 := m.blk.cell 5
    simp [kCells] at c5
    have hsl := m.blk.lt
    clear E1 E2 E3 E4 E5 STAY m a f hq wkk
    generalize R.pickS s wk = sp at *
    go_enter Tryz.func52, Tryz.ntmps52
    by_cases hneg : wk < 0
    · go_wp2
      refine bodyPost_ret (v := .tuple #[.agg #[.int .i64 0, .int .i64 0, .int .i64 0], .int .i64 7]) ?_ rfl ⟨rfl, ST.out _ ?_⟩
      · simp [results, Tryz.results52, go_sem]
      · exact (Below.refl _ _).alloc (Nat.le_refl _) _
    · have hge : (ws.length : Int) ≤ wk := by omega
      go_wp2
      refine bodyPost_ret (v := .tuple #[.agg #[.int .i64 0, .int .i64 0, .int .i64 0], .int .i64 7]) ?_ rfl ⟨rfl, ST.out _ ?_⟩
      · simp [results, Tryz.results52, go_sem]
      · exact (Below.refl _ _).alloc (Nat.le_refl _) _
  · obtain ⟨v, rfl⟩ := Int.eq_ofNat_of_zero_le (show 0 ≤ wk by omega)
    have hv : v < ws.length := by omega
    have hon := wkk.on v hv
    have E4 : R.pickE s (v : Int) = 0 := by unfold R.pickE; rw [if_neg hw]
    rw [E4]
    have hvI : (v : Int) < (ws.length : Int) := by omega
    have XR := hid XA
    have MA := hid (m.below hbA)
    have HBA := hid hbA
    clear hbA XA
    by_cases hneg : R.on s.T (v : Int) < 0
    · have hwv : ws[v] = -1 := by have := (wkk.wb v hv).1; omega
      have E1 : R.pickT s (v : Int) = -1 := by unfold R.pickT; rw [if_neg hw, if_pos hneg]
      have E2 : R.pickA s (v : Int) = 0 := by unfold R.pickA; rw [if_neg hw, if_pos hneg]
      have E3 : R.pickC s (v : Int) = 0 := by unfold R.pickC; rw [if_neg hw, if_pos hneg]
      have E5 : R.pickS s (v : Int) = s := by unfold R.pickS; rw [if_neg hw, if_pos hneg]
      rw [E1, E2, E3]
      have ST := hid (STAY.out E5)
      clear E1 E2 E3 E5 STAY m a f hq wkk hon hneg
      generalize R.pickS s (v : Int) = sp at *
      go_enter Tryz.func52, Tryz.ntmps52
      go_upto_region 1 with fail
      generalize w.alloc (.cells #[.int .i64 0, .int .i64 0, .int .i64 0] 84) = wA at *
      have c5 := MA.out.blk.cell 5
      simp [kCells] at c5
      have y := MA.out.wcell hv
      rw [hwv] at y
      have x0 := XR.out.cell 0
      have x1 := XR.out.cell 1
      have x2 := XR.out.cell 2
      simp at x0 x1 x2
      have z0 := XR.out.frozen 0
      have z1 := XR.out.frozen 1
      have z2 := XR.out.frozen 2
      go_wp2
      refine bodyPost_ret (v := .tuple #[.agg #[.int .i64 (-1), .int .i64 0, .int .i64 0], .int .i64 0]) ?_ rfl ⟨rfl, ST.out _ ?_⟩
      · simp [results, Tryz.results52, go_sem, x0, x1, x2]
      · iterate 3 refine Below.setCell ?_ (by simp) _
        exact HBA.out
    · obtain ⟨t, hot, ht, hf0, hat, hen, hc32, o0, o7, ki, hri, hpk⟩ := step_ready k.inv h7 hnx hw hneg
      have hwv : ws[v] = (t : Int) := by omega
      have E1 : R.pickT s (v : Int) = (t : Int) := by unfold R.pickT; rw [if_neg hw, if_neg hneg, hot]
      have E2 : R.pickA s (v : Int) = s.T[t].at_ := by unfold R.pickA; rw [if_neg hw, if_neg hneg, hot, show Int.toNat (t : Int) = t by omega, th_ext ht]
      have E3 : R.pickC s (v : Int) = R.actC s t := by unfold R.pickC; rw [if_neg hw, if_neg hneg, hot, show Int.toNat (t : Int) = t by omega]
      rw [E1, E2, E3, hpk]
      obtain ⟨fa, awo⟩ := RInv.unsettle hri
      have keep := R.keepW_actS s t o7
      have WW := hid (WkW.of_keep wkk keep)
      have KG : Hid (∀ u, (R.th (R.actS s t).T u).got = (R.th s.T u).got) := keep.got
      have KL := hid keep.len
      have g0 := k.inv.good.now0
      have g1 := k.inv.good.now1
      have g2 := k.inv.good.now2
      have CS := hid (fun wx (hb : Below w.heap.size w wx) => kStep_any (m.below hb) f a t ht hf0 (by omega) g2 hat hen hc32 o0 o7 ki fa)
      have FA := hid fa
      have AWO := hid awo
      have HRI := hid hri
      have HQ := hid hq
      have hset := actS_set s t o7
      have HOLD : Hid (∀ b, KB F kb h b → b < w.heap.size) := KB.lt m
      have HSET := hid hset
      have htI : (t : Int) < (s.T.length : Int) := by omega
      have hfew := f.few
      clear E1 E2 E3 STAY m a f hq hneg fa awo hri keep hset hpk hot hon ki
      obtain ⟨at_, HAT⟩ : ∃ at_, Hid (s.T[t].at_ = at_) := ⟨_, hid rfl⟩
      rw [HAT.out]
      generalize hca : R.actC s t = ca at *
      generalize hsa : R.actS s t = sa at *
      clear hca hsa
      go_enter Tryz.func52, Tryz.ntmps52
      go_upto_region 1 with fail
      generalize w.alloc (.cells #[.int .i64 0, .int .i64 0, .int .i64 0] 84) = wA at *
      have c5 := MA.out.blk.cell 5
      have c1 := MA.out.blk.cell 1
      simp [kCells] at c5 c1
      have y := MA.out.wcell hv
      rw [hwv] at y
      have a5 := MA.out.tcell ht 5 (by decide)
      simp [ktCells] at a5
      rw [HAT.out] at a5
      have hszA := HBA.out.size
      have hxl := XR.out.lt
      have hkbl := MA.out.kT.lt
      have CSA := hid (CS.out wA HBA.out)
      clear CS
      go_wp2_with fail
      refine CSA.out.mono ?_
      rintro e w2 ⟨rfl, h2, tk2, wt2, m2, a2, o2, u2⟩
      have M2 := hid m2
      have A2 := hid a2
      have U2 := hid u2
      have O2 := hid o2
      have hszA2 := o2.size
      have hnot : w.heap.size ∉ (kb :: h.gT :: h.gM :: h.vWt.ownBlock.toList) := by
        intro hm
        simp at hm
        rcases hm with e | e | e | e
        · have := HOLD.out _ (.inr (.inl e)); omega
        · have := HOLD.out _ (.inr (.inr (.inl e))); omega
        · have := HOLD.out _ (.inr (.inr (.inr (.inl e)))); omega
        · have := HOLD.out _ (.inr (.inr (.inr (.inr (.inr (.inr (.inl e))))))); omega
      have XR2 := hid (XR.out.only o2 hnot)
      have GO := hid (kGiveOut_any m2 FA.out a2 AWO.out h8)
      have hgw2 : h2.gW = h.gW := u2.gW
      have hgw : h.gW < w.heap.size := HOLD.out _ (.inr (.inr (.inr (.inr (.inl rfl)))))
      clear m2 a2 u2 o2 CSA c5 c1 y a5
      go_wp2_with fail
      refine GO.out.mono ?_
      rintro e w3 ⟨rfl, m3, o3⟩
      have XR3 := hid (XR2.out.only o3 (by rw [hgw2]; simp; omega))
      have M3 := hid m3
      have O3 := hid o3
      have hsz3 := o3.size
      clear m3 o3 GO
      have x0 := XR3.out.cell 0
      have x1 := XR3.out.cell 1
      have x2 := XR3.out.cell 2
      simp at x0 x1 x2
      have z0 := XR3.out.frozen 0
      have z1 := XR3.out.frozen 1
      have z2 := XR3.out.frozen 2
      go_wp2
      refine bodyPost_ret (v := .tuple #[.agg #[.int .i64 (t : Int), .int .i64 at_, .int .i64 ca], .int .i64 0]) ?_ rfl ⟨rfl, ?_⟩
      · simp [results, Tryz.results52, go_sem, x0, x1, x2]
      · have hnk : ∀ b, KB F kb h2 b → b ≠ w.heap.size := fun b hb e => by
          rcases U2.out.blocks b hb with h' | h'
          · have := HOLD.out b h'; omega
          · have := XR.out.lt; omega
        generalize hw4 : ((w3.setCell ⟨w.heap.size, 0, none⟩ (.int .i64 (t : Int))).setCell ⟨w.heap.size, 1, none⟩ (.int .i64 at_)).setCell ⟨w.heap.size, 2, none⟩ (.int .i64 ca) = w4
        have same : ∀ b, b ≠ w.heap.size → w4.heap[b]? = w3.heap[b]? := fun b hb => by
          rw [← hw4]
          iterate 3 rw [Below.heap_setCell _ _ _ _ hb]
        have m4 : KMem F w4 kb h2 sa tk2 wt2 (Ln.seatAll sa tk2 ws) := M3.out.frame (fun b hb => same b (hnk b hb))
        have o4 : Only (kb :: h.gT :: h.gM :: h.gW :: h.vWt.ownBlock.toList) w w4 := by
          have h1 : Only (kb :: h.gT :: h.gM :: h.gW :: h.vWt.ownBlock.toList) w w3 := ((Only.of_below HBA.out).trans (O2.out.mono (fun b hb => by simp at hb ⊢; rcases hb with h | h | h | h <;> simp [h]))).trans (O3.out.mono (fun b hb => by rw [hgw2] at hb; simp at hb; simp [hb]))
          rw [← hw4]
          exact ((h1.setCell (.inr (Nat.le_refl _)) _).setCell (.inr (Nat.le_refl _)) _).setCell (.inr (Nat.le_refl _)) _
        refine ⟨KB F kb h2, ⟨⟨⟨_, ⟨⟨F, h2, tk2, wt2, m4.settle, A2.out.settle FA.out, fun _ hb => hb⟩, KB.lt m4⟩, ?_⟩, HRI.out, fun u hu => ?_⟩, ?_⟩, fun b hb => ?_, Turns.of_only o4 (fun b hb => ?_)⟩
        · have hs : sa.set.workers.toNat = s.set.workers.toNat := by rw [HSET.out]
          exact Ln.seatAll_settle A2.out.tk (by rw [hs]; exact WW.out)
        · have hu1 : u < sa.T.length := by rw [settle_len] at hu; exact hu
          obtain ⟨x, hx⟩ := settle_thr hu1
          rw [hx]
          show (R.th sa.T u).got = 0
          rw [KG.out u]
          exact k.got u (by rw [← KL.out]; exact hu1)
        · show setUpTo 7 sa.set = true
          rw [HSET.out]
          exact h7
        · rcases U2.out.blocks b hb with h' | h'
          · exact .inl (HQ.out b h')
          · exact .inr (by omega)
        · simp at hb
          rcases hb with e | e | e | e | e
          · exact HQ.out b (.inr (.inl e))
          · exact HQ.out b (.inr (.inr (.inl e)))
          · exact HQ.out b (.inr (.inr (.inr (.inl e))))
          · exact HQ.out b (.inr (.inr (.inr (.inr (.inl e)))))
          · exact HQ.out b (.inr (.inr (.inr (.inr (.inr (.inr (.inl e)))))))
end

end Go.Proofs.YthnjabnlocpoaaaGreat

/-
  A set that came in, opened: what the form's reader reads is plain data in memory.
-/
namespace Go.Proofs.YthnjabnlocpoaaaGreat
open Go.ChangeShapes Go.WideShapes Go.ChangeAt Go.RowKit Go.Deep

section
variable {H : Type} {enc : TypeId × Value → H} {w : World} {held : Bool}

/-- Every weight of a datum is within the form's reach. -/
def Light (d : DataW H) (t : TypeId) : Prop := ∀ n ∈ d.weights Tryz.prog t, n ≤ reachBytes

/-- A list, opened: its elements by R. -/
theorem open_list {α : Type} (d0 : α) {t e : TypeId} {size bytes : Nat} (ht : Tryz.prog.underlying t = some (.slice e)) (hc : Tryz.prog.cellsOf e = size) (hby : Tryz.prog.bytesOf e = bytes) (hpos : 0 < size)
    {R : α → List Value → DataW H → Prop} (hR : ∀ n cs x, DataW.trod enc Tryz.prog w 0 (fun _ => true) held n e cs = some x → ∃ a, R a cs x.1)
    {fuel : Nat} {cs : List Value} {x : DataW H × List MemPlace} (h : DataW.trod enc Tryz.prog w 0 (fun _ => true) held fuel t cs = some x) :
    ∃ (ao : Option Addr) (cap : Nat) (l : List α), cs = [.slice ao l.length cap] ∧ (ao = none → cap = 0) ∧
      (∀ i (hi : i < l.length), ∃ b o cs' d, ao = some ⟨b, o, none⟩ ∧ b < w.heap.size ∧ cs'.length = size ∧ (∀ j, j < size → w.cell? ⟨b, o + i * size + j, none⟩ = cs'[j]?) ∧ R l[i] cs' d ∧ (Light x.1 t → Light d e)) ∧
      (Light x.1 t → l.length * bytes ≤ reachBytes) := by
  subst hc; subst hby
  rcases open_slice ht h with ⟨rfl, rfl⟩ | ⟨a, len, cap, m, n, D, Pl, rfl, _, hl, _, hm, rfl, hel⟩
  · exact ⟨none, 0, [], rfl, fun _ => rfl, fun i hi => absurd hi (Nat.not_lt_zero _), fun _ => by simp⟩
  · simp only [if_true] at hm
    subst hm
    have hA : ∀ i, i < len → ∃ y : α, ∀ cs', DataW.trod enc Tryz.prog w 0 (fun _ => true) held n e cs' = some (D i, Pl i) → w.cells? 0 (a.add (i * Tryz.prog.cellsOf e)) (Tryz.prog.cellsOf e) = some cs' → R y cs' (D i) := by
      intro i hi
      obtain ⟨cs', h1, h2⟩ := hel i (by omega)
      obtain ⟨y, hy⟩ := hR n cs' _ h2
      refine ⟨y, fun cs'' _ h4 => ?_⟩
      rw [h1] at h4
      cases h4
      exact hy
    haveI : Inhabited α := ⟨d0⟩
    obtain ⟨A, hA⟩ := choose_lt hA
    refine ⟨some a, m, (List.range len).map A, by simp, fun hh => (by cases hh), fun i hi => ?_, fun hw => ?_⟩
    · have hi' : i < len := by simpa using hi
      obtain ⟨cs', h1, h2⟩ := hel i (by omega)
      obtain ⟨_, hlen, hcell⟩ := World.cells?_some h1
      have h0 := hcell 0 hpos
      rw [add_add, Nat.add_zero, List.getElem?_eq_getElem (by omega)] at h0
      have hspot : (a.add (i * Tryz.prog.cellsOf e)).spot = none := World.cell?_spot h0
      have hlt := World.block_lt_of_cell? _ _ h0
      obtain ⟨b, o, spot⟩ := a
      have hsp : spot = none := by
        by_cases hz : i * Tryz.prog.cellsOf e = 0
        · rw [hz, Addr.add_zero'] at h0
          exact World.cell?_spot h0
        · -- the first element tells it
          obtain ⟨cs0, g1, _⟩ := hel 0 (by omega)
          obtain ⟨_, gl, gc⟩ := World.cells?_some g1
          have g0 := gc 0 hpos
          rw [Nat.zero_mul, Addr.add_zero', Addr.add_zero', List.getElem?_eq_getElem (by omega)] at g0
          exact World.cell?_spot g0
      subst hsp
      refine ⟨b, o, cs', D i, rfl, by simpa [Addr.add_lit] using hlt, hlen, fun j hj => ?_, ?_, fun hw => ?_⟩
      · have := hcell j hj
        rw [Addr.add_lit, Addr.add_lit] at this
        exact this
      · have := hA i hi' cs' h2 h1
        simpa using this
      · intro q hq
        refine hw q ?_
        simp only [DataW.weights, ht]
        refine List.mem_cons_of_mem _ (List.mem_append_left _ ?_)
        have mem_all : ∀ (L : List (DataW H)) (d : DataW H), d ∈ L → ∀ q ∈ d.weights Tryz.prog e, q ∈ DataW.weightsAll Tryz.prog e L := by
          intro L
          induction L with
          | nil => intro d hd; cases hd
          | cons d0 L ih =>
            intro d hd q hq
            simp only [DataW.weightsAll, List.mem_append]
            rcases List.mem_cons.1 hd with rfl | hd
            · exact Or.inl hq
            · exact Or.inr (ih d hd q hq)
        exact mem_all _ (D i) (List.mem_map.2 ⟨i, List.mem_range.2 hi', rfl⟩) q hq
    · have := hw ((((List.range len).map D).length + ((List.range (m - len)).map fun j => D (len + j)).length) * Tryz.prog.bytesOf e) (by simp [DataW.weights, ht])
      simp only [List.length_map, List.length_range] at this ⊢
      exact Nat.le_trans (Nat.mul_le_mul_right _ (Nat.le_add_right _ _)) this

theorem c3 : Tryz.prog.cellsOf 3 = 1 := by kernel_rfl
theorem cMutex : Tryz.prog.cellsOf 90 = 2 := by kernel_rfl
theorem cSem : Tryz.prog.cellsOf 75 = 2 := by kernel_rfl
theorem cInstr : Tryz.prog.cellsOf 41 = 3 := by kernel_rfl
theorem cThread : Tryz.prog.cellsOf 39 = 5 := by kernel_rfl
theorem cCode : Tryz.prog.cellsOf 37 = 1 := by kernel_rfl
theorem cSet : Tryz.prog.cellsOf 27 = 6 := by kernel_rfl
theorem cThreads : Tryz.prog.cellsOf 22 = 1 := by kernel_rfl
theorem cMutexes : Tryz.prog.cellsOf 23 = 1 := by kernel_rfl
theorem cSems : Tryz.prog.cellsOf 24 = 1 := by kernel_rfl
theorem cInts : Tryz.prog.cellsOf 25 = 1 := by kernel_rfl
theorem b3 : Tryz.prog.bytesOf 3 = 8 := by kernel_rfl
theorem bMutex : Tryz.prog.bytesOf 90 = 16 := by kernel_rfl
theorem bSem : Tryz.prog.bytesOf 75 = 16 := by kernel_rfl
theorem bInstr : Tryz.prog.bytesOf 41 = 24 := by kernel_rfl
theorem bThread : Tryz.prog.bytesOf 39 = 56 := by kernel_rfl

theorem list2 {l : List Value} (h : l.length = 2) : ∃ a b, l = [a, b] := by
  match l, h with
  | [a, b], _ => exact ⟨a, b, rfl⟩
theorem list3 {l : List Value} (h : l.length = 3) : ∃ a b c, l = [a, b, c] := by
  match l, h with
  | [a, b, c], _ => exact ⟨a, b, c, rfl⟩
theorem list5 {α : Type} {l : List α} (h : l.length = 5) : ∃ a b c d e, l = [a, b, c, d, e] := by
  match l, h with
  | [a, b, c, d, e], _ => exact ⟨a, b, c, d, e, rfl⟩
theorem list6 {α : Type} {l : List α} (h : l.length = 6) : ∃ a b c d e f, l = [a, b, c, d, e, f] := by
  match l, h with
  | [a, b, c, d, e, f], _ => exact ⟨a, b, c, d, e, f, rfl⟩

theorem open_mutex {n : Nat} {cs : List Value} {x : DataW H × List MemPlace} (h : DataW.trod enc Tryz.prog w 0 (fun _ => true) held n 90 cs = some x) : ∃ a : PairD, cs = [.int .i64 a.x, .int .i64 a.y] := by
  obtain ⟨y0, y1, m, _, hl, h0, h1⟩ := trod_struct2 Tryz.underlying90 h
  rw [cMutex] at hl
  obtain ⟨a, b, rfl⟩ := list2 hl
  simp only [c3] at h0 h1
  obtain ⟨p, hp, _⟩ := DataW.trod_int Tryz.underlying3 h0
  obtain ⟨q, hq, _⟩ := DataW.trod_int Tryz.underlying3 h1
  simp at hp hq
  exact ⟨⟨p, q⟩, by simp [hp, hq]⟩
theorem open_sem {n : Nat} {cs : List Value} {x : DataW H × List MemPlace} (h : DataW.trod enc Tryz.prog w 0 (fun _ => true) held n 75 cs = some x) : ∃ a : PairD, cs = [.int .i64 a.x, .int .i64 a.y] := by
  obtain ⟨y0, y1, m, _, hl, h0, h1⟩ := trod_struct2 Tryz.underlying75 h
  rw [cSem] at hl
  obtain ⟨a, b, rfl⟩ := list2 hl
  simp only [c3] at h0 h1
  obtain ⟨p, hp, _⟩ := DataW.trod_int Tryz.underlying3 h0
  obtain ⟨q, hq, _⟩ := DataW.trod_int Tryz.underlying3 h1
  simp at hp hq
  exact ⟨⟨p, q⟩, by simp [hp, hq]⟩
theorem open_instr {n : Nat} {cs : List Value} {x : DataW H × List MemPlace} (h : DataW.trod enc Tryz.prog w 0 (fun _ => true) held n 41 cs = some x) : ∃ a : InstrD, cs = [.int .i64 a.op, .int .i64 a.a, .int .i64 a.b] := by
  obtain ⟨y0, y1, y2, m, _, hl, h0, h1, h2⟩ := trod_struct3 Tryz.underlying41 h
  rw [cInstr] at hl
  obtain ⟨a, b, c, rfl⟩ := list3 hl
  simp only [c3] at h0 h1 h2
  obtain ⟨p, hp, _⟩ := DataW.trod_int Tryz.underlying3 h0
  obtain ⟨q, hq, _⟩ := DataW.trod_int Tryz.underlying3 h1
  obtain ⟨r, hr, _⟩ := DataW.trod_int Tryz.underlying3 h2
  simp at hp hq hr
  exact ⟨⟨p, q, r⟩, by simp [hp, hq, hr]⟩

theorem open_code {n : Nat} {cs : List Value} {x : DataW H × List MemPlace} (h : DataW.trod enc Tryz.prog w 0 (fun _ => true) held n 37 cs = some x) :
    ∃ (ao : Option Addr) (cap : Nat) (l : List InstrD), cs = [.slice ao l.length cap] ∧ (ao = none → cap = 0) ∧ InstrsIn w.heap.size w ao l ∧ (Light x.1 37 → l.length * 24 ≤ reachBytes) := by
  obtain ⟨ao, cap, l, h1, h2, h3, h4⟩ := open_list (α := InstrD) ⟨0, 0, 0⟩ (R := fun a cs _ => cs = [.int .i64 a.op, .int .i64 a.a, .int .i64 a.b]) Tryz.underlying37 cInstr bInstr (by decide) (fun _ _ _ hh => open_instr hh) h
  refine ⟨ao, cap, l, h1, h2, fun i hi => ?_, h4⟩
  obtain ⟨b, o, cs', d, ha, hb, hl, hc, rfl, _⟩ := h3 i hi
  exact ⟨b, o, ha, hb, by simpa using hc 0 (by decide), by simpa using hc 1 (by decide), by simpa using hc 2 (by decide)⟩

theorem open_pairsM {n : Nat} {cs : List Value} {x : DataW H × List MemPlace} (h : DataW.trod enc Tryz.prog w 0 (fun _ => true) held n 23 cs = some x) :
    ∃ (ao : Option Addr) (cap : Nat) (l : List PairD), cs = [.slice ao l.length cap] ∧ (ao = none → cap = 0) ∧ PairsIn w.heap.size w ao l ∧ (Light x.1 23 → l.length * 16 ≤ reachBytes) := by
  obtain ⟨ao, cap, l, h1, h2, h3, h4⟩ := open_list (α := PairD) ⟨0, 0⟩ (R := fun a cs _ => cs = [.int .i64 a.x, .int .i64 a.y]) Tryz.underlying23 cMutex bMutex (by decide) (fun _ _ _ hh => open_mutex hh) h
  refine ⟨ao, cap, l, h1, h2, fun i hi => ?_, h4⟩
  obtain ⟨b, o, cs', d, ha, hb, hl, hc, rfl, _⟩ := h3 i hi
  exact ⟨b, o, ha, hb, by simpa using hc 0 (by decide), by simpa using hc 1 (by decide)⟩
theorem open_pairsS {n : Nat} {cs : List Value} {x : DataW H × List MemPlace} (h : DataW.trod enc Tryz.prog w 0 (fun _ => true) held n 24 cs = some x) :
    ∃ (ao : Option Addr) (cap : Nat) (l : List PairD), cs = [.slice ao l.length cap] ∧ (ao = none → cap = 0) ∧ PairsIn w.heap.size w ao l ∧ (Light x.1 24 → l.length * 16 ≤ reachBytes) := by
  obtain ⟨ao, cap, l, h1, h2, h3, h4⟩ := open_list (α := PairD) ⟨0, 0⟩ (R := fun a cs _ => cs = [.int .i64 a.x, .int .i64 a.y]) Tryz.underlying24 cSem bSem (by decide) (fun _ _ _ hh => open_sem hh) h
  refine ⟨ao, cap, l, h1, h2, fun i hi => ?_, h4⟩
  obtain ⟨b, o, cs', d, ha, hb, hl, hc, rfl, _⟩ := h3 i hi
  exact ⟨b, o, ha, hb, by simpa using hc 0 (by decide), by simpa using hc 1 (by decide)⟩
theorem open_numbers {n : Nat} {cs : List Value} {x : DataW H × List MemPlace} (h : DataW.trod enc Tryz.prog w 0 (fun _ => true) held n 25 cs = some x) :
    ∃ (ao : Option Addr) (cap : Nat) (l : List Int), cs = [.slice ao l.length cap] ∧ (ao = none → cap = 0) ∧ IntsIn w.heap.size w ao l ∧ (Light x.1 25 → l.length * 8 ≤ reachBytes) := by
  obtain ⟨ao, cap, l, h1, h2, h3, h4⟩ := open_list (α := Int) 0 (R := fun a cs _ => cs = [.int .i64 a]) Tryz.underlying25 c3 b3 (by decide) (fun _ _ _ hh => by obtain ⟨z, hz, _⟩ := DataW.trod_int Tryz.underlying3 hh; exact ⟨z, hz⟩) h
  refine ⟨ao, cap, l, h1, h2, fun i hi => ?_, h4⟩
  obtain ⟨b, o, cs', d, ha, hb, hl, hc, rfl, _⟩ := h3 i hi
  exact ⟨b, o, ha, hb, by simpa using hc 0 (by decide)⟩

theorem trod_struct5 {t : TypeId} {f0 f1 f2 f3 f4 : Field} {fuel : Nat} {cs : List Value} {x : DataW H × List MemPlace} (ht : Tryz.prog.underlying t = some (.struct #[f0, f1, f2, f3, f4])) (h : DataW.trod enc Tryz.prog w 0 (fun _ => true) held fuel t cs = some x) :
    ∃ y0 y1 y2 y3 y4 n, x.1 = .agg [y0.1, y1.1, y2.1, y3.1, y4.1] ∧ cs.length = Tryz.prog.cellsOf t ∧ DataW.trod enc Tryz.prog w 0 (fun _ => true) held n f0.type ((cs.drop f0.offset).take (Tryz.prog.cellsOf f0.type)) = some y0 ∧
      DataW.trod enc Tryz.prog w 0 (fun _ => true) held n f1.type ((cs.drop f1.offset).take (Tryz.prog.cellsOf f1.type)) = some y1 ∧ DataW.trod enc Tryz.prog w 0 (fun _ => true) held n f2.type ((cs.drop f2.offset).take (Tryz.prog.cellsOf f2.type)) = some y2 ∧
      DataW.trod enc Tryz.prog w 0 (fun _ => true) held n f3.type ((cs.drop f3.offset).take (Tryz.prog.cellsOf f3.type)) = some y3 ∧ DataW.trod enc Tryz.prog w 0 (fun _ => true) held n f4.type ((cs.drop f4.offset).take (Tryz.prog.cellsOf f4.type)) = some y4 := by
  obtain ⟨xs, n, _, rfl, hl, hlen, hf⟩ := DataW.trod_struct ht h
  obtain ⟨y0, y1, y2, y3, y4, rfl⟩ := list5 (hlen.trans rfl)
  exact ⟨y0, y1, y2, y3, y4, n, by simp, hl, by simpa using hf 0 f0 rfl, by simpa using hf 1 f1 rfl, by simpa using hf 2 f2 rfl, by simpa using hf 3 f3 rfl, by simpa using hf 4 f4 rfl⟩
theorem trod_struct6 {t : TypeId} {f0 f1 f2 f3 f4 f5 : Field} {fuel : Nat} {cs : List Value} {x : DataW H × List MemPlace} (ht : Tryz.prog.underlying t = some (.struct #[f0, f1, f2, f3, f4, f5])) (h : DataW.trod enc Tryz.prog w 0 (fun _ => true) held fuel t cs = some x) :
    ∃ y0 y1 y2 y3 y4 y5 n, x.1 = .agg [y0.1, y1.1, y2.1, y3.1, y4.1, y5.1] ∧ cs.length = Tryz.prog.cellsOf t ∧ DataW.trod enc Tryz.prog w 0 (fun _ => true) held n f0.type ((cs.drop f0.offset).take (Tryz.prog.cellsOf f0.type)) = some y0 ∧
      DataW.trod enc Tryz.prog w 0 (fun _ => true) held n f1.type ((cs.drop f1.offset).take (Tryz.prog.cellsOf f1.type)) = some y1 ∧ DataW.trod enc Tryz.prog w 0 (fun _ => true) held n f2.type ((cs.drop f2.offset).take (Tryz.prog.cellsOf f2.type)) = some y2 ∧
      DataW.trod enc Tryz.prog w 0 (fun _ => true) held n f3.type ((cs.drop f3.offset).take (Tryz.prog.cellsOf f3.type)) = some y3 ∧ DataW.trod enc Tryz.prog w 0 (fun _ => true) held n f4.type ((cs.drop f4.offset).take (Tryz.prog.cellsOf f4.type)) = some y4 ∧
      DataW.trod enc Tryz.prog w 0 (fun _ => true) held n f5.type ((cs.drop f5.offset).take (Tryz.prog.cellsOf f5.type)) = some y5 := by
  obtain ⟨xs, n, _, rfl, hl, hlen, hf⟩ := DataW.trod_struct ht h
  obtain ⟨y0, y1, y2, y3, y4, y5, rfl⟩ := list6 (hlen.trans rfl)
  exact ⟨y0, y1, y2, y3, y4, y5, n, by simp, hl, by simpa using hf 0 f0 rfl, by simpa using hf 1 f1 rfl, by simpa using hf 2 f2 rfl, by simpa using hf 3 f3 rfl, by simpa using hf 4 f4 rfl, by simpa using hf 5 f5 rfl⟩

theorem open_thread {n : Nat} {cs : List Value} {x : DataW H × List MemPlace} (h : DataW.trod enc Tryz.prog w 0 (fun _ => true) held n 39 cs = some x) :
    ∃ a : ThreadD, ∃ cv cc, cs = [.int .i64 a.base, .int .i64 a.offset, .int .i64 a.period, .int .i64 a.deadline, .slice cv a.code.length cc] ∧ (cv = none → cc = 0) ∧ InstrsIn w.heap.size w cv a.code ∧ (Light x.1 39 → a.code.length * 24 ≤ reachBytes) := by
  obtain ⟨y0, y1, y2, y3, y4, m, hx, hl, h0, h1, h2, h3, h4⟩ := trod_struct5 Tryz.underlying39 h
  rw [cThread] at hl
  obtain ⟨a, b, c, d, e, rfl⟩ := list5 hl
  simp only [c3, cCode] at h0 h1 h2 h3 h4
  obtain ⟨p0, e0, _⟩ := DataW.trod_int Tryz.underlying3 h0
  obtain ⟨p1, e1, _⟩ := DataW.trod_int Tryz.underlying3 h1
  obtain ⟨p2, e2, _⟩ := DataW.trod_int Tryz.underlying3 h2
  obtain ⟨p3, e3, _⟩ := DataW.trod_int Tryz.underlying3 h3
  obtain ⟨cv, cc, l, e4, hn, hin, hw⟩ := open_code h4
  simp at e0 e1 e2 e3 e4
  refine ⟨⟨p0, p1, p2, p3, l⟩, cv, cc, by simp [e0, e1, e2, e3, e4], hn, hin, fun hlight => hw ?_⟩
  intro q hq
  refine hlight q ?_
  rw [hx]
  simp only [DataW.weights, Tryz.underlying39]
  exact DataW.weights_mem_each (j := 4) rfl rfl q hq

theorem open_threads {n : Nat} {cs : List Value} {x : DataW H × List MemPlace} (h : DataW.trod enc Tryz.prog w 0 (fun _ => true) held n 22 cs = some x) :
    ∃ (ao : Option Addr) (cap : Nat) (l : List ThreadD), cs = [.slice ao l.length cap] ∧ (ao = none → cap = 0) ∧ ThreadsIn w.heap.size w ao l ∧ (Light x.1 22 → l.length * 56 ≤ reachBytes ∧ ∀ j (hj : j < l.length), l[j].code.length * 24 ≤ reachBytes) := by
  obtain ⟨ao, cap, l, h1, h2, h3, h4⟩ := open_list (α := ThreadD) P3.none0 (R := fun a cs d => ∃ cv cc, cs = [.int .i64 a.base, .int .i64 a.offset, .int .i64 a.period, .int .i64 a.deadline, .slice cv a.code.length cc] ∧ (cv = none → cc = 0) ∧ InstrsIn w.heap.size w cv a.code ∧ (Light d 39 → a.code.length * 24 ≤ reachBytes)) Tryz.underlying22 cThread bThread (by decide) (fun _ _ _ hh => open_thread hh) h
  refine ⟨ao, cap, l, h1, h2, fun i hi => ?_, fun hw => ⟨h4 hw, fun j hj => ?_⟩⟩
  · obtain ⟨b, o, cs', d, ha, hb, hl, hc, ⟨cv, cc, rfl, hn, hin, _⟩, _⟩ := h3 i hi
    exact ⟨b, o, cv, cc, ha, hb, by simpa using hc 0 (by decide), by simpa using hc 1 (by decide), by simpa using hc 2 (by decide), by simpa using hc 3 (by decide), by simpa using hc 4 (by decide), hin, hn⟩
  · obtain ⟨b, o, cs', d, ha, hb, hl, hc, ⟨cv, cc, rfl, hn, hin, hlight⟩, hd⟩ := h3 j hj
    exact hlight (hd hw)

set_option maxRecDepth 100000 in
/-- A SET THAT CAME IN. -/
theorem open_set {r : Reach} {b0 : Nat} {v : Value} {d : DataW H} {p : List MemPlace} (hv : Value.okWide Tryz.prog w r b0 27 v) (h : DataW.Trod enc Tryz.prog w 0 (fun _ => true) held 27 v d p) (hw : Light d 27) :
    ∃ (S : SetD) (tv mv sv qv : Option Addr) (tc mc sc qc : Nat), v = .agg #[.int .i64 S.workers, .int .i64 S.start, .slice tv S.threads.length tc, .slice mv S.mutexes.length mc, .slice sv S.sems.length sc, .slice qv S.queues.length qc] ∧
      SetIn w.heap.size w tv mv sv qv S ∧ Fits S ∧ (tv = none → tc = 0) ∧ (mv = none → mc = 0) ∧ (sv = none → sc = 0) ∧ (qv = none → qc = 0) := by
  obtain ⟨cs, rfl, hsz⟩ := okWide_struct Tryz.underlying27 hv
  obtain ⟨fuel, hf⟩ := h
  obtain ⟨y0, y1, y2, y3, y4, y5, m, hx, hl, h0, h1, h2, h3, h4, h5⟩ := trod_struct6 Tryz.underlying27 hf
  simp only at hx
  rw [cSet] at hl
  obtain ⟨a, b, c, dd, e, f, hcs⟩ := list6 hl
  have hcs' : cs = #[a, b, c, dd, e, f] := by
    have : cs.toList = [a, b, c, dd, e, f] := by simpa [Value.cells] using hcs
    exact Array.ext' (by simpa using this)
  subst hcs'
  simp only [Value.cells, c3, cThreads, cMutexes, cSems, cInts] at h0 h1 h2 h3 h4 h5
  simp at h0 h1 h2 h3 h4 h5
  obtain ⟨p0, e0, _⟩ := DataW.trod_int Tryz.underlying3 h0
  obtain ⟨p1, e1, _⟩ := DataW.trod_int Tryz.underlying3 h1
  obtain ⟨tv, tc, ts, e2, n2, i2, w2⟩ := open_threads h2
  obtain ⟨mv, mc, ms, e3, n3, i3, w3⟩ := open_pairsM h3
  obtain ⟨sv, sc, ss, e4, n4, i4, w4⟩ := open_pairsS h4
  obtain ⟨qv, qc, qs, e5, n5, i5, w5⟩ := open_numbers h5
  simp at e0 e1 e2 e3 e4 e5
  subst e0 e1 e2 e3 e4 e5
  have part : ∀ (j : Nat) (t : TypeId) (y : DataW H), [(3 : TypeId), 3, 22, 23, 24, 25][j]? = some t → [y0.1, y1.1, y2.1, y3.1, y4.1, y5.1][j]? = some y → Light y t := by
    intro j t y hj hy q hq
    refine hw q ?_
    rw [hx]
    simp only [DataW.weights, Tryz.underlying27]
    exact DataW.weights_mem_each hj hy q hq
  have l2 := w2 (part 2 _ _ rfl rfl)
  have l3 := w3 (part 3 _ _ rfl rfl)
  have l4 := w4 (part 4 _ _ rfl rfl)
  have l5 := w5 (part 5 _ _ rfl rfl)
  exact ⟨⟨p0, p1, ts, ms, ss, qs⟩, tv, mv, sv, qv, tc, mc, sc, qc, rfl, ⟨i2, i3, i4, i5⟩, ⟨l2.1, l3, l4, l5, l2.2⟩, n2, n3, n4, n5⟩

end
end Go.Proofs.YthnjabnlocpoaaaGreat

/-
  The statement News, from what the program promises.
-/
namespace Go.Proofs.YthnjabnlocpoaaaGreat
open Go.ChangeShapes Go.WideShapes Go.ChangeAt Go.RowKit Go.Deep

theorem Tryz.own : ownKnob Tryz.prog.godebug = none := by kernel_rfl
theorem Tryz.laidOut : laidOutB Tryz.prog = true := by kernel_rfl

set_option maxHeartbeats 400000 in
theorem lNews_any {PK : KP} (f : KFrame PK) (cn : CNew PK (fun _ => True)) (ct : CSee PK 14) (tv mv sv qv : Option Addr) (tc mc sc qc : Nat) (S : SetD) (w : World) (hS : SetIn w.heap.size w tv mv sv qv S) (hF : Fits S) (hnil : (tv = none → tc = 0) ∧ (mv = none → mc = 0) ∧ (sv = none → sc = 0) ∧ (qv = none → qc = 0)) :
    Calls Tryz.prog 3 #[.agg #[.int .i64 S.workers, .int .i64 S.start, .slice tv S.threads.length tc, .slice mv S.mutexes.length mc, .slice sv S.sems.length sc, .slice qv S.queues.length qc]] w fun e w' =>
      e = .returned (.bool true) ∧ Below w.heap.size w w' := by
  have HS := hid hS
  have HF := hid hF
  have HN := hid hnil
  clear hS hF hnil
  go_enter Tryz.func3, Tryz.ntmps3
  go_wp2_with fail
  have hb0 : Below w.heap.size w (w.alloc (.cells #[.int .i64 S.workers, .int .i64 S.start, .slice tv S.threads.length tc, .slice mv S.mutexes.length mc, .slice sv S.sems.length sc, .slice qv S.queues.length qc] 27)) := (Below.refl _ _).alloc (Nat.le_refl _) _
  generalize w.alloc (.cells #[.int .i64 S.workers, .int .i64 S.start, .slice tv S.threads.length tc, .slice mv S.mutexes.length mc, .slice sv S.sems.length sc, .slice qv S.queues.length qc] 27) = w0 at hb0 ⊢
  refine (lPlay_any f cn 14 ct tv mv sv qv none tc mc sc qc 0 S [] w0 (HS.out.later hb0) HF.out HN.out trivial (fun i hi => absurd hi (by simp)) (by simp) (by unfold Holds; omega) true (fun h => absurd rfl h) (fun _ h => absurd rfl h)).mono ?_
  rintro e w1 ⟨rfl, hb1⟩
  have hb2 := via hb0 hb0.size hb1
  go_wp2
  go_ret
  exact ⟨rfl, hb2⟩

set_option maxRecDepth 100000 in
theorem news_lifted {PK : KP} (f : KFrame PK) (cn : CNew PK (fun _ => True)) (ct : CSee PK 14) (os : Os) (started : os.Started) (H : Type) (enc : TypeId × Value → H) :
    ReturnsInHanded {} Tryz.checked os 3 .any (Rows.newsSpec.pre6 enc Tryz.prog Tryz.f3 Rows.newsRow.domain false) (Rows.newsSpec.post enc Tryz.prog Tryz.f3 false true false false) := by
  refine returnsInHanded_of_change_sized (C := Tryz.checked) Tryz.own started (by kernel_rfl) Tryz.func3
    (ChangeSpec.witness6 (enc := enc) (C := Tryz.checked) false ⟨#[], #[.agg #[.int .i64 0, .int .i64 0, .slice none 0 0, .slice none 0 0, .slice none 0 0, .slice none 0 0]], []⟩ 8 (by kernel_rfl) (by kernel_rfl) (by kernel_rfl) (by kernel_rfl)) ?_
  intro W base args ds gs before hval0 hW _ hsz0 _
  have hval : ∀ (j : Nat) t v, Tryz.f3.params[j]? = some t → args[j]? = some v → Value.okWide Tryz.prog W .any base t v := hval0
  have hsz : (DataW.weightsEach Tryz.prog (Tryz.f3.params.toList ++ Rows.newsSpec.plain.varTypes Tryz.prog) (ds ++ gs)).all (· ≤ reachBytes) = true := hsz0
  have hW' := hW
  obtain ⟨p, q, hA0, hV, rfl, hfz, hnd⟩ := hW
  have hA : DataW.TrodAll enc Tryz.prog W 0 (fun _ => true) true Tryz.f3.params.toList args.toList ds p := hA0
  rw [Tryz.params3] at hA hval hsz
  obtain ⟨v0, d0, rfl, rfl, h0⟩ := trodAll_one hA
  obtain ⟨rfl, rfl⟩ := trodVars_none hV
  clear hA0 hval0 hsz0
  have hlight : Light d0 27 := by
    intro n hn
    have := List.all_eq_true.1 hsz n (DataW.weights_mem_each (j := 0) rfl rfl n hn)
    simpa using this
  obtain ⟨S, tv, mv, sv, qv, tc, mc, sc, qc, hv, hin, hfit, hnil⟩ := open_set (hval 0 27 v0 rfl rfl) h0 hlight
  subst hv
  simp only [List.append_nil] at hW'
  refine (lNews_any f cn ct tv mv sv qv tc mc sc qc S W hin hfit hnil).mono fun e W' ⟨he, hb⟩ => ?_
  subst he
  refine ⟨_, rfl, _, _, _, [], p, [], hW', ?_, ?_, rfl, hb.frame _, fun h => by cases h⟩
  · exact trodAll_mk1 (shut_bool Tryz.underlying4 _)
  · exact trodAll_mk1 (Below.trod Tryz.laidOut (by kernel_rfl) (of_decide_eq_true (by kernel_rfl)) h0 hb (fun x hx => by simpa using hW'.lt x hx))

theorem news_of {PK : KP} (f : KFrame PK) (cn : CNew PK (fun _ => True)) (ct : CSee PK 14) : Rows.NewsSaid :=
  OpenClaim.holds_of_wide 3 Tryz.f3 rfl rfl rfl rfl rfl rfl rfl ⟨rfl, rfl, rfl, rfl, rfl⟩ rfl rfl rfl rfl rfl (by kernel_rfl) Tryz.func3 (by kernel_rfl)
    (of_decide_eq_true (by kernel_rfl)) (by unfold Func.isWrapper; first | (rw [if_pos (by decide +kernel)]; kernel_rfl) | (rw [if_neg (by decide +kernel)]; exact ⟨rfl, rfl⟩))
    (fun os started H enc _ => news_lifted f cn ct os started H enc)

end Go.Proofs.YthnjabnlocpoaaaGreat
