import Derived.Test.YtbkfildnijjioabA07
import Derived.Test.YtbkfildnijjioabA02
import Derived.Laws.CopyRow
import Derived.Deep.QuietTactic
import Derived.BigQuiet
import Derived.Deep.DeepCutAuto
import Derived.Test.YtbkfildnijjioabA01
/-
  Walks over package donate: mutexes.
-/
namespace Go.Proofs.Ytbkfildnijjioab
open Go.RowKit

namespace Ln
/-- How long the way from o is. -/
def depthTo (s : RS) : Nat → Int → Nat
  | 0, _ => 0
  | f + 1, o => if o < 0 then 0 else depthTo s f (R.ahd s o.toNat) + 1
theorem EndsIn.depth {s : RS} {k : Nat} {o : Int} (h : EndsIn s k o) : ∀ f, k ≤ f → depthTo s f o = k := by
  induction h with
  | stop o h =>
    intro f _
    cases f with
    | zero => rfl
    | succ f => unfold depthTo; rw [if_pos h]
  | step k o h0 r ih =>
    intro f hf
    cases f with
    | zero => omega
    | succ f => unfold depthTo; rw [if_neg (by omega), ih f (by omega)]
end Ln

section
variable {F : Nat → Prop} {w w' : World} {kb : Nat} {h : KH} {s : RS} {tk wt : List Nat} {ws : List Int}

set_option maxHeartbeats 1000000 in
theorem kLeadsTo_any (m : KMem F w kb h s tk wt ws) (f : KFit s) (t : Nat) (o : Int) (k : Nat) (hk : Ln.EndsIn s k o) (ho0 : -1 ≤ o) (ho1 : o < s.T.length) :
    Calls Try.prog 124 #[.pointer (some ⟨kb, 0, none⟩), .int .i64 o, .int .i64 t] w fun e w' => e = .returned (.bool (R.roundTo s t (k + 1) o)) ∧ ∃ n, w' = w.drewN n := by
  have hkn := hk.le f.ok ho1
  have M := hid m
  have FT := hid f
  have HK := hid hk
  clear m f hk
  generalize hres : R.roundTo s t (k + 1) o = res at *
  have HRES := hid hres
  clear hres
  go_enter Try.func124, Try.ntmps124
  go_wp2
  go_loopw [7] (fun i wr => ∃ (o : Int) (k : Nat), i = .int .i64 o ∧ k ≤ s.T.length ∧ Ln.EndsIn s k o ∧ R.roundTo s t (k + 1) o = res ∧ -1 ≤ o ∧ o < s.T.length ∧ ∃ n, wr = w.drewN n) (fun i _ => Ln.depthTo s s.T.length (intOf i))
  case atStart => exact ⟨o, k, rfl, hkn, HK.out, HRES.out, ho0, ho1, 0, rfl⟩
  case round =>
    obtain ⟨o2, k2, rfl, hk2, he2, hr2, hb0, hb1, n, rfl⟩ := hrel
    have HE := hid he2
    have HR := hid hr2
    have HD := hid (he2.depth s.T.length hk2)
    clear he2 hr2
    by_cases hneg : o2 = -1
    · subst hneg
      have hfin : Hid (((-1 : Int) == (t : Int)) = res) := by
        rw [← HR.out, Ln.roundTo_stop s t _ _ (.inl (by decide))]
        exact hid rfl
      go_wp2
      go_ret
      refine ⟨?_, n, rfl⟩
      rw [← hfin.out]
      rfl
    · obtain ⟨u, rfl⟩ := Int.eq_ofNat_of_zero_le (show 0 ≤ o2 by omega)
      have hul : u < s.T.length := by omega
      have hnn : ((u : Int) != -1) = true := by simp
      by_cases hut : (u : Int) = (t : Int)
      · have hfin : Hid (res = true) := by
          rw [← HR.out, Ln.roundTo_stop s t _ _ (.inr hut)]
          exact hid (by simpa using hut)
        have hut2 : u = t := by omega
        clear hut
        subst hut2
        go_wp2
        go_ret
        refine ⟨?_, n, rfl⟩
        rw [hfin.out]
        rfl
      · have hbn : ((u : Int) != (t : Int)) = true := by simpa using hut
        have CO := hid (kOwnerAhead_any (M.out.drewN n) u hul FT.out.few FT.out.ok FT.out.m8)
        have hbd := Ln.ahd_bd FT.out.ok u hul
        obtain ⟨k3, hk3, he3⟩ : ∃ k3, k2 = k3 + 1 ∧ Ln.EndsIn s k3 (R.ahd s u) := by
          have hh := HE.out
          cases hh with
          | stop _ h0 => omega
          | step k3 _ _ r => exact ⟨k3, rfl, r⟩
        subst hk3
        have hr3 : R.roundTo s t (k3 + 1) (R.ahd s u) = res := by
          rw [← HR.out, show k3 + 1 + 1 = k3 + 2 by omega, Ln.roundTo_step s t k3 (u : Int) (by omega) hut]
          rfl
        have HE3 := hid he3
        have HR3 := hid hr3
        have HD3 := hid (he3.depth s.T.length (by omega))
        clear he3 hr3
        generalize R.ahd s u = o3 at *
        go_wp2_with fail
        refine CO.out.mono ?_
        rintro e w2 ⟨rfl, n2, rfl⟩
        go_wp2
        go_roundw
        case rel => exact ⟨o3, k3, rfl, by omega, HE3.out, HR3.out, hbd.1, hbd.2, n + n2, rfl⟩
        case measure =>
          simp only [intOf]
          have e1 := HD.out
          have e2 := HD3.out
          simp at *
          omega

theorem giveS_owner (s : RS) (what of_ : Int) : (R.giveS s what of_).owner = s.owner ∧ (R.giveS s what of_).set = s.set ∧ (R.giveS s what of_).T.length = s.T.length := by
  unfold R.giveS
  split
  · exact ⟨rfl, rfl, Ln.endW_length _ _⟩
  · exact ⟨rfl, rfl, rfl⟩
theorem giveT_bd' (s : RS) (what of_ : Int) : -1 ≤ R.giveT s what of_ ∧ R.giveT s what of_ < s.T.length := R.firstTo_bd s what of_ [] s.T.length
theorem KFit.setOwner (f : KFit s) (m : Nat) (v : Int) (h0 : -1 ≤ v) (h1 : v < s.T.length) : KFit { s with owner := s.owner.set m v } := by
  refine ⟨f.few, by simpa using f.m8, by simpa using f.ok.len, fun i hi => ?_, fun t ht hf => ?_, fun i hi => f.ok.kind i (by simpa using hi)⟩
  · have hi' : i < s.owner.length := by simpa using hi
    show -1 ≤ (s.owner.set m v).getD i 0 ∧ (s.owner.set m v).getD i 0 < s.T.length
    by_cases e : m = i
    · subst e
      have : (s.owner.set m v).getD m 0 = v := by simp [List.getD, hi']
      rw [this]
      exact ⟨h0, h1⟩
    · rw [R.getD_set_ne _ _ _ _ e]
      exact f.ok.own i hi'
  · have := f.ok.of1 t ht hf
    simpa using this
theorem KFit.unlock (f : KFit s) (t m : Nat) : KFit (R.unlockS s t m) := by
  unfold R.unlockS
  split
  · obtain ⟨e1, e2, e3⟩ := giveS_owner s 1 (m : Int)
    have hb := giveT_bd' s 1 (m : Int)
    have := (f.give 1 (m : Int)).setOwner m (R.giveT s 1 (m : Int)) hb.1 (by rw [e3]; exact hb.2)
    rw [e1] at this
    exact this
  · exact f
theorem Ln.Aux.unlock (f : KFit s) {m : Nat} {tk' wt' : List Nat} (a' : Ln.Aux (R.giveS s 1 (m : Int)) tk' wt') : Ln.Aux { R.giveS s 1 (m : Int) with owner := s.owner.set m (R.giveT s 1 (m : Int)) } tk' wt' := by
  obtain ⟨e1, e2, e3⟩ := giveS_owner s 1 (m : Int)
  have hb := giveT_bd' s 1 (m : Int)
  have := a'.setOwner (f.give 1 (m : Int)).ok m (R.giveT s 1 (m : Int)) (by
    by_cases h0 : R.giveT s 1 (m : Int) < 0
    · exact .inl h0
    · right
      refine ⟨(R.giveT s 1 (m : Int)).toNat, by omega, ?_⟩
      have e : R.giveS s 1 (m : Int) = R.endW s (R.giveT s 1 (m : Int)).toNat 0 := by unfold R.giveS; rw [if_pos (by omega)]
      rw [e, endW_th_for (by omega)]
      decide)
  rw [e1] at this
  exact this

set_option maxHeartbeats 1000000 in
theorem kUnlock_any (m : KMem F w kb h s tk wt ws) (f : KFit s) (a : Ln.Aux s tk wt) (t k : Nat) (hk : k < s.owner.length) :
    Calls Try.prog 116 #[.pointer (some ⟨kb, 0, none⟩), .int .i64 t, .int .i64 k] w fun e w' => e = .returned (.int .i64 (R.unlockC s t k)) ∧ ∃ h' tk' wt', KMem F w' kb h' (R.unlockS s t k) tk' wt' ws ∧ Ln.Aux (R.unlockS s t k) tk' wt' ∧ Only [kb, h.gT, h.gM] w w' ∧ KUp w h h' := by
  have c2 := m.blk.cell 2
  simp [kCells] at c2
  have b2 := m.mcell hk 2 (by decide)
  simp [kmCells] at b2
  have eo : s.owner.getD k 0 = s.owner[k] := by simp [List.getD, hk]
  have EC : Hid (R.unlockC s t k = if s.owner[k] = (t : Int) then 0 else 6) := by unfold R.unlockC; rw [eo]; exact hid rfl
  have ES : Hid (R.unlockS s t k = if s.owner[k] = (t : Int) then { R.giveS s 1 (k : Int) with owner := s.owner.set k (R.giveT s 1 (k : Int)) } else s) := by unfold R.unlockS; rw [eo]; exact hid rfl
  have hkI : (k : Int) < (s.owner.length : Int) := by omega
  have hm8 := f.m8
  have M := hid m
  have FT := hid f
  have AX := hid a
  clear m f a eo
  generalize R.unlockC s t k = cc at *
  generalize R.unlockS s t k = ss at *
  go_enter Try.func116, Try.ntmps116
  cases hq : (s.owner[k] != (t : Int))
  · have hq' : s.owner[k] = (t : Int) := by simpa using hq
    have HC : Hid (cc = 0) := by rw [EC.out, if_pos hq']; exact hid rfl
    have HS : Hid (ss = { R.giveS s 1 (k : Int) with owner := s.owner.set k (R.giveT s 1 (k : Int)) }) := by rw [ES.out, if_pos hq']; exact hid rfl
    have CG := hid (kGive_any M.out FT.out AX.out 1 (k : Int) (by decide))
    obtain ⟨e1, e2, e3⟩ := giveS_owner s 1 (k : Int)
    have HAU := hid (fun tk' wt' => Ln.Aux.unlock FT.out (m := k) (tk' := tk') (wt' := wt'))
    have E1 := hid e1
    clear EC ES hq' e1 e2 e3
    generalize R.giveS s 1 (k : Int) = sg at *
    generalize R.giveT s 1 (k : Int) = tg at *
    go_wp2_with fail
    refine CG.out.mono ?_
    rintro e w1 ⟨rfl, h1, tk1, wt1, m1, a1, o1, u1⟩
    have hk1 : k < sg.owner.length := by rw [E1.out]; exact hk
    have c2 := m1.blk.cell 2
    simp [kCells] at c2
    rw [E1.out] at c2
    have b2 := m1.mcell hk1 2 (by decide)
    simp [kmCells] at b2
    have f2 := m1.mfrozen (k * 3 + 2)
    obtain ⟨h2, m2, u2⟩ := m1.setM' k hk1 tg
    rw [E1.out] at m2
    have M2 := hid m2
    have U2 := hid (u1.trans u2 o1.size)
    have O2 := hid ((o1.mono (M := [kb, h.gT, h.gM]) (fun b hb => by simp at hb ⊢; omega)).setCell (p := ⟨h1.gM, k * 3 + 2, none⟩) (.inl (by simp [u1.gM])) (.int .i64 tg))
    have A1 := hid (HAU.out tk1 wt1 a1)
    clear m1 a1 o1 u1 m2 u2 CG HAU
    go_wp2
    go_ret
    refine ⟨ret_int HC.out.symm, h2, tk1, wt1, ?_, ?_, O2.out, U2.out⟩
    · rw [HS.out]; exact M2.out
    · rw [HS.out]; exact A1.out
  · have hq' : ¬ s.owner[k] = (t : Int) := by simpa using hq
    have HC : Hid (cc = 6) := by rw [EC.out, if_neg hq']; exact hid rfl
    have HS : Hid (ss = s) := by rw [ES.out, if_neg hq']; exact hid rfl
    clear EC ES hq'
    go_wp2
    go_ret
    refine ⟨ret_int HC.out.symm, h, tk, wt, ?_, ?_, Only.refl _ _, KUp.refl _ _⟩
    · rw [HS.out]; exact M.out
    · rw [HS.out]; exact AX.out

theorem unlockS_len (s : RS) (t m : Nat) : (R.unlockS s t m).owner.length = s.owner.length ∧ (R.unlockS s t m).T.length = s.T.length ∧ (R.unlockS s t m).set = s.set := by
  unfold R.unlockS
  split
  · obtain ⟨e1, e2, e3⟩ := giveS_owner s 1 (m : Int)
    exact ⟨by simp, e3, e2⟩
  · exact ⟨rfl, rfl, rfl⟩
theorem unlocksTo_len (s : RS) (t k : Nat) : (R.unlocksTo s t k).owner.length = s.owner.length ∧ (R.unlocksTo s t k).T.length = s.T.length ∧ (R.unlocksTo s t k).set = s.set := by
  induction k with
  | zero => exact ⟨rfl, rfl, rfl⟩
  | succ k ih =>
    obtain ⟨a, b, c⟩ := unlockS_len (R.unlocksTo s t k) t k
    exact ⟨a.trans ih.1, b.trans ih.2.1, c.trans ih.2.2⟩
theorem KFit.unlocks (f : KFit s) (t k : Nat) : KFit (R.unlocksTo s t k) := by
  induction k with
  | zero => exact f
  | succ k ih => exact ih.unlock t k

set_option maxHeartbeats 1000000 in
theorem kUnlockAll_any (m : KMem F w kb h s tk wt ws) (f : KFit s) (a : Ln.Aux s tk wt) (t : Nat) :
    Calls Try.prog 113 #[.pointer (some ⟨kb, 0, none⟩), .int .i64 t] w fun e w' => e = .returned (.tuple #[]) ∧ ∃ h' tk' wt', KMem F w' kb h' (R.unlocksTo s t s.owner.length) tk' wt' ws ∧ Ln.Aux (R.unlocksTo s t s.owner.length) tk' wt' ∧ Only [kb, h.gT, h.gM] w w' ∧ KUp w h h' := by
  have c2 := m.blk.cell 2
  simp [kCells] at c2
  have hm8 := f.m8
  have M := hid m
  have FT := hid f
  have AX := hid a
  clear m f a
  go_enter Try.func113, Try.ntmps113
  go_wp2
  go_loopw [10] (fun i wr => ∃ k : Nat, k ≤ s.owner.length ∧ i = .int .i64 k ∧ (∃ h' tk' wt', KMem F wr kb h' (R.unlocksTo s t k) tk' wt' ws ∧ Ln.Aux (R.unlocksTo s t k) tk' wt' ∧ KUp w h h') ∧ Only [kb, h.gT, h.gM] w wr) (fun i _ => s.owner.length - (intOf i).toNat)
  case atStart => exact ⟨0, Nat.zero_le _, rfl, ⟨h, tk, wt, M.out, AX.out, KUp.refl _ _⟩, Only.refl _ _⟩
  case round =>
    obtain ⟨k, hk, rfl, ⟨h2, tk2, wt2, m2, a2, u2⟩, o2⟩ := hrel
    have M2 := hid m2
    have A2 := hid a2
    have U2 := hid u2
    have O2 := hid o2
    clear m2 a2 u2 o2
    by_cases hkl : k < s.owner.length
    · have hkI : (k : Int) < (s.owner.length : Int) := by omega
      have CU := hid (kUnlock_any M2.out (FT.out.unlocks t k) A2.out t k (by rw [(unlocksTo_len s t k).1]; exact hkl))
      have ES : Hid (R.unlocksTo s t (k + 1) = R.unlockS (R.unlocksTo s t k) t k) := rfl
      generalize R.unlockS (R.unlocksTo s t k) t k = sk at *
      generalize R.unlockC (R.unlocksTo s t k) t k = ck at *
      go_wp2_with fail
      refine CU.out.mono ?_
      rintro e w3 ⟨rfl, h3, tk3, wt3, m3, a3, o3, u3⟩
      have M3 := hid m3
      have A3 := hid a3
      have U3 := hid (U2.out.trans u3 O2.out.size)
      have O3 := hid (O2.out.trans (o3.mono (fun b hb => by rw [U2.out.gT, U2.out.gM] at hb; exact hb)))
      clear m3 a3 o3 u3 CU
      go_wp2
      go_roundw
      case rel => exact ⟨k + 1, by omega, by go_num, ⟨h3, tk3, wt3, by rw [ES.out]; exact M3.out, by rw [ES.out]; exact A3.out, U3.out⟩, O3.out⟩
      case measure => simp [intOf]; omega
    · have e : k = s.owner.length := by omega
      subst e
      go_wp2
      go_end0
      exact ⟨rfl, h2, tk2, wt2, M2.out, A2.out, O2.out, U2.out⟩

set_option maxHeartbeats 2000000 in
theorem kLock_any (m : KMem F w kb h s tk wt ws) (f : KFit s) (a : Ln.Aux s tk wt) (t k : Nat) (ht : t < s.T.length) (hf0 : s.T[t].for_ = 0) (hk : k < s.owner.length) (n : Int) (hn0 : -1 ≤ n) (hn1 : n ≤ 1000) (g0 : 0 ≤ s.now) (g1 : s.now ≤ 1000000000) :
    Calls Try.prog 115 #[.pointer (some ⟨kb, 0, none⟩), .int .i64 t, .int .i64 k, .int .i64 n] w fun e w' => e = .returned (.int .i64 (R.lockC s t k n)) ∧ ∃ h' tk' wt', KMem F w' kb h' (R.lockS s t k n) tk' wt' ws ∧ Ln.Aux (R.lockS s t k n) tk' wt' ∧ Only (kb :: h.gT :: h.gM :: h.vWt.ownBlock.toList) w w' ∧ KUp w h h' := by
  have c2 := m.blk.cell 2
  simp [kCells] at c2
  have b2 := m.mcell hk 2 (by decide)
  simp [kmCells] at b2
  have eo : s.owner.getD k 0 = s.owner[k] := by simp [List.getD, hk]
  have hob := f.ok.own k hk
  rw [eo] at hob
  obtain ⟨q, hq1, hq2⟩ := Ln.round_eq f.ok a.ch t k hk
  rw [eo] at hq1 hq2
  have EC : Hid (R.lockC s t k n = if s.owner[k] = (t : Int) then 3 else if decide ((s.set.mutexes.getD k R.pair0).x = 1 ∧ (s.set.mutexes.getD k R.pair0).y < s.T[t].base) = true then 4 else if s.owner[k] < 0 then 0 else if R.round s t k = true then 5 else if n = 0 then 2 else 1) := by
    unfold R.lockC
    rw [eo, th_ext ht]
    simp only [decide_eq_true_eq]
    exact hid trivial
  have ES : Hid (R.lockS s t k n = if R.lockC s t k n = 0 then { s with owner := s.owner.set k (t : Int) } else if R.lockC s t k n = 1 then R.beginW s t 1 (k : Int) n else s) := rfl
  have TH := hid (kTooHigh_any m t k ht f.few hk f.m8)
  have LT := hid (fun n => kLeadsTo_any (m.drewN n) f t s.owner[k] q hq1 hob.1 hob.2)
  rw [← hq2] at LT
  have hkI : (k : Int) < (s.owner.length : Int) := by omega
  have hm8 := f.m8
  have hf0' : (R.th s.T t).for_ = 0 := by rw [th_ext ht]; exact hf0
  have AB : Hid (R.round s t k = false → Ln.Aux (R.beginW s t 1 (k : Int) n) tk (wt ++ [t])) := fun hr => a.beginW f.ok t ht hf0' 1 (k : Int) n (by decide) (fun _ => ⟨k, rfl, hk, hr⟩)
  have AO : Hid (Ln.Aux { s with owner := s.owner.set k (t : Int) } tk wt) := a.setOwner f.ok k (t : Int) (.inr ⟨t, rfl, by rw [hf0']; decide⟩)
  have BW := hid (fun nd => kWaitFor_any (m.drewN nd) t ht f.few (a.few f.few).2 1 (k : Int) n hn0 hn1 g0 g1)
  have M := hid m
  have AX := hid a
  have hnil : (t : Int) ≠ -1 := by omega
  clear m f a eo hq1 hq2 hf0 hf0'
  generalize R.lockS s t k n = ss at *
  generalize R.lockC s t k n = cc at *
  generalize R.round s t k = rd at *
  generalize R.beginW s t 1 (k : Int) n = sb at *
  generalize decide ((s.set.mutexes.getD k R.pair0).x = 1 ∧ (s.set.mutexes.getD k R.pair0).y < s.T[t].base) = th at *
  generalize s.owner[k] = ow at *
  have stay : ∀ c : Int, cc = c → c ≠ 0 → c ≠ 1 → ss = s := by
    intro c h1 h2 h3
    rw [ES.out, if_neg (by omega), if_neg (by omega)]
  have STAY := hid stay
  clear stay
  go_enter Try.func115, Try.ntmps115
  by_cases hot : ow = (t : Int)
  · have HC : Hid (cc = 3) := by rw [EC.out, if_pos hot]; exact hid rfl
    have HS := hid (STAY.out 3 HC.out (by decide) (by decide))
    subst hot
    clear EC ES STAY
    go_wp2
    go_ret
    refine ⟨ret_int HC.out.symm, h, tk, wt, ?_, ?_, Only.refl _ _, KUp.refl _ _⟩
    · rw [HS.out]; exact M.out
    · rw [HS.out]; exact AX.out
  · have hot' : (ow == (t : Int)) = false := by simpa using hot
    rw [if_neg hot] at EC
    go_wp2_with fail
    refine TH.out.mono ?_
    rintro e w1 ⟨rfl, nd, rfl⟩
    have OD : Hid (Only (kb :: h.gT :: h.gM :: h.vWt.ownBlock.toList) w (w.drewN nd)) := (Only.refl _ _).drewN nd
    cases th with
    | true =>
      have HC : Hid (cc = 4) := by rw [EC.out, if_pos rfl]; exact hid rfl
      have HS := hid (STAY.out 4 HC.out (by decide) (by decide))
      clear EC ES STAY
      go_wp2
      go_ret
      refine ⟨ret_int HC.out.symm, h, tk, wt, ?_, ?_, OD.out, KUp.refl _ _⟩
      · rw [HS.out]; exact M.out.drewN nd
      · rw [HS.out]; exact AX.out
    | false =>
      rw [if_neg (by decide)] at EC
      by_cases hno : ow = -1
      · have HC : Hid (cc = 0) := by rw [EC.out, if_pos (by omega)]; exact hid rfl
        have HS : Hid (ss = { s with owner := s.owner.set k (t : Int) }) := by rw [ES.out, if_pos HC.out]; exact hid rfl
        subst hno
        have c2 := (M.out.drewN nd).blk.cell 2
        simp [kCells] at c2
        have b2 := (M.out.drewN nd).mcell hk 2 (by decide)
        simp [kmCells] at b2
        have f2 := (M.out.drewN nd).mfrozen (k * 3 + 2)
        obtain ⟨h2, m2, u2⟩ := (M.out.drewN nd).setM' k hk (t : Int)
        have M2 := hid m2
        have U2 := hid ((KUp.refl w h).trans u2 (Nat.le_refl _))
        have O2 := hid (OD.out.setCell (p := ⟨h.gM, k * 3 + 2, none⟩) (.inl (by simp)) (.int .i64 (t : Int)))
        clear EC ES STAY m2 u2 TH LT BW
        generalize s.owner[k] = old at *
        go_wp2
        go_ret
        refine ⟨ret_int HC.out.symm, h2, tk, wt, ?_, ?_, O2.out, U2.out⟩
        · rw [HS.out]; exact M2.out
        · rw [HS.out]; exact AO.out
      · have hno' : (ow == -1) = false := by simpa using hno
        rw [if_neg (by omega)] at EC
        have LTN := hid (LT.out nd)
        go_wp2_with fail
        refine LTN.out.mono ?_
        rintro e w2 ⟨rfl, nd2, rfl⟩
        have OD2 : Hid (Only (kb :: h.gT :: h.gM :: h.vWt.ownBlock.toList) w ((w.drewN nd).drewN nd2)) := OD.out.drewN nd2
        have M2 := hid ((M.out.drewN nd).drewN nd2)
        have BW2 := hid (BW.out (nd + nd2))
        rw [← World.drewN_drewN] at BW2
        clear OD LTN LT TH BW
        generalize (w.drewN nd).drewN nd2 = w2 at *
        cases rd with
        | true =>
          have HC : Hid (cc = 5) := by rw [EC.out, if_pos rfl]; exact hid rfl
          have HS := hid (STAY.out 5 HC.out (by decide) (by decide))
          clear EC ES STAY
          go_wp2
          go_ret
          refine ⟨ret_int HC.out.symm, h, tk, wt, ?_, ?_, OD2.out, KUp.refl _ _⟩
          · rw [HS.out]; exact M2.out
          · rw [HS.out]; exact AX.out
        | false =>
          rw [if_neg (by decide)] at EC
          have HS : Hid (ss = if n = 0 then s else sb) := by
            rw [ES.out, EC.out]
            by_cases hz : n = 0
            · simp only [if_pos hz]
              exact hid rfl
            · simp only [if_neg hz]
              exact hid rfl
          have HA : Hid (Ln.Aux (if n = 0 then s else sb) tk (if n = 0 then wt else wt ++ [t])) := by
            by_cases hz : n = 0
            · simp only [if_pos hz]
              exact hid AX.out
            · simp only [if_neg hz]
              exact hid (AB.out rfl)
          have hszD := OD2.out.size
          clear ES STAY AB
          generalize (if n = 0 then s else sb) = s4 at *
          generalize (if n = 0 then wt else wt ++ [t]) = wt4 at *
          generalize (if n = 0 then (2 : Int) else 1) = c4 at *
          go_wp2_with fail
          refine BW2.out.mono ?_
          rintro e w3 ⟨rfl, h3, m3, o3, u3⟩
          have M3 := hid m3
          have U3 := hid ((KUp.refl w h).trans u3 hszD)
          have O3 := hid (OD2.out.trans (o3.mono (fun b hb => by simp at hb ⊢; rcases hb with h | h | h <;> simp [h])))
          clear m3 o3 u3 BW2
          go_wp2
          go_ret
          refine ⟨ret_int EC.out.symm, h3, tk, wt4, ?_, ?_, O3.out, U3.out⟩
          · rw [HS.out]; exact M3.out
          · rw [HS.out]; exact HA.out
end

end Go.Proofs.Ytbkfildnijjioab

/-
  Walks over package donate: jobs.
-/
namespace Go.Proofs.Ytbkfildnijjioab
open Go.RowKit

/-- One job more. -/
def K.release (s : RS) (t : Nat) : RS :=
  if (R.th s.T t).ended < (R.th s.T t).rel then { s with T := s.T.modify t (fun x => { x with rel := (R.th s.T t).rel + 1 }) }
  else R.wake { s with T := s.T.modify t (fun x => { x with rel := (R.th s.T t).rel + 1 }) } t

section
variable {F : Nat → Prop} {w w' : World} {kb : Nat} {h : KH} {s : RS} {tk wt : List Nat} {ws : List Int}

/-- A thread is turned in what no link hangs on. -/
theorem KFit.modify (f : KFit s) (t : Nat) (g : RT → RT) (hg : ∀ x, (g x).for_ = x.for_ ∧ (g x).of_ = x.of_) : KFit { s with T := s.T.modify t g } := by
  refine ⟨by simpa using f.few, f.m8, f.ok.len, fun i hi => by simpa using f.ok.own i hi, fun u hu hf => ?_, f.ok.kind⟩
  have hu' : u < s.T.length := by simpa using hu
  have e : (R.th (s.T.modify t g) u).for_ = (R.th s.T u).for_ ∧ (R.th (s.T.modify t g) u).of_ = (R.th s.T u).of_ := by
    rw [Ln.th_modify]
    split
    · exact hg _
    · exact ⟨rfl, rfl⟩
  have hf' : (R.th (s.T.modify t g) u).for_ = 1 := hf
  show 0 ≤ (R.th (s.T.modify t g) u).of_ ∧ (R.th (s.T.modify t g) u).of_ < s.owner.length
  rw [e.2]
  exact f.ok.of1 u hu' (by rw [← e.1]; exact hf')
theorem KFit.next (f : KFit s) (n : Int) : KFit { s with next := n } := ⟨f.few, f.m8, f.ok.len, f.ok.own, f.ok.of1, f.ok.kind⟩
theorem KFit.wake (f : KFit s) (t : Nat) : KFit (R.wake s t) := (f.next (s.next + 1)).modify t _ (fun _ => ⟨rfl, rfl⟩)
/-- What wakes a thread is not seen in the memory. -/
theorem KMem.wake (m : KMem F w kb h s tk wt ws) (t : Nat) : KMem F w kb h (R.wake s t) tk wt ws := by
  refine m.cong rfl rfl (by simp [R.wake]) rfl rfl rfl rfl (fun i hi => ?_)
  simp only [R.wake, List.getElem_modify]
  by_cases e : t = i
  · simp only [if_pos e]
    rfl
  · simp only [if_neg e]
theorem KFit.release (f : KFit s) (t : Nat) : KFit (K.release s t) := by
  unfold K.release
  split
  · exact f.modify t _ (fun _ => ⟨rfl, rfl⟩)
  · exact (f.modify t (fun x => { x with rel := (R.th s.T t).rel + 1 }) (fun _ => ⟨rfl, rfl⟩)).wake t

set_option maxHeartbeats 1000000 in
theorem kRelease_any (m : KMem F w kb h s tk wt ws) (f : KFit s) (a : Ln.Aux s tk wt) (t : Nat) (ht : t < s.T.length) (hr : 0 ≤ s.T[t].rel ∧ s.T[t].rel ≤ 2000000000) :
    Calls Try.prog 77 #[.pointer (some ⟨kb, 0, none⟩), .int .i64 t] w fun e w' => e = .returned (.tuple #[]) ∧ ∃ h' tk', KMem F w' kb h' (K.release s t) tk' wt ws ∧ Ln.Aux (K.release s t) tk' wt ∧ Only [kb, h.gT] w w' ∧ KUp w h h' := by
  have HJ := hid (kHasJob_any m t ht f.few)
  have ER : Hid (K.release s t = if s.T[t].ended < s.T[t].rel then { s with T := s.T.modify t (fun x => { x with rel := s.T[t].rel + 1 }) } else R.wake { s with T := s.T.modify t (fun x => { x with rel := s.T[t].rel + 1 }) } t) := by
    unfold K.release
    rw [th_ext ht]
    exact hid rfl
  have f1 := f.modify t (fun x => { x with rel := s.T[t].rel + 1 }) (fun _ => ⟨rfl, rfl⟩)
  have a1 := a.modify f.ok t (fun x => { x with rel := s.T[t].rel + 1 }) (fun _ => ⟨rfl, rfl, rfl, rfl, id⟩)
  have ht1 : t < (s.T.modify t (fun x => { x with rel := s.T[t].rel + 1 })).length := by simpa using ht
  have AW := hid (a1.wake f1.ok t ht1)
  have A1 := hid a1
  have htk := (a.few f.few).1
  have M := hid m
  have htI : (t : Int) < (s.T.length : Int) := by omega
  have hfew := f.few
  clear m f a f1 a1
  generalize K.release s t = res at *
  go_enter Try.func77, Try.ntmps77
  go_wp2_with fail
  refine HJ.out.mono ?_
  rintro e w1 ⟨rfl, n, rfl⟩
  have M1 := hid (M.out.drewN n)
  have O1 : Hid (Only [kb, h.gT] w (w.drewN n)) := (Only.refl _ _).drewN n
  have hsz1 : w.heap.size ≤ (w.drewN n).heap.size := Nat.le_refl _
  clear HJ M
  generalize w.drewN n = w1 at *
  have c1 := M1.out.blk.cell 1
  simp [kCells] at c1
  have a7 := M1.out.tcell ht 8 (by decide)
  simp [ktCells] at a7
  have f7 := M1.out.tfrozen (t * 13 + 8)
  obtain ⟨hr0, hr1⟩ := hr
  obtain ⟨h2, m2, u2⟩ := M1.out.setT' ht (j := 8) (by decide) (.int .i64 (s.T[t].rel + 1)) (fun x => { x with rel := s.T[t].rel + 1 }) (ktCells_rel _ _ _ _ _)
  have M2 := hid m2
  have U2 := hid ((KUp.refl w h).trans u2 hsz1)
  have O2 := hid (O1.out.setCell (p := ⟨h.gT, t * 13 + 8, none⟩) (.inl (by simp)) (.int .i64 (s.T[t].rel + 1)))
  clear m2 u2
  cases hj : decide (s.T[t].ended < s.T[t].rel)
  · have hn : ¬ s.T[t].ended < s.T[t].rel := by simpa using hj
    have HN := hid hn
    clear hn
    go_upto_region 3 with fail
    clear c1 a7 f7 M1 O1
    generalize w1.setCell ⟨h.gT, t * 13 + 8, none⟩ (.int .i64 (s.T[t].rel + 1)) = w2 at *
    go_wp2_with fail
    refine (kDraw_any M2.out t htk).mono ?_
    rintro e w3 ⟨rfl, h3, m3, o3, u3⟩
    have M3 := hid m3
    have U3 := hid (U2.out.trans u3 O2.out.size)
    have O3 := hid (O2.out.trans (o3.mono (fun b hb => by simp at hb; simp [hb])))
    clear m3 o3 u3
    go_wp2
    go_end0
    refine ⟨rfl, h3, Ln.less tk t ++ [t], ?_, ?_, O3.out, U3.out⟩
    · rw [ER.out, if_neg (by have := HN.out; omega)]
      exact M3.out.wake t
    · rw [ER.out, if_neg (by have := HN.out; omega)]
      exact AW.out
  · have hn : s.T[t].ended < s.T[t].rel := by simpa using hj
    have HN := hid hn
    clear hn
    go_wp2
    go_end0
    refine ⟨rfl, h2, tk, ?_, ?_, O2.out, U2.out⟩
    · rw [ER.out, if_pos HN.out]
      exact M2.out
    · rw [ER.out, if_pos HN.out]
      exact A1.out

/-- What is known of the jobs ahead of a release. -/
structure RelOk (s : RS) (t : Nat) (x : RT) : Prop where
  r0 : x.rel = R.relBy s.set t (s.now - 1)
  e0 : 0 ≤ x.ended
  e1 : x.ended ≤ x.rel
  r1 : 0 ≤ x.rel ∧ x.rel ≤ 2000000000
theorem releaseOne_other (s : RS) (t u : Nat) (h : u ≠ t) : R.th (R.releaseOne s t).T u = R.th s.T u := by
  have hm : ∀ (T : List RT) (f : RT → RT), R.th (T.modify t f) u = R.th T u := fun T f => by rw [Ln.th_modify, if_neg (fun hh => h hh.1)]
  unfold R.releaseOne R.wake
  split
  · split
    · simp only [hm]
    · simp only [hm]
  · rfl
theorem releaseTo_other (s : RS) (k u : Nat) (h : k ≤ u) : R.th (R.releaseTo s k).T u = R.th s.T u := by
  induction k with
  | zero => rfl
  | succ k ih =>
    unfold R.releaseTo
    rw [releaseOne_other _ _ _ (by omega), ih (by omega)]
/-- A job is released just where the document says so. -/
theorem release_is {s : RS} {t : Nat} (ht : t < s.T.length) (rk : RelOk s t s.T[t]) (ks : KSet s t) : R.releaseOne s t = if kDue s t s.T[t].rel = true then K.release s t else s := by
  have hd := Ln.due_iff s.set t s.now s.T[t].rel ks.pe.1 rk.r0 rk.r1.1
  unfold R.releaseOne R.numberAt
  have e : kDue s t s.T[t].rel = true ↔ 0 ≤ R.number (s.set.threads.getD t P3.none0).period (s.now - s.set.start - (s.set.threads.getD t P3.none0).offset - 0) := by
    rw [← hd.1]
    unfold kDue
    by_cases hp : (s.set.threads.getD t P3.none0).period = 0 ∧ 0 < s.T[t].rel
    · rw [if_pos hp]
      constructor
      · intro hh; cases hh
      · intro hh; exact absurd hp hh.1
    · rw [if_neg hp]
      constructor
      · intro hh; exact ⟨hp, by simpa using hh⟩
      · intro hh; simpa using hh.2
  by_cases h0 : 0 ≤ R.number (s.set.threads.getD t P3.none0).period (s.now - s.set.start - (s.set.threads.getD t P3.none0).offset - 0)
  · rw [if_pos h0, if_pos (e.2 h0), hd.2 h0]
    unfold K.release
    rw [th_ext ht]
    have := rk.e1
    by_cases h1 : s.T[t].rel = s.T[t].ended
    · rw [if_pos h1, if_neg (by omega)]
    · rw [if_neg h1, if_pos (by omega)]
  · rw [if_neg h0, if_neg (fun hh => h0 (e.1 hh))]

set_option maxHeartbeats 1000000 in
theorem kReleaseJobs_any (m : KMem F w kb h s tk wt ws) (f : KFit s) (a : Ln.Aux s tk wt) (hrk : ∀ t (ht : t < s.T.length), RelOk s t s.T[t]) (hks : ∀ t, t < s.T.length → KSet s t) :
    Calls Try.prog 55 #[.pointer (some ⟨kb, 0, none⟩)] w fun e w' => e = .returned (.tuple #[]) ∧ ∃ h' tk', KMem F w' kb h' (R.release s) tk' wt ws ∧ Ln.Aux (R.release s) tk' wt ∧ KFit (R.release s) ∧ Only [kb, h.gT] w w' ∧ KUp w h h' := by
  have c1 := m.blk.cell 1
  simp [kCells] at c1
  have hfew := f.few
  have M := hid m
  have FT := hid f
  have AX := hid a
  have HRK := hid hrk
  have HKS := hid hks
  have ER : Hid (R.release s = R.releaseTo s s.T.length) := rfl
  clear m f a hrk hks
  generalize R.release s = res at *
  go_enter Try.func55, Try.ntmps55
  go_wp2
  go_loopw [8] (fun i wr => ∃ k : Nat, k ≤ s.T.length ∧ i = .int .i64 k ∧ (∃ h' tk', KMem F wr kb h' (R.releaseTo s k) tk' wt ws ∧ Ln.Aux (R.releaseTo s k) tk' wt ∧ KFit (R.releaseTo s k) ∧ KUp w h h') ∧ Only [kb, h.gT] w wr) (fun i _ => s.T.length - (intOf i).toNat)
  case atStart => exact ⟨0, Nat.zero_le _, rfl, ⟨h, tk, M.out, AX.out, FT.out, KUp.refl _ _⟩, Only.refl _ _⟩
  case round =>
    obtain ⟨k, hk, rfl, ⟨h2, tk2, m2, a2, f2, u2⟩, o2⟩ := hrel
    have M2 := hid m2
    have A2 := hid a2
    have F2 := hid f2
    have U2 := hid u2
    have O2 := hid o2
    clear m2 a2 u2 o2 f2
    by_cases hkl : k < s.T.length
    · have hl2 : (R.releaseTo s k).T.length = s.T.length := R.releaseTo_len s k
      have hset : (R.releaseTo s k).set = s.set := R.releaseTo_set s k
      have hnow : (R.releaseTo s k).now = s.now := R.releaseTo_now s k
      have hk2 : k < (R.releaseTo s k).T.length := by rw [hl2]; exact hkl
      have heq : (R.releaseTo s k).T[k] = s.T[k] := by
        have := releaseTo_other s k k (Nat.le_refl _)
        rwa [th_ext hk2, th_ext hkl] at this
      have rk : RelOk (R.releaseTo s k) k (R.releaseTo s k).T[k] := by
        have := HRK.out k hkl
        refine ⟨?_, ?_, ?_, ?_⟩
        · rw [heq, hset, hnow]; exact this.r0
        · rw [heq]; exact this.e0
        · rw [heq]; exact this.e1
        · rw [heq]; exact this.r1
      have ks : KSet (R.releaseTo s k) k := by
        have := HKS.out k hkl
        refine ⟨?_, ?_, ?_, ?_⟩ <;> rw [hset]
        · exact this.st
        · exact this.of
        · exact this.pe
        · exact this.dl
      have ES : Hid (R.releaseTo s (k + 1) = if kDue (R.releaseTo s k) k (R.releaseTo s k).T[k].rel = true then K.release (R.releaseTo s k) k else R.releaseTo s k) := release_is hk2 rk ks
      have JD := hid (kJobIsDue_any M2.out k hk2 F2.out.few rk.r1 ks)
      have RL := hid (fun n => kRelease_any (M2.out.drewN n) F2.out A2.out k hk2 rk.r1)
      have FR := hid (F2.out.release k)
      have hkI : (k : Int) < (s.T.length : Int) := by omega
      clear rk ks heq hset hnow
      generalize kDue (R.releaseTo s k) k (R.releaseTo s k).T[k].rel = dd at *
      generalize K.release (R.releaseTo s k) k = sr at *
      go_wp2_with fail
      refine JD.out.mono ?_
      rintro e w3 ⟨rfl, n, rfl⟩
      cases dd with
      | false =>
        have HE : Hid (R.releaseTo s (k + 1) = R.releaseTo s k) := by rw [ES.out, if_neg (by decide)]; exact hid rfl
        go_wp2
        go_roundw
        case rel => exact ⟨k + 1, by omega, by go_num, ⟨h2, tk2, by rw [HE.out]; exact M2.out.drewN n, by rw [HE.out]; exact A2.out, by rw [HE.out]; exact F2.out, U2.out⟩, O2.out.drewN n⟩
        case measure => simp [intOf]; omega
      | true =>
        have HE : Hid (R.releaseTo s (k + 1) = sr) := by rw [ES.out, if_pos rfl]; exact hid rfl
        have RLN := hid (RL.out n)
        go_wp2_with fail
        refine RLN.out.mono ?_
        rintro e w4 ⟨rfl, h4, tk4, m4, a4, o4, u4⟩
        have M4 := hid m4
        have A4 := hid a4
        have U4 := hid (U2.out.trans u4 (show w.heap.size ≤ (wr.drewN n).heap.size from O2.out.size))
        have O4 := hid ((O2.out.drewN n).trans (o4.mono (fun b hb => by rw [U2.out.gT] at hb; exact hb)))
        clear m4 a4 o4 u4 RLN RL
        go_wp2
        go_roundw
        case rel => exact ⟨k + 1, by omega, by go_num, ⟨h4, tk4, by rw [HE.out]; exact M4.out, by rw [HE.out]; exact A4.out, by rw [HE.out]; exact FR.out, U4.out⟩, O4.out⟩
        case measure => simp [intOf]; omega
    · have e : k = s.T.length := by omega
      subst e
      go_wp2
      go_end0
      exact ⟨rfl, h2, tk2, by rw [ER.out]; exact M2.out, by rw [ER.out]; exact A2.out, by rw [ER.out]; exact F2.out, O2.out, U2.out⟩
end

end Go.Proofs.Ytbkfildnijjioab

/-
  Walks over package donate: workers are given out.
-/
namespace Go.Proofs.Ytbkfildnijjioab
open Go.RowKit

namespace K
def freeTo (ch : List Nat) (ws : List Int) : Nat → List Int
  | 0 => ws
  | k + 1 => if Ln.placeIn (Ln.ints ch) (ws.getD k 0) < 0 then (freeTo ch ws k).set k (-1) else freeTo ch ws k
theorem freeTo_length (ch : List Nat) (ws : List Int) (k : Nat) : (freeTo ch ws k).length = ws.length := by
  induction k with
  | zero => rfl
  | succ k ih => unfold freeTo; split <;> simp [ih]
theorem freeTo_get (ch : List Nat) (ws : List Int) (k i : Nat) (hi : i < ws.length) : (freeTo ch ws k)[i]'(by rw [freeTo_length]; exact hi) = if i < k ∧ Ln.placeIn (Ln.ints ch) ws[i] < 0 then -1 else ws[i] := by
  induction k with
  | zero => simp [freeTo]
  | succ k ih =>
    have eg : i = k → ws.getD k 0 = ws[i] := fun e => by subst e; simp [List.getD, hi]
    simp only [freeTo]
    by_cases h : Ln.placeIn (Ln.ints ch) (ws.getD k 0) < 0
    · simp only [if_pos h, List.getElem_set]
      by_cases e : k = i
      · subst e
        rw [eg rfl] at h
        simp [h]
      · rw [if_neg e, ih]
        have e2 : (i < k + 1 ∧ Ln.placeIn (Ln.ints ch) ws[i] < 0) ↔ (i < k ∧ Ln.placeIn (Ln.ints ch) ws[i] < 0) := by omega
        simp [e2]
    · simp only [if_neg h]
      rw [ih]
      by_cases e : k = i
      · subst e
        rw [eg rfl] at h
        have h1 : ¬ (k < k ∧ Ln.placeIn (Ln.ints ch) ws[k] < 0) := fun hh => h hh.2
        have h2 : ¬ (k < k + 1 ∧ Ln.placeIn (Ln.ints ch) ws[k] < 0) := fun hh => h hh.2
        rw [if_neg h1, if_neg h2]
      · have e2 : (i < k + 1 ∧ Ln.placeIn (Ln.ints ch) ws[i] < 0) ↔ (i < k ∧ Ln.placeIn (Ln.ints ch) ws[i] < 0) := by omega
        simp [e2]
theorem placeIn_li (ch : List Nat) (x : Int) : Ln.placeIn (Ln.ints ch) x < 0 ↔ ¬ ∃ t ∈ ch, (t : Int) = x := by
  rcases Ln.placeIn_cases (Ln.ints ch) x with ⟨h1, h2⟩ | ⟨i, hi, h1, h2, _⟩
  · rw [h1]
    refine ⟨fun _ => ?_, fun _ => by omega⟩
    rintro ⟨t, ht, e⟩
    obtain ⟨j, hj, rfl⟩ := List.mem_iff_getElem.1 ht
    refine h2 j (by simpa [Ln.ints] using hj) ?_
    simpa [Ln.ints] using e
  · rw [h1]
    refine ⟨fun hh => by omega, fun hh => absurd ⟨ch[i]'(by simpa [Ln.ints] using hi), List.getElem_mem _, by simpa [Ln.ints] using h2⟩ hh⟩
theorem freeTo_freed (ch : List Nat) (ws : List Int) : freeTo ch ws ws.length = Ln.freed ch ws := by
  apply List.ext_getElem
  · rw [freeTo_length]; simp [Ln.freed]
  · intro i h1 h2
    have hi : i < ws.length := by rw [freeTo_length] at h1; exact h1
    rw [freeTo_get ch ws ws.length i hi]
    simp only [Ln.freed, List.getElem_map]
    have := placeIn_li ch ws[i]
    by_cases h : ∃ t ∈ ch, (t : Int) = ws[i]
    · rw [if_pos h, if_neg (fun hh => (this.1 hh.2) h)]
    · rw [if_neg h, if_pos ⟨hi, this.2 h⟩]
end K

theorem seat_length (ws : List Int) (t : Nat) : (Ln.seat ws t).length = ws.length := by
  unfold Ln.seat
  split
  · split <;> simp
  · rfl
theorem seats_length (ch : List Nat) (ws : List Int) : (ch.foldl Ln.seat ws).length = ws.length := by
  induction ch generalizing ws with
  | nil => rfl
  | cons t r ih => rw [List.foldl_cons, ih, seat_length]
theorem freed_length (ch : List Nat) (ws : List Int) : (Ln.freed ch ws).length = ws.length := by simp [Ln.freed]

section
variable {F : Nat → Prop} {w : World} {kb : Nat} {h : KH} {s : RS} {tk wt : List Nat} {ws : List Int}

set_option maxHeartbeats 1000000 in
theorem kTakeWorker_any (m : KMem F w kb h s tk wt ws) (t : Nat) (hw8 : ws.length ≤ 8) :
    Calls Try.prog 81 #[.pointer (some ⟨kb, 0, none⟩), .int .i64 t] w fun e w' => e = .returned (.tuple #[]) ∧ KMem F w' kb h s tk wt (if Ln.placeIn ws (-1) < 0 then ws else ws.set (Ln.placeIn ws (-1)).toNat (t : Int)) ∧ Only [h.gW] w w' := by
  have c2 := m.blk.cell 5
  simp [kCells] at c2
  have HI : Hid (IntsIn w.heap.size w (some ⟨h.gW, 0, none⟩) ws) := fun i hi => ⟨h.gW, 0, rfl, m.wT.lt, by rw [Nat.zero_add]; exact m.wcell hi⟩
  have M := hid m
  have PO := hid (kPlaceOf_any w (some ⟨h.gW, 0, none⟩) h.cW ws (-1) HI.out (by omega))
  have PC := Ln.placeIn_cases ws (-1)
  clear m HI
  rcases PC with ⟨h1, _⟩ | ⟨i, hi, h1, _, _⟩
  · have HE : Hid ((if Ln.placeIn ws (-1) < 0 then ws else ws.set (Ln.placeIn ws (-1)).toNat (t : Int)) = ws) := by rw [h1]; exact hid rfl
    generalize (if Ln.placeIn ws (-1) < 0 then ws else ws.set (Ln.placeIn ws (-1)).toNat (t : Int)) = res at *
    rw [h1] at PO
    clear h1
    go_enter Try.func81, Try.ntmps81
    go_wp2_with fail
    refine PO.out.mono ?_
    rintro e w1 ⟨rfl, hw1⟩
    have hw2 := hw1.symm
    subst hw2
    clear hw1
    go_wp2
    go_end0
    refine ⟨rfl, ?_, Only.refl _ _⟩
    rw [HE.out]
    exact M.out
  · have HE : Hid ((if Ln.placeIn ws (-1) < 0 then ws else ws.set (Ln.placeIn ws (-1)).toNat (t : Int)) = ws.set i (t : Int)) := by
      rw [h1, if_neg (by omega)]
      exact hid (by simp)
    generalize (if Ln.placeIn ws (-1) < 0 then ws else ws.set (Ln.placeIn ws (-1)).toNat (t : Int)) = res at *
    rw [h1] at PO
    clear h1
    have x0 := M.out.wcell hi
    have f0 := M.out.wfrozen i
    have hiI : (i : Int) < (ws.length : Int) := by omega
    have hine : ((i : Int) != -1) = true := by simp
    go_enter Try.func81, Try.ntmps81
    go_wp2_with fail
    refine PO.out.mono ?_
    rintro e w1 ⟨rfl, hw1⟩
    have hw2 := hw1.symm
    subst hw2
    clear hw1
    go_wp2
    go_end0
    refine ⟨rfl, ?_, (Only.refl _ _).setCell (.inl (by simp)) _⟩
    rw [HE.out]
    exact M.out.setW i (t : Int)

set_option maxHeartbeats 1000000 in
theorem kFreeAllBut_any (m : KMem F w kb h s tk wt ws) (hw8 : ws.length ≤ 8) (ao : Option Addr) (ca : Nat) (ch : List Nat) (hch : IntsIn w.heap.size w ao (Ln.ints ch)) (hcl : ch.length ≤ 16) (hne : ∀ a, ao = some a → a.block ≠ h.gW) :
    Calls Try.prog 79 #[.pointer (some ⟨kb, 0, none⟩), .slice ao ch.length ca] w fun e w' => e = .returned (.tuple #[]) ∧ KMem F w' kb h s tk wt (Ln.freed ch ws) ∧ Only [h.gW] w w' := by
  rw [← K.freeTo_freed]
  have c2 := m.blk.cell 5
  simp [kCells] at c2
  have M0 := hid m
  have HCH := hid hch
  have HNE := hid hne
  clear m hch hne
  go_enter Try.func79, Try.ntmps79
  go_wp2
  go_loopw [11] (fun i wr => ∃ k : Nat, k ≤ ws.length ∧ i = .int .i64 k ∧ KMem F wr kb h s tk wt (K.freeTo ch ws k) ∧ Only [h.gW] w wr) (fun i _ => ws.length - (intOf i).toNat)
  case atStart => exact ⟨0, Nat.zero_le _, rfl, M0.out, Only.refl _ _⟩
  case round =>
    obtain ⟨k, hk, rfl, hm, ho⟩ := hrel
    have MK := hid hm
    have OK := hid ho
    have hlk := K.freeTo_length ch ws k
    have c2 := hm.blk.cell 5
    simp [kCells] at c2
    rw [hlk] at c2
    clear hm ho
    by_cases hkl : k < ws.length
    · have hk2 : k < (K.freeTo ch ws k).length := by rw [hlk]; exact hkl
      have x0 := MK.out.wcell (i := k) hk2
      have eg : (K.freeTo ch ws k)[k] = ws[k] := by rw [K.freeTo_get ch ws k k hkl, if_neg (by omega)]
      simp only [eg] at x0
      have f0 := MK.out.wfrozen k
      have ES : Hid (K.freeTo ch ws (k + 1) = if Ln.placeIn (Ln.ints ch) ws[k] < 0 then (K.freeTo ch ws k).set k (-1) else K.freeTo ch ws k) := by
        have e0 : ws.getD k 0 = ws[k] := by simp [List.getD, hkl]
        have : K.freeTo ch ws (k + 1) = if Ln.placeIn (Ln.ints ch) (ws.getD k 0) < 0 then (K.freeTo ch ws k).set k (-1) else K.freeTo ch ws k := rfl
        rw [this, e0]
        exact hid rfl
      have hchk : IntsIn wr.heap.size wr ao (Ln.ints ch) := by
        intro i hi
        obtain ⟨b, o, ha, hl, hc⟩ := HCH.out i hi
        refine ⟨b, o, ha, Nat.lt_of_lt_of_le hl OK.out.size, ?_⟩
        have : wr.heap[b]? = w.heap[b]? := OK.out.block b hl (by simp; exact HNE.out _ ha)
        rw [World.cell?_of_block (w := w) this]
        exact hc
      have PO := hid (kPlaceOf_any wr ao ca (Ln.ints ch) ws[k] hchk (by rw [Ln.ints_length]; omega))
      rw [Ln.ints_length] at PO
      have PC := Ln.placeIn_cases (Ln.ints ch) ws[k]
      have hkI : (k : Int) < (ws.length : Int) := by omega
      clear hchk eg
      generalize ws[k] = y at *
      rcases PC with ⟨h1, _⟩ | ⟨i, hi, h1, _, _⟩
      · rw [h1] at PO ES
        rw [if_pos (by decide)] at ES
        have hm2 := MK.out.setW k (-1)
        have M2 := hid hm2
        have O2 : Hid (Only [h.gW] w (wr.setCell ⟨h.gW, k, none⟩ (.int .i64 (-1)))) := OK.out.setCell (.inl (by simp)) _
        clear hm2 h1
        go_wp2_with fail
        refine PO.out.mono ?_
        rintro e w1 ⟨rfl, hw1⟩
        have hw2 := hw1.symm
        subst hw2
        clear hw1
        go_wp2
        go_roundw
        case rel => exact ⟨k + 1, by omega, by go_num, by rw [ES.out]; exact M2.out, O2.out⟩
        case measure => simp [intOf]; omega
      · rw [h1] at PO ES
        rw [if_neg (by omega)] at ES
        have hine : ((i : Int) == -1) = false := by simp
        clear h1
        go_wp2_with fail
        refine PO.out.mono ?_
        rintro e w1 ⟨rfl, hw1⟩
        have hw2 := hw1.symm
        subst hw2
        clear hw1
        go_wp2
        go_roundw
        case rel => exact ⟨k + 1, by omega, by go_num, by rw [ES.out]; exact MK.out, OK.out⟩
        case measure => simp [intOf]; omega
    · have e : k = ws.length := by omega
      subst e
      go_wp2
      go_end0
      exact ⟨rfl, MK.out, OK.out⟩

set_option maxRecDepth 100000 in
set_option maxHeartbeats 2000000 in
theorem kGiveOut_any (m : KMem F w kb h s tk wt ws) (f : KFit s) (a : Ln.Aux s tk wt) (aw : AwOk s) (hw8 : ws.length ≤ 8) :
    Calls Try.prog 56 #[.pointer (some ⟨kb, 0, none⟩)] w fun e w' => e = .returned (.tuple #[]) ∧ KMem F w' kb h s tk wt (Ln.seatAll s tk ws) ∧ Only [h.gW] w w' := by
  have AO := hid (kAwakeInOrder_any m f.few f.ok f.m8 a aw)
  have hll : (Ln.awakeLine s tk).length ≤ 16 := by
    have h1 := Ln.byLv_length (R.Level s) (tk.filter (Ln.awakes s.T))
    have h2 := List.length_filter_le (Ln.awakes s.T) tk
    have := (a.few f.few).1
    unfold Ln.awakeLine
    omega
  have EG : Hid (Ln.seatAll s tk ws = ((Ln.awakeLine s tk).take ws.length).foldl Ln.seat (Ln.freed ((Ln.awakeLine s tk).take ws.length) ws)) := rfl
  have M := hid m
  have hgw := m.wT.lt
  clear m f a aw
  generalize Ln.seatAll s tk ws = res at *
  generalize Ln.awakeLine s tk = L at *
  go_enter Try.func56, Try.ntmps56
  go_wp2_with fail
  refine AO.out.mono ?_
  rintro e w1 ⟨v, rfl, hrow, hb1⟩
  have hrow' : w1.ownsRow w.heap.size 3 1 v (Ln.ints L).length (intCells (Ln.ints L)) := by rw [Ln.ints_length]; exact hrow
  obtain ⟨ao, ca, rfl, hnil, hin, hna⟩ := IntsIn.of_owns hrow'
  rw [Ln.ints_length] at *
  have hcap : L.length ≤ ca := by
    rcases hrow.2 with ⟨e, h0⟩ | ⟨g, cap, cur, e, _, _, h4, _⟩
    · omega
    · simp at e
      omega
  have M1 := hid (M.out.below hb1)
  have O1 : Hid (Only [h.gW] w w1) := Only.of_below hb1
  have HIN := hid hin
  have HNA := hid hna
  have hsz1 := hb1.size
  have c2 := M1.out.blk.cell 5
  simp [kCells] at c2
  clear AO hrow hrow' hin hna hb1 M
  have hgo : ∀ (ch : List Nat), ch = L.take ws.length → (ch.length ≤ 8 ∧ IntsIn w1.heap.size w1 ao (Ln.ints ch)) := by
    intro ch hc
    have hl : ch.length ≤ ws.length := by rw [hc]; simp; omega
    refine ⟨by omega, fun i hi => ?_⟩
    have hi1 : i < ch.length := by rw [Ln.ints_length] at hi; exact hi
    have hi2 : i < L.length := by rw [hc] at hi1; simp at hi1; omega
    obtain ⟨b, o, ha, hb, hcell⟩ := HIN.out i (by rw [Ln.ints_length]; exact hi2)
    refine ⟨b, o, ha, hb, ?_⟩
    have e : (Ln.ints ch)[i] = (Ln.ints L)[i]'(by rw [Ln.ints_length]; exact hi2) := by subst hc; simp [Ln.ints]
    rw [e]
    exact hcell
  have HGO := hid hgo
  clear hgo
  by_cases hlong : ws.length < L.length
  · have hlI : (ws.length : Int) < (L.length : Int) := by omega
    cases ao with
    | none => have := hnil rfl; omega
    | some ad =>
      obtain ⟨hch8, hchin⟩ := HGO.out _ rfl
      have FB := hid (kFreeAllBut_any M1.out hw8 (some ad) ca (L.take ws.length) hchin (by omega) (fun a ha => by obtain ⟨g, e, h1, _⟩ := HNA.out a ha; rw [e]; show g ≠ h.gW; omega))
      have HCI := hid hchin
      have hcl : (L.take ws.length).length = ws.length := by simp; omega
      rw [hcl] at FB
      have HCL := hid hcl
      clear hchin hcl HGO
      generalize L.take ws.length = ch at *
      go_wp2_with fail
      refine FB.out.mono ?_
      rintro e w2 ⟨rfl, hm2, ho2⟩
      have M2 := hid hm2
      have O2 := hid (O1.out.trans ho2)
      have O12 := hid ho2
      clear hm2 ho2 FB c2
      go_wp2
      go_loopw [27] (fun i wr => ∃ k : Nat, k ≤ ch.length ∧ i = .int .i64 k ∧ KMem F wr kb h s tk wt ((ch.take k).foldl Ln.seat (Ln.freed ch ws)) ∧ Only [h.gW] w1 wr) (fun i _ => ch.length - (intOf i).toNat)
      case atStart => exact ⟨0, Nat.zero_le _, rfl, M2.out, O12.out⟩
      case round =>
        obtain ⟨k, hk, rfl, hm, ho⟩ := hrel
        have MK := hid hm
        have OK := hid ho
        have hlk : ((ch.take k).foldl Ln.seat (Ln.freed ch ws)).length = ws.length := by rw [seats_length, freed_length]
        have c2 := hm.blk.cell 5
        simp [kCells] at c2
        rw [hlk] at c2
        have hcl2 := HCL.out
        clear hm ho
        by_cases hkl : k < ch.length
        · obtain ⟨b, o, ha, hb, hcell⟩ := HCI.out k (by rw [Ln.ints_length]; exact hkl)
          have e0 : (Ln.ints ch)[k]'(by rw [Ln.ints_length]; exact hkl) = (ch[k] : Int) := by simp [Ln.ints]
          rw [e0] at hcell
          cases ha
          have hbne : b ≠ h.gW := by
            obtain ⟨g, e, h1, _⟩ := HNA.out _ rfl
            cases e
            omega
          have hcell' : wr.cell? ⟨b, o + k, none⟩ = some (.int .i64 (ch[k] : Int)) := by
            rw [World.cell?_of_block (w := w1) (OK.out.block b hb (by simp; exact hbne))]
            exact hcell
          have ES : Hid ((ch.take (k + 1)).foldl Ln.seat (Ln.freed ch ws) = Ln.seat ((ch.take k).foldl Ln.seat (Ln.freed ch ws)) ch[k]) := by
            rw [List.take_succ_eq_append_getElem hkl, List.foldl_append]
            exact hid rfl
          clear hcell e0
          generalize (ch.take k).foldl Ln.seat (Ln.freed ch ws) = wsk at *
          generalize ch[k] = t at *
          have HIW : Hid (IntsIn wr.heap.size wr (some ⟨h.gW, 0, none⟩) wsk) := fun i hi => ⟨h.gW, 0, rfl, MK.out.wT.lt, by rw [Nat.zero_add]; exact MK.out.wcell (i := i) hi⟩
          have PO := hid (kPlaceOf_any wr (some ⟨h.gW, 0, none⟩) h.cW wsk (t : Int) HIW.out (by omega))
          rw [hlk] at PO
          have TW := hid (kTakeWorker_any MK.out t (by show wsk.length ≤ 8; omega))
          have PC := Ln.placeIn_cases wsk (t : Int)
          have ESE : Hid (Ln.seat wsk t = if Ln.placeIn wsk (t : Int) < 0 then (if Ln.placeIn wsk (-1) < 0 then wsk else wsk.set (Ln.placeIn wsk (-1)).toNat (t : Int)) else wsk) := rfl
          have hkI : (k : Int) < (ws.length : Int) := by omega
          clear HIW
          rcases PC with ⟨h1, _⟩ | ⟨i, hi, h1, _, _⟩
          · rw [h1] at PO ESE
            rw [if_pos (by decide)] at ESE
            clear h1
            go_wp2_with fail
            refine PO.out.mono ?_
            rintro e w3 ⟨rfl, hw3⟩
            have hw4 := hw3.symm
            subst hw4
            clear hw3
            go_wp2_with fail
            refine TW.out.mono ?_
            rintro e w4 ⟨rfl, hm4, ho4⟩
            have M4 := hid hm4
            have O4 := hid (OK.out.trans ho4)
            clear hm4 ho4
            go_wp2
            go_roundw
            case rel => exact ⟨k + 1, by omega, by go_num, by rw [ES.out, ESE.out]; exact M4.out, O4.out⟩
            case measure => simp [intOf]; omega
          · rw [h1] at PO ESE
            rw [if_neg (by omega)] at ESE
            have hine : ((i : Int) == -1) = false := by simp
            clear h1
            go_wp2_with fail
            refine PO.out.mono ?_
            rintro e w3 ⟨rfl, hw3⟩
            have hw4 := hw3.symm
            subst hw4
            clear hw3
            go_wp2
            go_roundw
            case rel => exact ⟨k + 1, by omega, by go_num, by rw [ES.out, ESE.out]; exact MK.out, OK.out⟩
            case measure => simp [intOf]; omega
        · have e : k = ch.length := by omega
          subst e
          have hge : (ws.length : Int) ≤ (ch.length : Int) := by omega
          go_wp2
          go_end0
          refine ⟨rfl, ?_, O1.out.trans OK.out⟩
          rw [EG.out]
          have := MK.out
          rw [List.take_length] at this
          exact this
  · have hlI : (L.length : Int) ≤ (ws.length : Int) := by omega
    obtain ⟨hch8, hchin⟩ := HGO.out _ rfl
    have FB := hid (kFreeAllBut_any M1.out hw8 ao ca (L.take ws.length) hchin (by omega) (fun a ha => by obtain ⟨g, e, h1, _⟩ := HNA.out a ha; rw [e]; show g ≠ h.gW; omega))
    have HCI := hid hchin
    have hcl : (L.take ws.length).length = L.length := by simp; omega
    rw [hcl] at FB
    have HCL := hid hcl
    clear hchin hcl HGO
    generalize L.take ws.length = ch at *
    go_wp2_with fail
    refine FB.out.mono ?_
    rintro e w2 ⟨rfl, hm2, ho2⟩
    have M2 := hid hm2
    have O2 := hid (O1.out.trans ho2)
    have O12 := hid ho2
    clear hm2 ho2 FB c2
    go_wp2
    go_loopw [27] (fun i wr => ∃ k : Nat, k ≤ ch.length ∧ i = .int .i64 k ∧ KMem F wr kb h s tk wt ((ch.take k).foldl Ln.seat (Ln.freed ch ws)) ∧ Only [h.gW] w1 wr) (fun i _ => ch.length - (intOf i).toNat)
    case atStart => exact ⟨0, Nat.zero_le _, rfl, M2.out, O12.out⟩
    case round =>
      obtain ⟨k, hk, rfl, hm, ho⟩ := hrel
      have MK := hid hm
      have OK := hid ho
      have hlk : ((ch.take k).foldl Ln.seat (Ln.freed ch ws)).length = ws.length := by rw [seats_length, freed_length]
      have c2 := hm.blk.cell 5
      simp [kCells] at c2
      rw [hlk] at c2
      have hcl2 := HCL.out
      clear hm ho
      by_cases hkl : k < ch.length
      · obtain ⟨b, o, ha, hb, hcell⟩ := HCI.out k (by rw [Ln.ints_length]; exact hkl)
        have e0 : (Ln.ints ch)[k]'(by rw [Ln.ints_length]; exact hkl) = (ch[k] : Int) := by simp [Ln.ints]
        rw [e0] at hcell
        cases ha
        have hbne : b ≠ h.gW := by
          obtain ⟨g, e, h1, _⟩ := HNA.out _ rfl
          cases e
          omega
        have hcell' : wr.cell? ⟨b, o + k, none⟩ = some (.int .i64 (ch[k] : Int)) := by
          rw [World.cell?_of_block (w := w1) (OK.out.block b hb (by simp; exact hbne))]
          exact hcell
        have ES : Hid ((ch.take (k + 1)).foldl Ln.seat (Ln.freed ch ws) = Ln.seat ((ch.take k).foldl Ln.seat (Ln.freed ch ws)) ch[k]) := by
          rw [List.take_succ_eq_append_getElem hkl, List.foldl_append]
          exact hid rfl
        clear hcell e0
        generalize (ch.take k).foldl Ln.seat (Ln.freed ch ws) = wsk at *
        generalize ch[k] = t at *
        have HIW : Hid (IntsIn wr.heap.size wr (some ⟨h.gW, 0, none⟩) wsk) := fun i hi => ⟨h.gW, 0, rfl, MK.out.wT.lt, by rw [Nat.zero_add]; exact MK.out.wcell (i := i) hi⟩
        have PO := hid (kPlaceOf_any wr (some ⟨h.gW, 0, none⟩) h.cW wsk (t : Int) HIW.out (by omega))
        rw [hlk] at PO
        have TW := hid (kTakeWorker_any MK.out t (by show wsk.length ≤ 8; omega))
        have PC := Ln.placeIn_cases wsk (t : Int)
        have ESE : Hid (Ln.seat wsk t = if Ln.placeIn wsk (t : Int) < 0 then (if Ln.placeIn wsk (-1) < 0 then wsk else wsk.set (Ln.placeIn wsk (-1)).toNat (t : Int)) else wsk) := rfl
        have hkI : (k : Int) < (L.length : Int) := by omega
        clear HIW
        rcases PC with ⟨h1, _⟩ | ⟨i, hi, h1, _, _⟩
        · rw [h1] at PO ESE
          rw [if_pos (by decide)] at ESE
          clear h1
          go_wp2_with fail
          refine PO.out.mono ?_
          rintro e w3 ⟨rfl, hw3⟩
          have hw4 := hw3.symm
          subst hw4
          clear hw3
          go_wp2_with fail
          refine TW.out.mono ?_
          rintro e w4 ⟨rfl, hm4, ho4⟩
          have M4 := hid hm4
          have O4 := hid (OK.out.trans ho4)
          clear hm4 ho4
          go_wp2
          go_roundw
          case rel => exact ⟨k + 1, by omega, by go_num, by rw [ES.out, ESE.out]; exact M4.out, O4.out⟩
          case measure => simp [intOf]; omega
        · rw [h1] at PO ESE
          rw [if_neg (by omega)] at ESE
          have hine : ((i : Int) == -1) = false := by simp
          clear h1
          go_wp2_with fail
          refine PO.out.mono ?_
          rintro e w3 ⟨rfl, hw3⟩
          have hw4 := hw3.symm
          subst hw4
          clear hw3
          go_wp2
          go_roundw
          case rel => exact ⟨k + 1, by omega, by go_num, by rw [ES.out, ESE.out]; exact MK.out, OK.out⟩
          case measure => simp [intOf]; omega
      · have e : k = ch.length := by omega
        subst e
        have hge : (L.length : Int) ≤ (ch.length : Int) := by omega
        go_wp2
        go_end0
        refine ⟨rfl, ?_, O1.out.trans OK.out⟩
        rw [EG.out]
        have := MK.out
        rw [List.take_length] at this
        exact this
end

end Go.Proofs.Ytbkfildnijjioab

/-
  'copy' of a whole list onto a list of the call's own that is as long.
-/
namespace Go.Proofs.Ytbkfildnijjioab
open Go.RowKit

theorem run_copy_full {P : Program} (w : World) (t ty e : TypeId) (i : TypeInfo) (size : Nat) (ht : P.underlying t = some (.slice e)) (hi : P.info? e = some i) (hsize : i.size = size)
    (g n cap : Nat) (cur : Array Value) (hg : w.heap[g]? = some (.cells cur e (0, 0))) (ad : Addr) (c : Nat) (news : List Value) (hl : news.length = n * size) (hnews : ∀ j u, news[j]? = some u → w.cell? (ad.add j) = some u)
    (hfit : news.length ≤ cur.size) (h1 : ∀ u ∈ news, u.oneCell' = true) :
    (Builtin.copy_ #[t, t] ty #[.slice (some ⟨g, 0, none⟩) n cap, .slice (some ad) n c]).run P w = .ok (goInt n) (w.setRow g (news ++ cur.toList.drop news.length).toArray) := by
  have hld := run_loadCells_list (P := P) w ad news hnews
  have hst := run_storeCells_at P g 0 e news 0 cur w hg (by simpa using hfit) h1
  simp only [Nat.zero_add, List.take_zero, List.nil_append] at hst
  subst hsize
  rw [hl] at hld hst
  rw [hl]
  simp [Builtin.copy_, run_underlying ht, Builtin.lenOf, Builtin.firstCells, sizeOf, typeInfo, hi, hld, hst]

theorem wpList_copy_full {P : Program} {w : World} {ops : Array Oper} {rest : List Oper} {o : Oper} {a : Act} {Q : Exit → Act → World → Prop} (hgd : o.guard = none) (d s : Operand) (t : TypeId)
    (ho : o.op = .call { callee := .builtin .copy, args := #[d, s], argTypes := #[t, t] })
    (base : Nat) (e : TypeId) (i : TypeInfo) (size : Nat) (ht : P.underlying t = some (.slice e)) (hi : P.info? e = some i) (hsize : i.size = size) (hsz : 0 < size)
    (g n cap : Nat) (xs : List Value) (hd : a.eval d = .slice (some ⟨g, 0, none⟩) n cap) (hown : w.ownsRow base e size (.slice (some ⟨g, 0, none⟩) n cap) n xs)
    (ao : Option Addr) (c : Nat) (news : List Value) (hs : a.eval s = .slice ao n c) (hl : news.length = n * size) (hnil : ao = none → c = 0)
    (hnews : ∀ j u, news[j]? = some u → ∃ ad, ao = some ad ∧ w.cell? (ad.add j) = some u) (h1 : ∀ u ∈ news, u.oneCell' = true)
    (h : ∀ w', w'.ownsRow base e size (.slice (some ⟨g, 0, none⟩) n cap) n news → w.grownBy w' (some g) → wpList P ops Q rest (a.put o.dst (goInt n)) w') : wpList P ops Q (o :: rest) a w := by
  rcases hown.2 with ⟨he, _⟩ | ⟨g', cap', cur, he, hbg, hg, hnc, hcm, hcs, htake⟩
  · cases he
  · simp only [Value.slice.injEq, Option.some.injEq, Addr.mk.injEq, and_true, true_and] at he
    obtain ⟨rfl, rfl⟩ := he
    refine wpList_plain hgd fun K hK => ?_
    cases ao with
    | none =>
      have hn0 : n = 0 := by
        rcases Nat.eq_zero_or_pos n with h0 | h0
        · exact h0
        · have hpos : 0 < news.length := by rw [hl]; exact Nat.mul_pos h0 hsz
          obtain ⟨ad, hh, _⟩ := hnews 0 news[0] (List.getElem?_eq_getElem hpos)
          cases hh
      subst hn0
      have hc := hnil rfl
      subst hc
      have hrun := run_copy_nil (P := P) w t t o.type e ⟨g, 0, none⟩ 0 cap ht (by rw [hi]; rfl)
      have hn : news = [] := List.eq_nil_of_length_eq_zero (by rw [hl, Nat.zero_mul])
      have hx : xs = [] := List.eq_nil_of_length_eq_zero (by rw [hown.1, Nat.zero_mul])
      unfold Oper.wp execOp
      simp only [ho, resolve, invoke, builtin, Sem.run_bind, Sem.run_pure, Result.andThen_ok, List.map_toArray, List.map_cons, List.map_nil, hs, hd, hrun]
      refine hK _ _ (h w ?_ ⟨rfl, rfl, rfl, Nat.le_refl _, fun _ _ _ => rfl⟩)
      rw [hn, ← hx]
      exact hown
    | some ad =>
      have hfit : news.length ≤ cur.size := by rw [hl, hcs]; exact Nat.mul_le_mul_right _ hnc
      have hrun := run_copy_full (P := P) w t o.type e i size ht hi hsize g n cap cur hg ad c news hl (fun j u hj => by obtain ⟨ad', hh, hcell⟩ := hnews j u hj; cases hh; exact hcell) hfit h1
      unfold Oper.wp execOp
      simp only [ho, resolve, invoke, builtin, Sem.run_bind, Sem.run_pure, Result.andThen_ok, List.map_toArray, List.map_cons, List.map_nil, hs, hd, hrun]
      refine hK _ _ (h _ ⟨hl, .inr ⟨g, cap, _, rfl, hbg, setRow_heap w g cur _ e _ hg, hnc, hcm, ?_, ?_⟩⟩ ⟨rfl, rfl, rfl, by simp, fun k _ hk => setRow_other w g k _ (fun e => hk (by simp [e]))⟩)
      · simp only [List.size_toArray, List.length_append, List.length_drop, Array.length_toList]
        omega
      · rw [← hl]
        exact List.take_left
end Go.Proofs.Ytbkfildnijjioab

/-
  Walks over package donateref: on, free, rank.
-/
namespace Go.Proofs.Ytbkfildnijjioab
open Go.RowKit
theorem ahead_of {l : List Int} {T : List RT} {t k : Nat} {x y : RT} {lk lt : Int} (hx : R.th T k = x) (hy : R.th T t = y) (hk : l.getD k 0 = lk) (hl : l.getD t 0 = lt) :
    R.ahead l T t k = (x.awake && (decide (lt < lk) || (decide (lk = lt) && decide (x.tick < y.tick)))) := by
  unfold R.ahead
  rw [hx, hy, hk, hl]
end Go.Proofs.Ytbkfildnijjioab

/-
  Walks over package donateref: Level, levels.
-/
namespace Go.Proofs.Ytbkfildnijjioab
open Go.RowKit
theorem intCells_append (l : List Int) (z : Int) : intCells (l ++ [z]) = intCells l ++ [.int .i64 z] := by simp [intCells]
theorem levels_succ (s : RS) (k : Nat) : (List.range (k + 1)).map (R.Level s) = (List.range k).map (R.Level s) ++ [R.Level s k] := by simp [List.range_succ]
end Go.Proofs.Ytbkfildnijjioab
