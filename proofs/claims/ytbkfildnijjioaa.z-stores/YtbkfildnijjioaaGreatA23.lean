import Derived.Test.YtbkfildnijjioaaGreatA10
import Derived.Test.YtbkfildnijjioaaGreatA22
import Derived.Test.YtbkfildnijjioaaGreatA11
import Derived.Test.YtbkfildnijjioaaGreatA12
import Derived.Test.YtbkfildnijjioaaGreatA16
/-
  The law's own functions, over any program whose kernel stands for the document's: what can be seen.
-/
namespace Go.Proofs.YtbkfildnijjioaaGreat
open Go.RowKit
namespace R
end R
/-- A kernel of the program beside the document's, both of which stand for s; B: from where on they lie. -/
structure LK (PK : KP) (B : Nat) (w : World) (bb kb sb : Nat) (P Q : Nat → Prop) (s : RS) : Prop where
  blk : Blk w bb #[.pointer (some ⟨kb, 0, none⟩), .pointer (some ⟨sb, 0, none⟩)] 87
  pk : PK P w kb s
  rk : RK Q w sb s
  ap : ∀ b, P b → ¬ Q b
  np : ¬ P bb
  nq : ¬ Q bb
  hp : ∀ b, P b → B ≤ b
  hq : ∀ b, Q b → B ≤ b
  hb : B ≤ bb
theorem LK.below {PK : KP} (f : KFrame PK) {B : Nat} {w w' : World} {bb kb sb : Nat} {P Q : Nat → Prop} {s : RS} (l : LK PK B w bb kb sb P Q s) (hb : Below w.heap.size w w') : LK PK B w' bb kb sb P Q s := by
  refine ⟨?_, f.below l.pk hb, l.rk.below hb, l.ap, l.np, l.nq, l.hp, l.hq, l.hb⟩
  have h1 := l.blk
  have hl := l.blk.lt
  unfold Blk at h1 ⊢
  rw [hb.block bb hl]
  exact h1
section
variable {PK : KP} {B : Nat} {w : World} {bb kb sb : Nat} {P Q : Nat → Prop} {s : RS}
set_option maxHeartbeats 400000 in
theorem lRunning_any (f : KFrame PK) (c : CRunning PK) (l : LK PK B w bb kb sb P Q s) :
    Calls Tryz.prog 47 #[.pointer (some ⟨bb, 0, none⟩)] w fun e w' => e = .returned (.bool true) ∧ Below w.heap.size w w' := by
  have c0 := l.blk.cell 0
  simp at c0
  have L := hid l
  have hn : s.set.workers = (s.set.workers.toNat : Int) := by have := l.rk.inv.good.wk0; omega
  have HN := hid hn
  have hw8 := l.rk.inv.good.wk1
  clear l hn
  go_enter Tryz.func47, Tryz.ntmps47
  go_wp2_with fail
  refine (c P w kb s L.out.pk).mono ?_
  rintro e w1 ⟨v, rfl, ho1, hb1⟩
  have L1 := hid (L.out.below f hb1)
  obtain ⟨ao, ca, rfl, _, hi1, _⟩ := IntsIn.of_owns ho1
  have c1 := L1.out.blk.cell 1
  simp at c1
  have HI1 := hid hi1
  have HB1 := hid hb1
  clear ho1 hi1 hb1 c0
  obtain ⟨F, h, m, _, _⟩ := L1.out.rk.mem
  have M := hid m
  clear m
  go_wp2_with fail
  refine (rRunning_any F w1 sb h s M.out L1.out.rk.inv.good s.set.workers.toNat HN.out).mono ?_
  rintro e w2 ⟨v, rfl, ho2, hb2⟩
  rw [← running_len s] at ho2
  obtain ⟨bo, cb, rfl, _, hi2, _⟩ := IntsIn.of_owns ho2
  have HI2 := hid hi2
  have HI1' := hid (HI1.out.on hb2)
  have HB2 := hid (via HB1.out HB1.out.size hb2)
  clear ho2 hi2 hb2
  go_wp2_with fail
  refine (sameInts_eq w2 ao bo ca cb (R.running s) HI1'.out HI2.out (by rw [running_len]; omega)).mono ?_
  rintro e w3 ⟨rfl, n, rfl⟩
  go_wp2
  go_ret
  exact ⟨rfl, bdrewN HB2.out n⟩
set_option maxHeartbeats 400000 in
theorem lClock_any (f : KFrame PK) (cn : CNow PK) (cm : CMisses PK) (l : LK PK B w bb kb sb P Q s) :
    Calls Tryz.prog 46 #[.pointer (some ⟨bb, 0, none⟩)] w fun e w' => e = .returned (.bool true) ∧ Below w.heap.size w w' := by
  have c0 := l.blk.cell 0
  simp at c0
  have L := hid l
  have hmis : s.missed.length ≤ 16000000000 := by
    have := l.rk.inv.mis
    have := l.rk.inv.good.now0
    have := l.rk.inv.good.now2
    omega
  clear l
  go_enter Tryz.func46, Tryz.ntmps46
  go_wp2_with fail
  refine (cn P w kb s L.out.pk).mono ?_
  rintro e w1 ⟨rfl, hb1⟩
  have L1 := hid (L.out.below f hb1)
  have c0 := L1.out.blk.cell 0
  simp at c0
  have HB1 := hid hb1
  clear hb1
  go_wp2_with fail
  refine (cm P w1 kb s L1.out.pk).mono ?_
  rintro e w2 ⟨v, rfl, ho2, hb2⟩
  have L2 := hid (L1.out.below f hb2)
  obtain ⟨ao, ca, rfl, _, hi2⟩ := MissesIn.of_owns ho2
  have c1 := L2.out.blk.cell 1
  simp at c1
  have HI2 := hid hi2
  have HB2 := hid (via HB1.out HB1.out.size hb2)
  clear ho2 hi2 hb2 c0
  obtain ⟨F, h, m, _, _⟩ := L2.out.rk.mem
  obtain ⟨bo, cb, hvM, _, hi3⟩ := MissesIn.of_owns m.oth.mis
  have c12 := m.blk.cell 12
  have c6 := m.blk.cell 6
  simp [rsCells] at c12 c6
  rw [hvM] at c12
  have HI3 := hid hi3
  clear m hvM hi3
  go_wp2_with fail
  refine (sameMisses_eq w2 ao bo ca cb s.missed HI2.out HI3.out (by omega)).mono ?_
  rintro e w3 ⟨rfl, n, rfl⟩
  go_wp2
  go_ret
  refine ⟨?_, bdrewN HB2.out n⟩
  simp
theorem rLookAll_any (F : Nat → Prop) (w : World) (sb : Nat) (h : RH) (s : RS) (m : RMem F w sb h s) (g : RGood s) (t : Int) :
    Calls Tryz.prog 87 #[.pointer (some ⟨sb, 0, none⟩), .int .i64 t] w fun e w' => e = .returned (.tuple #[R.lookV s t, .int .i64 (R.lookE s t)]) ∧ Below w.heap.size w w' := by
  unfold R.lookV R.lookE
  by_cases ht : 0 ≤ t ∧ t < s.T.length
  · rw [if_pos ht, if_pos ht]
    obtain ⟨n, rfl⟩ := Int.eq_ofNat_of_zero_le ht.1
    have hn : n < s.T.length := by omega
    have e : R.th s.T (Int.toNat (n : Int)) = s.T[n] := by simp [R.th, List.getD, hn]
    rw [e]
    exact rLook_any F w sb h s m g n hn
  · rw [if_neg ht, if_neg ht]
    exact rLook_not F w sb h s m t (by omega)
set_option maxHeartbeats 1000000 in
theorem lLook_any (f : KFrame PK) (cl : CLook PK) (l : LK PK B w bb kb sb P Q s) (t : Int) :
    Calls Tryz.prog 43 #[.pointer (some ⟨bb, 0, none⟩), .int .i64 t] w fun e w' => e = .returned (.bool true) ∧ Below w.heap.size w w' := by
  have c0 := l.blk.cell 0
  simp at c0
  have L := hid l
  have C1 := hid (cl P w kb s l.pk t)
  have C2 := hid (fun F wx h m => rLookAll_any F wx sb h s m l.rk.inv.good t)
  obtain ⟨v0, v1, v2, v3, v4, v5, v6, v7, v8, v9, v10, hv⟩ := lookV_shape s t
  rw [hv] at C1 C2
  generalize R.lookE s t = er at *
  clear l hv
  go_enter Tryz.func43, Tryz.ntmps43
  go_wp2_with fail
  refine C1.out.mono ?_
  rintro e w1 ⟨rfl, hb1⟩
  have L1 := hid (L.out.below f hb1)
  have HB1 := hid hb1
  clear hb1 c0
  go_upto_region 2 with fail
  have hbA : Below w1.heap.size w1 (w1.alloc (.cells #[.int .i64 v0, .int .i64 v1, .int .i64 v2, .int .i64 v3, .int .i64 v4, .int .i64 v5, .int .i64 v6, .int .i64 v7, .int .i64 v8, .int .i64 v9, .int .i64 v10] 133)) := (Below.refl _ _).alloc (Nat.le_refl _) _
  have bA : Blk (w1.alloc (.cells #[.int .i64 v0, .int .i64 v1, .int .i64 v2, .int .i64 v3, .int .i64 v4, .int .i64 v5, .int .i64 v6, .int .i64 v7, .int .i64 v8, .int .i64 v9, .int .i64 v10] 133)) w1.heap.size #[.int .i64 v0, .int .i64 v1, .int .i64 v2, .int .i64 v3, .int .i64 v4, .int .i64 v5, .int .i64 v6, .int .i64 v7, .int .i64 v8, .int .i64 v9, .int .i64 v10] 133 := Blk.new _ _ _
  generalize w1.alloc (.cells #[.int .i64 v0, .int .i64 v1, .int .i64 v2, .int .i64 v3, .int .i64 v4, .int .i64 v5, .int .i64 v6, .int .i64 v7, .int .i64 v8, .int .i64 v9, .int .i64 v10] 133) = wA at hbA bA ⊢
  have LA := hid (L1.out.below f hbA)
  have HBA := hid (via HB1.out HB1.out.size hbA)
  have BA := hid bA
  clear hbA bA
  have c1 := LA.out.blk.cell 1
  simp at c1
  obtain ⟨F, h, m, _, _⟩ := LA.out.rk.mem
  have C3 := hid (C2.out F wA h m)
  clear m C2 C1
  go_wp2_with fail
  refine C3.out.mono ?_
  rintro e w2 ⟨rfl, hb2⟩
  have B2 := hid (show Blk w2 w1.heap.size #[.int .i64 v0, .int .i64 v1, .int .i64 v2, .int .i64 v3, .int .i64 v4, .int .i64 v5, .int .i64 v6, .int .i64 v7, .int .i64 v8, .int .i64 v9, .int .i64 v10] 133 from by
    have h1 := BA.out
    have hl := BA.out.lt
    unfold Blk at h1 ⊢
    rw [hb2.block _ hl]
    exact h1)
  have HB2 := hid (via HBA.out HBA.out.size hb2)
  have hsz2 := hb2.size
  have hlt2 := B2.out.lt
  clear hb2 c1
  have x0 := B2.out.cell 0
  have x1 := B2.out.cell 1
  have x2 := B2.out.cell 2
  have x3 := B2.out.cell 3
  have x4 := B2.out.cell 4
  have x5 := B2.out.cell 5
  have x6 := B2.out.cell 6
  have x7 := B2.out.cell 7
  have x8 := B2.out.cell 8
  have x9 := B2.out.cell 9
  have x10 := B2.out.cell 10
  simp at x0 x1 x2 x3 x4 x5 x6 x7 x8 x9 x10
  go_wp2_with fail
  refine (sameView_eq _ v0 v1 v2 v3 v4 v5 v6 v7 v8 v9 v10).mono ?_
  rintro e w3 ⟨rfl, hb3⟩
  have HB3 := hid (via (HB2.out.alloc HB2.out.size _) (by have := HB2.out.size; simp; omega) hb3)
  clear hb3 x0 x1 x2 x3 x4 x5 x6 x7 x8 x9 x10
  go_wp2
  go_ret
  exact ⟨by simp, HB3.out⟩
set_option maxHeartbeats 1000000 in
theorem lLooks_any (f : KFrame PK) (cl : CLook PK) (l : LK PK B w bb kb sb P Q s) :
    Calls Tryz.prog 48 #[.pointer (some ⟨bb, 0, none⟩)] w fun e w' => e = .returned (.bool true) ∧ Below w.heap.size w w' := by
  have L := hid l
  have hfew := l.rk.inv.good.few
  clear l
  go_enter Tryz.func48, Tryz.ntmps48
  go_wp2
  go_loopw [3] (fun i wr => ∃ k : Nat, k ≤ s.T.length + 2 ∧ i = .int .i64 ((k : Int) - 1) ∧ Below w.heap.size w wr) (fun i _ => s.T.length + 2 - ((intOf i) + 1).toNat)
  case atStart => exact ⟨0, by omega, rfl, Below.refl _ _⟩
  case round =>
    obtain ⟨k, hk, rfl, hb⟩ := hrel
    have LK := hid (L.out.below f hb)
    have HB := hid hb
    clear hb
    have c1 := LK.out.blk.cell 1
    simp at c1
    obtain ⟨F, h, m, _, _⟩ := LK.out.rk.mem
    have c8 := m.blk.cell 8
    simp [rsCells] at c8
    clear m
    by_cases hlt : k < s.T.length + 2
    · have hle : ((k : Int) - 1) ≤ (s.T.length : Int) := by omega
      go_wp2_with fail
      refine (lLook_any f cl LK.out ((k : Int) - 1)).mono ?_
      rintro e w1 ⟨rfl, hb1⟩
      have HB1 := hid (via HB.out HB.out.size hb1)
      clear hb1 c1 c8
      go_wp2
      go_roundw
      case rel => exact ⟨k + 1, by omega, by go_num, HB1.out⟩
      case measure => simp [intOf]; omega
    · have hgt : (s.T.length : Int) < (k : Int) - 1 := by omega
      go_wp2
      go_ret
      exact ⟨rfl, HB.out⟩
end
end Go.Proofs.YtbkfildnijjioaaGreat

/-
  The law's own functions, over any program whose kernel stands for the document's: steps.
-/
namespace Go.Proofs.YtbkfildnijjioaaGreat
open Go.RowKit

theorem Turns.below {P : Nat → Prop} {B : Nat} {w w' : World} (h : Turns P w w') (hB : B ≤ w.heap.size) (hp : ∀ b, P b → B ≤ b) : Below B w w' :=
  ⟨h.os, h.tape, h.output, h.size, fun b hb => h.block b (by omega) (fun e => by have := hp b e; omega)⟩
theorem blk_turns {P : Nat → Prop} {w w' : World} {b : Nat} {cs : Array Value} {e : TypeId} (h : Blk w b cs e) (t : Turns P w w') (hn : ¬ P b) : Blk w' b cs e := by
  have h1 := h
  unfold Blk at h1 ⊢
  rw [t.block b h.lt hn]
  exact h1
theorem ints_turns {P : Nat → Prop} {w w' : World} {e : TypeId} {size n N : Nat} {v : Value} {xs : List Value} (h : w.ownsRow N e size v n xs) (t : Turns P w w') (hn : ∀ b, v.ownBlock = some b → ¬ P b) : w'.ownsRow N e size v n xs :=
  ownsRow_same h fun g hg => t.block g (ownsRow_block h hg).2.1 (hn g hg)

/-- Which answers a statement holds. -/
def Holds (hd : Int) : Prop := hd = 1 ∨ hd = 4 ∨ hd = 8 ∨ hd = 13 ∨ hd = 14 ∨ hd = 15 ∨ hd = 31 ∨ hd = 32

section
variable {PK : KP} {B : Nat} {w : World} {bb kb sb : Nat} {P Q : Nat → Prop} {s : RS}

/-- The program has moved. -/
theorem LK.prog (_f : KFrame PK) (l : LK PK B w bb kb sb P Q s) {w1 : World} {s' : RS} {P' : Nat → Prop} (pk : PK P' w1 kb s') (hs : ∀ b, P' b → P b ∨ w.heap.size ≤ b) (t : Turns P w w1) :
    Blk w1 bb #[.pointer (some ⟨kb, 0, none⟩), .pointer (some ⟨sb, 0, none⟩)] 87 ∧ PK P' w1 kb s' ∧ RK Q w1 sb s ∧ (∀ b, P' b → ¬ Q b) ∧ ¬ P' bb ∧ ¬ Q bb := by
  refine ⟨blk_turns l.blk t l.np, pk, l.rk.frame (fun b hb => t.block b (l.rk.lt b hb) (fun e => l.ap b e hb)) t.size, fun b hb hq => ?_, fun hb => ?_, l.nq⟩
  · rcases hs b hb with h1 | h1
    · exact l.ap b h1 hq
    · have := l.rk.lt b hq
      omega
  · rcases hs bb hb with h1 | h1
    · exact l.np h1
    · have := l.blk.lt
      omega

set_option maxHeartbeats 1000000 in
theorem lPicks_any (f : KFrame PK) (cp : CPick PK) (l : LK PK B w bb kb sb P Q s) (hB : B ≤ w.heap.size) (hnx : s.next ≤ 4611686018427386000) (wk hd : Int) (hh : Holds hd) :
    Calls Tryz.prog 52 #[.pointer (some ⟨bb, 0, none⟩), .int .i64 wk, .int .i64 hd] w fun e w' => e = .returned (.bool true) ∧ (∃ P' Q', LK PK B w' bb kb sb P' Q' (R.pickS s wk)) ∧ Below B w w' := by
  have c0 := l.blk.cell 0
  simp at c0
  have L := hid l
  have C1 := hid (cp P w kb s l.pk hnx wk)
  have C2 := hid (fun Q' wx (k : RK Q' wx sb s) => rkPick_any Q' wx sb s k wk hnx)
  generalize R.pickT s wk = rt at *
  generalize R.pickA s wk = ra at *
  generalize R.pickC s wk = rc at *
  generalize R.pickE s wk = re at *
  generalize R.pickS s wk = s' at *
  clear l
  go_enter Tryz.func52, Tryz.ntmps52
  go_wp2_with fail
  refine C1.out.mono ?_
  rintro e w1 ⟨rfl, P', pk1, hs1, t1⟩
  have PR := hid (L.out.prog f pk1 hs1 t1)
  have HS1 := hid hs1
  have T1 := hid t1
  have hsz1 := t1.size
  have hb1 := hid (t1.below hB L.out.hp)
  clear pk1 hs1 t1 c0 C1
  go_upto_region 2 with fail
  have bA : Blk (w1.alloc (.cells #[.int .i64 rt, .int .i64 ra, .int .i64 rc] 72)) w1.heap.size #[.int .i64 rt, .int .i64 ra, .int .i64 rc] 72 := Blk.new _ _ _
  have hbA : Below w1.heap.size w1 (w1.alloc (.cells #[.int .i64 rt, .int .i64 ra, .int .i64 rc] 72)) := (Below.refl _ _).alloc (Nat.le_refl _) _
  have hszA : (w1.alloc (.cells #[.int .i64 rt, .int .i64 ra, .int .i64 rc] 72)).heap.size = w1.heap.size + 1 := by simp
  generalize w1.alloc (.cells #[.int .i64 rt, .int .i64 ra, .int .i64 rc] 72) = wA at bA hbA hszA ⊢
  have BA := hid bA
  have HBA := hid hbA
  have bbA : Blk wA bb #[.pointer (some ⟨kb, 0, none⟩), .pointer (some ⟨sb, 0, none⟩)] 87 := by
    have h1 := PR.out.1
    have hl := PR.out.1.lt
    unfold Blk at h1 ⊢
    rw [hbA.block bb hl]
    exact h1
  have BBA := hid bbA
  have c1 := bbA.cell 1
  simp at c1
  have PKA := hid (f.below PR.out.2.1 hbA)
  have RKA := hid (PR.out.2.2.1.below hbA)
  clear bA hbA bbA
  go_wp2_with fail
  refine (C2.out Q wA RKA.out).mono ?_
  rintro e w2 ⟨rfl, Q', rk2, hs2, t2⟩
  have RK2 := hid rk2
  have PK2 := hid (f.frame PKA.out (fun b hb => t2.block b (f.lt PKA.out b hb) (PR.out.2.2.2.1 b hb)) t2.size)
  have BB2 := hid (blk_turns BBA.out t2 L.out.nq)
  have hnq1 : ¬ Q w1.heap.size := fun hq => by have := L.out.rk.lt _ hq; omega
  have BR2 := hid (blk_turns BA.out t2 hnq1)
  have hsz2 := t2.size
  have hb2 := hid (t2.below (B := B) (by omega) L.out.hq)
  have HS2 := hid hs2
  have hlt2 := BR2.out.lt
  clear rk2 hs2 t2 c1
  have x0 := BR2.out.cell 0
  have x1 := BR2.out.cell 1
  have x2 := BR2.out.cell 2
  simp at x0 x1 x2
  have hfin : ∀ w3, Below w2.heap.size w2 w3 → (∃ P' Q', LK PK B w3 bb kb sb P' Q' s') ∧ Below B w w3 := by
    intro w3 hb3
    refine ⟨⟨P', Q', ?_, f.below PK2.out hb3, RK2.out.below hb3, fun b hb hq => ?_, PR.out.2.2.2.2.1, fun hq => ?_, fun b hb => ?_, fun b hb => ?_, L.out.hb⟩, ?_⟩
    · have h1 := BB2.out
      have hl := BB2.out.lt
      unfold Blk at h1 ⊢
      rw [hb3.block bb hl]
      exact h1
    · rcases HS2.out b hq with h1 | h1
      · exact PR.out.2.2.2.1 b hb h1
      · have := f.lt PKA.out b hb
        omega
    · rcases HS2.out bb hq with h1 | h1
      · exact L.out.nq h1
      · have := BBA.out.lt
        omega
    · rcases HS1.out b hb with h1 | h1
      · exact L.out.hp b h1
      · omega
    · rcases HS2.out b hb with h1 | h1
      · exact L.out.hq b h1
      · omega
    · exact hb1.out.trans (((HBA.out.mono (by omega))).trans (hb2.out.trans (hb3.mono (by omega))))
  have FIN := hid hfin
  clear hfin
  go_wp2_with fail
  refine (sameReport_eq _ rt ra rc).mono ?_
  rintro e w3 ⟨rfl, hb3⟩
  have HB3 := hid (via ((Below.refl w2.heap.size w2).alloc (Nat.le_refl _) _) (by simp) hb3)
  clear hb3 x0 x1 x2
  rcases hh with rfl | rfl | rfl | rfl | rfl | rfl | rfl | rfl
  all_goals
    go_wp2
    go_ret
    exact ⟨by simp, FIN.out _ HB3.out⟩
theorem rkTick2_any (Q : Nat → Prop) (w : World) (sb : Nat) (s : RS) (k : RK Q w sb s) (hnx : s.next ≤ 4611686018427386000) :
    Calls Tryz.prog 29 #[.pointer (some ⟨sb, 0, none⟩)] w fun e w' =>
      ∃ l Q', e = .returned (.tuple #[l, .int .i64 (R.tickE s)]) ∧ w'.ownsRow w.heap.size 95 3 l (R.tickL s).length (missCells (R.tickL s)) ∧ RK Q' w' sb (R.tickS s) ∧
        (∀ b, Q' b → Q b ∨ w.heap.size ≤ b) ∧ (∀ b, l.ownBlock = some b → ¬ Q' b) ∧ Turns Q w w' := by
  refine (rkTick_any Q w sb s k hnx).mono ?_
  rintro e w' (⟨h1, rfl, rfl⟩ | ⟨h1, l, Q', rfl, r⟩)
  · have e1 : R.tickS s = s := by unfold R.tickS; rw [if_pos h1]
    have e2 : R.tickE s = 8 := by unfold R.tickE; rw [if_pos h1]
    have e3 : R.tickL s = [] := by unfold R.tickL; rw [if_pos h1]
    rw [e1, e2, e3]
    exact ⟨_, Q, rfl, World.ownsRow_nil _ _ _ _, k, fun b hb => .inl hb, fun b hb => (by cases hb), Turns.refl _ _⟩
  · have hn : ¬ s.now = 1000000000 := by omega
    have e1 : R.tickS s = R.tick s := by unfold R.tickS; rw [if_neg hn]
    have e2 : R.tickE s = 0 := by unfold R.tickE; rw [if_neg hn]
    have e3 : R.tickL s = R.late (R.ticked s) := by unfold R.tickL; rw [if_neg hn]
    rw [e1, e2, e3]
    exact ⟨l, Q', rfl, r⟩
theorem tickL_len (s : RS) (h : s.T.length ≤ 16) : (R.tickL s).length ≤ 16 := by
  unfold R.tickL
  split
  · simp
  · have := R.lateTo_len (R.ticked s) (R.ticked s).T.length
    have e : (R.ticked s).T.length = s.T.length := rfl
    unfold R.late
    omega

set_option maxHeartbeats 1000000 in
theorem lTicks_any (f : KFrame PK) (ct : CTick PK) (l : LK PK B w bb kb sb P Q s) (hB : B ≤ w.heap.size) (hnx : s.next ≤ 4611686018427386000) (hd : Int) (hh : Holds hd) :
    Calls Tryz.prog 51 #[.pointer (some ⟨bb, 0, none⟩), .int .i64 hd] w fun e w' => e = .returned (.bool true) ∧ (∃ P' Q', LK PK B w' bb kb sb P' Q' (R.tickS s)) ∧ Below B w w' := by
  have c0 := l.blk.cell 0
  simp at c0
  have L := hid l
  have C1 := hid (ct P w kb s l.pk hnx)
  have C2 := hid (fun Q' wx (k : RK Q' wx sb s) => rkTick2_any Q' wx sb s k hnx)
  have hln := tickL_len s l.rk.inv.good.few
  generalize R.tickE s = re at *
  generalize R.tickL s = rl at *
  generalize R.tickS s = s' at *
  clear l
  go_enter Tryz.func51, Tryz.ntmps51
  go_wp2_with fail
  refine C1.out.mono ?_
  rintro e w1 ⟨v1, P', rfl, ho1, pk1, hs1, hn1, t1⟩
  have PR := hid (L.out.prog f pk1 hs1 t1)
  have HS1 := hid hs1
  have hsz1 := t1.size
  have hb1 := hid (t1.below hB L.out.hp)
  obtain ⟨ao, ca, rfl, _, _⟩ := MissesIn.of_owns ho1
  have OW1 := hid ho1
  clear pk1 hs1 t1 c0 C1 ho1
  have c1 := PR.out.1.cell 1
  simp at c1
  go_wp2_with fail
  refine (C2.out Q w1 PR.out.2.2.1).mono ?_
  rintro e w2 ⟨v2, Q', rfl, ho2, rk2, hs2, hn2, t2⟩
  have RK2 := hid rk2
  have PK2 := hid (f.frame PR.out.2.1 (fun b hb => t2.block b (f.lt PR.out.2.1 b hb) (PR.out.2.2.2.1 b hb)) t2.size)
  have BB2 := hid (blk_turns PR.out.1 t2 L.out.nq)
  have ow1 := ints_turns OW1.out t2 (fun b hb hq => by have := (ownsRow_block OW1.out hb).1; have := L.out.rk.lt b hq; omega)
  obtain ⟨ao', ca', e1, _, hi1⟩ := MissesIn.of_owns ow1
  cases e1
  obtain ⟨bo, cb, rfl, _, hi2⟩ := MissesIn.of_owns ho2
  have HI1 := hid hi1
  have HI2 := hid hi2
  have hsz2 := t2.size
  have hb2 := hid (t2.below (B := B) (by omega) L.out.hq)
  have HS2 := hid hs2
  clear rk2 hs2 t2 c1 ow1 hi1 hi2 ho2 hn2
  have hfin : ∀ w3, Below w2.heap.size w2 w3 → (∃ P' Q', LK PK B w3 bb kb sb P' Q' s') ∧ Below B w w3 := by
    intro w3 hb3
    refine ⟨⟨P', Q', ?_, f.below PK2.out hb3, RK2.out.below hb3, fun b hb hq => ?_, PR.out.2.2.2.2.1, fun hq => ?_, fun b hb => ?_, fun b hb => ?_, L.out.hb⟩, ?_⟩
    · have h1 := BB2.out
      have hl := BB2.out.lt
      unfold Blk at h1 ⊢
      rw [hb3.block bb hl]
      exact h1
    · rcases HS2.out b hq with h1 | h1
      · exact PR.out.2.2.2.1 b hb h1
      · have := f.lt PR.out.2.1 b hb
        omega
    · rcases HS2.out bb hq with h1 | h1
      · exact L.out.nq h1
      · have := PR.out.1.lt
        omega
    · rcases HS1.out b hb with h1 | h1
      · exact L.out.hp b h1
      · omega
    · rcases HS2.out b hb with h1 | h1
      · exact L.out.hq b h1
      · omega
    · exact hb1.out.trans (hb2.out.trans (hb3.mono (by omega)))
  have FIN := hid hfin
  clear hfin
  go_wp2_with fail
  refine (sameMisses_eq w2 ao bo ca cb rl HI1.out HI2.out (by omega)).mono ?_
  rintro e w3 ⟨rfl, n, rfl⟩
  have HB3 := hid (bdrewN (Below.refl w2.heap.size w2) n)
  generalize w2.drewN n = w3 at *
  rcases hh with rfl | rfl | rfl | rfl | rfl | rfl | rfl | rfl
  all_goals
    go_wp2
    go_ret
    exact ⟨by simp, FIN.out _ HB3.out⟩

end

end Go.Proofs.YtbkfildnijjioaaGreat

/-
  The law's own functions, over any program: owners, counts, messages, who waits.
-/
namespace Go.Proofs.YtbkfildnijjioaaGreat
open Go.RowKit
namespace R
end R
section
variable {PK : KP} {B : Nat} {w : World} {bb kb sb : Nat} {P Q : Nat → Prop} {s : RS}
set_option maxHeartbeats 1000000 in
theorem lOwner_any (f : KFrame PK) (c : COwner PK) (l : LK PK B w bb kb sb P Q s) (m : Int) :
    Calls Tryz.prog 44 #[.pointer (some ⟨bb, 0, none⟩), .int .i64 m] w fun e w' => e = .returned (.bool true) ∧ Below w.heap.size w w' := by
  have c0 := l.blk.cell 0
  simp at c0
  have L := hid l
  have C1 := hid (c P w kb s l.pk m)
  have hol : s.owner.length ≤ 8 := by have := l.rk.inv.good.own; have := l.rk.inv.good.mfew; omega
  clear l
  by_cases hm : 0 ≤ m ∧ m < s.owner.length
  · have e1 : R.ownerV s m = s.owner.getD m.toNat 0 := by unfold R.ownerV; rw [if_pos hm]
    have e2 : R.ownerE s m = 0 := by unfold R.ownerE; rw [if_pos hm]
    rw [e1, e2] at C1
    obtain ⟨hm0, hm1⟩ := hm
    obtain ⟨k, rfl⟩ := Int.eq_ofNat_of_zero_le hm0
    have hk : k < s.owner.length := by omega
    have e3 : s.owner.getD (Int.toNat (k : Int)) 0 = s.owner[k] := by simp [List.getD, hk]
    rw [e3] at C1
    clear e1 e2 e3
    go_enter Tryz.func44, Tryz.ntmps44
    go_wp2_with fail
    refine C1.out.mono ?_
    rintro e w1 ⟨rfl, hb1⟩
    have L1 := hid (L.out.below f hb1)
    have c1 := L1.out.blk.cell 1
    simp at c1
    obtain ⟨F, h, m, _, _⟩ := L1.out.rk.mem
    obtain ⟨go, co, hvO, hco, _⟩ := m.ownAt (by omega)
    have c9 := m.blk.cell 9
    simp [rsCells] at c9
    rw [hvO] at c9
    have ck := hco k hk
    have HB := hid hb1
    clear m hvO hco hb1 c0
    generalize s.owner[k] = ok at *
    go_wp2
    go_ret
    exact ⟨by simp, HB.out⟩
  · have e1 : R.ownerV s m = 0 := by unfold R.ownerV; rw [if_neg hm]
    have e2 : R.ownerE s m = 7 := by unfold R.ownerE; rw [if_neg hm]
    rw [e1, e2] at C1
    clear e1 e2
    go_enter Tryz.func44, Tryz.ntmps44
    go_wp2_with fail
    refine C1.out.mono ?_
    rintro e w1 ⟨rfl, hb1⟩
    have L1 := hid (L.out.below f hb1)
    have c1 := L1.out.blk.cell 1
    simp at c1
    obtain ⟨F, h, mm, _, _⟩ := L1.out.rk.mem
    obtain ⟨ao, co, hvO, _, _⟩ := owns_cells mm.oth.own
    have c9 := mm.blk.cell 9
    simp [rsCells] at c9
    rw [hvO] at c9
    have HB := hid hb1
    clear mm hvO hb1 c0
    by_cases hneg : m < 0
    · go_wp2
      go_ret
      exact ⟨rfl, HB.out⟩
    · have hge : (s.owner.length : Int) ≤ m := by omega
      go_wp2
      go_ret
      exact ⟨rfl, HB.out⟩
set_option maxHeartbeats 1000000 in
theorem lCount_any (f : KFrame PK) (c : CCount PK) (l : LK PK B w bb kb sb P Q s) (m : Int) :
    Calls Tryz.prog 45 #[.pointer (some ⟨bb, 0, none⟩), .int .i64 m] w fun e w' => e = .returned (.bool true) ∧ Below w.heap.size w w' := by
  have c0 := l.blk.cell 0
  simp at c0
  have L := hid l
  have C1 := hid (c P w kb s l.pk m)
  have hol : s.count.length ≤ 4 := l.rk.inv.toRMid.store.c4
  clear l
  by_cases hm : 0 ≤ m ∧ m < s.count.length
  · have e1 : R.countV s m = s.count.getD m.toNat 0 := by unfold R.countV; rw [if_pos hm]
    have e2 : R.countE s m = 0 := by unfold R.countE; rw [if_pos hm]
    rw [e1, e2] at C1
    obtain ⟨hm0, hm1⟩ := hm
    obtain ⟨k, rfl⟩ := Int.eq_ofNat_of_zero_le hm0
    have hk : k < s.count.length := by omega
    have e3 : s.count.getD (Int.toNat (k : Int)) 0 = s.count[k] := by simp [List.getD, hk]
    rw [e3] at C1
    clear e1 e2 e3
    go_enter Tryz.func45, Tryz.ntmps45
    go_wp2_with fail
    refine C1.out.mono ?_
    rintro e w1 ⟨rfl, hb1⟩
    have L1 := hid (L.out.below f hb1)
    have c1 := L1.out.blk.cell 1
    simp at c1
    obtain ⟨F, h, m, _, _⟩ := L1.out.rk.mem
    obtain ⟨go, co, hvO, hco, _⟩ := m.cntAt (by omega)
    have c9 := m.blk.cell 10
    simp [rsCells] at c9
    rw [hvO] at c9
    have ck := hco k hk
    have HB := hid hb1
    clear m hvO hco hb1 c0
    generalize s.count[k] = ok at *
    go_wp2
    go_ret
    exact ⟨by simp, HB.out⟩
  · have e1 : R.countV s m = 0 := by unfold R.countV; rw [if_neg hm]
    have e2 : R.countE s m = 7 := by unfold R.countE; rw [if_neg hm]
    rw [e1, e2] at C1
    clear e1 e2
    go_enter Tryz.func45, Tryz.ntmps45
    go_wp2_with fail
    refine C1.out.mono ?_
    rintro e w1 ⟨rfl, hb1⟩
    have L1 := hid (L.out.below f hb1)
    have c1 := L1.out.blk.cell 1
    simp at c1
    obtain ⟨F, h, mm, _, _⟩ := L1.out.rk.mem
    obtain ⟨ao, co, hvO, _, _⟩ := owns_cells mm.oth.cnt
    have c9 := mm.blk.cell 10
    simp [rsCells] at c9
    rw [hvO] at c9
    have HB := hid hb1
    clear mm hvO hb1 c0
    by_cases hneg : m < 0
    · go_wp2
      go_ret
      exact ⟨rfl, HB.out⟩
    · have hge : (s.count.length : Int) ≤ m := by omega
      go_wp2
      go_ret
      exact ⟨rfl, HB.out⟩
set_option maxHeartbeats 1000000 in
theorem lMessages_any (f : KFrame PK) (c : CMessages PK) (l : LK PK B w bb kb sb P Q s) (m : Int) :
    Calls Tryz.prog 92 #[.pointer (some ⟨bb, 0, none⟩), .int .i64 m] w fun e w' => e = .returned (.bool true) ∧ Below w.heap.size w w' := by
  have c0 := l.blk.cell 0
  simp at c0
  have L := hid l
  have C1 := hid (c P w kb s l.pk m)
  have ST := hid l.rk.inv.toRMid.store
  have hol : s.box.length ≤ 4 := l.rk.inv.toRMid.store.q4
  clear l
  by_cases hm : 0 ≤ m ∧ m < s.box.length
  · have e1 : R.boxL s m = s.box.getD m.toNat [] := by unfold R.boxL; rw [if_pos hm]
    have e2 : R.boxE s m = 0 := by unfold R.boxE; rw [if_pos hm]
    rw [e1, e2] at C1
    obtain ⟨hm0, hm1⟩ := hm
    obtain ⟨k, rfl⟩ := Int.eq_ofNat_of_zero_le hm0
    have hk : k < s.box.length := by omega
    have e3 : s.box.getD (Int.toNat (k : Int)) [] = s.box[k] := by simp [List.getD, hk]
    rw [e3] at C1
    clear e1 e2 e3
    go_enter Tryz.func92, Tryz.ntmps92
    go_wp2_with fail
    refine C1.out.mono ?_
    rintro e w1 ⟨v, rfl, ho1, hb1⟩
    obtain ⟨ao, ca, rfl, _, hi1, _⟩ := IntsIn.of_owns ho1
    have L1 := hid (L.out.below f hb1)
    have c1 := L1.out.blk.cell 1
    simp at c1
    obtain ⟨F, h, m, _, _⟩ := L1.out.rk.mem
    obtain ⟨g, cap, v, hvB, _, ck, _, hrow⟩ := m.boxAt hk
    obtain ⟨bo, cb, rfl, _, hi2, _⟩ := IntsIn.of_owns hrow
    have c11 := m.blk.cell 11
    simp [rsCells] at c11
    rw [hvB] at c11
    have hbl := ST.out.qb k hk
    have HB := hid hb1
    have HI1 := hid hi1
    have HI2 := hid hi2
    clear m hvB hb1 c0 hi1 hi2 hrow ho1
    generalize s.box[k] = bx at *
    have hkI : (k : Int) < (s.box.length : Int) := by omega
    go_wp2_with fail
    refine (sameInts_eq w1 ao bo ca cb bx HI1.out HI2.out (by omega)).mono ?_
    rintro e w2 ⟨rfl, n, rfl⟩
    go_wp2
    go_ret
    exact ⟨rfl, bdrewN HB.out n⟩
  · have e1 : R.boxL s m = [] := by unfold R.boxL; rw [if_neg hm]
    have e2 : R.boxE s m = 7 := by unfold R.boxE; rw [if_neg hm]
    rw [e1, e2] at C1
    clear e1 e2
    go_enter Tryz.func92, Tryz.ntmps92
    go_wp2_with fail
    refine C1.out.mono ?_
    rintro e w1 ⟨v, rfl, ho1, hb1⟩
    obtain ⟨va, vc, rfl, _, _, _⟩ := IntsIn.of_owns ho1
    have L1 := hid (L.out.below f hb1)
    have c1 := L1.out.blk.cell 1
    simp at c1
    obtain ⟨F, h, mm, _, _⟩ := L1.out.rk.mem
    obtain ⟨ao, co, hvO, _, _⟩ := owns_cells mm.oth.box.1
    have c9 := mm.blk.cell 11
    simp [rsCells] at c9
    rw [hvO] at c9
    have HB := hid hb1
    clear mm hvO hb1 c0 ho1
    by_cases hneg : m < 0
    · go_wp2
      go_ret
      exact ⟨rfl, HB.out⟩
    · have hge : (s.box.length : Int) ≤ m := by omega
      go_wp2
      go_ret
      exact ⟨rfl, HB.out⟩
set_option maxHeartbeats 1000000 in
theorem lWaiting_any (f : KFrame PK) (c : CWaiting PK) (l : LK PK B w bb kb sb P Q s) (what i : Int) :
    Calls Tryz.prog 91 #[.pointer (some ⟨bb, 0, none⟩), .int .i64 what, .int .i64 i] w fun e w' => e = .returned (.bool true) ∧ Below w.heap.size w w' := by
  have c0 := l.blk.cell 0
  simp at c0
  have L := hid l
  have C1 := hid (c P w kb s l.pk what i)
  have hst := l.rk.inv.toRMid.store
  have C2 : Hid (∀ F wx h, RMem F wx sb h s → Calls Tryz.prog 83 #[.pointer (some ⟨sb, 0, none⟩), .int .i64 what, .int .i64 i] wx fun e w' => ∃ v, e = .returned (.tuple #[v, .int .i64 (R.waitE s what i)]) ∧ w'.ownsRow wx.heap.size 3 1 v (R.waitL s what i).length (intCells (R.waitL s what i)) ∧ Below wx.heap.size wx w') := by
    intro F wx h m
    refine (rWaiting_any F wx sb h s m L.out.rk.inv.good hst.c4 hst.q4 what i).mono ?_
    rintro e w' ⟨hb, ⟨h1, rfl⟩ | ⟨h1, v, rfl, hr⟩⟩
    · have e1 : R.waitE s what i = 7 := by unfold R.waitE; rw [if_pos h1]
      have e2 : R.waitL s what i = [] := by unfold R.waitL; rw [if_pos h1]
      rw [e1, e2]
      exact ⟨_, rfl, World.ownsRow_nil _ _ _ _, hb⟩
    · have e1 : R.waitE s what i = 0 := by unfold R.waitE; rw [if_neg h1]
      have e2 : R.waitL s what i = R.waiting s what i := by unfold R.waitL; rw [if_neg h1]
      rw [e1, e2]
      exact ⟨v, rfl, hr, hb⟩
  have hlen := waitL_len s what i l.rk.inv.good.few
  clear l hst
  generalize R.waitL s what i = wl at *
  generalize R.waitE s what i = we at *
  go_enter Tryz.func91, Tryz.ntmps91
  go_wp2_with fail
  refine C1.out.mono ?_
  rintro e w1 ⟨v, rfl, ho1, hb1⟩
  obtain ⟨ao, ca, rfl, _, hi1, _⟩ := IntsIn.of_owns ho1
  have L1 := hid (L.out.below f hb1)
  have c1 := L1.out.blk.cell 1
  simp at c1
  obtain ⟨F, h, m, _, _⟩ := L1.out.rk.mem
  have C3 := hid (C2.out F w1 h m)
  have HB := hid hb1
  have HI1 := hid hi1
  clear m hb1 c0 hi1 ho1 C1 C2
  go_wp2_with fail
  refine C3.out.mono ?_
  rintro e w2 ⟨v2, rfl, ho2, hb2⟩
  obtain ⟨bo, cb, rfl, _, hi2, _⟩ := IntsIn.of_owns ho2
  have HI2 := hid hi2
  have HI1' := hid (HI1.out.on hb2)
  have HB2 := hid (via HB.out HB.out.size hb2)
  clear ho2 hi2 hb2 c1
  go_wp2_with fail
  refine (sameInts_eq w2 ao bo ca cb wl HI1'.out HI2.out (by omega)).mono ?_
  rintro e w3 ⟨rfl, n, rfl⟩
  go_wp2
  go_ret
  exact ⟨by simp, bdrewN HB2.out n⟩
end
end Go.Proofs.YtbkfildnijjioaaGreat

/-
  The law's own functions, over any program: owners, stores.
-/
namespace Go.Proofs.YtbkfildnijjioaaGreat
open Go.RowKit

section
variable {PK : KP} {B : Nat} {w : World} {bb kb sb : Nat} {P Q : Nat → Prop} {s : RS}

set_option maxHeartbeats 1000000 in
theorem lOwners_any (f : KFrame PK) (co : COwner PK) (cw : CWaiting PK) (l : LK PK B w bb kb sb P Q s) :
    Calls Tryz.prog 49 #[.pointer (some ⟨bb, 0, none⟩)] w fun e w' => e = .returned (.bool true) ∧ Below w.heap.size w w' := by
  have L := hid l
  have hol : s.owner.length ≤ 8 := by have := l.rk.inv.good.own; have := l.rk.inv.good.mfew; omega
  clear l
  go_enter Tryz.func49, Tryz.ntmps49
  go_wp2
  go_loopw [3] (fun i wr => ∃ k : Nat, k ≤ s.owner.length + 2 ∧ i = .int .i64 ((k : Int) - 1) ∧ Below w.heap.size w wr) (fun i _ => s.owner.length + 2 - ((intOf i) + 1).toNat)
  case atStart => exact ⟨0, by omega, rfl, Below.refl _ _⟩
  case round =>
    obtain ⟨k, hk, rfl, hb⟩ := hrel
    have LK := hid (L.out.below f hb)
    have HB := hid hb
    clear hb
    have c1 := LK.out.blk.cell 1
    simp at c1
    obtain ⟨F, h, m, _, _⟩ := LK.out.rk.mem
    obtain ⟨ao, cO, hvO, _, _⟩ := owns_cells m.oth.own
    have c9 := m.blk.cell 9
    simp [rsCells] at c9
    rw [hvO] at c9
    clear m hvO
    by_cases hlt : k < s.owner.length + 2
    · have hle : ((k : Int) - 1) ≤ (s.owner.length : Int) := by omega
      go_wp2_with fail
      refine (lOwner_any f co LK.out ((k : Int) - 1)).mono ?_
      rintro e w1 ⟨rfl, hb1⟩
      have HB1 := hid (via HB.out HB.out.size hb1)
      have L1 := hid (LK.out.below f hb1)
      clear hb1 c1 c9
      go_wp2_with fail
      refine (lWaiting_any f cw L1.out 1 ((k : Int) - 1)).mono ?_
      rintro e w2 ⟨rfl, hb2⟩
      have HB2 := hid (via HB1.out HB1.out.size hb2)
      clear hb2
      go_wp2
      go_roundw
      case rel => exact ⟨k + 1, by omega, by go_num, HB2.out⟩
      case measure => simp [intOf]; omega
    · have hgt : (s.owner.length : Int) < (k : Int) - 1 := by omega
      go_wp2
      go_ret
      exact ⟨rfl, HB.out⟩

set_option maxHeartbeats 2000000 in
theorem lStores_any (f : KFrame PK) (cc : CCount PK) (cm : CMessages PK) (cw : CWaiting PK) (l : LK PK B w bb kb sb P Q s) :
    Calls Tryz.prog 50 #[.pointer (some ⟨bb, 0, none⟩)] w fun e w' => e = .returned (.bool true) ∧ Below w.heap.size w w' := by
  have L := hid l
  clear l
  go_enter Tryz.func50, Tryz.ntmps50
  go_wp2
  go_loopw [3] (fun i wr => ∃ k : Nat, k ≤ 7 ∧ i = .int .i64 ((k : Int) - 1) ∧ Below w.heap.size w wr) (fun i _ => 7 - ((intOf i) + 1).toNat)
  case atStart => exact ⟨0, by omega, rfl, Below.refl _ _⟩
  case round =>
    obtain ⟨k, hk, rfl, hb⟩ := hrel
    have HB := hid hb
    have L0 := hid (L.out.below f hb)
    clear hb
    by_cases hlt : k < 7
    · have hle : ((k : Int) - 1) ≤ 5 := by omega
      go_wp2_with fail
      refine (lCount_any f cc L0.out ((k : Int) - 1)).mono ?_
      rintro e w1 ⟨rfl, hb1⟩
      have HB1 := hid (via HB.out HB.out.size hb1)
      have L1 := hid (L0.out.below f hb1)
      clear hb1
      go_wp2_with fail
      refine (lMessages_any f cm L1.out ((k : Int) - 1)).mono ?_
      rintro e w2 ⟨rfl, hb2⟩
      have HB2 := hid (via HB1.out HB1.out.size hb2)
      have L2 := hid (L1.out.below f hb2)
      clear hb2
      go_wp2_with fail
      refine (lWaiting_any f cw L2.out 2 ((k : Int) - 1)).mono ?_
      rintro e w3 ⟨rfl, hb3⟩
      have HB3 := hid (via HB2.out HB2.out.size hb3)
      have L3 := hid (L2.out.below f hb3)
      clear hb3
      go_wp2_with fail
      refine (lWaiting_any f cw L3.out 3 ((k : Int) - 1)).mono ?_
      rintro e w4 ⟨rfl, hb4⟩
      have HB4 := hid (via HB3.out HB3.out.size hb4)
      have L4 := hid (L3.out.below f hb4)
      clear hb4
      go_wp2_with fail
      refine (lWaiting_any f cw L4.out 0 ((k : Int) - 1)).mono ?_
      rintro e w5 ⟨rfl, hb5⟩
      have HB5 := hid (via HB4.out HB4.out.size hb5)
      have L5 := hid (L4.out.below f hb5)
      clear hb5
      go_wp2_with fail
      refine (lWaiting_any f cw L5.out 4 ((k : Int) - 1)).mono ?_
      rintro e w6 ⟨rfl, hb6⟩
      have HB6 := hid (via HB5.out HB5.out.size hb6)
      clear hb6
      go_wp2
      go_roundw
      case rel => exact ⟨k + 1, by omega, by go_num, HB6.out⟩
      case measure => simp [intOf]; omega
    · have hgt : (5 : Int) < (k : Int) - 1 := by omega
      go_wp2
      go_ret
      exact ⟨rfl, HB.out⟩
end

end Go.Proofs.YtbkfildnijjioaaGreat

/-
  The law's own functions, over any program: what can be seen, and a step.
-/
namespace Go.Proofs.YtbkfildnijjioaaGreat
open Go.RowKit
section
variable {PK : KP} {B : Nat} {w : World} {bb kb sb : Nat} {P Q : Nat → Prop} {s : RS}
set_option maxHeartbeats 2000000 in
theorem lAlike_any (f : KFrame PK) (hd : Int) (ct : CSee PK hd) (l : LK PK B w bb kb sb P Q s) (hh : Holds hd) :
    Calls Tryz.prog 23 #[.pointer (some ⟨bb, 0, none⟩), .int .i64 hd] w fun e w' => e = .returned (.bool true) ∧ Below w.heap.size w w' := by
  have L := hid l
  clear l
  rcases hh with rfl | rfl | rfl | rfl | rfl | rfl | rfl | rfl
  · clear ct
    go_enter Tryz.func23, Tryz.ntmps23
    go_wp2
    go_ret
    exact ⟨rfl, Below.refl _ _⟩
  · have CR := hid (fun wx (hb : Below w.heap.size w wx) => lRunning_any f (ct.run (by omega)) (L.out.below f hb))
    clear ct
    go_enter Tryz.func23, Tryz.ntmps23
    go_wp2_with fail
    refine (CR.out _ (Below.refl _ _)).mono ?_
    rintro e w0 ⟨rfl, hb0⟩
    have hc0 := hb0
    go_wp2
    go_ret
    exact ⟨rfl, hc0⟩
  · have CK := hid (fun wx (hb : Below w.heap.size w wx) => lLooks_any f (ct.look (by omega)) (L.out.below f hb))
    clear ct
    go_enter Tryz.func23, Tryz.ntmps23
    go_wp2_with fail
    refine (CK.out _ (Below.refl _ _)).mono ?_
    rintro e w0 ⟨rfl, hb0⟩
    have hc0 := hb0
    go_wp2
    go_ret
    exact ⟨rfl, hc0⟩
  · have CR := hid (fun wx (hb : Below w.heap.size w wx) => lRunning_any f (ct.run (by omega)) (L.out.below f hb))
    have CK := hid (fun wx (hb : Below w.heap.size w wx) => lLooks_any f (ct.look (by omega)) (L.out.below f hb))
    clear ct
    go_enter Tryz.func23, Tryz.ntmps23
    go_wp2_with fail
    refine (CR.out _ (Below.refl _ _)).mono ?_
    rintro e w0 ⟨rfl, hb0⟩
    have hc0 := hb0
    go_wp2_with fail
    refine (CK.out _ hc0).mono ?_
    rintro e w1 ⟨rfl, hb1⟩
    have hc1 := via hc0 hc0.size hb1
    go_wp2
    go_ret
    exact ⟨rfl, hc1⟩
  · have CL := hid (fun wx (hb : Below w.heap.size w wx) => lClock_any f (ct.tick (by omega)).1 (ct.tick (by omega)).2 (L.out.below f hb))
    have CR := hid (fun wx (hb : Below w.heap.size w wx) => lRunning_any f (ct.run (by omega)) (L.out.below f hb))
    have CK := hid (fun wx (hb : Below w.heap.size w wx) => lLooks_any f (ct.look (by omega)) (L.out.below f hb))
    clear ct
    go_enter Tryz.func23, Tryz.ntmps23
    go_wp2_with fail
    refine (CL.out _ (Below.refl _ _)).mono ?_
    rintro e w0 ⟨rfl, hb0⟩
    have hc0 := hb0
    go_wp2_with fail
    refine (CR.out _ hc0).mono ?_
    rintro e w1 ⟨rfl, hb1⟩
    have hc1 := via hc0 hc0.size hb1
    go_wp2_with fail
    refine (CK.out _ hc1).mono ?_
    rintro e w2 ⟨rfl, hb2⟩
    have hc2 := via hc1 hc1.size hb2
    go_wp2
    go_ret
    exact ⟨rfl, hc2⟩
  · have CL := hid (fun wx (hb : Below w.heap.size w wx) => lClock_any f (ct.tick (by omega)).1 (ct.tick (by omega)).2 (L.out.below f hb))
    have CR := hid (fun wx (hb : Below w.heap.size w wx) => lRunning_any f (ct.run (by omega)) (L.out.below f hb))
    have CK := hid (fun wx (hb : Below w.heap.size w wx) => lLooks_any f (ct.look (by omega)) (L.out.below f hb))
    clear ct
    go_enter Tryz.func23, Tryz.ntmps23
    go_wp2_with fail
    refine (CL.out _ (Below.refl _ _)).mono ?_
    rintro e w0 ⟨rfl, hb0⟩
    have hc0 := hb0
    go_wp2_with fail
    refine (CR.out _ hc0).mono ?_
    rintro e w1 ⟨rfl, hb1⟩
    have hc1 := via hc0 hc0.size hb1
    go_wp2_with fail
    refine (CK.out _ hc1).mono ?_
    rintro e w2 ⟨rfl, hb2⟩
    have hc2 := via hc1 hc1.size hb2
    go_wp2
    go_ret
    exact ⟨rfl, hc2⟩
  · have CL := hid (fun wx (hb : Below w.heap.size w wx) => lClock_any f (ct.tick (by omega)).1 (ct.tick (by omega)).2 (L.out.below f hb))
    have CR := hid (fun wx (hb : Below w.heap.size w wx) => lRunning_any f (ct.run (by omega)) (L.out.below f hb))
    have CK := hid (fun wx (hb : Below w.heap.size w wx) => lLooks_any f (ct.look (by omega)) (L.out.below f hb))
    have CO := hid (fun wx (hb : Below w.heap.size w wx) => lOwners_any f (ct.own (by omega)).1 (ct.own (by omega)).2 (L.out.below f hb))
    clear ct
    go_enter Tryz.func23, Tryz.ntmps23
    go_wp2_with fail
    refine (CL.out _ (Below.refl _ _)).mono ?_
    rintro e w0 ⟨rfl, hb0⟩
    have hc0 := hb0
    go_wp2_with fail
    refine (CR.out _ hc0).mono ?_
    rintro e w1 ⟨rfl, hb1⟩
    have hc1 := via hc0 hc0.size hb1
    go_wp2_with fail
    refine (CK.out _ hc1).mono ?_
    rintro e w2 ⟨rfl, hb2⟩
    have hc2 := via hc1 hc1.size hb2
    go_wp2_with fail
    refine (CO.out _ hc2).mono ?_
    rintro e w3 ⟨rfl, hb3⟩
    have hc3 := via hc2 hc2.size hb3
    go_wp2
    go_ret
    exact ⟨rfl, hc3⟩
  · have CS := hid (fun wx (hb : Below w.heap.size w wx) => lStores_any f (ct.sto (by omega)).1 (ct.sto (by omega)).2.1 (ct.sto (by omega)).2.2 (L.out.below f hb))
    clear ct
    go_enter Tryz.func23, Tryz.ntmps23
    go_wp2_with fail
    refine (CS.out _ (Below.refl _ _)).mono ?_
    rintro e w0 ⟨rfl, hb0⟩
    have hc0 := hb0
    go_wp2
    go_ret
    exact ⟨rfl, hc0⟩
set_option maxHeartbeats 1000000 in
theorem lStep_any (f : KFrame PK) (n hd : Int) (ct : CSee PK hd) (l : LK PK B w bb kb sb P Q s) (hB : B ≤ w.heap.size) (hnx : s.next ≤ 4611686018427386000) (cp : n ≠ -1 → CPick PK) (ck : n = -1 → CTick PK) (hh : Holds hd) :
    Calls Tryz.prog 24 #[.pointer (some ⟨bb, 0, none⟩), .int .i64 n, .int .i64 hd] w fun e w' => e = .returned (.bool true) ∧ (∃ P' Q', LK PK B w' bb kb sb P' Q' (R.entry s n)) ∧ Below B w w' := by
  have L := hid l
  have HH := hid hh
  clear l hh
  by_cases hn : n = -1
  · subst hn
    have e0 : R.entry s (-1) = R.tickS s := rfl
    rw [e0]
    have CK := hid (ck rfl)
    clear e0 ck cp
    go_enter Tryz.func24, Tryz.ntmps24
    go_wp2_with fail
    refine (lTicks_any f CK.out L.out hB hnx hd HH.out).mono ?_
    rintro e w1 ⟨rfl, ⟨P', Q', l1⟩, hb1⟩
    have L1 := hid l1
    have HB1 := hid hb1
    clear l1 hb1
    go_wp2_with fail
    refine (lAlike_any f hd ct L1.out HH.out).mono ?_
    rintro e w2 ⟨rfl, hb2⟩
    have L2 := hid (L1.out.below f hb2)
    have HB2 := hid (via HB1.out (by have := HB1.out.size; omega) hb2)
    clear hb2
    go_wp2
    go_ret
    exact ⟨rfl, ⟨P', Q', L2.out⟩, HB2.out⟩
  · have e0 : R.entry s n = R.pickS s n := by unfold R.entry; rw [if_neg hn]
    rw [e0]
    clear e0
    have hnb : (n == -1) = false := by simpa using hn
    have CP := hid (cp hn)
    clear cp ck
    go_enter Tryz.func24, Tryz.ntmps24
    go_wp2_with fail
    refine (lPicks_any f CP.out L.out hB hnx n hd HH.out).mono ?_
    rintro e w1 ⟨rfl, ⟨P', Q', l1⟩, hb1⟩
    have L1 := hid l1
    have HB1 := hid hb1
    clear l1 hb1
    go_wp2_with fail
    refine (lAlike_any f hd ct L1.out HH.out).mono ?_
    rintro e w2 ⟨rfl, hb2⟩
    have L2 := hid (L1.out.below f hb2)
    have HB2 := hid (via HB1.out (by have := HB1.out.size; omega) hb2)
    clear hb2
    go_wp2
    go_ret
    exact ⟨rfl, ⟨P', Q', L2.out⟩, HB2.out⟩
end
end Go.Proofs.YtbkfildnijjioaaGreat

/-
  The law's own functions, over any program whose kernel stands for the document's: begun, play, upTo.
-/
namespace Go.Proofs.YtbkfildnijjioaaGreat
open Go.RowKit
section
variable {PK : KP} {ok : SetD → Prop}
set_option maxRecDepth 100000 in
set_option maxHeartbeats 2000000 in
theorem lBegun_any (f : KFrame PK) (cn : CNew PK ok) (tv mv sv qv : Option Addr) (tc mc sc qc : Nat) (S : SetD) (w : World) (hS : SetIn w.heap.size w tv mv sv qv S) (hF : Fits S) (hnil : (tv = none → tc = 0) ∧ (mv = none → mc = 0) ∧ (sv = none → sc = 0) ∧ (qv = none → qc = 0)) (hok : ok S) :
    Calls Tryz.prog 22 #[.agg #[.int .i64 S.workers, .int .i64 S.start, .slice tv S.threads.length tc, .slice mv S.mutexes.length mc, .slice sv S.sems.length sc, .slice qv S.queues.length qc]] w fun e w' =>
      Below w.heap.size w w' ∧ ((P3.err S ≠ 0 ∧ e = .returned (.tuple #[.pointer none, .bool true])) ∨
        (P3.err S = 0 ∧ ∃ bb kb sb P Q, e = .returned (.tuple #[.pointer (some ⟨bb, 0, none⟩), .bool true]) ∧ LK PK w.heap.size w' bb kb sb P Q (R.new S))) := by
  have HS := hid hS
  have HF := hid hF
  have HN := hid hnil
  clear hS hF hnil
  go_enter Tryz.func22, Tryz.ntmps22
  go_wp2_with fail
  have hb0 : Below w.heap.size w (w.alloc (.cells #[.int .i64 S.workers, .int .i64 S.start, .slice tv S.threads.length tc, .slice mv S.mutexes.length mc, .slice sv S.sems.length sc, .slice qv S.queues.length qc] 27)) := (Below.refl _ _).alloc (Nat.le_refl _) _
  have X0 := Blk.new w #[.int .i64 S.workers, .int .i64 S.start, .slice tv S.threads.length tc, .slice mv S.mutexes.length mc, .slice sv S.sems.length sc, .slice qv S.queues.length qc] 27
  generalize w.alloc (.cells #[.int .i64 S.workers, .int .i64 S.start, .slice tv S.threads.length tc, .slice mv S.mutexes.length mc, .slice sv S.sems.length sc, .slice qv S.queues.length qc] 27) = w0 at hb0 X0 ⊢
  refine (copy_any tv mv sv qv tc mc sc qc S w0 (HS.out.later hb0) HF.out HN.out).mono ?_
  rintro e w1 ⟨tv', mv', sv', qv', tc', mc', sc', qc', rfl, hS1, hnil1, hb1⟩
  have HS1 := hid (hS1.toIn (B := w1.heap.size) (fun b hb => hb.2))
  have HN1 := hid hnil1
  have hb01 := via hb0 hb0.size hb1
  have X1 := X0.but (But.of_below (c := w0.heap.size) hb1) X0.lt (by have := X0.lt; omega)
  have HX1 := hid X1
  have q1 := X1.lt
  have HB01 := hid hb01
  clear hS1 X0 X1 hnil1 hb0 hb1
  go_upto_region 2 with fail
  have hbA : Below w1.heap.size w1 (w1.alloc (.cells #[.int .i64 S.workers, .int .i64 S.start, .slice tv' S.threads.length tc', .slice mv' S.mutexes.length mc', .slice sv' S.sems.length sc', .slice qv' S.queues.length qc'] 27)) := (Below.refl _ _).alloc (Nat.le_refl _) _
  have XA := HX1.out.alloc (.cells #[.int .i64 S.workers, .int .i64 S.start, .slice tv' S.threads.length tc', .slice mv' S.mutexes.length mc', .slice sv' S.sems.length sc', .slice qv' S.queues.length qc'] 27)
  have YA := Blk.new w1 #[.int .i64 S.workers, .int .i64 S.start, .slice tv' S.threads.length tc', .slice mv' S.mutexes.length mc', .slice sv' S.sems.length sc', .slice qv' S.queues.length qc'] 27
  generalize w1.alloc (.cells #[.int .i64 S.workers, .int .i64 S.start, .slice tv' S.threads.length tc', .slice mv' S.mutexes.length mc', .slice sv' S.sems.length sc', .slice qv' S.queues.length qc'] 27) = wA at hbA XA YA ⊢
  have HXA := hid XA
  have HYA := hid YA
  have HB0A := hid (via HB01.out HB01.out.size hbA)
  have HSA := hid (HS1.out.later hbA)
  have x0 := XA.cell 0
  have x1 := XA.cell 1
  have x2 := XA.cell 2
  have x3 := XA.cell 3
  have x4 := XA.cell 4
  have x5 := XA.cell 5
  simp at x0 x1 x2 x3 x4 x5
  clear XA YA hbA HX1 HS1
  go_wp2_with fail
  refine (rCheck_any tv mv sv qv tc mc sc qc S wA (HS.out.later HB0A.out)).mono ?_
  rintro e w2 ⟨rfl, hb2⟩
  have HX2 := hid (show Blk w2 w.heap.size #[.int .i64 S.workers, .int .i64 S.start, .slice tv S.threads.length tc, .slice mv S.mutexes.length mc, .slice sv S.sems.length sc, .slice qv S.queues.length qc] 27 from by
    have h1 := HXA.out
    have hl := HXA.out.lt
    unfold Blk at h1 ⊢
    rw [hb2.block _ hl]
    exact h1)
  have HY2 := hid (show Blk w2 w1.heap.size #[.int .i64 S.workers, .int .i64 S.start, .slice tv' S.threads.length tc', .slice mv' S.mutexes.length mc', .slice sv' S.sems.length sc', .slice qv' S.queues.length qc'] 27 from by
    have h1 := HYA.out
    have hl := HYA.out.lt
    unfold Blk at h1 ⊢
    rw [hb2.block _ hl]
    exact h1)
  have HB02 := hid (via HB0A.out HB0A.out.size hb2)
  have HS2 := hid (HSA.out.later hb2)
  clear hb2 x0 x1 x2 x3 x4 x5 HXA HYA HSA
  have y0 := HY2.out.cell 0
  have y1 := HY2.out.cell 1
  have y2 := HY2.out.cell 2
  have y3 := HY2.out.cell 3
  have y4 := HY2.out.cell 4
  have y5 := HY2.out.cell 5
  simp at y0 y1 y2 y3 y4 y5
  go_wp2_with fail
  refine (cn tv' mv' sv' qv' tc' mc' sc' qc' S w2 HS2.out HF.out HN1.out hok).mono ?_
  rintro e w3 ⟨hb3, hcase⟩
  have HB03 := hid (via HB02.out HB02.out.size hb3)
  have HX3 := hid (show Blk w3 w.heap.size #[.int .i64 S.workers, .int .i64 S.start, .slice tv S.threads.length tc, .slice mv S.mutexes.length mc, .slice sv S.sems.length sc, .slice qv S.queues.length qc] 27 from by
    have h1 := HX2.out
    have hl := HX2.out.lt
    unfold Blk at h1 ⊢
    rw [hb3.block _ hl]
    exact h1)
  have hsz2 := HB02.out.size
  clear hb3 y0 y1 y2 y3 y4 y5 HX2 HY2 HS2
  rcases hcase with ⟨herr, rfl⟩ | ⟨herr, kb, P, rfl, hpk, hP⟩
  · have hne : (P3.err S != 0) = true := by simpa using herr
    have heq : (P3.err S != P3.err S) = false := by simp
    have HERR := hid herr
    go_wp2
    go_ret2
    exact ⟨HB03.out, .inl ⟨HERR.out, rfl⟩⟩
  · have HERR := hid herr
    rw [herr]
    have PKH := hid hpk
    have HP := hid hP
    clear hpk hP herr
    have z0 := HX3.out.cell 0
    have z1 := HX3.out.cell 1
    have z2 := HX3.out.cell 2
    have z3 := HX3.out.cell 3
    have z4 := HX3.out.cell 4
    have z5 := HX3.out.cell 5
    simp at z0 z1 z2 z3 z4 z5
    go_wp2_with fail
    refine (rkNew_any tv mv sv qv tc mc sc qc S w3 (HS.out.later HB03.out) HF.out HN.out HERR.out).mono ?_
    rintro e w4 ⟨sb, Q, rfl, rk4, hQ, hb4⟩
    have HB04 := hid (via HB03.out HB03.out.size hb4)
    have PK4 := hid (f.below PKH.out hb4)
    have RK4 := hid rk4
    have HQ := hid hQ
    have PLT := hid (f.lt PKH.out)
    have hsz3 := HB03.out.size
    have hsz4 := hb4.size
    clear rk4 hQ hb4 z0 z1 z2 z3 z4 z5
    go_wp2
    go_ret2
    have hbZ : Below w4.heap.size w4 (w4.alloc (.cells #[.pointer (some ⟨kb, 0, none⟩), .pointer (some ⟨sb, 0, none⟩)] 87)) := (Below.refl _ _).alloc (Nat.le_refl _) _
    refine ⟨via HB04.out HB04.out.size hbZ, .inr ⟨HERR.out, w4.heap.size, kb, sb, P, Q, rfl, Blk.new _ _ _, f.below PK4.out hbZ, RK4.out.below hbZ, fun b hb hq => ?_, fun hb => ?_, fun hq => ?_, fun b hb => ?_, fun b hb => ?_, by omega⟩⟩
    · have := PLT.out b hb
      have := HQ.out b hq
      omega
    · have := PLT.out _ hb
      omega
    · have := RK4.out.lt _ hq
      omega
    · have := HP.out b hb
      omega
    · have := HQ.out b hb
      omega
set_option maxRecDepth 100000 in
set_option maxHeartbeats 2000000 in
theorem lPlay_any (f : KFrame PK) (cn : CNew PK ok) (hd : Int) (ct : CSee PK hd) (tv mv sv qv av : Option Addr) (tc mc sc qc ac : Nat) (S : SetD) (l : List Int) (w : World) (hS : SetIn w.heap.size w tv mv sv qv S) (hF : Fits S) (hnil : (tv = none → tc = 0) ∧ (mv = none → mc = 0) ∧ (sv = none → sc = 0) ∧ (qv = none → qc = 0)) (hok : ok S)
    (hl : IntsIn w.heap.size w av l) (hll : l.length ≤ 9223372036854775807) (hh : Holds hd) (tl : Bool) (cp : l ≠ [] → CPick PK) (ck : tl = false → l ≠ [] → CTick PK) :
    Calls Tryz.prog 13 #[.agg #[.int .i64 S.workers, .int .i64 S.start, .slice tv S.threads.length tc, .slice mv S.mutexes.length mc, .slice sv S.sems.length sc, .slice qv S.queues.length qc], .slice av l.length ac, .int .i64 hd, .bool tl] w fun e w' =>
      e = .returned (.bool true) ∧ Below w.heap.size w w' := by
  have HS := hid hS
  have HF := hid hF
  have HN := hid hnil
  have HL := hid hl
  have HH := hid hh
  clear hS hF hnil hl hh
  go_enter Tryz.func13, Tryz.ntmps13
  by_cases hlong : l.length ≤ 1099511627776
  · have hlI : (l.length : Int) ≤ 1099511627776 := by omega
    go_wp2_with fail
    have hb0 : Below w.heap.size w (w.alloc (.cells #[.int .i64 S.workers, .int .i64 S.start, .slice tv S.threads.length tc, .slice mv S.mutexes.length mc, .slice sv S.sems.length sc, .slice qv S.queues.length qc] 27)) := (Below.refl _ _).alloc (Nat.le_refl _) _
    have hsz0 : (w.alloc (.cells #[.int .i64 S.workers, .int .i64 S.start, .slice tv S.threads.length tc, .slice mv S.mutexes.length mc, .slice sv S.sems.length sc, .slice qv S.queues.length qc] 27)).heap.size = w.heap.size + 1 := by simp
    generalize w.alloc (.cells #[.int .i64 S.workers, .int .i64 S.start, .slice tv S.threads.length tc, .slice mv S.mutexes.length mc, .slice sv S.sems.length sc, .slice qv S.queues.length qc] 27) = w0 at hb0 hsz0 ⊢
    refine (lBegun_any f cn tv mv sv qv tc mc sc qc S w0 (HS.out.later hb0) HF.out HN.out hok).mono ?_
    rintro e w1 ⟨hb1, hcase⟩
    have HB1 := hid (via hb0 hb0.size hb1)
    have HL1 := hid (HL.out.on HB1.out)
    have hsz1 := hb1.size
    clear hb0 hb1
    rcases hcase with ⟨_, rfl⟩ | ⟨herr, bb, kb, sb, P, Q, rfl, lk⟩
    · go_wp2
      go_ret
      exact ⟨rfl, HB1.out⟩
    · have hT : S.threads.length ≤ 16 := by
        have hz := (ok_parts herr).1
        unfold P3.sizesB at hz
        rw [decide_eq_true_iff] at hz
        omega
      have hnx := new_next S hT
      have L1 := hid lk
      clear lk
      go_wp2_with fail
      refine (lAlike_any f hd ct L1.out HH.out).mono ?_
      rintro e w2 ⟨rfl, hb2⟩
      have L2 := hid (L1.out.below f hb2)
      have HB2 := hid (via HB1.out HB1.out.size hb2)
      have HBB := hid hb2
      have hsz2 := hb2.size
      clear hb2 L1
      go_wp2
      go_loopw [10, 11] (fun b i wr => ∃ (k : Nat) (s : RS) (P Q : Nat → Prop), k ≤ l.length ∧ b = .bool true ∧ i = .int .i64 k ∧ LK PK w0.heap.size wr bb kb sb P Q s ∧ s.next ≤ 16 + 33 * k ∧ Below w0.heap.size w2 wr) (fun _ i _ => l.length - (intOf i).toNat)
      case atStart => exact ⟨0, R.new S, P, Q, Nat.zero_le _, rfl, rfl, L2.out, by omega, Below.refl _ _⟩
      case round =>
        obtain ⟨k, s, P, Q, hk, rfl, rfl, hlk, hnk, hbk⟩ := hrel
        have LKk := hid hlk
        have HBK := hid hbk
        have hszk := hbk.size
        have HBW := hid (HB2.out.trans (hbk.mono (by omega)))
        clear hlk hbk
        by_cases hkl : k < l.length
        · have hne : l ≠ [] := by intro e; rw [e] at hkl; simp at hkl
          obtain ⟨ab, aoff, ha, hab, hcell⟩ := HL.out k hkl
          subst ha
          have hcell' : wr.cell? ⟨ab, aoff + k, none⟩ = some (.int .i64 l[k]) := (HBW.out.cell (p := ⟨ab, aoff + k, none⟩) hab).trans hcell
          have hkI : (k : Int) < (l.length : Int) := by omega
          have hen := entry_next s l[k] LKk.out.rk.inv
          have CP := hid (cp hne)
          have CK := hid (fun h0 : tl = false => ck h0 hne)
          generalize l[k] = x at *
          cases hx : (x != -1)
          · have hx1 : x = -1 := by simpa using hx
            subst hx1
            cases tl
            · have ST := hid (lStep_any f (-1) hd ct LKk.out (by omega) (by omega) (fun h0 => absurd rfl h0) (fun _ => CK.out rfl) HH.out)
              go_wp2_with fail
              refine ST.out.mono ?_
              rintro e w3 ⟨rfl, ⟨P', Q', l3⟩, hb3⟩
              have L3 := hid l3
              have HB3 := hid (HBK.out.trans hb3)
              clear l3 hb3 hcell' ST
              go_wp2
              go_roundw
              case rel => exact ⟨k + 1, R.entry s (-1), P', Q', by omega, rfl, by go_num, L3.out, by omega, HB3.out⟩
              case measure => simp [intOf]; omega
            · go_wp2
              go_roundw
              case rel => exact ⟨k + 1, s, P, Q, by omega, rfl, by go_num, LKk.out, by omega, HBK.out⟩
              case measure => simp [intOf]; omega
          · have hx1 : x ≠ -1 := by simpa using hx
            have ST := hid (lStep_any f x hd ct LKk.out (by omega) (by omega) (fun _ => CP.out) (fun h0 => absurd h0 hx1) HH.out)
            clear hx1
            go_wp2_with fail
            refine ST.out.mono ?_
            rintro e w3 ⟨rfl, ⟨P', Q', l3⟩, hb3⟩
            have L3 := hid l3
            have HB3 := hid (HBK.out.trans hb3)
            clear l3 hb3 hcell' ST
            go_wp2
            go_roundw
            case rel => exact ⟨k + 1, R.entry s x, P', Q', by omega, rfl, by go_num, L3.out, by omega, HB3.out⟩
            case measure => simp [intOf]; omega
        · have e : k = l.length := by omega
          subst e
          go_wp2
          go_ret
          exact ⟨rfl, HBW.out⟩
  · have hlI : (1099511627776 : Int) < (l.length : Int) := by omega
    go_wp2
    go_ret
    exact ⟨rfl, (Below.refl _ _).alloc (Nat.le_refl _) _⟩
end
end Go.Proofs.YtbkfildnijjioaaGreat
