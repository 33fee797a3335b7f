import Derived.Test.YthnjabnlocpoaaaGreatB16
import Derived.Test.YthnjabnlocpoaaaGreatB12
/-
  The law's own functions, over any program whose kernel stands for the document's: what can be seen.
-/
namespace Go.Proofs.YthnjabnlocpoaaaGreat
open Go.RowKit

/-- How a program's kernel stands for the document's: in blocks of a set, in a world, at a block. -/
abbrev KP := (Nat → Prop) → World → Nat → RS → Prop
structure KFrame (PK : KP) : Prop where
  lt : ∀ {Q : Nat → Prop} {w : World} {kb : Nat} {s : RS}, PK Q w kb s → ∀ b, Q b → b < w.heap.size
  frame : ∀ {Q : Nat → Prop} {w w' : World} {kb : Nat} {s : RS}, PK Q w kb s → (∀ b, Q b → w'.heap[b]? = w.heap[b]?) → w.heap.size ≤ w'.heap.size → PK Q w' kb s
theorem KFrame.below {PK : KP} (f : KFrame PK) {Q : Nat → Prop} {w w' : World} {kb : Nat} {s : RS} (k : PK Q w kb s) (hb : Below w.heap.size w w') : PK Q w' kb s := f.frame k (fun b h => hb.block b (f.lt k b h)) hb.size

namespace R
def lookV (s : RS) (t : Int) : Value := if 0 ≤ t ∧ t < s.T.length then viewV (th s.T t.toNat) (Level s t.toNat) else noView
def lookE (s : RS) (t : Int) : Int := if 0 ≤ t ∧ t < s.T.length then 0 else 7
def tickS (s : RS) : RS := if s.now = 1000000000 then s else tick s
def tickE (s : RS) : Int := if s.now = 1000000000 then 8 else 0
def tickL (s : RS) : List MissD := if s.now = 1000000000 then [] else late (ticked s)
end R

/-- What the program promises of its calls. -/
def CNow (PK : KP) : Prop := ∀ Q w kb s, PK Q w kb s → Calls Tryz.prog 39 #[.pointer (some ⟨kb, 0, none⟩)] w fun e w' => e = .returned (.int .i64 s.now) ∧ Below w.heap.size w w'
def CRunning (PK : KP) : Prop := ∀ Q w kb s, PK Q w kb s → Calls Tryz.prog 42 #[.pointer (some ⟨kb, 0, none⟩)] w fun e w' => ∃ v, e = .returned v ∧ w'.ownsRow w.heap.size 3 1 v (R.running s).length (intCells (R.running s)) ∧ Below w.heap.size w w'
def CMisses (PK : KP) : Prop := ∀ Q w kb s, PK Q w kb s → Calls Tryz.prog 40 #[.pointer (some ⟨kb, 0, none⟩)] w fun e w' => ∃ v, e = .returned v ∧ w'.ownsRow w.heap.size 110 3 v s.missed.length (missCells s.missed) ∧ Below w.heap.size w w'
def CLook (PK : KP) : Prop := ∀ Q w kb s, PK Q w kb s → ∀ t : Int, Calls Tryz.prog 75 #[.pointer (some ⟨kb, 0, none⟩), .int .i64 t] w fun e w' => e = .returned (.tuple #[R.lookV s t, .int .i64 (R.lookE s t)]) ∧ Below w.heap.size w w'
def CPick (PK : KP) : Prop := ∀ Q w kb s, PK Q w kb s → s.next ≤ 4611686018427386000 → ∀ wk : Int, Calls Tryz.prog 52 #[.pointer (some ⟨kb, 0, none⟩), .int .i64 wk] w fun e w' =>
  e = .returned (.tuple #[.agg #[.int .i64 (R.pickT s wk), .int .i64 (R.pickA s wk), .int .i64 (R.pickC s wk)], .int .i64 (R.pickE s wk)]) ∧ ∃ Q', PK Q' w' kb (R.pickS s wk) ∧ (∀ b, Q' b → Q b ∨ w.heap.size ≤ b) ∧ Turns Q w w'
def CTick (PK : KP) : Prop := ∀ Q w kb s, PK Q w kb s → s.next ≤ 4611686018427386000 → Calls Tryz.prog 50 #[.pointer (some ⟨kb, 0, none⟩)] w fun e w' =>
  ∃ v Q', e = .returned (.tuple #[v, .int .i64 (R.tickE s)]) ∧ w'.ownsRow w.heap.size 110 3 v (R.tickL s).length (missCells (R.tickL s)) ∧ PK Q' w' kb (R.tickS s) ∧ (∀ b, Q' b → Q b ∨ w.heap.size ≤ b) ∧ (∀ b, v.ownBlock = some b → ¬ Q' b) ∧ Turns Q w w'

/-- A kernel of the program beside the document's, both of which stand for s; B: from where on they lie. -/
structure LK (PK : KP) (B : Nat) (w : World) (bb kb sb : Nat) (P Q : Nat → Prop) (s : RS) : Prop where
  blk : Blk w bb #[.pointer (some ⟨kb, 0, none⟩), .pointer (some ⟨sb, 0, none⟩)] 52
  pk : PK P w kb s
  rk : RK Q w sb s
  ap : ∀ b, P b → ¬ Q b
  np : ¬ P bb
  nq : ¬ Q bb
  hp : ∀ b, P b → B ≤ b
  hq : ∀ b, Q b → B ≤ b
  hb : B ≤ bb

theorem LK.below {PK : KP} (f : KFrame PK) {B : Nat} {w w' : World} {bb kb sb : Nat} {P Q : Nat → Prop} {s : RS} (l : LK PK B w bb kb sb P Q s) (hb : Below w.heap.size w w') : LK PK B w' bb kb sb P Q s := by
  refine ⟨?_, f.below l.pk hb, l.rk.below hb, l.ap, l.np, l.nq, l.hp, l.hq, l.hb⟩
  have h1 := l.blk
  have hl := l.blk.lt
  unfold Blk at h1 ⊢
  rw [hb.block bb hl]
  exact h1

section
variable {PK : KP} {B : Nat} {w : World} {bb kb sb : Nat} {P Q : Nat → Prop} {s : RS}

theorem MissesIn.of_owns {w : World} {base : Nat} {v : Value} {l : List MissD} (h : w.ownsRow base 110 3 v l.length (missCells l)) :
    ∃ ao cap, v = .slice ao l.length cap ∧ (ao = none → cap = 0) ∧ MissesIn w.heap.size w ao l := by
  obtain ⟨ao, cap, rfl, hn, ha⟩ := owns_cells h
  refine ⟨ao, cap, rfl, fun hh => (hn hh).2, fun i hi => ?_⟩
  cases ao with
  | none => have := (hn rfl).1; omega
  | some a =>
    obtain ⟨g, rfl, _, hlt, _, hc⟩ := ha a rfl
    have hm : ∀ j, j < 3 → (missCells l)[i * 3 + j]? = [Value.int .i64 l[i].thread, .int .i64 l[i].job, .int .i64 l[i].time][j]? := by
      clear hc ha h hn
      induction l generalizing i with
      | nil => simp at hi
      | cons x l ih =>
        intro j hj
        cases i with
        | zero =>
          simp only [missCells, List.flatMap_cons, Nat.zero_mul, Nat.zero_add, List.getElem_cons_zero]
          rw [List.getElem?_append_left (by simp; omega)]
        | succ i =>
          have := ih i (by simpa using hi) j hj
          simp only [missCells, List.flatMap_cons, List.getElem_cons_succ] at this ⊢
          rw [List.getElem?_append_right (by simp; omega)]
          simpa [show (i + 1) * 3 + j - 3 = i * 3 + j by omega] using this
    refine ⟨g, 0, rfl, hlt, ?_, ?_, ?_⟩
    · have := hm 0 (by omega)
      rw [Nat.zero_add, hc _ (by omega)]
      simpa using this
    · have := hm 1 (by omega)
      rw [Nat.zero_add, hc _ (by omega)]
      simpa using this
    · have := hm 2 (by omega)
      rw [Nat.zero_add, hc _ (by omega)]
      simpa using this

theorem IntsIn.on {w w' : World} {ao : Option Addr} {l : List Int} (h : IntsIn w.heap.size w ao l) (hb : Below w.heap.size w w') : IntsIn w'.heap.size w' ao l := by
  intro i hi
  obtain ⟨b, o, ha, hl, hc⟩ := h i hi
  exact ⟨b, o, ha, Nat.lt_of_lt_of_le hl hb.size, (hb.cell (p := ⟨b, o + i, none⟩) hl).trans hc⟩
theorem MissesIn.on {w w' : World} {ao : Option Addr} {l : List MissD} (h : MissesIn w.heap.size w ao l) (hb : Below w.heap.size w w') : MissesIn w'.heap.size w' ao l := by
  intro i hi
  obtain ⟨b, o, ha, hl, h0, h1, h2⟩ := h i hi
  exact ⟨b, o, ha, Nat.lt_of_lt_of_le hl hb.size, (hb.cell (p := ⟨b, o + i * 3, none⟩) hl).trans h0, (hb.cell (p := ⟨b, o + i * 3 + 1, none⟩) hl).trans h1, (hb.cell (p := ⟨b, o + i * 3 + 2, none⟩) hl).trans h2⟩

theorem running_len (s : RS) : (R.running s).length = s.set.workers.toNat := by simp [R.running]

set_option maxHeartbeats 400000 in
theorem lRunning_any (f : KFrame PK) (c : CRunning PK) (l : LK PK B w bb kb sb P Q s) :
    Calls Tryz.prog 20 #[.pointer (some ⟨bb, 0, none⟩)] w fun e w' => e = .returned (.bool true) ∧ Below w.heap.size w w' := by
  have c0 := l.blk.cell 0
  simp at c0
  have L := hid l
  have hn : s.set.workers = (s.set.workers.toNat : Int) := by have := l.rk.inv.good.wk0; omega
  have HN := hid hn
  have hw8 := l.rk.inv.good.wk1
  clear l hn
  go_enter Tryz.func20, Tryz.ntmps20
  go_wp2_with fail
  refine (c P w kb s L.out.pk).mono ?_
  rintro e w1 ⟨v, rfl, ho1, hb1⟩
  have L1 := hid (L.out.below f hb1)
  obtain ⟨ao, ca, rfl, _, hi1, _⟩ := IntsIn.of_owns ho1
  have c1 := L1.out.blk.cell 1
  simp at c1
  have HI1 := hid hi1
  have HB1 := hid hb1
  clear ho1 hi1 hb1 c0
  obtain ⟨F, h, m, _, _⟩ := L1.out.rk.mem
  have M := hid m
  clear m
  go_wp2_with fail
  refine (rRunning_any F w1 sb h s M.out L1.out.rk.inv.good s.set.workers.toNat HN.out).mono ?_
  rintro e w2 ⟨v, rfl, ho2, hb2⟩
  rw [← running_len s] at ho2
  obtain ⟨bo, cb, rfl, _, hi2, _⟩ := IntsIn.of_owns ho2
  have HI2 := hid hi2
  have HI1' := hid (HI1.out.on hb2)
  have HB2 := hid (via HB1.out HB1.out.size hb2)
  clear ho2 hi2 hb2
  go_wp2_with fail
  refine (sameInts_eq w2 ao bo ca cb (R.running s) HI1'.out HI2.out (by rw [running_len]; omega)).mono ?_
  rintro e w3 ⟨rfl, n, rfl⟩
  go_wp2
  go_ret
  exact ⟨rfl, bdrewN HB2.out n⟩
set_option maxHeartbeats 400000 in
theorem lClock_any (f : KFrame PK) (cn : CNow PK) (cm : CMisses PK) (l : LK PK B w bb kb sb P Q s) :
    Calls Tryz.prog 19 #[.pointer (some ⟨bb, 0, none⟩)] w fun e w' => e = .returned (.bool true) ∧ Below w.heap.size w w' := by
  have c0 := l.blk.cell 0
  simp at c0
  have L := hid l
  have hmis : s.missed.length ≤ 16000000000 := by
    have := l.rk.inv.mis
    have := l.rk.inv.good.now0
    have := l.rk.inv.good.now2
    omega
  clear l
  go_enter Tryz.func19, Tryz.ntmps19
  go_wp2_with fail
  refine (cn P w kb s L.out.pk).mono ?_
  rintro e w1 ⟨rfl, hb1⟩
  have L1 := hid (L.out.below f hb1)
  have c0 := L1.out.blk.cell 0
  simp at c0
  have HB1 := hid hb1
  clear hb1
  go_wp2_with fail
  refine (cm P w1 kb s L1.out.pk).mono ?_
  rintro e w2 ⟨v, rfl, ho2, hb2⟩
  have L2 := hid (L1.out.below f hb2)
  obtain ⟨ao, ca, rfl, _, hi2⟩ := MissesIn.of_owns ho2
  have c1 := L2.out.blk.cell 1
  simp at c1
  have HI2 := hid hi2
  have HB2 := hid (via HB1.out HB1.out.size hb2)
  clear ho2 hi2 hb2 c0
  obtain ⟨F, h, m, _, _⟩ := L2.out.rk.mem
  obtain ⟨bo, cb, hvM, _, hi3⟩ := MissesIn.of_owns m.oth.mis
  have c12 := m.blk.cell 12
  have c6 := m.blk.cell 6
  simp [rsCells] at c12 c6
  rw [hvM] at c12
  have HI3 := hid hi3
  clear m hvM hi3
  go_wp2_with fail
  refine (sameMisses_eq w2 ao bo ca cb s.missed HI2.out HI3.out (by omega)).mono ?_
  rintro e w3 ⟨rfl, n, rfl⟩
  go_wp2
  go_ret
  refine ⟨?_, bdrewN HB2.out n⟩
  simp

theorem lookV_shape (s : RS) (t : Int) : ∃ v0 v1 v2 v3 v4 v5 v6 v7 v8 v9 v10 : Int, R.lookV s t = .agg #[.int .i64 v0, .int .i64 v1, .int .i64 v2, .int .i64 v3, .int .i64 v4, .int .i64 v5, .int .i64 v6, .int .i64 v7, .int .i64 v8, .int .i64 v9, .int .i64 v10] := by
  unfold R.lookV
  split
  · exact ⟨_, _, _, _, _, _, _, _, _, _, _, rfl⟩
  · exact ⟨_, _, _, _, _, _, _, _, _, _, _, rfl⟩
theorem rLookAll_any (F : Nat → Prop) (w : World) (sb : Nat) (h : RH) (s : RS) (m : RMem F w sb h s) (g : RGood s) (t : Int) :
    Calls Tryz.prog 76 #[.pointer (some ⟨sb, 0, none⟩), .int .i64 t] w fun e w' => e = .returned (.tuple #[R.lookV s t, .int .i64 (R.lookE s t)]) ∧ Below w.heap.size w w' := by
  unfold R.lookV R.lookE
  by_cases ht : 0 ≤ t ∧ t < s.T.length
  · rw [if_pos ht, if_pos ht]
    obtain ⟨n, rfl⟩ := Int.eq_ofNat_of_zero_le ht.1
    have hn : n < s.T.length := by omega
    have e : R.th s.T (Int.toNat (n : Int)) = s.T[n] := by simp [R.th, List.getD, hn]
    rw [e]
    exact rLook_any F w sb h s m g n hn
  · rw [if_neg ht, if_neg ht]
    exact rLook_not F w sb h s m t (by omega)

set_option maxHeartbeats 1000000 in
theorem lLook_any (f : KFrame PK) (cl : CLook PK) (l : LK PK B w bb kb sb P Q s) (t : Int) :
    Calls Tryz.prog 45 #[.pointer (some ⟨bb, 0, none⟩), .int .i64 t] w fun e w' => e = .returned (.bool true) ∧ Below w.heap.size w w' := by
  have c0 := l.blk.cell 0
  simp at c0
  have L := hid l
  have C1 := hid (cl P w kb s l.pk t)
  have C2 := hid (fun F wx h m => rLookAll_any F wx sb h s m l.rk.inv.good t)
  obtain ⟨v0, v1, v2, v3, v4, v5, v6, v7, v8, v9, v10, hv⟩ := lookV_shape s t
  rw [hv] at C1 C2
  generalize R.lookE s t = er at *
  clear l hv
  go_enter Tryz.func45, Tryz.ntmps45
  go_wp2_with fail
  refine C1.out.mono ?_
  rintro e w1 ⟨rfl, hb1⟩
  have L1 := hid (L.out.below f hb1)
  have HB1 := hid hb1
  clear hb1 c0
  go_upto_region 2 with fail
  have hbA : Below w1.heap.size w1 (w1.alloc (.cells #[.int .i64 v0, .int .i64 v1, .int .i64 v2, .int .i64 v3, .int .i64 v4, .int .i64 v5, .int .i64 v6, .int .i64 v7, .int .i64 v8, .int .i64 v9, .int .i64 v10] 113)) := (Below.refl _ _).alloc (Nat.le_refl _) _
  have bA : Blk (w1.alloc (.cells #[.int .i64 v0, .int .i64 v1, .int .i64 v2, .int .i64 v3, .int .i64 v4, .int .i64 v5, .int .i64 v6, .int .i64 v7, .int .i64 v8, .int .i64 v9, .int .i64 v10] 113)) w1.heap.size #[.int .i64 v0, .int .i64 v1, .int .i64 v2, .int .i64 v3, .int .i64 v4, .int .i64 v5, .int .i64 v6, .int .i64 v7, .int .i64 v8, .int .i64 v9, .int .i64 v10] 113 := Blk.new _ _ _
  generalize w1.alloc (.cells #[.int .i64 v0, .int .i64 v1, .int .i64 v2, .int .i64 v3, .int .i64 v4, .int .i64 v5, .int .i64 v6, .int .i64 v7, .int .i64 v8, .int .i64 v9, .int .i64 v10] 113) = wA at hbA bA ⊢
  have LA := hid (L1.out.below f hbA)
  have HBA := hid (via HB1.out HB1.out.size hbA)
  have BA := hid bA
  clear hbA bA
  have c1 := LA.out.blk.cell 1
  simp at c1
  obtain ⟨F, h, m, _, _⟩ := LA.out.rk.mem
  have C3 := hid (C2.out F wA h m)
  clear m C2 C1
  go_wp2_with fail
  refine C3.out.mono ?_
  rintro e w2 ⟨rfl, hb2⟩
  have B2 := hid (show Blk w2 w1.heap.size #[.int .i64 v0, .int .i64 v1, .int .i64 v2, .int .i64 v3, .int .i64 v4, .int .i64 v5, .int .i64 v6, .int .i64 v7, .int .i64 v8, .int .i64 v9, .int .i64 v10] 113 from by
    have h1 := BA.out
    have hl := BA.out.lt
    unfold Blk at h1 ⊢
    rw [hb2.block _ hl]
    exact h1)
  have HB2 := hid (via HBA.out HBA.out.size hb2)
  have hsz2 := hb2.size
  have hlt2 := B2.out.lt
  clear hb2 c1
  have x0 := B2.out.cell 0
  have x1 := B2.out.cell 1
  have x2 := B2.out.cell 2
  have x3 := B2.out.cell 3
  have x4 := B2.out.cell 4
  have x5 := B2.out.cell 5
  have x6 := B2.out.cell 6
  have x7 := B2.out.cell 7
  have x8 := B2.out.cell 8
  have x9 := B2.out.cell 9
  have x10 := B2.out.cell 10
  simp at x0 x1 x2 x3 x4 x5 x6 x7 x8 x9 x10
  go_wp2_with fail
  refine (sameView_eq _ v0 v1 v2 v3 v4 v5 v6 v7 v8 v9 v10).mono ?_
  rintro e w3 ⟨rfl, hb3⟩
  have HB3 := hid (via (HB2.out.alloc HB2.out.size _) (by have := HB2.out.size; simp; omega) hb3)
  clear hb3 x0 x1 x2 x3 x4 x5 x6 x7 x8 x9 x10
  go_wp2
  go_ret
  exact ⟨by simp, HB3.out⟩

set_option maxHeartbeats 1000000 in
theorem lLooks_any (f : KFrame PK) (cl : CLook PK) (l : LK PK B w bb kb sb P Q s) :
    Calls Tryz.prog 21 #[.pointer (some ⟨bb, 0, none⟩)] w fun e w' => e = .returned (.bool true) ∧ Below w.heap.size w w' := by
  have L := hid l
  have hfew := l.rk.inv.good.few
  clear l
  go_enter Tryz.func21, Tryz.ntmps21
  go_wp2
  go_loopw [3] (fun i wr => ∃ k : Nat, k ≤ s.T.length + 2 ∧ i = .int .i64 ((k : Int) - 1) ∧ Below w.heap.size w wr) (fun i _ => s.T.length + 2 - ((intOf i) + 1).toNat)
  case atStart => exact ⟨0, by omega, rfl, Below.refl _ _⟩
  case round =>
    obtain ⟨k, hk, rfl, hb⟩ := hrel
    have LK := hid (L.out.below f hb)
    have HB := hid hb
    clear hb
    have c1 := LK.out.blk.cell 1
    simp at c1
    obtain ⟨F, h, m, _, _⟩ := LK.out.rk.mem
    have c8 := m.blk.cell 8
    simp [rsCells] at c8
    clear m
    by_cases hlt : k < s.T.length + 2
    · have hle : ((k : Int) - 1) ≤ (s.T.length : Int) := by omega
      go_wp2_with fail
      refine (lLook_any f cl LK.out ((k : Int) - 1)).mono ?_
      rintro e w1 ⟨rfl, hb1⟩
      have HB1 := hid (via HB.out HB.out.size hb1)
      clear hb1 c1 c8
      go_wp2
      go_roundw
      case rel => exact ⟨k + 1, by omega, by go_num, HB1.out⟩
      case measure => simp [intOf]; omega
    · have hgt : (s.T.length : Int) < (k : Int) - 1 := by omega
      go_wp2
      go_ret
      exact ⟨rfl, HB.out⟩

end

end Go.Proofs.YthnjabnlocpoaaaGreat

/-
  The law's own functions, over any program: owners, counts, messages, who waits.
-/
namespace Go.Proofs.YthnjabnlocpoaaaGreat
open Go.RowKit

namespace R
def ownerV (s : RS) (m : Int) : Int := if 0 ≤ m ∧ m < s.owner.length then s.owner.getD m.toNat 0 else 0
def ownerE (s : RS) (m : Int) : Int := if 0 ≤ m ∧ m < s.owner.length then 0 else 7
def countV (s : RS) (m : Int) : Int := if 0 ≤ m ∧ m < s.count.length then s.count.getD m.toNat 0 else 0
def countE (s : RS) (m : Int) : Int := if 0 ≤ m ∧ m < s.count.length then 0 else 7
def boxL (s : RS) (m : Int) : List Int := if 0 ≤ m ∧ m < s.box.length then s.box.getD m.toNat [] else []
def boxE (s : RS) (m : Int) : Int := if 0 ≤ m ∧ m < s.box.length then 0 else 7
def waitL (s : RS) (what i : Int) : List Int := if i < 0 ∨ R.things s what ≤ i then [] else R.waiting s what i
def waitE (s : RS) (what i : Int) : Int := if i < 0 ∨ R.things s what ≤ i then 7 else 0
end R

def COwner (PK : KP) : Prop := ∀ Q w kb s, PK Q w kb s → ∀ m : Int, Calls Tryz.prog 78 #[.pointer (some ⟨kb, 0, none⟩), .int .i64 m] w fun e w' => e = .returned (.tuple #[.int .i64 (R.ownerV s m), .int .i64 (R.ownerE s m)]) ∧ Below w.heap.size w w'
def CCount (PK : KP) : Prop := ∀ Q w kb s, PK Q w kb s → ∀ m : Int, Calls Tryz.prog 81 #[.pointer (some ⟨kb, 0, none⟩), .int .i64 m] w fun e w' => e = .returned (.tuple #[.int .i64 (R.countV s m), .int .i64 (R.countE s m)]) ∧ Below w.heap.size w w'
def CMessages (PK : KP) : Prop := ∀ Q w kb s, PK Q w kb s → ∀ m : Int, Calls Tryz.prog 82 #[.pointer (some ⟨kb, 0, none⟩), .int .i64 m] w fun e w' => ∃ v, e = .returned (.tuple #[v, .int .i64 (R.boxE s m)]) ∧ w'.ownsRow w.heap.size 3 1 v (R.boxL s m).length (intCells (R.boxL s m)) ∧ Below w.heap.size w w'
def CWaiting (PK : KP) : Prop := ∀ Q w kb s, PK Q w kb s → ∀ what i : Int, Calls Tryz.prog 79 #[.pointer (some ⟨kb, 0, none⟩), .int .i64 what, .int .i64 i] w fun e w' => ∃ v, e = .returned (.tuple #[v, .int .i64 (R.waitE s what i)]) ∧ w'.ownsRow w.heap.size 3 1 v (R.waitL s what i).length (intCells (R.waitL s what i)) ∧ Below w.heap.size w w'

theorem waitTo_len (s : RS) (what i : Int) (k : Nat) : (R.waitTo s what i k).length ≤ k := by
  induction k with
  | zero => simp [R.waitTo]
  | succ k ih =>
    unfold R.waitTo
    split
    · omega
    · simp
      omega
theorem waitL_len (s : RS) (what i : Int) (h : s.T.length ≤ 16) : (R.waitL s what i).length ≤ 17 := by
  unfold R.waitL
  split
  · simp
  · have := waitTo_len s what i (s.T.length + 1)
    unfold R.waiting
    omega

section
variable {PK : KP} {B : Nat} {w : World} {bb kb sb : Nat} {P Q : Nat → Prop} {s : RS}

set_option maxHeartbeats 1000000 in
theorem lOwner_any (f : KFrame PK) (c : COwner PK) (l : LK PK B w bb kb sb P Q s) (m : Int) :
    Calls Tryz.prog 46 #[.pointer (some ⟨bb, 0, none⟩), .int .i64 m] w fun e w' => e = .returned (.bool true) ∧ Below w.heap.size w w' := by
  have c0 := l.blk.cell 0
  simp at c0
  have L := hid l
  have C1 := hid (c P w kb s l.pk m)
  have hol : s.owner.length ≤ 8 := by have := l.rk.inv.good.own; have := l.rk.inv.good.mfew; omega
  clear l
  by_cases hm : 0 ≤ m ∧ m < s.owner.length
  · have e1 : R.ownerV s m = s.owner.getD m.toNat 0 := by unfold R.ownerV; rw [if_pos hm]
    have e2 : R.ownerE s m = 0 := by unfold R.ownerE; rw [if_pos hm]
    rw [e1, e2] at C1
    obtain ⟨hm0, hm1⟩ := hm
    obtain ⟨k, rfl⟩ := Int.eq_ofNat_of_zero_le hm0
    have hk : k < s.owner.length := by omega
    have e3 : s.owner.getD (Int.toNat (k : Int)) 0 = s.owner[k] := by simp [List.getD, hk]
    rw [e3] at C1
    clear e1 e2 e3
    go_enter Tryz.func46, Tryz.ntmps46
    go_wp2_with fail
    refine C1.out.mono ?_
    rintro e w1 ⟨rfl, hb1⟩
    have L1 := hid (L.out.below f hb1)
    have c1 := L1.out.blk.cell 1
    simp at c1
    obtain ⟨F, h, m, _, _⟩ := L1.out.rk.mem
    obtain ⟨go, co, hvO, hco, _⟩ := m.ownAt (by omega)
    have c9 := m.blk.cell 9
    simp [rsCells] at c9
    rw [hvO] at c9
    have ck := hco k hk
    have HB := hid hb1
    clear m hvO hco hb1 c0
    generalize s.owner[k] = ok at *
    go_wp2
    go_ret
    exact ⟨by simp, HB.out⟩
  · have e1 : R.ownerV s m = 0 := by unfold R.ownerV; rw [if_neg hm]
    have e2 : R.ownerE s m = 7 := by unfold R.ownerE; rw [if_neg hm]
    rw [e1, e2] at C1
    clear e1 e2
    go_enter Tryz.func46, Tryz.ntmps46
    go_wp2_with fail
    refine C1.out.mono ?_
    rintro e w1 ⟨rfl, hb1⟩
    have L1 := hid (L.out.below f hb1)
    have c1 := L1.out.blk.cell 1
    simp at c1
    obtain ⟨F, h, mm, _, _⟩ := L1.out.rk.mem
    obtain ⟨ao, co, hvO, _, _⟩ := owns_cells mm.oth.own
    have c9 := mm.blk.cell 9
    simp [rsCells] at c9
    rw [hvO] at c9
    have HB := hid hb1
    clear mm hvO hb1 c0
    by_cases hneg : m < 0
    · go_wp2
      go_ret
      exact ⟨rfl, HB.out⟩
    · have hge : (s.owner.length : Int) ≤ m := by omega
      go_wp2
      go_ret
      exact ⟨rfl, HB.out⟩

set_option maxHeartbeats 1000000 in
theorem lCount_any (f : KFrame PK) (c : CCount PK) (l : LK PK B w bb kb sb P Q s) (m : Int) :
    Calls Tryz.prog 48 #[.pointer (some ⟨bb, 0, none⟩), .int .i64 m] w fun e w' => e = .returned (.bool true) ∧ Below w.heap.size w w' := by
  have c0 := l.blk.cell 0
  simp at c0
  have L := hid l
  have C1 := hid (c P w kb s l.pk m)
  have hol : s.count.length ≤ 4 := l.rk.inv.toRMid.store.c4
  clear l
  by_cases hm : 0 ≤ m ∧ m < s.count.length
  · have e1 : R.countV s m = s.count.getD m.toNat 0 := by unfold R.countV; rw [if_pos hm]
    have e2 : R.countE s m = 0 := by unfold R.countE; rw [if_pos hm]
    rw [e1, e2] at C1
    obtain ⟨hm0, hm1⟩ := hm
    obtain ⟨k, rfl⟩ := Int.eq_ofNat_of_zero_le hm0
    have hk : k < s.count.length := by omega
    have e3 : s.count.getD (Int.toNat (k : Int)) 0 = s.count[k] := by simp [List.getD, hk]
    rw [e3] at C1
    clear e1 e2 e3
    go_enter Tryz.func48, Tryz.ntmps48
    go_wp2_with fail
    refine C1.out.mono ?_
    rintro e w1 ⟨rfl, hb1⟩
    have L1 := hid (L.out.below f hb1)
    have c1 := L1.out.blk.cell 1
    simp at c1
    obtain ⟨F, h, m, _, _⟩ := L1.out.rk.mem
    obtain ⟨go, co, hvO, hco, _⟩ := m.cntAt (by omega)
    have c9 := m.blk.cell 10
    simp [rsCells] at c9
    rw [hvO] at c9
    have ck := hco k hk
    have HB := hid hb1
    clear m hvO hco hb1 c0
    generalize s.count[k] = ok at *
    go_wp2
    go_ret
    exact ⟨by simp, HB.out⟩
  · have e1 : R.countV s m = 0 := by unfold R.countV; rw [if_neg hm]
    have e2 : R.countE s m = 7 := by unfold R.countE; rw [if_neg hm]
    rw [e1, e2] at C1
    clear e1 e2
    go_enter Tryz.func48, Tryz.ntmps48
    go_wp2_with fail
    refine C1.out.mono ?_
    rintro e w1 ⟨rfl, hb1⟩
    have L1 := hid (L.out.below f hb1)
    have c1 := L1.out.blk.cell 1
    simp at c1
    obtain ⟨F, h, mm, _, _⟩ := L1.out.rk.mem
    obtain ⟨ao, co, hvO, _, _⟩ := owns_cells mm.oth.cnt
    have c9 := mm.blk.cell 10
    simp [rsCells] at c9
    rw [hvO] at c9
    have HB := hid hb1
    clear mm hvO hb1 c0
    by_cases hneg : m < 0
    · go_wp2
      go_ret
      exact ⟨rfl, HB.out⟩
    · have hge : (s.count.length : Int) ≤ m := by omega
      go_wp2
      go_ret
      exact ⟨rfl, HB.out⟩

set_option maxHeartbeats 1000000 in
theorem lMessages_any (f : KFrame PK) (c : CMessages PK) (l : LK PK B w bb kb sb P Q s) (m : Int) :
    Calls Tryz.prog 49 #[.pointer (some ⟨bb, 0, none⟩), .int .i64 m] w fun e w' => e = .returned (.bool true) ∧ Below w.heap.size w w' := by
  have c0 := l.blk.cell 0
  simp at c0
  have L := hid l
  have C1 := hid (c P w kb s l.pk m)
  have ST := hid l.rk.inv.toRMid.store
  have hol : s.box.length ≤ 4 := l.rk.inv.toRMid.store.q4
  clear l
  by_cases hm : 0 ≤ m ∧ m < s.box.length
  · have e1 : R.boxL s m = s.box.getD m.toNat [] := by unfold R.boxL; rw [if_pos hm]
    have e2 : R.boxE s m = 0 := by unfold R.boxE; rw [if_pos hm]
    rw [e1, e2] at C1
    obtain ⟨hm0, hm1⟩ := hm
    obtain ⟨k, rfl⟩ := Int.eq_ofNat_of_zero_le hm0
    have hk : k < s.box.length := by omega
    have e3 : s.box.getD (Int.toNat (k : Int)) [] = s.box[k] := by simp [List.getD, hk]
    rw [e3] at C1
    clear e1 e2 e3
    go_enter Tryz.func49, Tryz.ntmps49
    go_wp2_with fail
    refine C1.out.mono ?_
    rintro e w1 ⟨v, rfl, ho1, hb1⟩
    obtain ⟨ao, ca, rfl, _, hi1, _⟩ := IntsIn.of_owns ho1
    have L1 := hid (L.out.below f hb1)
    have c1 := L1.out.blk.cell 1
    simp at c1
    obtain ⟨F, h, m, _, _⟩ := L1.out.rk.mem
    obtain ⟨g, cap, v, hvB, _, ck, _, hrow⟩ := m.boxAt hk
    obtain ⟨bo, cb, rfl, _, hi2, _⟩ := IntsIn.of_owns hrow
    have c11 := m.blk.cell 11
    simp [rsCells] at c11
    rw [hvB] at c11
    have hbl := ST.out.qb k hk
    have HB := hid hb1
    have HI1 := hid hi1
    have HI2 := hid hi2
    clear m hvB hb1 c0 hi1 hi2 hrow ho1
    generalize s.box[k] = bx at *
    have hkI : (k : Int) < (s.box.length : Int) := by omega
    go_wp2_with fail
    refine (sameInts_eq w1 ao bo ca cb bx HI1.out HI2.out (by omega)).mono ?_
    rintro e w2 ⟨rfl, n, rfl⟩
    go_wp2
    go_ret
    exact ⟨rfl, bdrewN HB.out n⟩
  · have e1 : R.boxL s m = [] := by unfold R.boxL; rw [if_neg hm]
    have e2 : R.boxE s m = 7 := by unfold R.boxE; rw [if_neg hm]
    rw [e1, e2] at C1
    clear e1 e2
    go_enter Tryz.func49, Tryz.ntmps49
    go_wp2_with fail
    refine C1.out.mono ?_
    rintro e w1 ⟨v, rfl, ho1, hb1⟩
    obtain ⟨va, vc, rfl, _, _, _⟩ := IntsIn.of_owns ho1
    have L1 := hid (L.out.below f hb1)
    have c1 := L1.out.blk.cell 1
    simp at c1
    obtain ⟨F, h, mm, _, _⟩ := L1.out.rk.mem
    obtain ⟨ao, co, hvO, _, _⟩ := owns_cells mm.oth.box.1
    have c9 := mm.blk.cell 11
    simp [rsCells] at c9
    rw [hvO] at c9
    have HB := hid hb1
    clear mm hvO hb1 c0 ho1
    by_cases hneg : m < 0
    · go_wp2
      go_ret
      exact ⟨rfl, HB.out⟩
    · have hge : (s.box.length : Int) ≤ m := by omega
      go_wp2
      go_ret
      exact ⟨rfl, HB.out⟩

set_option maxHeartbeats 1000000 in
theorem lWaiting_any (f : KFrame PK) (c : CWaiting PK) (l : LK PK B w bb kb sb P Q s) (what i : Int) :
    Calls Tryz.prog 47 #[.pointer (some ⟨bb, 0, none⟩), .int .i64 what, .int .i64 i] w fun e w' => e = .returned (.bool true) ∧ Below w.heap.size w w' := by
  have c0 := l.blk.cell 0
  simp at c0
  have L := hid l
  have C1 := hid (c P w kb s l.pk what i)
  have hst := l.rk.inv.toRMid.store
  have C2 : Hid (∀ F wx h, RMem F wx sb h s → Calls Tryz.prog 80 #[.pointer (some ⟨sb, 0, none⟩), .int .i64 what, .int .i64 i] wx fun e w' => ∃ v, e = .returned (.tuple #[v, .int .i64 (R.waitE s what i)]) ∧ w'.ownsRow wx.heap.size 3 1 v (R.waitL s what i).length (intCells (R.waitL s what i)) ∧ Below wx.heap.size wx w') := by
    intro F wx h m
    refine (rWaiting_any F wx sb h s m L.out.rk.inv.good hst.c4 hst.q4 what i).mono ?_
    rintro e w' ⟨hb, ⟨h1, rfl⟩ | ⟨h1, v, rfl, hr⟩⟩
    · have e1 : R.waitE s what i = 7 := by unfold R.waitE; rw [if_pos h1]
      have e2 : R.waitL s what i = [] := by unfold R.waitL; rw [if_pos h1]
      rw [e1, e2]
      exact ⟨_, rfl, World.ownsRow_nil _ _ _ _, hb⟩
    · have e1 : R.waitE s what i = 0 := by unfold R.waitE; rw [if_neg h1]
      have e2 : R.waitL s what i = R.waiting s what i := by unfold R.waitL; rw [if_neg h1]
      rw [e1, e2]
      exact ⟨v, rfl, hr, hb⟩
  have hlen := waitL_len s what i l.rk.inv.good.few
  clear l hst
  generalize R.waitL s what i = wl at *
  generalize R.waitE s what i = we at *
  go_enter Tryz.func47, Tryz.ntmps47
  go_wp2_with fail
  refine C1.out.mono ?_
  rintro e w1 ⟨v, rfl, ho1, hb1⟩
  obtain ⟨ao, ca, rfl, _, hi1, _⟩ := IntsIn.of_owns ho1
  have L1 := hid (L.out.below f hb1)
  have c1 := L1.out.blk.cell 1
  simp at c1
  obtain ⟨F, h, m, _, _⟩ := L1.out.rk.mem
  have C3 := hid (C2.out F w1 h m)
  have HB := hid hb1
  have HI1 := hid hi1
  clear m hb1 c0 hi1 ho1 C1 C2
  go_wp2_with fail
  refine C3.out.mono ?_
  rintro e w2 ⟨v2, rfl, ho2, hb2⟩
  obtain ⟨bo, cb, rfl, _, hi2, _⟩ := IntsIn.of_owns ho2
  have HI2 := hid hi2
  have HI1' := hid (HI1.out.on hb2)
  have HB2 := hid (via HB.out HB.out.size hb2)
  clear ho2 hi2 hb2 c1
  go_wp2_with fail
  refine (sameInts_eq w2 ao bo ca cb wl HI1'.out HI2.out (by omega)).mono ?_
  rintro e w3 ⟨rfl, n, rfl⟩
  go_wp2
  go_ret
  exact ⟨by simp, bdrewN HB2.out n⟩
end

end Go.Proofs.YthnjabnlocpoaaaGreat

/-
  Walks over package donate: Owner, Waiting.
-/
namespace Go.Proofs.YthnjabnlocpoaaaGreat
open Go.RowKit

section
variable {F : Nat → Prop} {w : World} {kb : Nat} {h : KH} {s : RS} {tk wt : List Nat} {ws : List Int}

set_option maxHeartbeats 1000000 in
theorem kOwner_any (m : KMem F w kb h s tk wt ws) (f : KFit s) (i : Int) :
    Calls Tryz.prog 78 #[.pointer (some ⟨kb, 0, none⟩), .int .i64 i] w fun e w' => e = .returned (.tuple #[.int .i64 (R.ownerV s i), .int .i64 (R.ownerE s i)]) ∧ Below w.heap.size w w' := by
  have c2 := m.blk.cell 2
  simp [kCells] at c2
  have hm8 := f.m8
  have M := hid m
  clear m f
  by_cases hin : 0 ≤ i ∧ i < s.owner.length
  · have E1 : R.ownerV s i = s.owner.getD i.toNat 0 := by unfold R.ownerV; rw [if_pos hin]
    have E2 : R.ownerE s i = 0 := by unfold R.ownerE; rw [if_pos hin]
    rw [E1, E2]
    clear E1 E2
    obtain ⟨h0, h1⟩ := hin
    obtain ⟨k, rfl⟩ := Int.eq_ofNat_of_zero_le h0
    have hk : k < s.owner.length := by omega
    have ek : s.owner.getD (Int.toNat (k : Int)) 0 = s.owner[k] := by simp [List.getD, hk]
    rw [ek]
    have b2 := M.out.mcell hk 2 (by decide)
    simp [kmCells] at b2
    generalize s.owner[k] = ow at *
    go_enter Tryz.func78, Tryz.ntmps78
    go_wp2
    exact bodyPost_ret (v := .tuple #[.int .i64 ow, .int .i64 0]) (by simp [results, Tryz.results78, go_sem]) rfl ⟨rfl, Below.refl _ _⟩
  · have E1 : R.ownerV s i = 0 := by unfold R.ownerV; rw [if_neg hin]
    have E2 : R.ownerE s i = 7 := by unfold R.ownerE; rw [if_neg hin]
    rw [E1, E2]
    clear E1 E2
    go_enter Tryz.func78, Tryz.ntmps78
    by_cases hneg : i < 0
    · go_wp2
      exact bodyPost_ret (v := .tuple #[.int .i64 0, .int .i64 7]) (by simp [results, Tryz.results78, go_sem]) rfl ⟨rfl, Below.refl _ _⟩
    · have hge : (s.owner.length : Int) ≤ i := by omega
      go_wp2
      exact bodyPost_ret (v := .tuple #[.int .i64 0, .int .i64 7]) (by simp [results, Tryz.results78, go_sem]) rfl ⟨rfl, Below.refl _ _⟩

def K.things (s : RS) (what : Int) : Int := if what = 1 then (s.owner.length : Int) else if what = 2 then (s.set.sems.length : Int) else if what = 3 then (s.set.queues.length : Int) else 0
set_option maxHeartbeats 1000000 in
theorem kHowMany_any (m : KMem F w kb h s tk wt ws) (f : KFit s) (what : Int) :
    Calls Tryz.prog 103 #[.pointer (some ⟨kb, 0, none⟩), .int .i64 what] w fun e w' => e = .returned (.int .i64 (K.things s what)) ∧ w' = w := by
  have c2 := m.blk.cell 2
  have c3 := m.blk.cell 3
  have c4 := m.blk.cell 4
  simp [kCells] at c2 c3 c4
  have hm8 := f.m8
  have ET : Hid (K.things s what = if what = 1 then (s.owner.length : Int) else if what = 2 then (s.set.sems.length : Int) else if what = 3 then (s.set.queues.length : Int) else 0) := rfl
  clear m f
  generalize K.things s what = res at *
  go_enter Tryz.func103, Tryz.ntmps103
  by_cases h1 : what = 1
  · have HE : Hid (res = (s.owner.length : Int)) := by rw [ET.out, if_pos h1]; exact hid rfl
    subst h1
    clear ET
    go_wp2
    go_ret
    exact ⟨ret_int HE.out.symm, rfl⟩
  · have h1' : (what == 1) = false := by simpa using h1
    rw [if_neg h1] at ET
    by_cases h2 : what = 2
    · have HE : Hid (res = (s.set.sems.length : Int)) := by rw [ET.out, if_pos h2]; exact hid rfl
      subst h2
      clear ET
      go_wp2
      go_ret
      exact ⟨ret_int HE.out.symm, rfl⟩
    · have h2' : (what == 2) = false := by simpa using h2
      rw [if_neg h2] at ET
      by_cases h3 : what = 3
      · have HE : Hid (res = (s.set.queues.length : Int)) := by rw [ET.out, if_pos h3]; exact hid rfl
        subst h3
        clear ET
        go_wp2
        go_ret
        exact ⟨ret_int HE.out.symm, rfl⟩
      · have h3' : (what == 3) = false := by simpa using h3
        rw [if_neg h3] at ET
        go_wp2
        go_ret
        exact ⟨ret_int ET.out.symm, rfl⟩

set_option maxHeartbeats 1000000 in
theorem kWaiting_any (m : KMem F w kb h s tk wt ws) (f : KFit s) (a : Ln.WtOk s wt) (what i : Int) :
    Calls Tryz.prog 79 #[.pointer (some ⟨kb, 0, none⟩), .int .i64 what, .int .i64 i] w fun e w' =>
      if 0 ≤ i ∧ i < K.things s what then ∃ v, e = .returned (.tuple #[v, .int .i64 0]) ∧ w'.ownsRow w.heap.size 3 1 v (Ln.lineW s wt what i).length (intCells (Ln.ints (Ln.lineW s wt what i))) ∧ Below w.heap.size w w'
      else e = .returned (.tuple #[.slice none 0 0, .int .i64 7]) ∧ Below w.heap.size w w' := by
  have HM := hid (kHowMany_any m f what)
  have WO := hid (kWaitersInOrder_any m f.few f.ok f.m8 a what i)
  clear m f a
  generalize K.things s what = th at *
  generalize Ln.lineW s wt what i = L at *
  by_cases hin : 0 ≤ i ∧ i < th
  · simp only [if_pos hin]
    obtain ⟨h0, h1⟩ := hin
    have hn0 : (decide (i < 0)) = false := by simpa using h0
    have hn1 : (decide (th ≤ i)) = false := by simpa using h1
    go_enter Tryz.func79, Tryz.ntmps79
    go_wp2_with fail
    refine HM.out.mono ?_
    rintro e w1 ⟨rfl, hw1⟩
    have hw2 := hw1.symm
    subst hw2
    clear hw1 HM
    go_wp2_with fail
    refine WO.out.mono ?_
    rintro e w1 ⟨v, rfl, hr1, hb1⟩
    obtain ⟨tv5, tc5, rfl, _, _⟩ := owns_cells hr1
    have R1 := hid hr1
    have HB1 := hid hb1
    clear hr1 hb1 WO
    go_wp2
    exact bodyPost_ret (v := .tuple #[.slice tv5 L.length tc5, .int .i64 0]) (by simp [results, Tryz.results79, go_sem]) rfl ⟨_, rfl, R1.out, HB1.out⟩
  · simp only [if_neg hin]
    go_enter Tryz.func79, Tryz.ntmps79
    by_cases hneg : i < 0
    · go_wp2
      exact bodyPost_ret (v := .tuple #[.slice none 0 0, .int .i64 7]) (by simp [results, Tryz.results79, go_sem]) rfl ⟨rfl, Below.refl _ _⟩
    · have hge : th ≤ i := by omega
      have hn0 : (decide (i < 0)) = false := by simpa using hneg
      go_wp2_with fail
      refine HM.out.mono ?_
      rintro e w1 ⟨rfl, hw1⟩
      have hw2 := hw1.symm
      subst hw2
      clear hw1 HM
      go_wp2
      exact bodyPost_ret (v := .tuple #[.slice none 0 0, .int .i64 7]) (by simp [results, Tryz.results79, go_sem]) rfl ⟨rfl, Below.refl _ _⟩
end

end Go.Proofs.YthnjabnlocpoaaaGreat
