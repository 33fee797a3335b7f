import Derived.Test.YthnjabnlocpoaaaGreatB05
import Derived.Test.YthnjabnlocpoaaaGreatB02
import Derived.Test.YthnjabnlocpoaaaGreatB10
/-
  Walks over package donateref: begin, end.
-/
namespace Go.Proofs.YthnjabnlocpoaaaGreat
open Go.RowKit

set_option maxHeartbeats 1000000 in
theorem rEnd_any (F : Nat → Prop) (w : World) (sb : Nat) (h : RH) (s : RS) (m : RMem F w sb h s) (t : Nat) (ht : t < s.T.length) (hfew : s.T.length ≤ 16) (c : Int) (h0 : 0 ≤ s.next) (h1 : s.next ≤ 4611686018427387904) :
    Calls Tryz.prog 87 #[.pointer (some ⟨sb, 0, none⟩), .int .i64 t, .int .i64 c] w fun e w' => e = .returned (.tuple #[]) ∧ RMem F w' sb h (R.endW s t c) ∧ Only [sb, h.gT] w w' := by
  obtain ⟨w0, hw0⟩ : ∃ w0, w0 = w := ⟨w, rfl⟩
  have M0 : Hid (RMem F w0 sb h s) := by rw [hw0]; exact m
  have O0 : Hid (Only [sb, h.gT] w w0) := by rw [hw0]; exact Only.refl _ _
  rw [show Calls Tryz.prog 87 #[.pointer (some ⟨sb, 0, none⟩), .int .i64 t, .int .i64 c] w = Calls Tryz.prog 87 #[.pointer (some ⟨sb, 0, none⟩), .int .i64 t, .int .i64 c] w0 from by rw [hw0]]
  clear m hw0
  have c8 := M0.out.blk.cell 8
  simp [rsCells] at c8
  have ac := M0.out.tcell (i := t) (by simpa using ht) 9 (by decide)
  simp [rtCells] at ac
  have fc := M0.out.tfrozen (t * 13 + 9)
  go_enter Tryz.func87, Tryz.ntmps87
  go_upto_region 1 with fail
  have hm1 := M0.out.setT (i := t) (j := 9) (by simpa using ht) (by decide) (.int .i64 0) (fun x => { x with for_ := 0 }) rfl
  have ho1 : Only [sb, h.gT] w (w0.setCell ⟨h.gT, t * 13 + 9, none⟩ (.int .i64 0)) := O0.out.setCell (.inl (by simp)) _
  clear c8 ac fc M0 O0
  generalize w0.setCell ⟨h.gT, t * 13 + 9, none⟩ (.int .i64 0) = w1 at hm1 ho1 ⊢
  have M1 := hid hm1
  have O1 := hid ho1
  clear hm1 ho1
  have c8 := M1.out.blk.cell 8
  simp [rsCells] at c8
  have ac := M1.out.tcell (i := t) (by simpa using ht) 10 (by decide)
  simp [rtCells] at ac
  have fc := M1.out.tfrozen (t * 13 + 10)
  go_upto_region 2 with fail
  have hm2 := M1.out.setT (i := t) (j := 10) (by simpa using ht) (by decide) (.int .i64 0) (fun x => { x with of_ := 0 }) rfl
  have ho2 : Only [sb, h.gT] w (w1.setCell ⟨h.gT, t * 13 + 10, none⟩ (.int .i64 0)) := O1.out.setCell (.inl (by simp)) _
  clear c8 ac fc M1 O1
  generalize w1.setCell ⟨h.gT, t * 13 + 10, none⟩ (.int .i64 0) = w2 at hm2 ho2 ⊢
  have M2 := hid hm2
  have O2 := hid ho2
  clear hm2 ho2
  have c8 := M2.out.blk.cell 8
  simp [rsCells] at c8
  have ac := M2.out.tcell (i := t) (by simpa using ht) 11 (by decide)
  simp [rtCells] at ac
  have fc := M2.out.tfrozen (t * 13 + 11)
  go_upto_region 3 with fail
  have hm3 := M2.out.setT (i := t) (j := 11) (by simpa using ht) (by decide) (.int .i64 0) (fun x => { x with until_ := 0 }) rfl
  have ho3 : Only [sb, h.gT] w (w2.setCell ⟨h.gT, t * 13 + 11, none⟩ (.int .i64 0)) := O2.out.setCell (.inl (by simp)) _
  clear c8 ac fc M2 O2
  generalize w2.setCell ⟨h.gT, t * 13 + 11, none⟩ (.int .i64 0) = w3 at hm3 ho3 ⊢
  have M3 := hid hm3
  have O3 := hid ho3
  clear hm3 ho3
  have c8 := M3.out.blk.cell 8
  simp [rsCells] at c8
  have ac := M3.out.tcell (i := t) (by simpa using ht) 2 (by decide)
  simp [rtCells] at ac
  have fc := M3.out.tfrozen (t * 13 + 2)
  go_upto_region 4 with fail
  have hm4 := M3.out.setT (i := t) (j := 2) (by simpa using ht) (by decide) (.int .i64 c) (fun x => { x with last := c }) rfl
  have ho4 : Only [sb, h.gT] w (w3.setCell ⟨h.gT, t * 13 + 2, none⟩ (.int .i64 c)) := O3.out.setCell (.inl (by simp)) _
  clear c8 ac fc M3 O3
  generalize w3.setCell ⟨h.gT, t * 13 + 2, none⟩ (.int .i64 c) = w4 at hm4 ho4 ⊢
  have M4 := hid hm4
  have O4 := hid ho4
  clear hm4 ho4
  go_wp2_with fail
  refine (rWake_any F w4 sb h _ M4.out t (by simpa using ht) (by simpa using hfew) h0 h1).mono ?_
  rintro e w5 ⟨rfl, hm5, ho5⟩
  have M5 := hid hm5
  have O5 := hid (O4.out.trans ho5)
  clear hm5 ho5
  go_wp2
  go_end0
  refine ⟨rfl, ?_, O5.out⟩
  have e : R.endW s t c = R.wake { s with T := (((s.T.modify t (fun x => { x with for_ := 0 })).modify t (fun x => { x with of_ := 0 })).modify t (fun x => { x with until_ := 0 })).modify t (fun x => { x with last := c }) } t := by
    unfold R.endW
    simp only [List.modify_modify_eq]
    rfl
  rw [e]
  exact M5.out

set_option maxHeartbeats 2000000 in
theorem rBegin_any (F : Nat → Prop) (w : World) (sb : Nat) (h : RH) (s : RS) (m : RMem F w sb h s) (t : Nat) (ht : t < s.T.length) (_hfew : s.T.length ≤ 16) (what of_ n : Int) (hn1 : n ≤ 1000) (g0 : 0 ≤ s.now) (g1 : s.now ≤ 1000000000) (h0 : 0 ≤ s.next) (h1 : s.next ≤ 4611686018427387904) :
    Calls Tryz.prog 116 #[.pointer (some ⟨sb, 0, none⟩), .int .i64 t, .int .i64 what, .int .i64 of_, .int .i64 n] w fun e w' => e = .returned (.int .i64 1) ∧ RMem F w' sb h (R.beginW s t what of_ n) ∧ Only [sb, h.gT] w w' := by
  obtain ⟨w0, hw0⟩ : ∃ w0, w0 = w := ⟨w, rfl⟩
  have M0 : Hid (RMem F w0 sb h s) := by rw [hw0]; exact m
  have O0 : Hid (Only [sb, h.gT] w w0) := by rw [hw0]; exact Only.refl _ _
  rw [show Calls Tryz.prog 116 #[.pointer (some ⟨sb, 0, none⟩), .int .i64 t, .int .i64 what, .int .i64 of_, .int .i64 n] w = Calls Tryz.prog 116 #[.pointer (some ⟨sb, 0, none⟩), .int .i64 t, .int .i64 what, .int .i64 of_, .int .i64 n] w0 from by rw [hw0]]
  clear m hw0
  have c8 := M0.out.blk.cell 8
  simp [rsCells] at c8
  have ac := M0.out.tcell (i := t) (by simpa using ht) 6 (by decide)
  simp [rtCells] at ac
  have fc := M0.out.tfrozen (t * 13 + 6)
  go_enter Tryz.func116, Tryz.ntmps116
  go_upto_region 2 with fail
  have hm1 := M0.out.setT (i := t) (j := 6) (by simpa using ht) (by decide) (.bool false) (fun x => { x with awake := false }) rfl
  have ho1 : Only [sb, h.gT] w (w0.setCell ⟨h.gT, t * 13 + 6, none⟩ (.bool false)) := O0.out.setCell (.inl (by simp)) _
  clear c8 ac fc M0 O0
  generalize w0.setCell ⟨h.gT, t * 13 + 6, none⟩ (.bool false) = w1 at hm1 ho1 ⊢
  have M1 := hid hm1
  have O1 := hid ho1
  clear hm1 ho1
  have c8 := M1.out.blk.cell 8
  simp [rsCells] at c8
  have ac := M1.out.tcell (i := t) (by simpa using ht) 8 (by decide)
  simp [rtCells] at ac
  have fc := M1.out.tfrozen (t * 13 + 8)
  go_upto_region 3 with fail
  have hm2 := M1.out.setT (i := t) (j := 8) (by simpa using ht) (by decide) (.int .i64 (-1)) (fun x => { x with wkr := -1 }) rfl
  have ho2 : Only [sb, h.gT] w (w1.setCell ⟨h.gT, t * 13 + 8, none⟩ (.int .i64 (-1))) := O1.out.setCell (.inl (by simp)) _
  clear c8 ac fc M1 O1
  generalize w1.setCell ⟨h.gT, t * 13 + 8, none⟩ (.int .i64 (-1)) = w2 at hm2 ho2 ⊢
  have M2 := hid hm2
  have O2 := hid ho2
  clear hm2 ho2
  have c8 := M2.out.blk.cell 8
  simp [rsCells] at c8
  have ac := M2.out.tcell (i := t) (by simpa using ht) 9 (by decide)
  simp [rtCells] at ac
  have fc := M2.out.tfrozen (t * 13 + 9)
  go_upto_region 4 with fail
  have hm3 := M2.out.setT (i := t) (j := 9) (by simpa using ht) (by decide) (.int .i64 what) (fun x => { x with for_ := what }) rfl
  have ho3 : Only [sb, h.gT] w (w2.setCell ⟨h.gT, t * 13 + 9, none⟩ (.int .i64 what)) := O2.out.setCell (.inl (by simp)) _
  clear c8 ac fc M2 O2
  generalize w2.setCell ⟨h.gT, t * 13 + 9, none⟩ (.int .i64 what) = w3 at hm3 ho3 ⊢
  have M3 := hid hm3
  have O3 := hid ho3
  clear hm3 ho3
  have c8 := M3.out.blk.cell 8
  simp [rsCells] at c8
  have ac := M3.out.tcell (i := t) (by simpa using ht) 10 (by decide)
  simp [rtCells] at ac
  have fc := M3.out.tfrozen (t * 13 + 10)
  go_upto_region 5 with fail
  have hm4 := M3.out.setT (i := t) (j := 10) (by simpa using ht) (by decide) (.int .i64 of_) (fun x => { x with of_ := of_ }) rfl
  have ho4 : Only [sb, h.gT] w (w3.setCell ⟨h.gT, t * 13 + 10, none⟩ (.int .i64 of_)) := O3.out.setCell (.inl (by simp)) _
  clear c8 ac fc M3 O3
  generalize w3.setCell ⟨h.gT, t * 13 + 10, none⟩ (.int .i64 of_) = w4 at hm4 ho4 ⊢
  have M4 := hid hm4
  have O4 := hid ho4
  clear hm4 ho4
  have c8 := M4.out.blk.cell 8
  simp [rsCells] at c8
  have ac := M4.out.tcell (i := t) (by simpa using ht) 11 (by decide)
  simp [rtCells] at ac
  have fc := M4.out.tfrozen (t * 13 + 11)
  go_upto_region 6 with fail
  have hm5 := M4.out.setT (i := t) (j := 11) (by simpa using ht) (by decide) (.int .i64 (-1)) (fun x => { x with until_ := -1 }) rfl
  have ho5 : Only [sb, h.gT] w (w4.setCell ⟨h.gT, t * 13 + 11, none⟩ (.int .i64 (-1))) := O4.out.setCell (.inl (by simp)) _
  clear c8 ac fc M4 O4
  generalize w4.setCell ⟨h.gT, t * 13 + 11, none⟩ (.int .i64 (-1)) = w5 at hm5 ho5 ⊢
  have M5 := hid hm5
  have O5 := hid ho5
  clear hm5 ho5
  by_cases hn : 0 ≤ n
  · have fin : R.beginW s t what of_ n = { s with next := s.next + 1, T := ((((((s.T.modify t (fun x => { x with awake := false })).modify t (fun x => { x with wkr := -1 })).modify t (fun x => { x with for_ := what })).modify t (fun x => { x with of_ := of_ })).modify t (fun x => { x with until_ := -1 })).modify t (fun x => { x with until_ := s.now + n })).modify t (fun x => { x with since := s.next + 1 }) } := by
      unfold R.beginW
      simp only [List.modify_modify_eq, if_pos hn]
      rfl
    have FIN := hid fin
    clear fin
    have c8 := M5.out.blk.cell 8
    simp [rsCells] at c8
    have ac := M5.out.tcell (i := t) (by simpa using ht) 11 (by decide)
    simp [rtCells] at ac
    have fc := M5.out.tfrozen (t * 13 + 11)
    have c6 := M5.out.blk.cell 6
    simp [rsCells] at c6
    go_wp2_with fail
    go_region
    have hm6 := (M5.out.setT (i := t) (j := 11) (by simpa using ht) (by decide) (.int .i64 (s.now + n)) (fun x => { x with until_ := s.now + n }) rfl).below (Below.refl _ _).drew
    have ho6 : Only [sb, h.gT] w (w5.setCell ⟨h.gT, t * 13 + 11, none⟩ (.int .i64 (s.now + n))).drew := (O5.out.setCell (.inl (by simp)) _).via (Below.refl _ _).drew
    clear c8 ac fc c6 M5 O5
    generalize (w5.setCell ⟨h.gT, t * 13 + 11, none⟩ (.int .i64 (s.now + n))).drew = w6 at hm6 ho6 ⊢
    have M6 := hid hm6
    have O6 := hid ho6
    clear hm6 ho6
    go_wp2_with fail
    refine (rDraw_any F w6 sb h _ M6.out h0 h1).mono ?_
    rintro e wX ⟨rfl, rfl⟩
    have hmX := M6.out.setNext (s.next + 1)
    have hoX : Only [sb, h.gT] w (w6.setCell ⟨sb, 7, none⟩ (.int .i64 (s.next + 1))) := O6.out.setCell (.inl (by simp)) _
    clear M6 O6
    generalize w6.setCell ⟨sb, 7, none⟩ (.int .i64 (s.next + 1)) = wX at hmX hoX ⊢
    have MX := hid hmX
    have OX := hid hoX
    clear hmX hoX
    have c8 := MX.out.blk.cell 8
    simp [rsCells] at c8
    have ac := MX.out.tcell (i := t) (by simpa using ht) 12 (by decide)
    simp [rtCells] at ac
    have fc := MX.out.tfrozen (t * 13 + 12)
    go_wp2
    go_ret
    have hmY := MX.out.setT (i := t) (j := 12) (by simpa using ht) (by decide) (.int .i64 (s.next + 1)) (fun x => { x with since := s.next + 1 }) rfl
    refine ⟨rfl, ?_, OX.out.setCell (.inl (by simp)) _⟩
    rw [FIN.out]
    exact hmY
  · have fin : R.beginW s t what of_ n = { s with next := s.next + 1, T := (((((s.T.modify t (fun x => { x with awake := false })).modify t (fun x => { x with wkr := -1 })).modify t (fun x => { x with for_ := what })).modify t (fun x => { x with of_ := of_ })).modify t (fun x => { x with until_ := -1 })).modify t (fun x => { x with since := s.next + 1 }) } := by
      unfold R.beginW
      simp only [List.modify_modify_eq, if_neg hn]
      rfl
    have FIN := hid fin
    clear fin
    go_wp2_with fail
    refine (rDraw_any F w5 sb h _ M5.out h0 h1).mono ?_
    rintro e wX ⟨rfl, rfl⟩
    have hmX := M5.out.setNext (s.next + 1)
    have hoX : Only [sb, h.gT] w (w5.setCell ⟨sb, 7, none⟩ (.int .i64 (s.next + 1))) := O5.out.setCell (.inl (by simp)) _
    clear M5 O5
    generalize w5.setCell ⟨sb, 7, none⟩ (.int .i64 (s.next + 1)) = wX at hmX hoX ⊢
    have MX := hid hmX
    have OX := hid hoX
    clear hmX hoX
    have c8 := MX.out.blk.cell 8
    simp [rsCells] at c8
    have ac := MX.out.tcell (i := t) (by simpa using ht) 12 (by decide)
    simp [rtCells] at ac
    have fc := MX.out.tfrozen (t * 13 + 12)
    go_wp2
    go_ret
    have hmY := MX.out.setT (i := t) (j := 12) (by simpa using ht) (by decide) (.int .i64 (s.next + 1)) (fun x => { x with since := s.next + 1 }) rfl
    refine ⟨rfl, ?_, OX.out.setCell (.inl (by simp)) _⟩
    rw [FIN.out]
    exact hmY

end Go.Proofs.YthnjabnlocpoaaaGreat

/-
  Walks over package donateref: due, late.
-/
namespace Go.Proofs.YthnjabnlocpoaaaGreat
open Go.RowKit

set_option maxRecDepth 100000 in
set_option maxHeartbeats 2000000 in
theorem rDue_any (F : Nat → Prop) (w : World) (sb : Nat) (h : RH) (s : RS) (m : RMem F w sb h s) (hfew : s.T.length ≤ 16) :
    Calls Tryz.prog 86 #[.pointer (some ⟨sb, 0, none⟩)] w fun e w' => e = .returned (.int .i64 (R.due s)) ∧ ∃ n, w' = w.drewN n := by
  have c8 := m.blk.cell 8
  have c6 := m.blk.cell 6
  simp [rsCells] at c8 c6
  have M := hid m
  clear m
  go_enter Tryz.func86, Tryz.ntmps86
  go_wp2
  go_loopw [3, 4] (fun b i wr => ∃ k : Nat, k ≤ s.T.length ∧ i = .int .i64 k ∧ b = .int .i64 (R.dueTo s.T s.now k) ∧ ∃ n, wr = w.drewN n) (fun _ i _ => s.T.length - (intOf i).toNat)
  case atStart => exact ⟨0, Nat.zero_le _, rfl, rfl, 0, rfl⟩
  case round =>
    obtain ⟨k, hk, rfl, rfl, n, rfl⟩ := hrel
    obtain ⟨hb0, hb1⟩ := R.dueTo_bd s.T s.now k
    by_cases hlt : k < s.T.length
    · have a9 := M.out.tcell hlt 9 (by decide)
      have a11 := M.out.tcell hlt 11 (by decide)
      have a12 := M.out.tcell hlt 12 (by decide)
      simp [rtCells] at a9 a11 a12
      have eth : R.th s.T k = s.T[k] := by simp [R.th, List.getD, hlt]
      have estep : R.dueTo s.T s.now (k + 1) = if (R.th s.T k).for_ ≠ 0 ∧ (R.th s.T k).until_ = s.now ∧ (R.dueTo s.T s.now k < 0 ∨ (R.th s.T k).since < (R.th s.T (R.dueTo s.T s.now k).toNat).since) then (k : Int) else R.dueTo s.T s.now k := rfl
      rw [eth] at estep
      have hlb : 0 ≤ R.dueTo s.T s.now k → ∃ (hj : (R.dueTo s.T s.now k).toNat < s.T.length), R.th s.T (R.dueTo s.T s.now k).toNat = s.T[(R.dueTo s.T s.now k).toNat] := by
        intro hp
        have hj : (R.dueTo s.T s.now k).toNat < s.T.length := by omega
        exact ⟨hj, by simp [R.th, List.getD, hj]⟩
      have HLB := hid hlb
      have ES := hid estep
      clear estep eth hlb
      generalize s.T[k] = x at *
      generalize R.dueTo s.T s.now k = b at *
      have hkI : (k : Int) < (s.T.length : Int) := by omega
      cases hf : (x.for_ != 0)
      · have HF := hid hf
        go_wp2_with fail
        go_quiet (fail)
        go_wp2
        go_roundw
        case rel => exact ⟨k + 1, by omega, by go_num, by rw [ES.out, if_neg (fun hh => by have := HF.out; simp at this; exact hh.1 this)], _, rfl⟩
        case measure => simp [intOf]; omega
      · have HF := hid hf
        cases hu : (x.until_ == s.now)
        · have HU := hid hu
          go_wp2_with fail
          go_quiet (fail)
          go_wp2
          go_roundw
          case rel => exact ⟨k + 1, by omega, by go_num, by rw [ES.out, if_neg (fun hh => by have := HU.out; simp at this; exact this hh.2.1)], _, rfl⟩
          case measure => simp [intOf]; omega
        · have HU := hid hu
          have e1 : x.for_ ≠ 0 := by have := HF.out; simpa using this
          have e2 : x.until_ = s.now := by have := HU.out; simpa using this
          have E12 := hid (And.intro e1 e2)
          clear e1 e2
          by_cases hbn : b < 0
          · go_wp2_with fail
            go_quiet (fail)
            go_wp2
            go_roundw
            case rel => exact ⟨k + 1, by omega, by go_num, by rw [ES.out, if_pos ⟨E12.out.1, E12.out.2, .inl hbn⟩], _, rfl⟩
            case measure => simp [intOf]; omega
          · have hb2 : 0 ≤ b := by omega
            obtain ⟨hj, ejt⟩ := HLB.out hb2
            obtain ⟨j, rfl⟩ := Int.eq_ofNat_of_zero_le hb2
            have hjl : j < s.T.length := by simpa using hj
            have ej2 : R.th s.T (Int.toNat (j : Int)) = s.T[j] := by simp [R.th, List.getD, hjl]
            have b12 := M.out.tcell hjl 12 (by decide)
            simp [rtCells] at b12
            have EJ := hid ej2
            clear ejt hj ej2
            generalize s.T[j] = y at *
            have hjI : (j : Int) < (s.T.length : Int) := by omega
            have hd : decide ((j : Int) < 0) = false := by simp
            by_cases hs : x.since < y.since
            · go_wp2_with fail
              go_quiet (fail)
              go_wp2
              go_roundw
              case rel => exact ⟨k + 1, by omega, by go_num, by rw [ES.out, if_pos ⟨E12.out.1, E12.out.2, .inr (by rw [EJ.out]; exact hs)⟩], _, rfl⟩
              case measure => simp [intOf]; omega
            · go_wp2_with fail
              go_quiet (fail)
              go_wp2
              go_roundw
              case rel => exact ⟨k + 1, by omega, by go_num, by rw [ES.out, if_neg (fun hh => by rcases hh.2.2 with h1 | h1; omega; rw [EJ.out] at h1; omega)], _, rfl⟩
              case measure => simp [intOf]; omega
    · go_wp2
      go_ret
      have e : k = s.T.length := by omega
      subst e
      exact ⟨rfl, _, rfl⟩

end Go.Proofs.YthnjabnlocpoaaaGreat

/-
  Walks over package donateref: late.
-/
namespace Go.Proofs.YthnjabnlocpoaaaGreat
open Go.RowKit

theorem Tryz.infoMiss : (Tryz.prog.info? 110).map (fun i => (i.zero, i.size, i.bytes)) = some (some (.agg #[.int .i64 0, .int .i64 0, .int .i64 0]), 3, 24) := by kernel_rfl
theorem missCells_append (l : List MissD) (m : MissD) : missCells (l ++ [m]) = missCells l ++ [.int .i64 m.thread, .int .i64 m.job, .int .i64 m.time] := by simp [missCells]

set_option maxRecDepth 100000 in
set_option maxHeartbeats 2000000 in
theorem rLate_any (F : Nat → Prop) (w : World) (sb : Nat) (h : RH) (s : RS) (m : RMem F w sb h s) (g : RGood s) :
    Calls Tryz.prog 85 #[.pointer (some ⟨sb, 0, none⟩)] w fun e w' => ∃ v, e = .returned v ∧ w'.ownsRow w.heap.size 110 3 v (R.late s).length (missCells (R.late s)) ∧ Below w.heap.size w w' := by
  have hfew := g.few
  have M := hid m
  have G := hid g
  have HL := hid g.len
  clear m g
  obtain ⟨i3, hi3, hz30, hz31, hz32⟩ := info_parts Tryz.infoMiss
  have HI3 := hid (And.intro hi3 (And.intro hz30 (And.intro hz31 hz32)))
  clear hi3 hz30 hz31 hz32
  go_enter Tryz.func85, Tryz.ntmps85
  go_wp2
  go_loopw [3, 4] (fun v i wr => ∃ k : Nat, k ≤ s.T.length ∧ i = .int .i64 k ∧ wr.ownsRow w.heap.size 110 3 v (R.lateTo s k).length (missCells (R.lateTo s k)) ∧ Below w.heap.size w wr) (fun _ i _ => s.T.length - (intOf i).toNat)
  case atStart => exact ⟨0, Nat.zero_le _, rfl, World.ownsRow_nil _ _ _ _, Below.refl _ _⟩
  case round =>
    obtain ⟨k, hk, rfl, hown, hb⟩ := hrel
    have hm := M.out.below hb
    have Mk := hid hm
    have c8 := hm.blk.cell 8
    have c6 := hm.blk.cell 6
    have c2 := hm.blk.cell 2
    simp [rsCells] at c8 c6 c2
    have OW := hid hown
    have hsz := hb.size
    have hll := R.lateTo_len s k
    clear hown
    by_cases hlt : k < s.T.length
    · have hlt2 : k < s.set.threads.length := by have := HL.out; omega
      have hoff := G.out.off s.set.threads[k] (List.getElem_mem hlt2)
      have e0 : s.set.threads.getD k P3.none0 = s.set.threads[k] := by simp [List.getD, hlt2]
      have eth : R.th s.T k = s.T[k] := by simp [R.th, List.getD, hlt]
      have estep : R.lateTo s (k + 1) = if (s.set.threads.getD k P3.none0).deadline = 0 then R.lateTo s k
          else if 0 ≤ R.numberAt s k (s.set.threads.getD k P3.none0).deadline ∧ (R.th s.T k).ended ≤ R.numberAt s k (s.set.threads.getD k P3.none0).deadline then R.lateTo s k ++ [⟨(k : Int), R.numberAt s k (s.set.threads.getD k P3.none0).deadline, s.now⟩]
          else R.lateTo s k := rfl
      rw [e0, eth] at estep
      have ES := hid estep
      obtain ⟨b, o, cv, cc, ha, _, x0, x1, x2, x3, x4, _⟩ := hm.set.threads k hlt2
      rw [ha] at c2
      have a5 := hm.tcell hlt 5 (by decide)
      simp [rtCells] at a5
      clear hm ha estep e0 eth x0 x1 x2 x4
      have NU := hid (fun bd hb0 hb1 => rNumber_any F wr sb h s Mk.out k hlt2 bd hb0 hb1 G.out.now0 G.out.now1 G.out.now2 ⟨hoff.1, hoff.2.1, hoff.2.2.1, hoff.2.2.2.1⟩)
      have hdl := hoff.2.2.2.2
      clear hoff
      generalize hdd : s.set.threads[k].deadline = dl at *
      have HDD := hid hdd
      clear hdd
      generalize s.T[k].ended = en at *
      cases hz : (dl == 0)
      · have HZ := hid hz
        have hdl0 := hdl.1
        have hdl1 := hdl.2
        clear hdl
        go_wp2_with fail
        refine (NU.out dl hdl0 hdl1).mono ?_
        rintro e w1 ⟨rfl, hb1⟩
        have c8' := cell_later hb1 c8
        have c6' := cell_later hb1 c6
        have a5' := cell_later hb1 a5
        have hsz1 := hb1.size
        have OW1 := hid (ownsRow_same (w' := w1) OW.out fun g hg => hb1.block g (ownsRow_block OW.out hg).2.1)
        have hbw1 := via hb hsz hb1
        clear c8 c6 a5 c2 x3
        generalize hnum : R.numberAt s k dl = num at *
        have HNUM := hid hnum
        clear hnum
        have eneg : ¬ (0 ≤ num ∧ en ≤ num) → R.lateTo s (k + 1) = R.lateTo s k := by
          intro hh
          rw [ES.out, if_neg (by simpa using HZ.out), if_neg hh]
        have EN := hid eneg
        have epos : (0 ≤ num ∧ en ≤ num) → R.lateTo s (k + 1) = R.lateTo s k ++ [⟨(k : Int), num, s.now⟩] := by
          intro hh
          rw [ES.out, if_neg (by simpa using HZ.out), if_pos hh]
        have EP := hid epos
        clear eneg epos
        by_cases h1 : 0 ≤ num
        · by_cases h2 : en ≤ num
          · go_wp2_with (at_builtin; refine wpList_append_src rfl (.tmp 45) (.tmp 53) 64 rfl w.heap.size 110 i3 (.agg #[.int .i64 0, .int .i64 0, .int .i64 0]) 3 24 Tryz.underlying64 HI3.out.1 HI3.out.2.1 HI3.out.2.2.1 HI3.out.2.2.2 rfl (by decide) u3 (R.lateTo s k).length (missCells (R.lateTo s k)) rfl (OW1.out.alloc _) (some ⟨w1.heap.size, 0, none⟩) 1 1 [.int .i64 (k : Int), .int .i64 num, .int .i64 s.now] rfl rfl (fun h => (by cases h)) (fun j u hj => ⟨_, rfl, (by rw [Addr.add_lit, Nat.zero_add, (Blk.new w1 #[.int .i64 (k : Int), .int .i64 num, .int .i64 s.now] 110).cell]; simpa using hj)⟩) (by intro u hu; simp at hu; rcases hu with rfl | rfl | rfl <;> rfl) (by unfold maxLen; omega) (by omega) (by simp; omega) ?_; intro v' w2 hown2 hg2; have O2 := hid hown2; have G2 := hid hg2; clear hown2 hg2)
            go_roundw
            case rel =>
              refine ⟨k + 1, by omega, by go_num, ?_, (hbw1.alloc (by omega) _).grown G2.out (by simp; omega) (fun g hg => (ownsRow_block OW.out hg).1)⟩
              rw [EP.out ⟨h1, h2⟩, missCells_append]
              simpa using O2.out
            case measure => simp [intOf]; omega
          · go_wp2
            go_roundw
            case rel => exact ⟨k + 1, by omega, by go_num, by rw [EN.out (by omega)]; exact OW1.out, hbw1⟩
            case measure => simp [intOf]; omega
        · go_wp2
          go_roundw
          case rel => exact ⟨k + 1, by omega, by go_num, by rw [EN.out (by omega)]; exact OW1.out, hbw1⟩
          case measure => simp [intOf]; omega
      · have HZ := hid hz
        go_wp2
        go_roundw
        case rel => exact ⟨k + 1, by omega, by go_num, by rw [ES.out, if_pos (by simpa using HZ.out)]; exact OW.out, hb⟩
        case measure => simp [intOf]; omega
    · go_wp2
      go_ret
      have e : k = s.T.length := by omega
      subst e
      exact ⟨_, rfl, OW.out, hb⟩

end Go.Proofs.YthnjabnlocpoaaaGreat

/-
  Walks over package donateref: Tick.
-/
namespace Go.Proofs.YthnjabnlocpoaaaGreat
open Go.RowKit

theorem good_missing {s : RS} (g : RGood s) (h : s.now < 1000000000) : RGood (R.missing s) :=
  ⟨g.len, g.pos, g.few, g.wk0, g.wk1, g.own, g.mfew, g.now0, by show s.set.start ≤ s.now + 1; have := g.now1; omega, by show s.now + 1 ≤ _; omega, g.nxt0, g.nxt1, g.off⟩
theorem good_ticked {s : RS} (g : RGood s) (h : s.now < 1000000000) : RGood (R.ticked s) :=
  ⟨g.len, g.pos, g.few, g.wk0, g.wk1, g.own, g.mfew, g.now0, by show s.set.start ≤ s.now + 1; have := g.now1; omega, by show s.now + 1 ≤ _; omega, g.nxt0, g.nxt1, g.off⟩
theorem good_endsTo {s : RS} (g : RGood s) (h : s.next ≤ 4611686018427387000) (k : Nat) (hk : k ≤ 16) : RGood (R.endsTo s k) := by
  obtain ⟨a, b, c, d, e, f⟩ := R.endsTo_set s k
  have := g.nxt0
  exact ⟨by rw [a, d]; exact g.len, by rw [d]; exact g.pos, by rw [d]; exact g.few, by rw [a]; exact g.wk0, by rw [a]; exact g.wk1, by rw [a, c]; exact g.own, by rw [a]; exact g.mfew, by rw [a]; exact g.now0, by rw [a, b]; exact g.now1, by rw [b]; exact g.now2, by omega, by omega, by rw [a]; exact g.off⟩
theorem missCells_length (l : List MissD) : (missCells l).length = l.length * 3 := by
  induction l with
  | nil => rfl
  | cons x l ih => simp only [missCells, List.flatMap_cons, List.length_append, List.length_cons] at ih ⊢; rw [ih]; simp; omega
theorem missCells_two (l m : List MissD) : missCells (l ++ m) = missCells l ++ missCells m := by simp [missCells]
theorem missCells_one (l : List MissD) : ∀ u ∈ missCells l, u.oneCell' = true := by
  intro u hu
  simp only [missCells, List.mem_flatMap] at hu
  obtain ⟨x, _, hx⟩ := hu
  simp at hx
  rcases hx with rfl | rfl | rfl <;> rfl

set_option maxRecDepth 100000 in
set_option maxHeartbeats 2000000 in
theorem rTick_any (F : Nat → Prop) (w : World) (sb : Nat) (h : RH) (s : RS) (m : RMem F w sb h s) (a : RApart F h) (g : RGood s) (hmis : s.missed.length ≤ 16000000000) (hnx : s.next ≤ 4611686018427386000) :
    Calls Tryz.prog 51 #[.pointer (some ⟨sb, 0, none⟩)] w fun e w' =>
      (s.now = 1000000000 ∧ e = .returned (.tuple #[.slice none 0 0, .int .i64 8]) ∧ w' = w) ∨
      (s.now < 1000000000 ∧ ∃ l vM, e = .returned (.tuple #[l, .int .i64 0]) ∧ w'.ownsRow w.heap.size 110 3 l (R.late (R.ticked s)).length (missCells (R.late (R.ticked s))) ∧ RMem F w' sb { h with vM := vM } (R.tick s) ∧
        (vM.ownBlock = h.vM.ownBlock ∨ ∃ b, vM.ownBlock = some b ∧ w.heap.size ≤ b ∧ l.ownBlock ≠ some b) ∧ Only (sb :: h.gT :: h.vM.ownBlock.toList) w w') := by
  have c6 := m.blk.cell 6
  have f6 := m.blk.frozen 6
  simp [rsCells] at c6
  have hfew := g.few
  have hsbl := m.blk.lt
  have HML := hid (fun g (hg : h.vM.ownBlock = some g) => (ownsRow_block m.oth.mis hg).2.1)
  have M := hid m
  have G := hid g
  have A := hid a
  have g2 := g.now2
  have g1 := g.now1
  have g0 := g.now0
  clear m g a
  obtain ⟨i3, hi3, hz30, hz31, hz32⟩ := info_parts Tryz.infoMiss
  have HI3 := hid (And.intro hi3 (And.intro hz30 (And.intro hz31 hz32)))
  clear hi3 hz30 hz31 hz32
  go_enter Tryz.func51, Tryz.ntmps51
  cases hnow : (s.now == 1000000000)
  · have hlt : s.now < 1000000000 := by
      have : ¬ s.now = 1000000000 := by simpa using hnow
      omega
    go_upto_region 4 with fail
    have hm1 : RMem F (w.setCell ⟨sb, 6, none⟩ (.int .i64 (s.now + 1))) sb h (R.ticked s) := M.out.setNow (s.now + 1)
    have ho1 : Only (sb :: h.gT :: h.vM.ownBlock.toList) w (w.setCell ⟨sb, 6, none⟩ (.int .i64 (s.now + 1))) := (Only.refl _ _).setCell (.inl (by simp)) _
    have hz1 : (w.setCell ⟨sb, 6, none⟩ (.int .i64 (s.now + 1))).heap.size = w.heap.size := by simp [World.setCell]
    clear c6 f6 M
    generalize w.setCell ⟨sb, 6, none⟩ (.int .i64 (s.now + 1)) = w1 at hm1 ho1 hz1 ⊢
    have M1 := hid hm1
    have O1 := hid ho1
    clear hm1 ho1
    have hG1 := hid (good_ticked G.out hlt)
    go_wp2_with fail
    refine (rLate_any F w1 sb h _ M1.out hG1.out).mono ?_
    rintro e w2 ⟨v, rfl, hown2, hb2⟩
    have hll := R.lateTo_len (R.ticked s) s.T.length
    have hlate : R.late (R.ticked s) = R.lateTo (R.ticked s) s.T.length := rfl
    rw [← hlate] at hll
    have M2 := hid (M1.out.below hb2)
    have O2 := hid (O1.out.via hb2)
    have hz2 := hb2.size
    have OW2 := hid hown2
    obtain ⟨lao, lcap, rfl, hln, hla⟩ := owns_cells hown2
    have HLA := hid hla
    have HLN := hid hln
    clear M1 O1 hb2 hown2 hla hln hlate
    have c12 := M2.out.blk.cell 12
    simp [rsCells] at c12
    have f12 := M2.out.blk.frozen 12
    generalize hLL : R.late (R.ticked s) = L at *
    have HLL := hid hLL
    clear hLL
    have hsrc : ∀ j u, (missCells L)[j]? = some u → ∃ ad, lao = some ad ∧ w2.cell? (ad.add j) = some u := by
      intro j u hj
      have hlt : j < (missCells L).length := by
        rcases Nat.lt_or_ge j (missCells L).length with h' | h'
        · exact h'
        · rw [List.getElem?_eq_none h'] at hj; cases hj
      rw [missCells_length] at hlt
      cases lao with
      | none => have := (HLN.out rfl).1; omega
      | some ad =>
        obtain ⟨gl, rfl, _, _, _, hc⟩ := HLA.out ad rfl
        refine ⟨_, rfl, ?_⟩
        rw [Addr.add_lit, Nat.zero_add, hc _ hlt]
        exact hj
    have HSRC := hid hsrc
    clear hsrc
    have hsbne : some sb ≠ h.vM.ownBlock := by
      intro e
      obtain ⟨_, _, cur, hc⟩ := ownsRow_block M2.out.oth.mis e.symm
      exact absurd (blk_type M2.out.blk hc) (by decide)
    have HSB := hid hsbne
    clear hsbne
    have hF : ∀ g, h.vM.ownBlock = some g → ¬ F g := A.out.m
    have HF := hid hF
    clear hF
    go_upto_region 6 with (at_builtin; refine wpList_append_src_at rfl (.tmp 26) (.tmp 27) 64 rfl 0 110 i3 (.agg #[.int .i64 0, .int .i64 0, .int .i64 0]) 3 24 Tryz.underlying64 HI3.out.1 HI3.out.2.1 HI3.out.2.2.1 HI3.out.2.2.2 rfl (by decide) h.vM s.missed.length (missCells s.missed) rfl M2.out.oth.mis lao L.length lcap (missCells L) rfl (missCells_length _) (fun hh => (HLN.out hh).2) HSRC.out (missCells_one _) (by unfold maxLen; omega) (by omega) (Nat.zero_le _) ?_; intro v' w3 hown3 hg3 hat3; obtain ⟨tv5, tc5, rfl, _, _⟩ := owns_cells hown3; have B3 := hid (M2.out.blk.grown hg3 HSB.out); have z3 := B3.out.frozen 12; have y3 := B3.out.cell 12; simp [rsCells] at y3; have O3 := hid hown3; have G3 := hid hg3; have A3 := hid hat3; clear hown3 hg3 hat3)
    have hrow3 : w3.ownsRow 0 110 3 (.slice tv5 (s.missed.length + L.length) tc5) (s.missed ++ L).length (missCells (s.missed ++ L)) := by
      rw [missCells_two, List.length_append]
      exact O3.out
    have hm4 := M2.out.setMissed G3.out HF.out hrow3
    have es : ({ R.ticked s with missed := s.missed ++ L } : RS) = R.missing s := by rw [← HLL.out]; rfl
    rw [es] at hm4
    have ho4 : Only (sb :: h.gT :: h.vM.ownBlock.toList) w (w3.setCell ⟨sb, 12, none⟩ (.slice tv5 (s.missed.length + L.length) tc5)) := by
      refine Only.setCell ?_ (.inl (by simp)) _
      refine ⟨G3.out.os.trans O2.out.os, G3.out.tape.trans O2.out.tape, G3.out.output.trans O2.out.output, Nat.le_trans O2.out.size G3.out.size, fun k hk hc => ?_⟩
      rw [G3.out.block k (by omega) (fun e => hc (by rw [← e]; simp)), O2.out.block k hk hc]
    have hl4 : (w3.setCell ⟨sb, 12, none⟩ (.slice tv5 (s.missed.length + L.length) tc5)).ownsRow w1.heap.size 110 3 (.slice lao L.length lcap) L.length (missCells L) := by
      refine ownsRow_same OW2.out fun g hg => ?_
      obtain ⟨h1, h2, _⟩ := ownsRow_block OW2.out hg
      rw [Below.heap_setCell _ _ _ _ (fun e => ?_), G3.out.block g h2 (fun e => ?_)]
      · have := HML.out g e.symm
        omega
      · have e' : g = sb := e
        omega
    have hwh : (Value.slice tv5 (s.missed.length + L.length) tc5).ownBlock = h.vM.ownBlock ∨ ∃ b, (Value.slice tv5 (s.missed.length + L.length) tc5).ownBlock = some b ∧ w.heap.size ≤ b ∧ (Value.slice lao L.length lcap).ownBlock ≠ some b := by
      rcases A3.out with h1 | h1
      · exact .inl h1
      · refine .inr ⟨_, h1, by omega, fun e => ?_⟩
        have := (ownsRow_block OW2.out e).2.1
        omega
    have WH := hid hwh
    clear hwh hrow3 es c12 f12 y3 z3 B3 O3 G3 A3 M2 O2 HSRC HLA HLN OW2 hG1 HSB HF
    generalize w3.setCell ⟨sb, 12, none⟩ (.slice tv5 (s.missed.length + L.length) tc5) = w4 at hm4 ho4 hl4 ⊢
    generalize (Value.slice tv5 (s.missed.length + L.length) tc5) = vM at *
    have M4 := hid hm4
    have O4 := hid ho4
    have L4 := hid hl4
    have HG4 := hid (good_missing G.out hlt)
    have hsz4 := ho4.size
    clear hm4 ho4 hl4
    generalize hh' : ({ h with vM := vM } : RH) = h' at *
    have HH := hid hh'
    have hgT : h'.gT = h.gT := by rw [← hh']
    have HGT := hid hgT
    clear hh' hgT
    have hlen1 : (R.missing s).T.length = s.T.length := rfl
    have hnx1 : (R.missing s).next = s.next := rfl
    generalize hs1 : R.missing s = s1 at *
    have HS1 := hid hs1
    clear hs1
    have hend : RGood (R.ends s1) ∧ (R.ends s1).next ≤ 4611686018427387000 := by
      have := (R.endsTo_set s1 s1.T.length).2.2.2.2.2
      refine ⟨good_endsTo HG4.out (by omega) _ (by omega), ?_⟩
      unfold R.ends
      omega
    have hfin : ∀ w7, RMem F w7 sb h' (R.settle (R.release (R.ends s1))) → Only [sb, h'.gT] w4 w7 → w7.ownsRow w.heap.size 110 3 (.slice lao L.length lcap) L.length (missCells L) ∧ RMem F w7 sb h' (R.tick s) ∧ Only (sb :: h.gT :: h.vM.ownBlock.toList) w w7 := by
      intro w7 hm ho
      refine ⟨?_, ?_, O4.out.trans (ho.mono fun b hb => ?_)⟩
      · refine ownsRow_same (w' := w7) (by rw [← hz1]; exact L4.out) fun g hg => ?_
        obtain ⟨h1, h2, cur, h3⟩ := ownsRow_block L4.out hg
        refine ho.block g h2 fun e => ?_
        simp at e
        rcases e with e | e
        · omega
        · obtain ⟨_, _, cur', hc'⟩ := ownsRow_block M4.out.rows rfl
          rw [e, hc'] at h3
          cases h3
      · unfold R.tick
        rw [HS1.out]
        exact hm
      · rw [HGT.out] at hb
        simp at hb ⊢
        omega
    have FIN := hid hfin
    clear hfin
    have HEND := hid hend
    have HREL := hid (good_release hend.1 hend.2)
    have hwk : (R.release (R.ends s1)).set.workers = (s1.set.workers.toNat : Int) := by
      have h1 : (R.release (R.ends s1)).set = (R.ends s1).set := R.releaseTo_set _ _
      have h2 : (R.ends s1).set = s1.set := (R.endsTo_set s1 _).1
      rw [h1, h2]
      have := HG4.out.wk0
      omega
    have HWK := hid hwk
    have hn0 := HG4.out.nxt0
    clear hend hwk
    go_wp2
    go_loopw [5] (fun i wr => ∃ k : Nat, k ≤ s.T.length ∧ i = .int .i64 k ∧ RMem F wr sb h' (R.endsTo s1 k) ∧ Only [sb, h'.gT] w4 wr) (fun i _ => s.T.length - (intOf i).toNat)
    case atStart => exact ⟨0, Nat.zero_le _, rfl, M4.out, Only.refl _ _⟩
    case round =>
      obtain ⟨k, hk, rfl, hm, ho⟩ := hrel
      obtain ⟨q1, q2, q3, q4, q5, q6⟩ := R.endsTo_set s1 k
      have c8 := hm.blk.cell 8
      simp [rsCells] at c8
      rw [q4, hlen1] at c8
      have MK := hid hm
      have OK := hid ho
      clear hm ho
      by_cases hkl : k < s.T.length
      · go_wp2_with fail
        refine (rDue_any F wr sb h' _ MK.out (by rw [q4, hlen1]; exact hfew)).mono ?_
        rintro e w5 ⟨rfl, nd, rfl⟩
        have M5 := hid (MK.out.drewN nd)
        have O5 := hid (OK.out.drewN nd)
        clear MK OK c8
        obtain ⟨d0, d1⟩ := R.dueTo_bd (R.endsTo s1 k).T (R.endsTo s1 k).now (R.endsTo s1 k).T.length
        have hdue : R.dueTo (R.endsTo s1 k).T (R.endsTo s1 k).now (R.endsTo s1 k).T.length = R.due (R.endsTo s1 k) := rfl
        rw [hdue] at d0 d1
        rw [q4, hlen1] at d1
        generalize wr.drewN nd = w5 at *
        have ES : Hid (R.endsTo s1 (k + 1) = R.endOne (R.endsTo s1 k)) := rfl
        have HSTOP := hid (R.endsTo_stop s1 k)
        generalize hsk : R.endsTo s1 k = sk at *
        have HSK := hid hsk
        clear hsk hdue
        by_cases hd : R.due sk < 0
        · have hstop : R.ends s1 = sk := by
            have := HSTOP.out hd (s1.T.length - k)
            unfold R.ends
            rw [show k + (s1.T.length - k) = s1.T.length by omega] at this
            exact this
          have HST := hid hstop
          clear hstop
          go_wp2_with fail
          refine (rRelease_any F w5 sb h' sk M5.out (by rw [← HST.out]; exact HEND.out.1) (by rw [← HST.out]; exact HEND.out.2)).mono ?_
          rintro e w6 ⟨rfl, hm6, ho6⟩
          have M6 := hid hm6
          have O6 := hid (O5.out.trans ho6)
          clear hm6 ho6
          go_wp2_with fail
          refine (rSettle_any F w6 sb h' _ M6.out (by rw [← HST.out]; exact HREL.out) s1.set.workers.toNat (by rw [← HST.out]; exact HWK.out)).mono ?_
          rintro e w7 ⟨rfl, hm7, ho7⟩
          have M7 := hid hm7
          have O7 := hid (O6.out.trans ho7)
          clear hm7 ho7
          go_wp2
          go_ret2
          have hm7 := M7.out
          rw [← HST.out] at hm7
          obtain ⟨r1, r2, r3⟩ := FIN.out w7 hm7 O7.out
          rw [← HH.out] at r2
          exact .inr ⟨hlt, .slice lao L.length lcap, vM, rfl, by rw [HLL.out]; exact r1, r2, WH.out, r3⟩
        · have hdn : ((R.due sk).toNat : Int) = R.due sk := by omega
          have htl : (R.due sk).toNat < sk.T.length := by rw [q4]; omega
          have hesk : R.endOne sk = R.endW sk (R.due sk).toNat (if (R.th sk.T (R.due sk).toNat).for_ = 4 then 0 else 2) := by
            unfold R.endOne
            rw [if_neg hd]
          have eth : R.th sk.T (R.due sk).toNat = sk.T[(R.due sk).toNat] := by simp [R.th, List.getD, htl]
          rw [eth] at hesk
          have HESK := hid hesk
          clear hesk eth
          generalize hdt : (R.due sk).toNat = t at *
          have HDT := hid hdt
          clear hdt
          rw [← hdn] at d0 d1 hd ⊢
          clear hdn
          have c8 := M5.out.blk.cell 8
          simp [rsCells] at c8
          rw [q4, hlen1] at c8
          have a9 := M5.out.tcell htl 9 (by decide)
          simp [rtCells] at a9
          have Q4 := hid q4
          have hq4 := q4
          cases hf4 : (sk.T[t].for_ == 4)
          · have HF4 := hid hf4
            go_wp2_with fail
            refine (rEnd_any F w5 sb h' sk M5.out t htl (by rw [hq4]; omega) 2 (by omega) (by omega)).mono ?_
            rintro e w6 ⟨rfl, hm6, ho6⟩
            have M6 := hid hm6
            have O6 := hid (O5.out.trans ho6)
            clear hm6 ho6
            go_wp2
            go_roundw
            case rel =>
              refine ⟨k + 1, by omega, by go_num, ?_, O6.out⟩
              have hne : ¬ sk.T[t].for_ = 4 := by simpa using HF4.out
              rw [ES.out, HESK.out, if_neg hne]
              exact M6.out
            case measure => simp [intOf]; omega
          · have HF4 := hid hf4
            go_wp2_with fail
            refine (rEnd_any F w5 sb h' sk M5.out t htl (by rw [hq4]; omega) 0 (by omega) (by omega)).mono ?_
            rintro e w6 ⟨rfl, hm6, ho6⟩
            have M6 := hid hm6
            have O6 := hid (O5.out.trans ho6)
            clear hm6 ho6
            go_wp2
            go_roundw
            case rel =>
              refine ⟨k + 1, by omega, by go_num, ?_, O6.out⟩
              have hne : sk.T[t].for_ = 4 := by simpa using HF4.out
              rw [ES.out, HESK.out, if_pos hne]
              exact M6.out
            case measure => simp [intOf]; omega
      · have e : k = s1.T.length := by omega
        subst e
        have HST : Hid (R.endsTo s1 s1.T.length = R.ends s1) := rfl
        rw [HST.out] at MK
        go_wp2_with fail
        refine (rRelease_any F wr sb h' _ MK.out HEND.out.1 HEND.out.2).mono ?_
        rintro e w6 ⟨rfl, hm6, ho6⟩
        have M6 := hid hm6
        have O6 := hid (OK.out.trans ho6)
        clear hm6 ho6
        go_wp2_with fail
        refine (rSettle_any F w6 sb h' _ M6.out HREL.out s1.set.workers.toNat HWK.out).mono ?_
        rintro e w7 ⟨rfl, hm7, ho7⟩
        have M7 := hid hm7
        have O7 := hid (O6.out.trans ho7)
        clear hm7 ho7
        go_wp2
        go_ret2
        obtain ⟨r1, r2, r3⟩ := FIN.out w7 M7.out O7.out
        rw [← HH.out] at r2
        exact .inr ⟨hlt, .slice lao L.length lcap, vM, rfl, by rw [HLL.out]; exact r1, r2, WH.out, r3⟩
  · go_wp2
    go_ret2
    exact .inl ⟨by simpa using hnow, rfl, rfl⟩

end Go.Proofs.YthnjabnlocpoaaaGreat
