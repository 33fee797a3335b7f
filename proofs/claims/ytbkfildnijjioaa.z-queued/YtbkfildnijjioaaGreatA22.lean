import Derived.Test.YtbkfildnijjioaaGreatA09
import Derived.Test.YtbkfildnijjioaaGreatA17
import Derived.Test.YtbkfildnijjioaaGreatA19
import Derived.Test.YtbkfildnijjioaaGreatA18
import Derived.Test.YtbkfildnijjioaaGreatA21
import Derived.Test.YtbkfildnijjioaaGreatA10
import Derived.Deep.QuietTactic
import Derived.BigQuiet
/-
  Walks over package donateref: Tick.
-/
namespace Go.Proofs.YtbkfildnijjioaaGreat
open Go.RowKit
set_option maxRecDepth 100000 in
set_option maxHeartbeats 2000000 in
theorem rTick_any (F : Nat → Prop) (w : World) (sb : Nat) (h : RH) (s : RS) (m : RMem F w sb h s) (a : RApart F h) (g : RGood s) (hmis : s.missed.length ≤ 16000000000) (hnx : s.next ≤ 4611686018427386000) :
    Calls Tryz.prog 29 #[.pointer (some ⟨sb, 0, none⟩)] w fun e w' =>
      (s.now = 1000000000 ∧ e = .returned (.tuple #[.slice none 0 0, .int .i64 8]) ∧ w' = w) ∨
      (s.now < 1000000000 ∧ ∃ l vM, e = .returned (.tuple #[l, .int .i64 0]) ∧ w'.ownsRow w.heap.size 95 3 l (R.late (R.ticked s)).length (missCells (R.late (R.ticked s))) ∧ RMem F w' sb { h with vM := vM } (R.tick s) ∧
        (vM.ownBlock = h.vM.ownBlock ∨ ∃ b, vM.ownBlock = some b ∧ w.heap.size ≤ b ∧ l.ownBlock ≠ some b) ∧ Only (sb :: h.gT :: h.vM.ownBlock.toList) w w') := by
  have c6 := m.blk.cell 6
  have f6 := m.blk.frozen 6
  simp [rsCells] at c6
  have hfew := g.few
  have hsbl := m.blk.lt
  have HML := hid (fun g (hg : h.vM.ownBlock = some g) => (ownsRow_block m.oth.mis hg).2.1)
  have M := hid m
  have G := hid g
  have A := hid a
  have g2 := g.now2
  have g1 := g.now1
  have g0 := g.now0
  clear m g a
  obtain ⟨i3, hi3, hz30, hz31, hz32⟩ := info_parts Tryz.infoMiss
  have HI3 := hid (And.intro hi3 (And.intro hz30 (And.intro hz31 hz32)))
  clear hi3 hz30 hz31 hz32
  go_enter Tryz.func29, Tryz.ntmps29
  cases hnow : (s.now == 1000000000)
  · have hlt : s.now < 1000000000 := by
      have : ¬ s.now = 1000000000 := by simpa using hnow
      omega
    go_upto_region 4 with fail
    have hm1 : RMem F (w.setCell ⟨sb, 6, none⟩ (.int .i64 (s.now + 1))) sb h (R.ticked s) := M.out.setNow (s.now + 1)
    have ho1 : Only (sb :: h.gT :: h.vM.ownBlock.toList) w (w.setCell ⟨sb, 6, none⟩ (.int .i64 (s.now + 1))) := (Only.refl _ _).setCell (.inl (by simp)) _
    have hz1 : (w.setCell ⟨sb, 6, none⟩ (.int .i64 (s.now + 1))).heap.size = w.heap.size := by simp [World.setCell]
    clear c6 f6 M
    generalize w.setCell ⟨sb, 6, none⟩ (.int .i64 (s.now + 1)) = w1 at hm1 ho1 hz1 ⊢
    have M1 := hid hm1
    have O1 := hid ho1
    clear hm1 ho1
    have hG1 := hid (good_ticked G.out hlt)
    go_wp2_with fail
    refine (rLate_any F w1 sb h _ M1.out hG1.out).mono ?_
    rintro e w2 ⟨v, rfl, hown2, hb2⟩
    have hll := R.lateTo_len (R.ticked s) s.T.length
    have hlate : R.late (R.ticked s) = R.lateTo (R.ticked s) s.T.length := rfl
    rw [← hlate] at hll
    have M2 := hid (M1.out.below hb2)
    have O2 := hid (O1.out.via hb2)
    have hz2 := hb2.size
    have OW2 := hid hown2
    obtain ⟨lao, lcap, rfl, hln, hla⟩ := owns_cells hown2
    have HLA := hid hla
    have HLN := hid hln
    clear M1 O1 hb2 hown2 hla hln hlate
    have c12 := M2.out.blk.cell 12
    simp [rsCells] at c12
    have f12 := M2.out.blk.frozen 12
    generalize hLL : R.late (R.ticked s) = L at *
    have HLL := hid hLL
    clear hLL
    have hsrc : ∀ j u, (missCells L)[j]? = some u → ∃ ad, lao = some ad ∧ w2.cell? (ad.add j) = some u := by
      intro j u hj
      have hlt : j < (missCells L).length := by
        rcases Nat.lt_or_ge j (missCells L).length with h' | h'
        · exact h'
        · rw [List.getElem?_eq_none h'] at hj; cases hj
      rw [missCells_length] at hlt
      cases lao with
      | none => have := (HLN.out rfl).1; omega
      | some ad =>
        obtain ⟨gl, rfl, _, _, _, hc⟩ := HLA.out ad rfl
        refine ⟨_, rfl, ?_⟩
        rw [Addr.add_lit, Nat.zero_add, hc _ hlt]
        exact hj
    have HSRC := hid hsrc
    clear hsrc
    have hsbne : some sb ≠ h.vM.ownBlock := by
      intro e
      obtain ⟨_, _, cur, hc⟩ := ownsRow_block M2.out.oth.mis e.symm
      exact absurd (blk_type M2.out.blk hc) (by decide)
    have HSB := hid hsbne
    clear hsbne
    have hF : ∀ g, h.vM.ownBlock = some g → ¬ F g := A.out.m
    have HF := hid hF
    clear hF
    go_upto_region 6 with (at_builtin; refine wpList_append_src_at rfl (.tmp 26) (.tmp 27) 73 rfl 0 95 i3 (.agg #[.int .i64 0, .int .i64 0, .int .i64 0]) 3 24 Tryz.underlying73 HI3.out.1 HI3.out.2.1 HI3.out.2.2.1 HI3.out.2.2.2 rfl (by decide) h.vM s.missed.length (missCells s.missed) rfl M2.out.oth.mis lao L.length lcap (missCells L) rfl (missCells_length _) (fun hh => (HLN.out hh).2) HSRC.out (missCells_one _) (by unfold maxLen; omega) (by omega) (Nat.zero_le _) ?_; intro v' w3 hown3 hg3 hat3; obtain ⟨tv5, tc5, rfl, _, _⟩ := owns_cells hown3; have B3 := hid (M2.out.blk.grown hg3 HSB.out); have z3 := B3.out.frozen 12; have y3 := B3.out.cell 12; simp [rsCells] at y3; have O3 := hid hown3; have G3 := hid hg3; have A3 := hid hat3; clear hown3 hg3 hat3)
    have hrow3 : w3.ownsRow 0 95 3 (.slice tv5 (s.missed.length + L.length) tc5) (s.missed ++ L).length (missCells (s.missed ++ L)) := by
      rw [missCells_two, List.length_append]
      exact O3.out
    have hm4 := M2.out.setMissed G3.out HF.out hrow3
    have es : ({ R.ticked s with missed := s.missed ++ L } : RS) = R.missing s := by rw [← HLL.out]; rfl
    rw [es] at hm4
    have ho4 : Only (sb :: h.gT :: h.vM.ownBlock.toList) w (w3.setCell ⟨sb, 12, none⟩ (.slice tv5 (s.missed.length + L.length) tc5)) := by
      refine Only.setCell ?_ (.inl (by simp)) _
      refine ⟨G3.out.os.trans O2.out.os, G3.out.tape.trans O2.out.tape, G3.out.output.trans O2.out.output, Nat.le_trans O2.out.size G3.out.size, fun k hk hc => ?_⟩
      rw [G3.out.block k (by omega) (fun e => hc (by rw [← e]; simp)), O2.out.block k hk hc]
    have hl4 : (w3.setCell ⟨sb, 12, none⟩ (.slice tv5 (s.missed.length + L.length) tc5)).ownsRow w1.heap.size 95 3 (.slice lao L.length lcap) L.length (missCells L) := by
      refine ownsRow_same OW2.out fun g hg => ?_
      obtain ⟨h1, h2, _⟩ := ownsRow_block OW2.out hg
      rw [Below.heap_setCell _ _ _ _ (fun e => ?_), G3.out.block g h2 (fun e => ?_)]
      · have := HML.out g e.symm
        omega
      · have e' : g = sb := e
        omega
    have hwh : (Value.slice tv5 (s.missed.length + L.length) tc5).ownBlock = h.vM.ownBlock ∨ ∃ b, (Value.slice tv5 (s.missed.length + L.length) tc5).ownBlock = some b ∧ w.heap.size ≤ b ∧ (Value.slice lao L.length lcap).ownBlock ≠ some b := by
      rcases A3.out with h1 | h1
      · exact .inl h1
      · refine .inr ⟨_, h1, by omega, fun e => ?_⟩
        have := (ownsRow_block OW2.out e).2.1
        omega
    have WH := hid hwh
    clear hwh hrow3 es c12 f12 y3 z3 B3 O3 G3 A3 M2 O2 HSRC HLA HLN OW2 hG1 HSB HF
    generalize w3.setCell ⟨sb, 12, none⟩ (.slice tv5 (s.missed.length + L.length) tc5) = w4 at hm4 ho4 hl4 ⊢
    generalize (Value.slice tv5 (s.missed.length + L.length) tc5) = vM at *
    have M4 := hid hm4
    have O4 := hid ho4
    have L4 := hid hl4
    have HG4 := hid (good_missing G.out hlt)
    have hsz4 := ho4.size
    clear hm4 ho4 hl4
    generalize hh' : ({ h with vM := vM } : RH) = h' at *
    have HH := hid hh'
    have hgT : h'.gT = h.gT := by rw [← hh']
    have HGT := hid hgT
    clear hh' hgT
    have hlen1 : (R.missing s).T.length = s.T.length := rfl
    have hnx1 : (R.missing s).next = s.next := rfl
    generalize hs1 : R.missing s = s1 at *
    have HS1 := hid hs1
    clear hs1
    have hend : RGood (R.ends s1) ∧ (R.ends s1).next ≤ 4611686018427387000 := by
      have := (R.endsTo_set s1 s1.T.length).2.2.2.2.2
      refine ⟨good_endsTo HG4.out (by omega) _ (by omega), ?_⟩
      unfold R.ends
      omega
    have hfin : ∀ w7, RMem F w7 sb h' (R.settle (R.release (R.ends s1))) → Only [sb, h'.gT] w4 w7 → w7.ownsRow w.heap.size 95 3 (.slice lao L.length lcap) L.length (missCells L) ∧ RMem F w7 sb h' (R.tick s) ∧ Only (sb :: h.gT :: h.vM.ownBlock.toList) w w7 := by
      intro w7 hm ho
      refine ⟨?_, ?_, O4.out.trans (ho.mono fun b hb => ?_)⟩
      · refine ownsRow_same (w' := w7) (by rw [← hz1]; exact L4.out) fun g hg => ?_
        obtain ⟨h1, h2, cur, h3⟩ := ownsRow_block L4.out hg
        refine ho.block g h2 fun e => ?_
        simp at e
        rcases e with e | e
        · omega
        · obtain ⟨_, _, cur', hc'⟩ := ownsRow_block M4.out.rows rfl
          rw [e, hc'] at h3
          cases h3
      · unfold R.tick
        rw [HS1.out]
        exact hm
      · rw [HGT.out] at hb
        simp at hb ⊢
        omega
    have FIN := hid hfin
    clear hfin
    have HEND := hid hend
    have HREL := hid (good_release hend.1 hend.2)
    have hwk : (R.release (R.ends s1)).set.workers = (s1.set.workers.toNat : Int) := by
      have h1 : (R.release (R.ends s1)).set = (R.ends s1).set := R.releaseTo_set _ _
      have h2 : (R.ends s1).set = s1.set := (R.endsTo_set s1 _).1
      rw [h1, h2]
      have := HG4.out.wk0
      omega
    have HWK := hid hwk
    have hn0 := HG4.out.nxt0
    clear hend hwk
    go_wp2
    go_loopw [5] (fun i wr => ∃ k : Nat, k ≤ s.T.length ∧ i = .int .i64 k ∧ RMem F wr sb h' (R.endsTo s1 k) ∧ Only [sb, h'.gT] w4 wr) (fun i _ => s.T.length - (intOf i).toNat)
    case atStart => exact ⟨0, Nat.zero_le _, rfl, M4.out, Only.refl _ _⟩
    case round =>
      obtain ⟨k, hk, rfl, hm, ho⟩ := hrel
      obtain ⟨q1, q2, q3, q4, q5, q6⟩ := R.endsTo_set s1 k
      have c8 := hm.blk.cell 8
      simp [rsCells] at c8
      rw [q4, hlen1] at c8
      have MK := hid hm
      have OK := hid ho
      clear hm ho
      by_cases hkl : k < s.T.length
      · go_wp2_with fail
        refine (rDue_any F wr sb h' _ MK.out (by rw [q4, hlen1]; exact hfew)).mono ?_
        rintro e w5 ⟨rfl, nd, rfl⟩
        have M5 := hid (MK.out.drewN nd)
        have O5 := hid (OK.out.drewN nd)
        clear MK OK c8
        obtain ⟨d0, d1⟩ := R.dueTo_bd (R.endsTo s1 k).T (R.endsTo s1 k).now (R.endsTo s1 k).T.length
        have hdue : R.dueTo (R.endsTo s1 k).T (R.endsTo s1 k).now (R.endsTo s1 k).T.length = R.due (R.endsTo s1 k) := rfl
        rw [hdue] at d0 d1
        rw [q4, hlen1] at d1
        generalize wr.drewN nd = w5 at *
        have ES : Hid (R.endsTo s1 (k + 1) = R.endOne (R.endsTo s1 k)) := rfl
        have HSTOP := hid (R.endsTo_stop s1 k)
        generalize hsk : R.endsTo s1 k = sk at *
        have HSK := hid hsk
        clear hsk hdue
        by_cases hd : R.due sk < 0
        · have hstop : R.ends s1 = sk := by
            have := HSTOP.out hd (s1.T.length - k)
            unfold R.ends
            rw [show k + (s1.T.length - k) = s1.T.length by omega] at this
            exact this
          have HST := hid hstop
          clear hstop
          go_wp2_with fail
          refine (rRelease_any F w5 sb h' sk M5.out (by rw [← HST.out]; exact HEND.out.1) (by rw [← HST.out]; exact HEND.out.2)).mono ?_
          rintro e w6 ⟨rfl, hm6, ho6⟩
          have M6 := hid hm6
          have O6 := hid (O5.out.trans ho6)
          clear hm6 ho6
          go_wp2_with fail
          refine (rSettle_any F w6 sb h' _ M6.out (by rw [← HST.out]; exact HREL.out) s1.set.workers.toNat (by rw [← HST.out]; exact HWK.out)).mono ?_
          rintro e w7 ⟨rfl, hm7, ho7⟩
          have M7 := hid hm7
          have O7 := hid (O6.out.trans ho7)
          clear hm7 ho7
          go_wp2
          go_ret2
          have hm7 := M7.out
          rw [← HST.out] at hm7
          obtain ⟨r1, r2, r3⟩ := FIN.out w7 hm7 O7.out
          rw [← HH.out] at r2
          exact .inr ⟨hlt, .slice lao L.length lcap, vM, rfl, by rw [HLL.out]; exact r1, r2, WH.out, r3⟩
        · have hdn : ((R.due sk).toNat : Int) = R.due sk := by omega
          have htl : (R.due sk).toNat < sk.T.length := by rw [q4]; omega
          have hesk : R.endOne sk = R.endW sk (R.due sk).toNat (if (R.th sk.T (R.due sk).toNat).for_ = 4 then 0 else 2) := by
            unfold R.endOne
            rw [if_neg hd]
          have eth : R.th sk.T (R.due sk).toNat = sk.T[(R.due sk).toNat] := by simp [R.th, List.getD, htl]
          rw [eth] at hesk
          have HESK := hid hesk
          clear hesk eth
          generalize hdt : (R.due sk).toNat = t at *
          have HDT := hid hdt
          clear hdt
          rw [← hdn] at d0 d1 hd ⊢
          clear hdn
          have c8 := M5.out.blk.cell 8
          simp [rsCells] at c8
          rw [q4, hlen1] at c8
          have a9 := M5.out.tcell htl 9 (by decide)
          simp [rtCells] at a9
          have Q4 := hid q4
          have hq4 := q4
          cases hf4 : (sk.T[t].for_ == 4)
          · have HF4 := hid hf4
            go_wp2_with fail
            refine (rEnd_any F w5 sb h' sk M5.out t htl (by rw [hq4]; omega) 2 (by omega) (by omega)).mono ?_
            rintro e w6 ⟨rfl, hm6, ho6⟩
            have M6 := hid hm6
            have O6 := hid (O5.out.trans ho6)
            clear hm6 ho6
            go_wp2
            go_roundw
            case rel =>
              refine ⟨k + 1, by omega, by go_num, ?_, O6.out⟩
              have hne : ¬ sk.T[t].for_ = 4 := by simpa using HF4.out
              rw [ES.out, HESK.out, if_neg hne]
              exact M6.out
            case measure => simp [intOf]; omega
          · have HF4 := hid hf4
            go_wp2_with fail
            refine (rEnd_any F w5 sb h' sk M5.out t htl (by rw [hq4]; omega) 0 (by omega) (by omega)).mono ?_
            rintro e w6 ⟨rfl, hm6, ho6⟩
            have M6 := hid hm6
            have O6 := hid (O5.out.trans ho6)
            clear hm6 ho6
            go_wp2
            go_roundw
            case rel =>
              refine ⟨k + 1, by omega, by go_num, ?_, O6.out⟩
              have hne : sk.T[t].for_ = 4 := by simpa using HF4.out
              rw [ES.out, HESK.out, if_pos hne]
              exact M6.out
            case measure => simp [intOf]; omega
      · have e : k = s1.T.length := by omega
        subst e
        have HST : Hid (R.endsTo s1 s1.T.length = R.ends s1) := rfl
        rw [HST.out] at MK
        go_wp2_with fail
        refine (rRelease_any F wr sb h' _ MK.out HEND.out.1 HEND.out.2).mono ?_
        rintro e w6 ⟨rfl, hm6, ho6⟩
        have M6 := hid hm6
        have O6 := hid (OK.out.trans ho6)
        clear hm6 ho6
        go_wp2_with fail
        refine (rSettle_any F w6 sb h' _ M6.out HREL.out s1.set.workers.toNat HWK.out).mono ?_
        rintro e w7 ⟨rfl, hm7, ho7⟩
        have M7 := hid hm7
        have O7 := hid (O6.out.trans ho7)
        clear hm7 ho7
        go_wp2
        go_ret2
        obtain ⟨r1, r2, r3⟩ := FIN.out w7 M7.out O7.out
        rw [← HH.out] at r2
        exact .inr ⟨hlt, .slice lao L.length lcap, vM, rfl, by rw [HLL.out]; exact r1, r2, WH.out, r3⟩
  · go_wp2
    go_ret2
    exact .inl ⟨by simpa using hnow, rfl, rfl⟩
end Go.Proofs.YtbkfildnijjioaaGreat

/-
  What holds of the document's kernel behind every step: New, Pick, Tick.
-/
namespace Go.Proofs.YtbkfildnijjioaaGreat
end Go.Proofs.YtbkfildnijjioaaGreat

/-
  Walks over package donateref: Running, Look.
-/
namespace Go.Proofs.YtbkfildnijjioaaGreat
open Go.RowKit
namespace R
end R
set_option maxHeartbeats 400000 in
theorem rRunning_any (F : Nat → Prop) (w : World) (sb : Nat) (h : RH) (s : RS) (m : RMem F w sb h s) (g : RGood s) (n : Nat) (hn : s.set.workers = n) :
    Calls Tryz.prog 31 #[.pointer (some ⟨sb, 0, none⟩)] w fun e w' => ∃ v, e = .returned v ∧ w'.ownsRow w.heap.size 3 1 v n (intCells (R.running s)) ∧ Below w.heap.size w w' := by
  have hfew := g.few
  have hn8 : (n : Int) ≤ 8 := by rw [← hn]; exact g.wk1
  have M := hid m
  have HN := hid hn
  have erun : R.running s = (List.range n).map (fun (x : Nat) => R.on s.T (x : Int)) := by unfold R.running; rw [hn]; simp
  have ER := hid erun
  clear m g hn erun
  obtain ⟨i3, hi3, hz30, hz31, hz32⟩ := info_parts Tryz.infoInt
  have HI3 : Hid (Tryz.prog.info? 3 = some i3 ∧ i3.zero = some (.int .i64 0) ∧ i3.size = 1 ∧ i3.bytes = 8) := ⟨hi3, hz30, hz31, hz32⟩
  clear hi3 hz30 hz31 hz32
  go_enter Tryz.func31, Tryz.ntmps31
  go_wp2
  go_loopw [3, 4] (fun v i wr => ∃ k : Nat, k ≤ n ∧ i = .int .i64 k ∧ wr.ownsRow w.heap.size 3 1 v k (intCells ((List.range k).map (fun (x : Nat) => R.on s.T (x : Int)))) ∧ Below w.heap.size w wr) (fun _ i _ => n - (intOf i).toNat)
  case atStart => exact ⟨0, Nat.zero_le _, rfl, World.ownsRow_nil _ _ _ _, Below.refl _ _⟩
  case round =>
    obtain ⟨k, hk, rfl, hown, hb⟩ := hrel
    have hm := M.out.below hb
    have Mk := hid hm
    have c0 := hm.blk.cell 0
    simp [rsCells] at c0
    rw [HN.out] at c0
    have OW := hid hown
    have hsz := hb.size
    clear hm hown
    by_cases hlt : k < n
    · go_wp2_with (first
        | (go_at_call 73; refine (rOn_any F _ sb h s Mk.out hfew (k : Int)).mono ?_; rintro e w1 ⟨rfl, hw1⟩; have hw2 := hw1.symm; subst hw2; clear hw1)
        | (at_builtin; refine wpList_append_src rfl (.tmp 18) (.tmp 20) 25 rfl w.heap.size 3 i3 (.int .i64 0) 1 8 Tryz.underlying25 HI3.out.1 HI3.out.2.1 HI3.out.2.2.1 HI3.out.2.2.2 rfl (by decide) u3 k (intCells ((List.range k).map (fun (x : Nat) => R.on s.T (x : Int)))) rfl (OW.out.alloc _) (some ⟨wr.heap.size, 0, none⟩) 1 1 [.int .i64 (R.on s.T (k : Int))] rfl rfl (fun h => (by cases h)) (fun j u hj => ⟨_, rfl, (by rw [Addr.add_lit, Nat.zero_add, (Blk.new wr #[.int .i64 (R.on s.T (k : Int))] 3).cell]; simpa using hj)⟩) (by intro u hu; simp at hu; subst hu; rfl) (by unfold maxLen; omega) (by omega) (by simp; omega) ?_; intro v' w2 hown2 hg2; have O2 := hid hown2; have G2 := hid hg2; clear hown2 hg2))
      go_roundw
      case rel => exact ⟨k + 1, by omega, by go_num, by rw [running_succ, intCells_append]; exact O2.out, (hb.alloc hsz _).grown G2.out (by simp; omega) (fun g hg => (ownsRow_block OW.out hg).1)⟩
      case measure => simp [intOf]; omega
    · go_wp2
      go_ret
      have e : k = n := by omega
      subst e
      exact ⟨_, rfl, by rw [ER.out]; exact OW.out, hb⟩
set_option maxHeartbeats 400000 in
theorem rLook_not (F : Nat → Prop) (w : World) (sb : Nat) (h : RH) (s : RS) (m : RMem F w sb h s) (t : Int) (ht : t < 0 ∨ (0 ≤ t ∧ (s.T.length : Int) ≤ t)) :
    Calls Tryz.prog 87 #[.pointer (some ⟨sb, 0, none⟩), .int .i64 t] w fun e w' => e = .returned (.tuple #[noView, .int .i64 7]) ∧ Below w.heap.size w w' := by
  have c8 := m.blk.cell 8
  simp [rsCells] at c8
  have hsl := m.blk.lt
  clear m
  rcases ht with h1 | ⟨h1, h2⟩
  all_goals
    go_enter Tryz.func87, Tryz.ntmps87
    go_wp2
    exact bodyPost_ret (v := .tuple #[noView, .int .i64 7]) (by simp [results, Tryz.results87, go_sem, noView]) rfl ⟨rfl, (Below.refl _ _).alloc (Nat.le_refl _) _⟩
set_option maxHeartbeats 1000000 in
theorem rLook_any (F : Nat → Prop) (w : World) (sb : Nat) (h : RH) (s : RS) (m : RMem F w sb h s) (g : RGood s) (t : Nat) (ht : t < s.T.length) :
    Calls Tryz.prog 87 #[.pointer (some ⟨sb, 0, none⟩), .int .i64 t] w fun e w' => e = .returned (.tuple #[viewV s.T[t] (R.Level s t), .int .i64 0]) ∧ Below w.heap.size w w' := by
  have c8 := m.blk.cell 8
  simp [rsCells] at c8
  have hfew := g.few
  have hsl := m.blk.lt
  have hgl := m.gT_lt
  have a0 := m.tcell ht 0 (by decide)
  have a1 := m.tcell ht 1 (by decide)
  have a2 := m.tcell ht 2 (by decide)
  have a3 := m.tcell ht 3 (by decide)
  have a4 := m.tcell ht 4 (by decide)
  have a5 := m.tcell ht 5 (by decide)
  have a6 := m.tcell ht 6 (by decide)
  have a7 := m.tcell ht 7 (by decide)
  have a8 := m.tcell ht 8 (by decide)
  have a9 := m.tcell ht 9 (by decide)
  have a10 := m.tcell ht 10 (by decide)
  have a11 := m.tcell ht 11 (by decide)
  have a12 := m.tcell ht 12 (by decide)
  simp [rtCells] at a0 a1 a2 a3 a4 a5 a6 a7 a8 a9 a10 a11 a12
  have M := hid m
  have G := hid g
  clear m g
  generalize s.T[t] = x at *
  go_enter Tryz.func87, Tryz.ntmps87
  go_wp2_with fail
  refine (rLevelOf_any F _ sb h s (M.out.below (((((Below.refl _ _).alloc (Nat.le_refl _) _).alloc (by simp) _)).alloc (by simp; omega) _)) G.out t ht).mono ?_
  rintro e w1 ⟨rfl, rfl⟩
  clear a0 a1 a2 a3 a4 a5 a6 a7 a8 a9 a10 a11 a12 c8
  generalize hlv : R.Level s t = lv at *
  have HLV := hid hlv
  clear hlv
  have fin : ∀ (st : Int), R.stateOf x = st → viewV x lv = .agg #[.int .i64 st, .int .i64 x.base, .int .i64 lv, .int .i64 x.at_, .int .i64 x.last, .int .i64 x.got, .int .i64 x.rel, .int .i64 x.ended, .int .i64 x.for_, .int .i64 x.of_, .int .i64 x.until_] := by
    intro st e
    unfold viewV
    rw [e]
  have FIN := hid fin
  clear fin
  cases hf : (x.for_ != 0)
  · have HF := hid hf
    by_cases hw : 0 ≤ x.wkr
    · go_wp2
      refine bodyPost_ret (v := .tuple #[viewV x lv, .int .i64 0]) ?_ rfl ⟨by rw [HLV.out], (((Below.refl _ _).alloc (Nat.le_refl _) _).alloc (by simp) _).alloc (by simp; omega) _⟩
      rw [FIN.out 2 (by have := HF.out; simp at this; simp [R.stateOf, this, hw])]
      simp [results, Tryz.results87, go_sem]
    · cases ha : x.awake
      · have HA := hid ha
        go_wp2
        refine bodyPost_ret (v := .tuple #[viewV x lv, .int .i64 0]) ?_ rfl ⟨by rw [HLV.out], (((Below.refl _ _).alloc (Nat.le_refl _) _).alloc (by simp) _).alloc (by simp; omega) _⟩
        rw [FIN.out 0 (by have := HF.out; simp at this; have h2 : ¬ 0 ≤ x.wkr := (by omega); simp [R.stateOf, this, h2, HA.out])]
        simp [results, Tryz.results87, go_sem]
      · have HA := hid ha
        go_wp2
        refine bodyPost_ret (v := .tuple #[viewV x lv, .int .i64 0]) ?_ rfl ⟨by rw [HLV.out], (((Below.refl _ _).alloc (Nat.le_refl _) _).alloc (by simp) _).alloc (by simp; omega) _⟩
        rw [FIN.out 1 (by have := HF.out; simp at this; have h2 : ¬ 0 ≤ x.wkr := (by omega); simp [R.stateOf, this, h2, HA.out])]
        simp [results, Tryz.results87, go_sem]
  · have HF := hid hf
    go_wp2
    refine bodyPost_ret (v := .tuple #[viewV x lv, .int .i64 0]) ?_ rfl ⟨by rw [HLV.out], (((Below.refl _ _).alloc (Nat.le_refl _) _).alloc (by simp) _).alloc (by simp; omega) _⟩
    rw [FIN.out 3 (by have := HF.out; simp at this; simp [R.stateOf, this])]
    simp [results, Tryz.results87, go_sem]
end Go.Proofs.YtbkfildnijjioaaGreat

/-
  Walks over package donateref: Waiting.
-/
namespace Go.Proofs.YtbkfildnijjioaaGreat
open Go.RowKit
set_option maxRecDepth 100000 in
set_option maxHeartbeats 2000000 in
theorem rWaiting_any (F : Nat → Prop) (w : World) (sb : Nat) (h : RH) (s : RS) (m : RMem F w sb h s) (g : RGood s) (hc4 : s.count.length ≤ 4) (hq4 : s.box.length ≤ 4) (what i : Int) :
    Calls Tryz.prog 83 #[.pointer (some ⟨sb, 0, none⟩), .int .i64 what, .int .i64 i] w fun e w' => Below w.heap.size w w' ∧
      (((i < 0 ∨ R.things s what ≤ i) ∧ e = .returned (.tuple #[.slice none 0 0, .int .i64 7])) ∨
      (¬ (i < 0 ∨ R.things s what ≤ i) ∧ ∃ v, e = .returned (.tuple #[v, .int .i64 0]) ∧ w'.ownsRow w.heap.size 3 1 v (R.waiting s what i).length (intCells (R.waiting s what i)))) := by
  have hfew := g.few
  have hol := g.own
  have hmf := g.mfew
  have c8 := m.blk.cell 8
  have c9 := m.blk.cell 9
  have c10 := m.blk.cell 10
  have c11 := m.blk.cell 11
  simp [rsCells] at c8 c9 c10 c11
  obtain ⟨ao, co, hvO, _, _⟩ := owns_cells m.oth.own
  obtain ⟨ac, cc, hvC, _, _⟩ := owns_cells m.oth.cnt
  obtain ⟨ab, cb, hvB, _, _⟩ := owns_cells m.oth.box.1
  rw [hvO] at c9
  rw [hvC] at c10
  rw [hvB] at c11
  have M := hid m
  have G := hid g
  have ETH : Hid (R.things s what = if what = 1 then (s.owner.length : Int) else if what = 2 then (s.count.length : Int) else if what = 3 then (s.box.length : Int) else 0) := rfl
  clear m g hvO hvC hvB
  generalize R.things s what = n at *
  obtain ⟨i3, hi3, hz30, hz31, hz32⟩ := info_parts Tryz.infoInt
  have HI3 := hid (And.intro hi3 (And.intro hz30 (And.intro hz31 hz32)))
  clear hi3 hz30 hz31 hz32
  have hn : n ≤ 8 ∧ 0 ≤ n := by
    have := ETH.out
    split at this
    · omega
    · split at this
      · omega
      · split at this <;> omega
  go_enter Tryz.func83, Tryz.ntmps83
  by_cases h1 : what = 1
  · subst h1
    have HN : Hid (n = (s.owner.length : Int)) := by rw [ETH.out]; exact hid rfl
    clear ETH
    by_cases hneg : i < 0
    · go_wp2
      go_ret2
      exact ⟨Below.refl _ _, .inl ⟨.inl hneg, rfl⟩⟩
    · by_cases hge : (s.owner.length : Int) ≤ i
      · go_wp2
        go_ret2
        exact ⟨Below.refl _ _, .inl ⟨.inr (by rw [HN.out]; exact hge), rfl⟩⟩
      · have hno : ¬ (i < 0 ∨ n ≤ i) := by rw [HN.out]; omega
        have HNO := hid hno
        clear hno
        go_wp2
        go_loopw [9] (fun v wr => ∃ j : Nat, j ≤ s.T.length + 1 ∧ (R.waitTo s 1 i j).length = j ∧ wr.ownsRow w.heap.size 3 1 v j (intCells (R.waitTo s 1 i j)) ∧ Below w.heap.size w wr) (fun v _ => s.T.length + 1 - lenV v)
        case atStart => exact ⟨0, Nat.zero_le _, rfl, World.ownsRow_nil _ _ _ _, Below.refl _ _⟩
        case round =>
          obtain ⟨j, hj, hlen, hrow, hb⟩ := hrel
          have hrow' : wr.ownsRow w.heap.size 3 1 u9 (R.waitTo s 1 i j).length (intCells (R.waitTo s 1 i j)) := by rw [hlen]; exact hrow
          obtain ⟨lv, lc, rfl, hln, hli, hla⟩ := IntsIn.of_owns hrow'
          have HLI := hid hli
          have ROW := hid hrow
          have HB := hid hb
          have hsz := hb.size
          have MK := hid (M.out.below hb)
          have c8' := MK.out.blk.cell 8
          simp [rsCells] at c8'
          have ES : Hid (R.waitTo s 1 i (j + 1) = if R.first s 1 i (R.waitTo s 1 i j) < 0 then R.waitTo s 1 i j else R.waitTo s 1 i j ++ [R.first s 1 i (R.waitTo s 1 i j)]) := rfl
          have STOP := hid (R.waitTo_stop s 1 i j)
          have FB := R.firstTo_bd s 1 i (R.waitTo s 1 i j) s.T.length
          have HFB := hid FB
          have FR := hid (rFirst_any F wr sb h s MK.out G.out 1 i lv lc (R.waitTo s 1 i j) hli (by omega))
          have EF : R.first s 1 i (R.waitTo s 1 i j) = R.firstTo s 1 i (R.waitTo s 1 i j) s.T.length := rfl
          rw [← EF] at FB
          have EW : Hid (R.waiting s 1 i = R.waitTo s 1 i (s.T.length + 1)) := rfl
          clear hrow hrow' hli hla hb EF
          generalize hL : R.waitTo s 1 i j = L at *
          have HL := hid hL
          clear hL
          subst hlen
          have hLI : (L.length : Int) ≤ 17 := by omega
          by_cases hjl : L.length < s.T.length + 1
          · have hjI : (L.length : Int) ≤ (s.T.length : Int) := by omega
            go_wp2_with fail
            refine FR.out.mono ?_
            rintro e w1 ⟨rfl, nd, rfl⟩
            have ROW1 : Hid ((wr.drewN nd).ownsRow w.heap.size 3 1 (.slice lv L.length lc) L.length (intCells L)) := ROW.out
            have HB1 : Hid (Below w.heap.size w (wr.drewN nd)) := bdrewN HB.out nd
            have hsz1 : w.heap.size ≤ (wr.drewN nd).heap.size := hsz
            clear ROW HB c8' FR HLI MK
            generalize wr.drewN nd = w1 at *
            generalize hfi : R.first s 1 i L = fi at *
            have HFI := hid hfi
            clear hfi
            by_cases hfn : fi < 0
            · rw [if_pos hfn] at ES
              go_wp2
              go_ret2
              have e : R.waiting s 1 i = L := by
                rw [EW.out]
                have hst := STOP.out hfn (s.T.length + 1 - L.length)
                rw [show L.length + (s.T.length + 1 - L.length) = s.T.length + 1 by omega] at hst
                exact hst
              refine ⟨HB1.out, .inr ⟨HNO.out, .slice lv L.length lc, rfl, ?_⟩⟩
              rw [e]
              exact ROW1.out
            · rw [if_neg hfn] at ES
              go_wp2_with (at_builtin; refine wpList_append_src rfl (.tmp 55) (.tmp 57) 25 rfl w.heap.size 3 i3 (.int .i64 0) 1 8 Tryz.underlying25 HI3.out.1 HI3.out.2.1 HI3.out.2.2.1 HI3.out.2.2.2 rfl (by decide) (.slice lv L.length lc) L.length (intCells L) rfl (ROW1.out.alloc _) (some ⟨w1.heap.size, 0, none⟩) 1 1 [.int .i64 fi] rfl rfl (fun h => (by cases h)) (fun j u hj => ⟨_, rfl, (by rw [Addr.add_lit, Nat.zero_add, (Blk.new w1 #[.int .i64 fi] 3).cell]; simpa using hj)⟩) (by intro u hu; simp at hu; subst hu; rfl) (by unfold maxLen; omega) (by omega) (by simp; omega) ?_; intro v' w2 hown2 hg2; obtain ⟨tv5, tc5, rfl, _, _⟩ := owns_cells hown2; have O2 := hid hown2; have G2 := hid hg2; clear hown2 hg2)
              go_roundw
              case rel =>
                refine ⟨L.length + 1, by omega, by rw [ES.out]; simp, ?_, (HB1.out.alloc (by omega) _).grown G2.out (by simp; omega) (fun g hg => (ownsRow_block ROW1.out hg).1)⟩
                rw [ES.out, intCells_append]
                exact O2.out
              case measure => simp [lenV]; omega
          · have e : L.length = s.T.length + 1 := by omega
            have e2 : R.waiting s 1 i = L := by
              rw [EW.out, ← e]
              exact HL.out
            go_wp2
            go_ret2
            refine ⟨HB.out, .inr ⟨HNO.out, .slice lv L.length lc, rfl, ?_⟩⟩
            rw [e2]
            exact ROW.out
  by_cases h2 : what = 2
  · subst h2
    have HN : Hid (n = (s.count.length : Int)) := by rw [ETH.out]; exact hid rfl
    clear ETH
    by_cases hneg : i < 0
    · go_wp2
      go_ret2
      exact ⟨Below.refl _ _, .inl ⟨.inl hneg, rfl⟩⟩
    · by_cases hge : (s.count.length : Int) ≤ i
      · go_wp2
        go_ret2
        exact ⟨Below.refl _ _, .inl ⟨.inr (by rw [HN.out]; exact hge), rfl⟩⟩
      · have hno : ¬ (i < 0 ∨ n ≤ i) := by rw [HN.out]; omega
        have HNO := hid hno
        clear hno
        go_wp2
        go_loopw [9] (fun v wr => ∃ j : Nat, j ≤ s.T.length + 1 ∧ (R.waitTo s 2 i j).length = j ∧ wr.ownsRow w.heap.size 3 1 v j (intCells (R.waitTo s 2 i j)) ∧ Below w.heap.size w wr) (fun v _ => s.T.length + 1 - lenV v)
        case atStart => exact ⟨0, Nat.zero_le _, rfl, World.ownsRow_nil _ _ _ _, Below.refl _ _⟩
        case round =>
          obtain ⟨j, hj, hlen, hrow, hb⟩ := hrel
          have hrow' : wr.ownsRow w.heap.size 3 1 u9 (R.waitTo s 2 i j).length (intCells (R.waitTo s 2 i j)) := by rw [hlen]; exact hrow
          obtain ⟨lv, lc, rfl, hln, hli, hla⟩ := IntsIn.of_owns hrow'
          have HLI := hid hli
          have ROW := hid hrow
          have HB := hid hb
          have hsz := hb.size
          have MK := hid (M.out.below hb)
          have c8' := MK.out.blk.cell 8
          simp [rsCells] at c8'
          have ES : Hid (R.waitTo s 2 i (j + 1) = if R.first s 2 i (R.waitTo s 2 i j) < 0 then R.waitTo s 2 i j else R.waitTo s 2 i j ++ [R.first s 2 i (R.waitTo s 2 i j)]) := rfl
          have STOP := hid (R.waitTo_stop s 2 i j)
          have FB := R.firstTo_bd s 2 i (R.waitTo s 2 i j) s.T.length
          have HFB := hid FB
          have FR := hid (rFirst_any F wr sb h s MK.out G.out 2 i lv lc (R.waitTo s 2 i j) hli (by omega))
          have EF : R.first s 2 i (R.waitTo s 2 i j) = R.firstTo s 2 i (R.waitTo s 2 i j) s.T.length := rfl
          rw [← EF] at FB
          have EW : Hid (R.waiting s 2 i = R.waitTo s 2 i (s.T.length + 1)) := rfl
          clear hrow hrow' hli hla hb EF
          generalize hL : R.waitTo s 2 i j = L at *
          have HL := hid hL
          clear hL
          subst hlen
          have hLI : (L.length : Int) ≤ 17 := by omega
          by_cases hjl : L.length < s.T.length + 1
          · have hjI : (L.length : Int) ≤ (s.T.length : Int) := by omega
            go_wp2_with fail
            refine FR.out.mono ?_
            rintro e w1 ⟨rfl, nd, rfl⟩
            have ROW1 : Hid ((wr.drewN nd).ownsRow w.heap.size 3 1 (.slice lv L.length lc) L.length (intCells L)) := ROW.out
            have HB1 : Hid (Below w.heap.size w (wr.drewN nd)) := bdrewN HB.out nd
            have hsz1 : w.heap.size ≤ (wr.drewN nd).heap.size := hsz
            clear ROW HB c8' FR HLI MK
            generalize wr.drewN nd = w1 at *
            generalize hfi : R.first s 2 i L = fi at *
            have HFI := hid hfi
            clear hfi
            by_cases hfn : fi < 0
            · rw [if_pos hfn] at ES
              go_wp2
              go_ret2
              have e : R.waiting s 2 i = L := by
                rw [EW.out]
                have hst := STOP.out hfn (s.T.length + 1 - L.length)
                rw [show L.length + (s.T.length + 1 - L.length) = s.T.length + 1 by omega] at hst
                exact hst
              refine ⟨HB1.out, .inr ⟨HNO.out, .slice lv L.length lc, rfl, ?_⟩⟩
              rw [e]
              exact ROW1.out
            · rw [if_neg hfn] at ES
              go_wp2_with (at_builtin; refine wpList_append_src rfl (.tmp 55) (.tmp 57) 25 rfl w.heap.size 3 i3 (.int .i64 0) 1 8 Tryz.underlying25 HI3.out.1 HI3.out.2.1 HI3.out.2.2.1 HI3.out.2.2.2 rfl (by decide) (.slice lv L.length lc) L.length (intCells L) rfl (ROW1.out.alloc _) (some ⟨w1.heap.size, 0, none⟩) 1 1 [.int .i64 fi] rfl rfl (fun h => (by cases h)) (fun j u hj => ⟨_, rfl, (by rw [Addr.add_lit, Nat.zero_add, (Blk.new w1 #[.int .i64 fi] 3).cell]; simpa using hj)⟩) (by intro u hu; simp at hu; subst hu; rfl) (by unfold maxLen; omega) (by omega) (by simp; omega) ?_; intro v' w2 hown2 hg2; obtain ⟨tv5, tc5, rfl, _, _⟩ := owns_cells hown2; have O2 := hid hown2; have G2 := hid hg2; clear hown2 hg2)
              go_roundw
              case rel =>
                refine ⟨L.length + 1, by omega, by rw [ES.out]; simp, ?_, (HB1.out.alloc (by omega) _).grown G2.out (by simp; omega) (fun g hg => (ownsRow_block ROW1.out hg).1)⟩
                rw [ES.out, intCells_append]
                exact O2.out
              case measure => simp [lenV]; omega
          · have e : L.length = s.T.length + 1 := by omega
            have e2 : R.waiting s 2 i = L := by
              rw [EW.out, ← e]
              exact HL.out
            go_wp2
            go_ret2
            refine ⟨HB.out, .inr ⟨HNO.out, .slice lv L.length lc, rfl, ?_⟩⟩
            rw [e2]
            exact ROW.out
  by_cases h3 : what = 3
  · subst h3
    have HN : Hid (n = (s.box.length : Int)) := by rw [ETH.out]; exact hid rfl
    clear ETH
    by_cases hneg : i < 0
    · go_wp2
      go_ret2
      exact ⟨Below.refl _ _, .inl ⟨.inl hneg, rfl⟩⟩
    · by_cases hge : (s.box.length : Int) ≤ i
      · go_wp2
        go_ret2
        exact ⟨Below.refl _ _, .inl ⟨.inr (by rw [HN.out]; exact hge), rfl⟩⟩
      · have hno : ¬ (i < 0 ∨ n ≤ i) := by rw [HN.out]; omega
        have HNO := hid hno
        clear hno
        go_wp2
        go_loopw [9] (fun v wr => ∃ j : Nat, j ≤ s.T.length + 1 ∧ (R.waitTo s 3 i j).length = j ∧ wr.ownsRow w.heap.size 3 1 v j (intCells (R.waitTo s 3 i j)) ∧ Below w.heap.size w wr) (fun v _ => s.T.length + 1 - lenV v)
        case atStart => exact ⟨0, Nat.zero_le _, rfl, World.ownsRow_nil _ _ _ _, Below.refl _ _⟩
        case round =>
          obtain ⟨j, hj, hlen, hrow, hb⟩ := hrel
          have hrow' : wr.ownsRow w.heap.size 3 1 u9 (R.waitTo s 3 i j).length (intCells (R.waitTo s 3 i j)) := by rw [hlen]; exact hrow
          obtain ⟨lv, lc, rfl, hln, hli, hla⟩ := IntsIn.of_owns hrow'
          have HLI := hid hli
          have ROW := hid hrow
          have HB := hid hb
          have hsz := hb.size
          have MK := hid (M.out.below hb)
          have c8' := MK.out.blk.cell 8
          simp [rsCells] at c8'
          have ES : Hid (R.waitTo s 3 i (j + 1) = if R.first s 3 i (R.waitTo s 3 i j) < 0 then R.waitTo s 3 i j else R.waitTo s 3 i j ++ [R.first s 3 i (R.waitTo s 3 i j)]) := rfl
          have STOP := hid (R.waitTo_stop s 3 i j)
          have FB := R.firstTo_bd s 3 i (R.waitTo s 3 i j) s.T.length
          have HFB := hid FB
          have FR := hid (rFirst_any F wr sb h s MK.out G.out 3 i lv lc (R.waitTo s 3 i j) hli (by omega))
          have EF : R.first s 3 i (R.waitTo s 3 i j) = R.firstTo s 3 i (R.waitTo s 3 i j) s.T.length := rfl
          rw [← EF] at FB
          have EW : Hid (R.waiting s 3 i = R.waitTo s 3 i (s.T.length + 1)) := rfl
          clear hrow hrow' hli hla hb EF
          generalize hL : R.waitTo s 3 i j = L at *
          have HL := hid hL
          clear hL
          subst hlen
          have hLI : (L.length : Int) ≤ 17 := by omega
          by_cases hjl : L.length < s.T.length + 1
          · have hjI : (L.length : Int) ≤ (s.T.length : Int) := by omega
            go_wp2_with fail
            refine FR.out.mono ?_
            rintro e w1 ⟨rfl, nd, rfl⟩
            have ROW1 : Hid ((wr.drewN nd).ownsRow w.heap.size 3 1 (.slice lv L.length lc) L.length (intCells L)) := ROW.out
            have HB1 : Hid (Below w.heap.size w (wr.drewN nd)) := bdrewN HB.out nd
            have hsz1 : w.heap.size ≤ (wr.drewN nd).heap.size := hsz
            clear ROW HB c8' FR HLI MK
            generalize wr.drewN nd = w1 at *
            generalize hfi : R.first s 3 i L = fi at *
            have HFI := hid hfi
            clear hfi
            by_cases hfn : fi < 0
            · rw [if_pos hfn] at ES
              go_wp2
              go_ret2
              have e : R.waiting s 3 i = L := by
                rw [EW.out]
                have hst := STOP.out hfn (s.T.length + 1 - L.length)
                rw [show L.length + (s.T.length + 1 - L.length) = s.T.length + 1 by omega] at hst
                exact hst
              refine ⟨HB1.out, .inr ⟨HNO.out, .slice lv L.length lc, rfl, ?_⟩⟩
              rw [e]
              exact ROW1.out
            · rw [if_neg hfn] at ES
              go_wp2_with (at_builtin; refine wpList_append_src rfl (.tmp 55) (.tmp 57) 25 rfl w.heap.size 3 i3 (.int .i64 0) 1 8 Tryz.underlying25 HI3.out.1 HI3.out.2.1 HI3.out.2.2.1 HI3.out.2.2.2 rfl (by decide) (.slice lv L.length lc) L.length (intCells L) rfl (ROW1.out.alloc _) (some ⟨w1.heap.size, 0, none⟩) 1 1 [.int .i64 fi] rfl rfl (fun h => (by cases h)) (fun j u hj => ⟨_, rfl, (by rw [Addr.add_lit, Nat.zero_add, (Blk.new w1 #[.int .i64 fi] 3).cell]; simpa using hj)⟩) (by intro u hu; simp at hu; subst hu; rfl) (by unfold maxLen; omega) (by omega) (by simp; omega) ?_; intro v' w2 hown2 hg2; obtain ⟨tv5, tc5, rfl, _, _⟩ := owns_cells hown2; have O2 := hid hown2; have G2 := hid hg2; clear hown2 hg2)
              go_roundw
              case rel =>
                refine ⟨L.length + 1, by omega, by rw [ES.out]; simp, ?_, (HB1.out.alloc (by omega) _).grown G2.out (by simp; omega) (fun g hg => (ownsRow_block ROW1.out hg).1)⟩
                rw [ES.out, intCells_append]
                exact O2.out
              case measure => simp [lenV]; omega
          · have e : L.length = s.T.length + 1 := by omega
            have e2 : R.waiting s 3 i = L := by
              rw [EW.out, ← e]
              exact HL.out
            go_wp2
            go_ret2
            refine ⟨HB.out, .inr ⟨HNO.out, .slice lv L.length lc, rfl, ?_⟩⟩
            rw [e2]
            exact ROW.out
  · have HN : Hid (n = 0) := by rw [ETH.out, if_neg h1, if_neg h2, if_neg h3]; exact hid rfl
    have e1 : (what == 1) = false := by simpa using h1
    have e2 : (what == 2) = false := by simpa using h2
    have e3 : (what == 3) = false := by simpa using h3
    clear ETH
    by_cases hneg : i < 0
    · go_wp2
      go_ret2
      exact ⟨Below.refl _ _, .inl ⟨.inl hneg, rfl⟩⟩
    · have hge : (0 : Int) ≤ i := by omega
      go_wp2
      go_ret2
      exact ⟨Below.refl _ _, .inl ⟨.inr (by rw [HN.out]; exact hge), rfl⟩⟩
end Go.Proofs.YtbkfildnijjioaaGreat

/-
  The document's kernel as a whole: its memory, what holds of it, and its calls.
-/
namespace Go.Proofs.YtbkfildnijjioaaGreat
open Go.RowKit

/-- The blocks of a kernel. -/
def Kb (F : Nat → Prop) (sb : Nat) (h : RH) (b : Nat) : Prop := F b ∨ b ∈ sb :: h.foot ∨ h.vM.ownBlock = some b

/-- The document's kernel s lies at sb, in blocks of Q. -/
structure RK (Q : Nat → Prop) (w : World) (sb : Nat) (s : RS) : Prop where
  mem : ∃ F h, RMem F w sb h s ∧ RApart F h ∧ ∀ b, Kb F sb h b → Q b
  lt : ∀ b, Q b → b < w.heap.size
  inv : RInv s

theorem Kb.lt {F : Nat → Prop} {w : World} {sb : Nat} {h : RH} {s : RS} (m : RMem F w sb h s) : ∀ b, Kb F sb h b → b < w.heap.size := by
  rintro b (hb | hb | hb)
  · exact m.lt b hb
  · exact m.foot_lt b hb
  · exact (ownsRow_block m.oth.mis hb).2.1

theorem RMem.frame {F : Nat → Prop} {w w' : World} {sb : Nat} {h : RH} {s : RS} (m : RMem F w sb h s) (hs : ∀ b, Kb F sb h b → w'.heap[b]? = w.heap[b]?) (hz : w.heap.size ≤ w'.heap.size) : RMem F w' sb h s := by
  have foot : ∀ b, b ∈ sb :: h.foot → w'.heap[b]? = w.heap[b]? := fun b hb => hs b (.inr (.inl hb))
  refine ⟨?_, ?_, m.set.same fun b hb => hs b (.inl hb), ⟨?_, ?_, ?_, ?_, fun i hi => ?_⟩, m.nsb, m.nT, fun b hb => Nat.lt_of_lt_of_le (m.lt b hb) hz⟩
  · have := m.blk
    unfold Blk at this ⊢
    rw [foot sb (by simp)]
    exact this
  · refine ownsRow_same m.rows fun g hg => ?_
    cases hg
    exact foot _ (by simp [RH.foot])
  · exact ownsRow_same m.oth.own fun g hg => foot g (by simp [RH.foot, hg])
  · exact ownsRow_same m.oth.cnt fun g hg => foot g (by simp [RH.foot, hg])
  · exact ownsRow_same m.oth.mis fun g hg => hs g (.inr (.inr hg))
  · exact ownsRow_same m.oth.box.1 fun g hg => foot g (by simp [RH.foot, hg])
  · obtain ⟨v, hv, hr⟩ := m.oth.box.2 i hi
    refine ⟨v, hv, ownsRow_same hr fun g hg => foot g ?_⟩
    simp only [RH.foot, List.mem_cons, List.mem_append, List.mem_flatMap, Option.mem_toList]
    exact .inr (.inr (.inr ⟨v, List.mem_of_getElem? hv, hg⟩))

section
variable {Q : Nat → Prop} {w w' : World} {sb : Nat} {s : RS}
theorem RK.frame (k : RK Q w sb s) (hs : ∀ b, Q b → w'.heap[b]? = w.heap[b]?) (hz : w.heap.size ≤ w'.heap.size) : RK Q w' sb s := by
  obtain ⟨F, h, m, a, hq⟩ := k.mem
  exact ⟨⟨F, h, m.frame (fun b hb => hs b (hq b hb)) hz, a, hq⟩, fun b hb => Nat.lt_of_lt_of_le (k.lt b hb) hz, k.inv⟩
theorem RK.below (k : RK Q w sb s) (hb : Below w.heap.size w w') : RK Q w' sb s := k.frame (fun b h => hb.block b (k.lt b h)) hb.size
end

theorem rkNew_any (tv mv sv qv : Option Addr) (tc mc sc qc : Nat) (S : SetD) (w : World) (hS : SetIn w.heap.size w tv mv sv qv S) (hF : Fits S) (hnil : (tv = none → tc = 0) ∧ (mv = none → mc = 0) ∧ (sv = none → sc = 0) ∧ (qv = none → qc = 0)) (hok : P3.err S = 0) :
    Calls Tryz.prog 28 #[.agg #[.int .i64 S.workers, .int .i64 S.start, .slice tv S.threads.length tc, .slice mv S.mutexes.length mc, .slice sv S.sems.length sc, .slice qv S.queues.length qc]] w fun e w' =>
      ∃ sb Q, e = .returned (.pointer (some ⟨sb, 0, none⟩)) ∧ RK Q w' sb (R.new S) ∧ (∀ b, Q b → w.heap.size ≤ b) ∧ Below w.heap.size w w' := by
  refine (rNew_any tv mv sv qv tc mc sc qc S w hS hF hnil hok).mono ?_
  rintro e w' ⟨sb, h, F, rfl, m, a, r, hb⟩
  refine ⟨sb, Kb F sb h, rfl, ⟨⟨F, h, m, a, fun b hb => hb⟩, Kb.lt m, inv_new hok⟩, fun b hb => ?_, hb⟩
  rcases hb with hb | hb | hb
  · exact r.f b hb
  · simp only [RH.foot, List.mem_cons, List.mem_append, List.mem_flatMap, Option.mem_toList] at hb
    rcases hb with rfl | rfl | ((hb | hb) | hb) | ⟨u, hu, hb⟩
    · exact r.sb
    · exact r.t
    · exact r.o b hb
    · exact r.c b hb
    · exact r.b b hb
    · obtain ⟨j, hj, e⟩ := List.getElem_of_mem hu
      exact r.bs j u b (by rw [List.getElem?_eq_getElem hj, e]) hb
  · exact r.m b hb

theorem rkPick_any (Q : Nat → Prop) (w : World) (sb : Nat) (s : RS) (k : RK Q w sb s) (wk : Int) (hnx : s.next ≤ 4611686018427386000) :
    Calls Tryz.prog 30 #[.pointer (some ⟨sb, 0, none⟩), .int .i64 wk] w fun e w' =>
      e = .returned (.tuple #[.agg #[.int .i64 (R.pickT s wk), .int .i64 (R.pickA s wk), .int .i64 (R.pickC s wk)], .int .i64 (R.pickE s wk)]) ∧
      ∃ Q', RK Q' w' sb (R.pickS s wk) ∧ (∀ b, Q' b → Q b ∨ w.heap.size ≤ b) ∧ Turns Q w w' := by
  obtain ⟨F, h, m, a, hq⟩ := k.mem
  have inv := k.inv.toRMid
  refine (rPick_any F w sb h s m a inv.good inv.links inv.store inv.code wk hnx).mono ?_
  rintro e w' ⟨rfl, h', m', a', nx, ho⟩
  refine ⟨rfl, Kb F sb h', ⟨⟨F, h', m', a', fun b hb => hb⟩, Kb.lt m', k.inv.pick wk hnx⟩, fun b hb => ?_, Turns.of_only ho (fun b hb => hq b (.inr (.inl hb)))⟩
  rcases hb with hb | hb | hb
  · exact .inl (hq b (.inl hb))
  · rcases List.mem_cons.1 hb with rfl | hb
    · exact .inl (hq b (.inr (.inl (by simp))))
    · rcases nx.all b hb with h1 | h1
      · exact .inl (hq b (.inr (.inl (List.mem_cons_of_mem _ h1))))
      · exact .inr h1
  · rcases nx.m b hb with h1 | h1
    · exact .inl (hq b (.inr (.inr h1)))
    · exact .inr h1

theorem rkTick_any (Q : Nat → Prop) (w : World) (sb : Nat) (s : RS) (k : RK Q w sb s) (hnx : s.next ≤ 4611686018427386000) :
    Calls Tryz.prog 29 #[.pointer (some ⟨sb, 0, none⟩)] w fun e w' =>
      (s.now = 1000000000 ∧ e = .returned (.tuple #[.slice none 0 0, .int .i64 8]) ∧ w' = w) ∨
      (s.now < 1000000000 ∧ ∃ l Q', e = .returned (.tuple #[l, .int .i64 0]) ∧ w'.ownsRow w.heap.size 95 3 l (R.late (R.ticked s)).length (missCells (R.late (R.ticked s))) ∧ RK Q' w' sb (R.tick s) ∧
        (∀ b, Q' b → Q b ∨ w.heap.size ≤ b) ∧ (∀ b, l.ownBlock = some b → ¬ Q' b) ∧ Turns Q w w') := by
  obtain ⟨F, h, m, a, hq⟩ := k.mem
  have inv := k.inv.toRMid
  have hmis : s.missed.length ≤ 16000000000 := by
    have := inv.mis
    have := inv.good.now0
    have := inv.good.now1
    have := inv.good.now2
    omega
  refine (rTick_any F w sb h s m a inv.good hmis hnx).mono ?_
  rintro e w' (⟨h1, rfl, rfl⟩ | ⟨h1, l, vM, rfl, hl, m', hv, ho⟩)
  · exact .inl ⟨h1, rfl, rfl⟩
  · refine .inr ⟨h1, l, Kb F sb { h with vM := vM }, rfl, hl, ⟨⟨F, _, m', ⟨a.o, a.c, fun g hg => ?_, a.b, a.bs⟩, fun b hb => hb⟩, Kb.lt m', k.inv.tick h1 hnx⟩, fun b hb => ?_, fun b hb hk => ?_, ?_⟩
    · rcases hv with hv | ⟨b, hv, hb, _⟩
      · rw [hv] at hg
        exact a.m g hg
      · intro hf
        rw [hv] at hg
        cases hg
        have := m.lt _ hf
        omega
    · rcases hb with hb | hb | hb
      · exact .inl (hq b (.inl hb))
      · exact .inl (hq b (.inr (.inl hb)))
      · rcases hv with hv | ⟨b', hv, hb', _⟩
        · have hb2 : vM.ownBlock = some b := hb
          rw [hv] at hb2
          exact .inl (hq b (.inr (.inr hb2)))
        · have hb2 : vM.ownBlock = some b := hb
          rw [hv] at hb2
          cases hb2
          exact .inr hb'
    · have hge := (ownsRow_block hl hb).1
      rcases hk with hk | hk | hk
      · have := m.lt b hk
        omega
      · have := m.foot_lt b hk
        omega
      · have hb2 : vM.ownBlock = some b := hk
        rcases hv with hv | ⟨b', hv, _, hn⟩
        · rw [hv] at hb2
          have := (ownsRow_block m.oth.mis hb2).2.1
          omega
        · rw [hv] at hb2
          cases hb2
          exact hn hb
    · refine Turns.of_only ho fun b hb => ?_
      simp at hb
      rcases hb with rfl | rfl | hb
      · exact hq b (.inr (.inl (by simp)))
      · exact hq _ (.inr (.inl (by simp [RH.foot])))
      · exact hq b (.inr (.inr hb))

end Go.Proofs.YtbkfildnijjioaaGreat

/-
  Walks over package donatelaw: what is alike is told alike: sameInts, sameMisses, sameReport, sameView.
-/
namespace Go.Proofs.YtbkfildnijjioaaGreat
open Go.RowKit
set_option maxHeartbeats 400000 in
theorem sameInts_eq (w : World) (ao bo : Option Addr) (ca cb : Nat) (l : List Int) (ha : IntsIn w.heap.size w ao l) (hb : IntsIn w.heap.size w bo l) (hl : l.length ≤ 1099511627776) :
    Calls Tryz.prog 36 #[.slice ao l.length ca, .slice bo l.length cb] w fun e w' => e = .returned (.bool true) ∧ ∃ n, w' = w.drewN n := by
  have HA := hid ha
  have HB := hid hb
  clear ha hb
  go_enter Tryz.func36, Tryz.ntmps36
  go_wp2
  go_loopw [5] (fun i wr => ∃ k : Nat, k ≤ l.length ∧ i = .int .i64 k ∧ ∃ n, wr = w.drewN n) (fun i _ => l.length - (intOf i).toNat)
  case atStart => exact ⟨0, Nat.zero_le _, rfl, 0, rfl⟩
  case round =>
    obtain ⟨k, hk, rfl, n, rfl⟩ := hrel
    by_cases hlt : k < l.length
    · obtain ⟨b1, o1, rfl, _, x1⟩ := HA.out k hlt
      obtain ⟨b2, o2, rfl, _, x2⟩ := HB.out k hlt
      have hkI : (k : Int) < (l.length : Int) := by omega
      go_wp2_with fail
      go_quiet (fail)
      go_wp2
      go_roundw
      case rel => exact ⟨k + 1, by omega, by go_num, _, rfl⟩
      case measure => simp [intOf]; omega
    · go_wp2
      go_ret
      exact ⟨rfl, _, rfl⟩
set_option maxHeartbeats 400000 in
theorem sameMisses_eq (w : World) (ao bo : Option Addr) (ca cb : Nat) (l : List MissD) (ha : MissesIn w.heap.size w ao l) (hb : MissesIn w.heap.size w bo l) (hl : l.length ≤ 1099511627776) :
    Calls Tryz.prog 77 #[.slice ao l.length ca, .slice bo l.length cb] w fun e w' => e = .returned (.bool true) ∧ ∃ n, w' = w.drewN n := by
  have HA := hid ha
  have HB := hid hb
  clear ha hb
  go_enter Tryz.func77, Tryz.ntmps77
  go_wp2
  go_loopw [5] (fun i wr => ∃ k : Nat, k ≤ l.length ∧ i = .int .i64 k ∧ ∃ n, wr = w.drewN n) (fun i _ => l.length - (intOf i).toNat)
  case atStart => exact ⟨0, Nat.zero_le _, rfl, 0, rfl⟩
  case round =>
    obtain ⟨k, hk, rfl, n, rfl⟩ := hrel
    by_cases hlt : k < l.length
    · obtain ⟨b1, o1, rfl, _, x1, y1, z1⟩ := HA.out k hlt
      obtain ⟨b2, o2, rfl, _, x2, y2, z2⟩ := HB.out k hlt
      have hkI : (k : Int) < (l.length : Int) := by omega
      generalize l[k] = m at *
      go_wp2_with fail
      go_quiet (fail)
      go_wp2
      go_roundw
      case rel => exact ⟨k + 1, by omega, by go_num, _, rfl⟩
      case measure => simp [intOf]; omega
    · go_wp2
      go_ret
      exact ⟨rfl, _, rfl⟩
set_option maxHeartbeats 400000 in
theorem sameReport_eq (w : World) (a b c : Int) :
    Calls Tryz.prog 76 #[.agg #[.int .i64 a, .int .i64 b, .int .i64 c], .agg #[.int .i64 a, .int .i64 b, .int .i64 c]] w fun e w' => e = .returned (.bool true) ∧ Below w.heap.size w w' := by
  go_enter Tryz.func76, Tryz.ntmps76
  go_wp2
  go_ret
  exact ⟨rfl, ((Below.refl _ _).alloc (Nat.le_refl _) _).alloc (by simp) _⟩
set_option maxHeartbeats 400000 in
theorem sameView_eq (w : World) (v0 v1 v2 v3 v4 v5 v6 v7 v8 v9 v10 : Int) :
    Calls Tryz.prog 88 #[.agg #[.int .i64 v0, .int .i64 v1, .int .i64 v2, .int .i64 v3, .int .i64 v4, .int .i64 v5, .int .i64 v6, .int .i64 v7, .int .i64 v8, .int .i64 v9, .int .i64 v10], .agg #[.int .i64 v0, .int .i64 v1, .int .i64 v2, .int .i64 v3, .int .i64 v4, .int .i64 v5, .int .i64 v6, .int .i64 v7, .int .i64 v8, .int .i64 v9, .int .i64 v10]] w fun e w' => e = .returned (.bool true) ∧ Below w.heap.size w w' := by
  go_enter Tryz.func88, Tryz.ntmps88
  go_wp2
  go_ret
  exact ⟨rfl, ((Below.refl _ _).alloc (Nat.le_refl _) _).alloc (by simp) _⟩
end Go.Proofs.YtbkfildnijjioaaGreat
