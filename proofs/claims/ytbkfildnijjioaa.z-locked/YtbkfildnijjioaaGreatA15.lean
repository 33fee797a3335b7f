import Derived.Test.YtbkfildnijjioaaGreatA14
import Derived.Test.YtbkfildnijjioaaGreatA09
import Derived.Test.YtbkfildnijjioaaGreatA02
import Derived.Deep.DeepCutAuto
import Derived.Test.YtbkfildnijjioaaGreatA01
/-
  Walks over package donate: deadlines, Tick.
-/
namespace Go.Proofs.YtbkfildnijjioaaGreat
open Go.RowKit

section
variable {F : Nat → Prop} {w w' : World} {kb : Nat} {h : KH} {s : RS} {tk wt : List Nat} {ws : List Int}

set_option maxHeartbeats 400000 in
theorem kNewestJob_any (m : KMem F w kb h s tk wt ws) (t : Nat) (ht : t < s.T.length) (_hfew : s.T.length ≤ 16) (hr : 0 ≤ s.T[t].rel ∧ s.T[t].rel ≤ 2000000000) :
    Calls Tryz.prog 141 #[.pointer (some ⟨kb, 0, none⟩), .int .i64 t] w fun e w' => e = .returned (.int .i64 (s.T[t].rel - 1)) ∧ w' = w := by
  have c1 := m.blk.cell 1
  simp [kCells] at c1
  have a7 := m.tcell ht 8 (by decide)
  simp [ktCells] at a7
  have htI : (t : Int) < (s.T.length : Int) := by omega
  obtain ⟨h0, h1⟩ := hr
  clear m
  generalize s.T[t].rel = rl at *
  go_enter Tryz.func141, Tryz.ntmps141
  go_wp2
  go_ret
  exact ⟨rfl, rfl⟩

/-- The newest job's deadline is now, and it has not ended. -/
def kLate (s : RS) (t : Nat) (x : RT) : Bool := !((s.set.threads.getD t P3.none0).deadline == 0) && (decide (x.ended < x.rel) && (s.set.start + (s.set.threads.getD t P3.none0).offset + (x.rel - 1) * (s.set.threads.getD t P3.none0).period + (s.set.threads.getD t P3.none0).deadline == s.now))

set_option maxHeartbeats 1000000 in
theorem kMissesDeadline_any (m : KMem F w kb h s tk wt ws) (t : Nat) (ht : t < s.T.length) (hfew : s.T.length ≤ 16) (hr : 0 ≤ s.T[t].rel ∧ s.T[t].rel ≤ 2000000000) (he : 0 ≤ s.T[t].ended) (ks : KSet s t) :
    Calls Tryz.prog 140 #[.pointer (some ⟨kb, 0, none⟩), .int .i64 t] w fun e w' => e = .returned (.bool (kLate s t s.T[t])) ∧ ∃ n, w' = w.drewN n := by
  have c1 := m.blk.cell 1
  simp [kCells] at c1
  have a4 := m.tcell ht 4 (by decide)
  simp only [ktCells] at a4
  have htI : (t : Int) < (s.T.length : Int) := by omega
  have HJ := hid (kHasJob_any m t ht hfew)
  have NJ := hid (fun n => kNewestJob_any (m.drewN n) t ht hfew hr)
  have RT := hid (fun n (hj : s.T[t].ended < s.T[t].rel) => kReleaseTime_any (m.drewN n) t ht hfew (s.T[t].rel - 1) ⟨by omega, by omega⟩ ks.st ks.of ks.pe)
  have C0 := hid (fun n => (m.drewN n).blk.cell 0)
  have EL : Hid (kLate s t s.T[t] = (!((s.set.threads.getD t P3.none0).deadline == 0) && (decide (s.T[t].ended < s.T[t].rel) && (s.set.start + (s.set.threads.getD t P3.none0).offset + (s.T[t].rel - 1) * (s.set.threads.getD t P3.none0).period + (s.set.threads.getD t P3.none0).deadline == s.now)))) := rfl
  have hst := ks.st
  have hof := ks.of
  have hpe := ks.pe
  have hdl := ks.dl
  have mu0 : s.T[t].ended < s.T[t].rel → 0 ≤ (s.T[t].rel - 1) * (s.set.threads.getD t P3.none0).period ∧ (s.T[t].rel - 1) * (s.set.threads.getD t P3.none0).period ≤ 2000000000 * 1000 := fun hj => ⟨Int.mul_nonneg (by omega) hpe.1, Int.mul_le_mul (by omega) hpe.2 hpe.1 (by decide)⟩
  have MU := hid mu0
  clear m ks mu0
  generalize kLate s t s.T[t] = res at *
  generalize s.T[t] = x at *
  generalize (s.set.threads.getD t P3.none0).deadline = dl at *
  generalize (s.set.threads.getD t P3.none0).offset = of at *
  generalize (s.set.threads.getD t P3.none0).period = pe at *
  generalize s.set.start = st at *
  simp at a4
  go_enter Tryz.func140, Tryz.ntmps140
  by_cases hd : dl = 0
  · subst hd
    have HE : Hid (res = false) := by rw [EL.out]; exact hid rfl
    clear EL
    go_wp2
    go_ret
    refine ⟨?_, 0, rfl⟩
    rw [HE.out]
    rfl
  · have hd' : (dl == 0) = false := by simpa using hd
    go_wp2_with fail
    refine HJ.out.mono ?_
    rintro e w1 ⟨rfl, n, rfl⟩
    by_cases hj : x.ended < x.rel
    · have hjd : decide (x.ended < x.rel) = true := by simpa using hj
      have NJN := hid (NJ.out n)
      have RTN := hid (RT.out (n + 1) hj)
      have mu := MU.out hj
      generalize hmu : (x.rel - 1) * pe = mp at *
      clear hmu
      have HE : Hid (res = (st + of + mp + dl == s.now)) := by rw [EL.out, hd', hjd]; exact hid (by simp)
      obtain ⟨mu1, mu2⟩ := mu
      obtain ⟨st1, st2⟩ := hst
      obtain ⟨of1, of2⟩ := hof
      obtain ⟨dl1, dl2⟩ := hdl
      obtain ⟨r1, r2⟩ := hr
      have c0 := C0.out n
      simp [kCells] at c0
      clear EL HJ NJ RT MU
      go_wp2_with fail
      refine NJN.out.mono ?_
      rintro e w2 ⟨rfl, hw2⟩
      have hw3 := hw2.symm
      subst hw3
      clear hw2 NJN
      have RTM : Hid (Calls Tryz.prog 133 #[.pointer (some ⟨kb, 0, none⟩), .int .i64 t, .int .i64 (x.rel - 1)] (w.drewN n).drew fun e w' => e = .returned (.int .i64 (st + of + mp)) ∧ ∃ n', w' = (w.drewN (n + 1)).drewN n') := RTN.out
      clear RTN
      go_wp2_with fail
      go_region_held3 (fun w' => w'.cell? ⟨kb, 0, none⟩ = some (.int .i64 s.now)) (simp [*])
        (first
          | (go_at_call 133; refine RTM.out.mono ?_; rintro e w3 ⟨rfl, n', rfl⟩; have k0 : ((w.drewN (n + 1)).drewN n').cell? ⟨kb, 0, none⟩ = some (.int .i64 s.now) := c0))
      go_wp2
      go_ret
      refine ⟨?_, (n + 1) + n', by simp⟩
      rw [HE.out]
      simp [IntWalk.i64_in (st + of + mp + dl) (by omega)]
    · have hjd : decide (x.ended < x.rel) = false := by simpa using hj
      have HE : Hid (res = false) := by rw [EL.out, hjd]; exact hid (by simp)
      clear EL
      go_wp2
      go_ret
      refine ⟨?_, n, rfl⟩
      rw [HE.out]
      rfl

/-- The misses are lengthened where they lie, or laid anew. -/
theorem KMem.grownMs (m : KMem F w kb h s tk wt ws) {v : Value} {l : List MissD} (hg : w.grownBy w' h.vMs.ownBlock) (hr : w'.ownsRow 0 95 3 v l.length (missCells l)) (hat : v.ownBlock = h.vMs.ownBlock ∨ v.ownBlock = some w.heap.size) :
    Blk w' kb (kCells h s ws) 109 ∧ ∃ h', KMem F (w'.setCell ⟨kb, 8, none⟩ v) kb h' { s with missed := l } tk wt ws ∧ KUp w h h' ∧ h'.vMs = v := by
  have other : ∀ b e, Typ w b e → e ≠ 95 → w'.heap[b]? = w.heap[b]? := fun b e hb he => hg.block b hb.lt (fun x => (own_typ m.mss x.symm).ne hb (Ne.symm he) rfl)
  have hblk : Blk w' kb (kCells h s ws) 109 := by
    have := m.blk
    unfold Blk at this ⊢
    rw [other kb _ m.kT (by decide)]
    exact this
  have kT' : Typ w' kb 109 := ⟨_, hblk⟩
  have away : ∀ b, b ≠ kb → (w'.setCell ⟨kb, 8, none⟩ v).heap[b]? = w'.heap[b]? := fun b hb => Below.heap_setCell _ _ _ _ hb
  have offs : ∀ b e, Typ w b e → e ≠ 95 → e ≠ 109 → (w'.setCell ⟨kb, 8, none⟩ v).heap[b]? = w.heap[b]? := fun b e hb h1 h2 => by
    rw [away b (ne_of_typ m.kT hb (Ne.symm h2)), other b e hb h1]
  refine ⟨hblk, { h with vMs := v }, m.remake (h' := { h with vMs := v }) (s' := { s with missed := l }) rfl rfl ?_ ?_ ?_ ?_ ?_ m.dTk m.dWt (fun g hg' => (m.dSt g hg').2), ⟨rfl, rfl, rfl, fun _ => .inl, fun _ => .inl, fun g hg' => ?_, rfl, rfl, fun _ => .inl⟩, rfl⟩
  · have := hblk.set 8 v
    simpa [kCells] using this
  · rintro b (hb | rfl | rfl | rfl | hb)
    · exact offs b _ (m.ft b hb) (by decide) (by decide)
    · exact offs _ _ m.tT (by decide) (by decide)
    · exact offs _ _ m.mT (by decide) (by decide)
    · exact offs _ _ m.wT (by decide) (by decide)
    · rcases m.st.typ hb with ht | ht | ht
      · exact offs _ _ ht (by decide) (by decide)
      · exact offs _ _ ht (by decide) (by decide)
      · exact offs _ _ ht (by decide) (by decide)
  · exact ownsRow_same m.tks fun g hg' => offs g _ (own_typ m.tks hg') (by decide) (by decide)
  · exact ownsRow_same m.wts fun g hg' => offs g _ (own_typ m.wts hg') (by decide) (by decide)
  · exact ownsRow_same hr fun g hg' => away g (ne_of_typ kT' (own_typ hr hg') (by decide))
  · have hg2 : v.ownBlock = some g := hg'
    rcases hat with e | e
    · rw [e] at hg2
      exact .inl hg2
    · rw [e] at hg2
      cases hg2
      exact .inr (Nat.le_refl _)

/-- A miss is told just where the document tells one. -/
theorem late_is {s : RS} {t : Nat} (ht : t < s.T.length) (rk : RelOk s t s.T[t]) (ks : KSet s t) (hdp : (s.set.threads.getD t P3.none0).period ≠ 0 → (s.set.threads.getD t P3.none0).deadline ≤ (s.set.threads.getD t P3.none0).period) :
    R.lateTo s (t + 1) = if kLate s t s.T[t] = true then R.lateTo s t ++ [⟨(t : Int), s.T[t].rel - 1, s.now⟩] else R.lateTo s t := by
  have hd := ks.dl
  show (if (s.set.threads.getD t P3.none0).deadline = 0 then R.lateTo s t else if 0 ≤ R.numberAt s t (s.set.threads.getD t P3.none0).deadline ∧ (R.th s.T t).ended ≤ R.numberAt s t (s.set.threads.getD t P3.none0).deadline then R.lateTo s t ++ [⟨(t : Int), R.numberAt s t (s.set.threads.getD t P3.none0).deadline, s.now⟩] else R.lateTo s t) = _
  rw [th_ext ht]
  by_cases h0 : (s.set.threads.getD t P3.none0).deadline = 0
  · have e : kLate s t s.T[t] = false := by unfold kLate; rw [h0]; rfl
    rw [if_pos h0, e, if_neg (by decide)]
  · have hl := Ln.late_iff s.set t s.now s.T[t].rel s.T[t].ended ks.pe.1 rk.r0 rk.e0 (by omega) hdp
    have e : kLate s t s.T[t] = true ↔ (s.T[t].ended < s.T[t].rel ∧ s.set.start + (s.set.threads.getD t P3.none0).offset + (s.T[t].rel - 1) * (s.set.threads.getD t P3.none0).period + (s.set.threads.getD t P3.none0).deadline = s.now) := by
      unfold kLate
      have hb : ((s.set.threads.getD t P3.none0).deadline == 0) = false := by simpa using h0
      rw [hb]
      simp only [Bool.not_false, Bool.true_and, Bool.and_eq_true, decide_eq_true_eq, beq_iff_eq]
    rw [if_neg h0]
    unfold R.numberAt
    by_cases hk : kLate s t s.T[t] = true
    · have h1 := hl.1.1 (e.1 hk)
      rw [if_pos h1, if_pos hk, hl.2 h1.1]
    · rw [if_neg hk, if_neg (fun hh => hk (e.2 (hl.1.2 hh)))]

set_option maxRecDepth 100000 in
set_option maxHeartbeats 4000000 in
theorem kLookAtDeadlines_any (m : KMem F w kb h s tk wt ws) (hfew : s.T.length ≤ 16) (hrk : ∀ t (ht : t < s.T.length), RelOk s t s.T[t]) (hks : ∀ t, t < s.T.length → KSet s t) (hdp : ∀ t, t < s.T.length → (s.set.threads.getD t P3.none0).period ≠ 0 → (s.set.threads.getD t P3.none0).deadline ≤ (s.set.threads.getD t P3.none0).period) (hmis : s.missed.length ≤ 16000000000) :
    Calls Tryz.prog 121 #[.pointer (some ⟨kb, 0, none⟩)] w fun e w' => ∃ v h', e = .returned v ∧ w'.ownsRow w.heap.size 95 3 v (R.late s).length (missCells (R.late s)) ∧ KMem F w' kb h' { s with missed := s.missed ++ R.late s } tk wt ws ∧ Only (kb :: h.vMs.ownBlock.toList) w w' ∧ KUp w h h' ∧ ∀ g, v.ownBlock = some g → h'.vMs.ownBlock ≠ some g := by
  have c1 := m.blk.cell 1
  simp [kCells] at c1
  have M := hid m
  have HRK := hid hrk
  have HKS := hid hks
  have HDP := hid hdp
  have EL : Hid (R.late s = R.lateTo s s.T.length) := rfl
  clear m hrk hks hdp
  generalize R.late s = LT at *
  obtain ⟨i3, hi3, hz30, hz31, hz32⟩ := info_parts Tryz.infoMiss
  have HI3 := hid (And.intro hi3 (And.intro hz30 (And.intro hz31 hz32)))
  clear hi3 hz30 hz31 hz32
  go_enter Tryz.func121, Tryz.ntmps121
  go_wp2
  go_loopw [3, 10] (fun v i wr => ∃ k : Nat, k ≤ s.T.length ∧ i = .int .i64 k ∧ wr.ownsRow w.heap.size 95 3 v (R.lateTo s k).length (missCells (R.lateTo s k)) ∧ Below w.heap.size w wr) (fun _ i _ => s.T.length - (intOf i).toNat)
  case atStart => exact ⟨0, Nat.zero_le _, rfl, World.ownsRow_nil _ _ _ _, Below.refl _ _⟩
  case round =>
    obtain ⟨k, hk, rfl, hrow, hb⟩ := hrel
    have ROW := hid hrow
    have HB := hid hb
    have hsz := hb.size
    have hll := R.lateTo_len s k
    clear hrow hb
    by_cases hkl : k < s.T.length
    · have hkI : (k : Int) < (s.T.length : Int) := by omega
      have rk := HRK.out k hkl
      have ks := HKS.out k hkl
      have ES := hid (late_is hkl rk ks (HDP.out k hkl))
      have MD := hid (kMissesDeadline_any (M.out.below HB.out) k hkl hfew rk.r1 rk.e0 ks)
      have NJ := hid (fun n => kNewestJob_any ((M.out.below HB.out).drewN n) k hkl hfew rk.r1)
      have C0 := hid (fun n => ((M.out.below HB.out).drewN n).blk.cell 0)
      clear rk ks
      generalize kLate s k s.T[k] = dd at *
      generalize s.T[k].rel = rl at *
      generalize R.lateTo s k = f at *
      go_wp2_with fail
      refine MD.out.mono ?_
      rintro e w3 ⟨rfl, n, rfl⟩
      cases dd with
      | false =>
        have HE : Hid (R.lateTo s (k + 1) = f) := by rw [ES.out, if_neg (by decide)]; exact hid rfl
        go_wp2
        go_roundw
        case rel => exact ⟨k + 1, by omega, by go_num, by rw [HE.out]; exact ownsRow_same ROW.out fun _ _ => rfl, bdrewN HB.out n⟩
        case measure => simp [intOf]; omega
      | true =>
        have HE : Hid (R.lateTo s (k + 1) = f ++ [⟨(k : Int), rl - 1, s.now⟩]) := by rw [ES.out, if_pos rfl]; exact hid rfl
        have c0 := C0.out n
        simp [kCells] at c0
        have NJN : Hid (Calls Tryz.prog 141 #[.pointer (some ⟨kb, 0, none⟩), .int .i64 k] (wr.drewN n).drew fun e w' => e = .returned (.int .i64 (rl - 1)) ∧ w' = (wr.drewN n).drew) := NJ.out (n + 1)
        have ROW1 : Hid ((wr.drewN n).drew.ownsRow w.heap.size 95 3 u3 f.length (missCells f)) := ownsRow_same ROW.out fun _ _ => rfl
        have HB1 : Hid (Below w.heap.size w (wr.drewN n).drew) := bdrewN HB.out (n + 1)
        have hsz1 : w.heap.size ≤ (wr.drewN n).drew.heap.size := hsz
        have hkbl : kb < wr.heap.size := (M.out.below HB.out).kT.lt
        have hnew := World.new_ne (wr.drewN (n + 1)) ⟨kb, 0, none⟩ (by simpa using c0)
        clear NJ C0 MD ROW HB
        go_wp2_with fail
        go_region_held3 (fun w' => w'.cell? ⟨kb, 0, none⟩ = some (.int .i64 s.now)) (go_keep)
          (first
            | (refine step_append_own rfl (.tmp 16) (.tmp 26) 73 rfl w.heap.size 95 i3 (.agg #[.int .i64 0, .int .i64 0, .int .i64 0]) 3 24 Tryz.underlying73 HI3.out.1 HI3.out.2.1 HI3.out.2.2.1 HI3.out.2.2.2 rfl (by decide) u3 f.length (missCells f) (by simp [Act.eval]) (ROW1.out.alloc _) ⟨(wr.drewN n).drew.heap.size, 0, none⟩ 1 1 [.int .i64 (k : Int), .int .i64 (rl - 1), .int .i64 s.now] (by simp [Act.eval]) rfl (fun j u hj => (by rw [Addr.add_lit, Nat.zero_add]; exact ((Blk.new (wr.drewN n).drew #[.int .i64 (k : Int), .int .i64 (rl - 1), .int .i64 s.now] 95).cell j).trans (by simpa using hj))) (by intro u hu; simp at hu; rcases hu with rfl | rfl | rfl <;> rfl) (by unfold maxLen; omega) (by omega) (by simp; omega) ?_; intro v' w5 hown5 hg5; have O5 := hid hown5; have HB5 := hid ((HB1.out.alloc (by omega) _).grown hg5 (by simp; omega) (fun g hg => (ownsRow_block ROW1.out hg).1)); have k0 : w5.cell? ⟨kb, 0, none⟩ = some (.int .i64 s.now) := (by have := (M.out.below HB5.out).blk.cell 0; simpa [kCells] using this); clear hown5 hg5)
            | (go_at_call 141; refine NJN.out.mono ?_; rintro e w4 ⟨rfl, hw4⟩; have hw5 := hw4.symm; subst hw5; clear hw4))
        all_goals
          go_wp2
          go_roundw
          case rel => exact ⟨k + 1, by omega, by go_num, by rw [HE.out, missCells_append, List.length_append]; exact O5.out, HB5.out⟩
          case measure => simp [intOf]; omega
    · have e : k = s.T.length := by omega
      subst e
      rw [← EL.out] at ROW hll
      obtain ⟨ao, ca, rfl, hn, ha⟩ := owns_cells ROW.out
      have HN := hid hn
      have hsrc : ∀ j u, (missCells LT)[j]? = some u → ∃ ad, ao = some ad ∧ wr.cell? (ad.add j) = some u := by
        intro j u hj
        have hjl : j < (missCells LT).length := by
          rcases Nat.lt_or_ge j (missCells LT).length with h' | h'
          · exact h'
          · rw [List.getElem?_eq_none h'] at hj; cases hj
        rw [missCells_length] at hjl
        cases ao with
        | none => have := (hn rfl).1; omega
        | some ad =>
          obtain ⟨gl, rfl, _, _, _, hc⟩ := ha ad rfl
          refine ⟨_, rfl, ?_⟩
          rw [Addr.add_lit, Nat.zero_add, hc _ hjl]
          exact hj
      have HSRC := hid hsrc
      have MK := hid (M.out.below HB.out)
      have OMS := hid MK.out.mss
      have c8 := MK.out.blk.cell 8
      simp [kCells] at c8
      have hgl : ∀ g, (Value.slice ao LT.length ca).ownBlock = some g → w.heap.size ≤ g ∧ g < wr.heap.size := fun g hg => ⟨(ownsRow_block ROW.out hg).1, (ownsRow_block ROW.out hg).2.1⟩
      have HGL := hid hgl
      have HOLD : Hid (∀ g, h.vMs.ownBlock = some g → g < w.heap.size) := fun g hg => (own_typ M.out.mss hg).lt
      clear hn ha hsrc hgl
      go_wp2_with (at_builtin; refine wpList_append_src_at rfl (.tmp 33) (.tmp 34) 73 rfl 0 95 i3 (.agg #[.int .i64 0, .int .i64 0, .int .i64 0]) 3 24 Tryz.underlying73 HI3.out.1 HI3.out.2.1 HI3.out.2.2.1 HI3.out.2.2.2 rfl (by decide) h.vMs s.missed.length (missCells s.missed) rfl OMS.out ao LT.length ca (missCells LT) rfl (missCells_length _) (fun hh => (HN.out hh).2) HSRC.out (missCells_one _) (by unfold maxLen; omega) (by omega) (Nat.zero_le _) ?_; intro v' w3 hown3 hg3 hat3; obtain ⟨tv5, tc5, rfl, _, _⟩ := owns_cells hown3; have hr3 : w3.ownsRow 0 95 3 (.slice tv5 (s.missed.length + LT.length) tc5) (s.missed ++ LT).length (missCells (s.missed ++ LT)) := (by rw [List.length_append]; simpa [missCells] using hown3); obtain ⟨b3, h3, m3, u3', e3⟩ := MK.out.grownMs hg3 hr3 hat3; have M3 := hid m3; have U3 := hid u3'; have E3 := hid e3; have y3 := b3.cell 8; have z3 := b3.frozen 8; simp [kCells] at y3; have G3 := hid hg3; have AT3 := hid hat3; clear hown3 hg3 hat3 hr3 b3 m3 u3' e3)
      go_ret
      have hszr := HB.out.size
      refine ⟨_, h3, rfl, ?_, M3.out, ?_, (KUp.refl w h).trans U3.out hszr, fun g hg => ?_⟩
      · refine ownsRow_same ROW.out fun g hg => ?_
        have hgg := HGL.out g hg
        rw [Below.heap_setCell _ _ _ _ (fun e => ?_), G3.out.block g hgg.2 (fun e => ?_)]
        · have := HOLD.out g e.symm
          omega
        · have e' : g = kb := e
          have := M.out.kT.lt
          omega
      · have o1 : Only (kb :: h.vMs.ownBlock.toList) w w3 := by
          have o0 : Only (kb :: h.vMs.ownBlock.toList) w wr := Only.of_below HB.out
          refine ⟨G3.out.os.trans o0.os, G3.out.tape.trans o0.tape, G3.out.output.trans o0.output, Nat.le_trans o0.size G3.out.size, fun b hb hn => ?_⟩
          rw [G3.out.block b (Nat.lt_of_lt_of_le hb o0.size) (fun e => hn (by simp [← e]))]
          exact o0.block b hb hn
        exact o1.setCell (.inl (by simp)) _
      · have hgg := HGL.out g hg
        rw [E3.out]
        intro e
        rcases AT3.out with h' | h'
        · rw [h'] at e
          have := HOLD.out g e
          omega
        · rw [h'] at e
          have := Option.some.inj e
          omega
end

end Go.Proofs.YtbkfildnijjioaaGreat

/-
  Walks over package donate: Tick.
-/
namespace Go.Proofs.YtbkfildnijjioaaGreat
open Go.RowKit

theorem keep_endsTo (s : RS) (k : Nat) : R.Keep s (R.endsTo s k) := by
  induction k with
  | zero => exact R.Keep.refl s
  | succ k ih =>
    refine ih.trans ?_
    show R.Keep _ (R.endOne (R.endsTo s k))
    unfold R.endOne
    split
    · exact R.Keep.refl _
    · exact R.keep_endW _ _ _
theorem keep_release (s : RS) : R.Keep s (R.release s) := ⟨R.releaseTo_len _ _, fun u => (releaseTo_keeps s s.T.length u).1, fun u => (releaseTo_keeps s s.T.length u).2⟩
theorem endsTo_jobs (s : RS) (k u : Nat) : (R.th (R.endsTo s k).T u).rel = (R.th s.T u).rel ∧ (R.th (R.endsTo s k).T u).ended = (R.th s.T u).ended := by
  induction k with
  | zero => exact ⟨rfl, rfl⟩
  | succ k ih =>
    have one : ∀ s : RS, (R.th (R.endOne s).T u).rel = (R.th s.T u).rel ∧ (R.th (R.endOne s).T u).ended = (R.th s.T u).ended := by
      intro s
      have hm : ∀ (T : List RT) (t : Nat) (f : RT → RT), (∀ x, (f x).rel = x.rel ∧ (f x).ended = x.ended) → (R.th (T.modify t f) u).rel = (R.th T u).rel ∧ (R.th (T.modify t f) u).ended = (R.th T u).ended := fun T t f hf => by
        rw [Ln.th_modify]
        split
        · exact hf _
        · exact ⟨rfl, rfl⟩
      unfold R.endOne R.endW R.wake
      split
      · exact ⟨rfl, rfl⟩
      · have h1 := hm s.T (R.due s).toNat (fun x => { x with for_ := 0, of_ := 0, until_ := 0, last := if (R.th s.T (R.due s).toNat).for_ = 4 then 0 else 2 }) (fun _ => ⟨rfl, rfl⟩)
        have h2 := hm (s.T.modify (R.due s).toNat (fun x => { x with for_ := 0, of_ := 0, until_ := 0, last := if (R.th s.T (R.due s).toNat).for_ = 4 then 0 else 2 })) (R.due s).toNat (fun x => { x with awake := true, tick := s.next + 1 }) (fun _ => ⟨rfl, rfl⟩)
        exact ⟨h2.1.trans h1.1, h2.2.trans h1.2⟩
    show (R.th (R.endOne (R.endsTo s k)).T u).rel = _ ∧ (R.th (R.endOne (R.endsTo s k)).T u).ended = _
    rw [(one _).1, (one _).2]
    exact ih
theorem ok_dline {S : SetD} (h : P3.err S = 0) (t : Nat) (ht : t < S.threads.length) : (S.threads.getD t P3.none0).period ≠ 0 → (S.threads.getD t P3.none0).deadline ≤ (S.threads.getD t P3.none0).period := by
  have := badOr_good (ok_parts h).2.2.2.2.1 S.threads[t] (List.getElem_mem ht)
  have e : S.threads.getD t P3.none0 = S.threads[t] := by simp [List.getD, ht]
  rw [e]
  unfold P3.threadP P3.threadB P3.latest at this
  rw [decide_eq_true_iff] at this
  intro hp
  obtain ⟨_, _, _, _, _, _, _, hd, _⟩ := this
  rw [if_neg hp] at hd
  exact hd

section
variable {F : Nat → Prop} {w w' : World} {kb : Nat} {h : KH} {s : RS} {tk wt : List Nat} {ws : List Int}
theorem Only.at {L : List Nat} {w w' : World} (o : Only L w w') {v : Value} {base n : Nat} {e : TypeId} {size : Nat} {xs : List Value} (hr : w.ownsRow base e size v n xs) (hb : ∀ b, b ∈ L → b < base) : w'.ownsRow base e size v n xs :=
  ownsRow_same hr fun g hg => o.block g (ownsRow_block hr hg).2.1 (fun hm => by have := hb g hm; have := (ownsRow_block hr hg).1; omega)
theorem KMem.setNow (m : KMem F w kb h s tk wt ws) (n : Int) : KMem F (w.setCell ⟨kb, 0, none⟩ (.int .i64 n)) kb h { s with now := n } tk wt ws :=
  m.setK 0 (.int .i64 n) rfl rfl (by simp [kCells]) m.tks m.wts m.mss m.dTk m.dWt (fun g hg => (m.dSt g hg).2)
theorem Ln.Aux.other (a : Ln.Aux s tk wt) (n : Int) (l : List MissD) : Ln.Aux { s with now := n, missed := l } tk wt := ⟨⟨a.tk.perm, a.tk.ord, a.tk.bd, a.tk.aw⟩, ⟨a.wt.mem, a.wt.ord, a.wt.top⟩, fun u hu => by
    obtain ⟨k, hk⟩ := a.ch u hu
    refine ⟨k, ?_⟩
    have : ∀ k o, Ln.EndsIn s k o → Ln.EndsIn { s with now := n, missed := l } k o := by
      intro k o he
      induction he with
      | stop o h => exact .stop o h
      | step k o h r ih => exact .step k o h ih
    exact this k _ hk, a.n0⟩
theorem KFit.other (f : KFit s) (n : Int) (l : List MissD) : KFit { s with now := n, missed := l } := ⟨f.few, f.m8, f.ok.len, f.ok.own, f.ok.of1, f.ok.kind⟩
end

set_option maxRecDepth 100000 in
set_option maxHeartbeats 4000000 in
theorem cTick : CTick KPK := by
  intro Q w kb s k hnx
  obtain ⟨F, h, tk, wt, ws, m, a, hq, wkk, f, h8⟩ := k.open
  have g0 := k.inv.good.now0
  have g1 := k.inv.good.now1
  have g2 := k.inv.good.now2
  have c0 := m.blk.cell 0
  have z0 := m.blk.frozen 0
  simp [kCells] at c0
  by_cases hmax : s.now = 1000000000
  · have E1 : R.tickS s = s := by unfold R.tickS; rw [if_pos hmax]
    have E2 : R.tickE s = 8 := by unfold R.tickE; rw [if_pos hmax]
    have E3 : R.tickL s = [] := by unfold R.tickL; rw [if_pos hmax]
    rw [E1, E2, E3]
    rw [hmax] at c0
    have KK : Hid (KPK Q w kb s) := k
    clear E1 E2 E3 m a f hq wkk k
    go_enter Tryz.func81, Tryz.ntmps81
    go_wp2
    go_ret2
    exact ⟨_, Q, rfl, World.ownsRow_nil _ _ _ _, KK.out, fun b hb => .inl hb, fun b hb => (by cases hb), Turns.refl _ _⟩
  · have hlt : s.now < 1000000000 := by omega
    have E1 : R.tickS s = R.settle (R.release (R.ends { s with now := s.now + 1, missed := s.missed ++ R.late { s with now := s.now + 1 } })) := by unfold R.tickS; rw [if_neg hmax]; rfl
    have E2 : R.tickE s = 0 := by unfold R.tickE; rw [if_neg hmax]
    have E3 : R.tickL s = R.late { s with now := s.now + 1 } := by unfold R.tickL; rw [if_neg hmax]; rfl
    have hri := k.inv.tick hlt hnx
    have e0 : R.tick s = R.settle (R.release (R.ends { s with now := s.now + 1, missed := s.missed ++ R.late { s with now := s.now + 1 } })) := rfl
    rw [e0] at hri
    rw [E1, E2, E3]
    obtain ⟨LT, HLT⟩ : ∃ LT, Hid (R.late { s with now := s.now + 1 } = LT) := ⟨_, hid rfl⟩
    rw [HLT.out] at hri ⊢
    obtain ⟨s3, HS3⟩ : ∃ s3, Hid (R.ends { s with now := s.now + 1, missed := s.missed ++ LT } = s3) := ⟨_, hid rfl⟩
    rw [HS3.out] at hri ⊢
    obtain ⟨s4, HS4⟩ : ∃ s4, Hid (R.release s3 = s4) := ⟨_, hid rfl⟩
    rw [HS4.out] at hri ⊢
    have hthr : ∀ t (ht : t < s.T.length), RelOk { s with now := s.now + 1 } t s.T[t] := fun t ht => by
      have tok := k.inv.thr t ht
      have hc := k.inv.toRMid.code.ended t ht
      have ks := k.inv.toRMid.kset t ht
      refine ⟨?_, tok.e0, tok.e1, ?_⟩
      · show s.T[t].rel = R.relBy s.set t (s.now + 1 - 1)
        rw [show s.now + 1 - 1 = s.now by omega]
        exact tok.r0
      · have hb := relBy_bd (S := s.set) (t := t) (now := s.now) g0 (by omega) g2 ks.of.1 ks.pe.1
        rw [tok.r0]
        omega
    have hks : ∀ t, t < s.T.length → KSet { s with now := s.now + 1 } t := fun t ht => by
      have ks := k.inv.toRMid.kset t ht
      exact ⟨ks.st, ks.of, ks.pe, ks.dl⟩
    have hdp : ∀ t, t < s.T.length → (s.set.threads.getD t P3.none0).period ≠ 0 → (s.set.threads.getD t P3.none0).deadline ≤ (s.set.threads.getD t P3.none0).period := fun t ht => ok_dline k.inv.ok t (by have := k.inv.good.len; omega)
    have hmis : s.missed.length ≤ 16000000000 := by
      have := k.inv.mis
      omega
    have M1 := hid (m.setNow (s.now + 1))
    have HOLD : Hid (∀ b, KB F kb h b → b < w.heap.size) := KB.lt m
    have O1 : Hid (Only [kb] w (w.setCell ⟨kb, 0, none⟩ (.int .i64 (s.now + 1)))) := (Only.refl _ _).setCell (.inl (by simp)) _
    have hsz1 : w.heap.size = (w.setCell ⟨kb, 0, none⟩ (.int .i64 (s.now + 1))).heap.size := (setCell_size _ _ _).symm
    have FI := hid f
    have AX := hid a
    have HQ := hid hq
    have WKK := hid wkk
    have KK := hid k
    have HRI := hid hri
    have HTH := hid hthr
    have HKS := hid hks
    have HDP := hid hdp
    have hfew := f.few
    clear E1 E2 E3 m a f hq wkk k hri hthr hks hdp e0
    go_enter Tryz.func81, Tryz.ntmps81
    go_upto_region 4 with fail
    clear c0 z0
    generalize w.setCell ⟨kb, 0, none⟩ (.int .i64 (s.now + 1)) = w1 at *
    have LD := hid (kLookAtDeadlines_any M1.out hfew HTH.out HKS.out HDP.out hmis)
    rw [HLT.out] at LD
    go_wp2_with fail
    refine LD.out.mono ?_
    rintro e w2 ⟨v, h2, rfl, hr2, m2, o2, u2, hn2⟩
    obtain ⟨va, vc, rfl, _, _⟩ := owns_cells hr2
    have R2 := hid (show w2.ownsRow w.heap.size 95 3 (.slice va LT.length vc) LT.length (missCells LT) from by rw [hsz1]; exact hr2)
    have M2 := hid m2
    have U2 := hid u2
    have HN2 := hid hn2
    have hz2 := o2.size
    have O2 : Hid (Only (kb :: h.gT :: h.gW :: h.vMs.ownBlock.toList) w w2) := (O1.out.mono (fun b hb => by simp at hb; simp [hb])).trans (o2.mono (fun b hb => by simp at hb ⊢; rcases hb with h | h <;> simp [h]))
    have A2 := hid (AX.out.other (s.now + 1) (s.missed ++ LT))
    have F2 := hid (FI.out.other (s.now + 1) (s.missed ++ LT))
    have R2' := hid R2.out
    clear hr2 m2 o2 u2 hn2 LD
    have hgT : h.gT < w.heap.size := HOLD.out _ (.inr (.inr (.inl rfl)))
    have hgW : h.gW < w.heap.size := HOLD.out _ (.inr (.inr (.inr (.inr (.inl rfl)))))
    have hkb : kb < w.heap.size := HOLD.out _ (.inr (.inl rfl))
    have ED := hid (kEndDueWaits_any M2.out F2.out A2.out)
    have JB : Hid (∀ u, (R.th (R.ends { s with now := s.now + 1, missed := s.missed ++ LT }).T u).rel = (R.th s.T u).rel ∧ (R.th (R.ends { s with now := s.now + 1, missed := s.missed ++ LT }).T u).ended = (R.th s.T u).ended) := fun u => endsTo_jobs _ _ u
    have SE : Hid ((R.ends { s with now := s.now + 1, missed := s.missed ++ LT }).set = s.set ∧ (R.ends { s with now := s.now + 1, missed := s.missed ++ LT }).now = s.now + 1 ∧ (R.ends { s with now := s.now + 1, missed := s.missed ++ LT }).T.length = s.T.length) := by
      have := R.endsTo_set { s with now := s.now + 1, missed := s.missed ++ LT } s.T.length
      exact ⟨this.1, this.2.1, this.2.2.2.1⟩
    have KE : Hid (R.Keep s (R.ends { s with now := s.now + 1, missed := s.missed ++ LT })) := by
      have h1 : R.Keep s { s with now := s.now + 1, missed := s.missed ++ LT } := R.keep_same rfl
      exact h1.trans (keep_endsTo _ _)
    have F3 : Hid (KFit (R.ends { s with now := s.now + 1, missed := s.missed ++ LT })) := by
      rw [Ln.ends_all A2.out F2.out.ok]
      exact hid (F2.out.endAll _ (fun u hu => ((A2.out.wt.mem u).1 (List.mem_filter.1 hu).1).1))
    rw [HS3.out] at ED JB SE KE F3
    go_wp2_with fail
    refine ED.out.mono ?_
    rintro e w3 ⟨rfl, h3, tk3, wt3, m3, a3, o3, u3⟩
    have M3 := hid m3
    have A3 := hid a3
    have U3 := hid (U2.out.trans u3 (by omega))
    have U32 := hid u3
    have R3 := hid (o3.at R2.out (fun b hb => by simp [U2.out.gT] at hb; rcases hb with e | e <;> omega))
    have O3 := hid (O2.out.trans (o3.mono (fun b hb => by rw [U2.out.gT] at hb; simp at hb ⊢; rcases hb with h | h <;> simp [h])))
    have hz3 := o3.size
    clear m3 a3 o3 u3 ED R2 O2
    have RJ := hid (kReleaseJobs_any M3.out F3.out A3.out (fun t ht => by
        have ht' : t < s.T.length := by rw [← SE.out.2.2]; exact ht
        have h1 := HTH.out t ht'
        have hj := JB.out t
        rw [th_ext ht, th_ext ht'] at hj
        refine ⟨?_, ?_, ?_, ?_⟩
        · rw [hj.1, SE.out.1, SE.out.2.1]; exact h1.r0
        · rw [hj.2]; exact h1.e0
        · rw [hj.1, hj.2]; exact h1.e1
        · rw [hj.1]; exact h1.r1) (fun t ht => by
        have ks := HKS.out t (by rw [← SE.out.2.2]; exact ht)
        refine ⟨?_, ?_, ?_, ?_⟩ <;> rw [SE.out.1]
        · exact ks.st
        · exact ks.of
        · exact ks.pe
        · exact ks.dl))
    have KR := hid (KE.out.trans (keep_release s3))
    have SR : Hid ((R.release s3).set = s.set) := by
      have h1 : (R.release s3).set = s3.set := R.releaseTo_set _ _
      rw [h1]
      exact hid SE.out.1
    rw [HS4.out] at RJ KR SR
    go_wp2_with fail
    refine RJ.out.mono ?_
    rintro e w4 ⟨rfl, h4, tk4, m4, a4, f4, o4, u4⟩
    have M4 := hid m4
    have A4 := hid a4
    have F4 := hid f4
    have U4 := hid (U3.out.trans u4 (by omega))
    have U42 := hid (U32.out.trans u4 hz3)
    have R4 := hid (o4.at R3.out (fun b hb => by simp [U3.out.gT] at hb; rcases hb with e | e <;> omega))
    have O4 := hid (O3.out.trans (o4.mono (fun b hb => by rw [U3.out.gT] at hb; simp at hb ⊢; rcases hb with h | h <;> simp [h])))
    have hz4 := o4.size
    clear m4 a4 f4 o4 u4 RJ R3 O3
    have GO := hid (kGiveOut_any M4.out F4.out A4.out (RInv.unsettle HRI.out).2 h8)
    go_wp2_with fail
    refine GO.out.mono ?_
    rintro e w5 ⟨rfl, m5, o5⟩
    have M5 := hid m5
    have R5 := hid (o5.at R4.out (fun b hb => by simp [U4.out.gW] at hb; omega))
    have O5 := hid (O4.out.trans (o5.mono (fun b hb => by rw [U4.out.gW] at hb; simp at hb; simp [hb])))
    clear m5 o5 GO R4 O4
    go_wp2
    go_ret2
    have hs : s4.set.workers.toNat = s.set.workers.toNat := by rw [SR.out]
    refine ⟨_, KB F kb h4, rfl, R5.out, ⟨⟨_, ⟨⟨F, h4, tk4, wt3, M5.out.settle, A4.out.settle F4.out, fun _ hb => hb⟩, KB.lt M5.out⟩, ?_⟩, HRI.out⟩, fun b hb => ?_, fun b hb hk => ?_, Turns.of_only O5.out (fun b hb => ?_)⟩
    · exact Ln.seatAll_settle A4.out.tk (by rw [hs]; exact WkW.of_keep WKK.out KR.out.weak)
    · rcases U4.out.blocks b hb with h' | h'
      · exact .inl (HQ.out b h')
      · exact .inr (by omega)
    · have hge := (ownsRow_block R5.out hb).1
      have hty := own_typ R5.out hb
      rcases hk with hk | hk | hk | hk | hk | hk | hk | hk | hk
      · exact hty.ne (M5.out.ft b hk) (by decide) rfl
      · exact hty.ne M5.out.kT (by decide) hk
      · exact hty.ne M5.out.tT (by decide) hk
      · exact hty.ne M5.out.mT (by decide) hk
      · exact hty.ne M5.out.wT (by decide) hk
      · exact hty.ne (own_typ M5.out.tks hk) (by decide) rfl
      · exact hty.ne (own_typ M5.out.wts hk) (by decide) rfl
      · rcases U42.out.ms b hk with h' | h'
        · exact HN2.out b hb h'
        · have := (ownsRow_block R2'.out hb).2.1
          omega
      · rcases M5.out.st.typ hk with ht | ht | ht
        · exact hty.ne ht (by decide) rfl
        · exact hty.ne ht (by decide) rfl
        · exact hty.ne ht (by decide) rfl
    · simp at hb
      rcases hb with e | e | e | e
      · exact HQ.out b (.inr (.inl e))
      · exact HQ.out b (.inr (.inr (.inl e)))
      · exact HQ.out b (.inr (.inr (.inr (.inr (.inl e)))))
      · exact HQ.out b (.inr (.inr (.inr (.inr (.inr (.inr (.inr (.inl e))))))))

end Go.Proofs.YtbkfildnijjioaaGreat

/-
  Walks: donateref.Copy: the same set in lists of its own.
-/
namespace Go.Proofs.YtbkfildnijjioaaGreat
open Go.RowKit
set_option maxHeartbeats 1000000 in
theorem copy_any (tv mv sv qv : Option Addr) (tc mc sc qc : Nat) (S : SetD) (w : World) (hS : SetIn w.heap.size w tv mv sv qv S) (hF : Fits S) (hnil : (tv = none → tc = 0) ∧ (mv = none → mc = 0) ∧ (sv = none → sc = 0) ∧ (qv = none → qc = 0)) :
    Calls Tryz.prog 15 #[.agg #[.int .i64 S.workers, .int .i64 S.start, .slice tv S.threads.length tc, .slice mv S.mutexes.length mc, .slice sv S.sems.length sc, .slice qv S.queues.length qc]] w fun e w' =>
      ∃ tv' mv' sv' qv' tc' mc' sc' qc', e = .returned (.agg #[.int .i64 S.workers, .int .i64 S.start, .slice tv' S.threads.length tc', .slice mv' S.mutexes.length mc', .slice sv' S.sems.length sc', .slice qv' S.queues.length qc']) ∧
        SetF (fun b => w.heap.size ≤ b ∧ b < w'.heap.size) w' tv' mv' sv' qv' S ∧ ((tv' = none → tc' = 0) ∧ (mv' = none → mc' = 0) ∧ (sv' = none → sc' = 0) ∧ (qv' = none → qc' = 0)) ∧ Below w.heap.size w w' := by
  have HS : Hid (SetIn w.heap.size w tv mv sv qv S) := hS
  obtain ⟨ht0, hm0, hs0, hq0⟩ := hnil
  have HN1 : Hid (tv = none → tc = 0) := ht0
  have HN2 : Hid (mv = none → mc = 0) := hm0
  have HN3 : Hid (sv = none → sc = 0) := hs0
  have HN4 : Hid (qv = none → qc = 0) := hq0
  have HF : Hid (Fits S) := hF
  clear hS ht0 hm0 hs0 hq0 hF
  obtain ⟨i1, hi1, hz10, hz11, hz12⟩ := info_parts Tryz.infoMutex
  obtain ⟨i2, hi2, hz20, hz21, hz22⟩ := info_parts Tryz.infoSem
  obtain ⟨i3, hi3, hz30, hz31, hz32⟩ := info_parts Tryz.infoInt
  have HI1 : Hid (Tryz.prog.info? 125 = some i1 ∧ i1.zero = some (.agg #[.int .i64 0, .int .i64 0]) ∧ i1.size = 2 ∧ i1.bytes = 16) := ⟨hi1, hz10, hz11, hz12⟩
  have HI2 : Hid (Tryz.prog.info? 116 = some i2 ∧ i2.zero = some (.agg #[.int .i64 0, .int .i64 0]) ∧ i2.size = 2 ∧ i2.bytes = 16) := ⟨hi2, hz20, hz21, hz22⟩
  have HI3 : Hid (Tryz.prog.info? 3 = some i3 ∧ i3.zero = some (.int .i64 0) ∧ i3.size = 1 ∧ i3.bytes = 8) := ⟨hi3, hz30, hz31, hz32⟩
  clear hi1 hz10 hz11 hz12 hi2 hz20 hz21 hz22 hi3 hz30 hz31 hz32
  go_enter Tryz.func15, Tryz.ntmps15
  go_upto_region 2 with fail
  have hM0 := CM.start w S (.slice tv S.threads.length tc) (.slice mv S.mutexes.length mc) (.slice sv S.sems.length sc) (.slice qv S.queues.length qc)
  generalize ((w.alloc (.cells #[.int .i64 S.workers, .int .i64 S.start, .slice tv S.threads.length tc, .slice mv S.mutexes.length mc, .slice sv S.sems.length sc, .slice qv S.queues.length qc] 27)).alloc (.cells #[.int .i64 0, .int .i64 0, .slice none 0 0, .slice none 0 0, .slice none 0 0, .slice none 0 0] 27)).alloc (.cells #[.int .i64 S.workers, .int .i64 S.start, .slice none 0 0, .slice none 0 0, .slice none 0 0, .slice none 0 0] 27) = w0 at hM0 ⊢
  have M0 : Hid (CM w S (.slice tv S.threads.length tc) (.slice mv S.mutexes.length mc) (.slice sv S.sems.length sc) (.slice qv S.queues.length qc) w0 (.slice none 0 0) (.slice none 0 0) (.slice none 0 0) (.slice none 0 0)) := hM0
  clear hM0
  have x3 := M0.out.x.cell 3
  have c3 := M0.out.c.cell 3
  simp at x3 c3
  go_upto_region 3 with (at_builtin; refine wpList_append_src rfl (.tmp 13) (.tmp 15) 23 rfl (w.heap.size + 3) 125 i1 (.agg #[.int .i64 0, .int .i64 0]) 2 16 Tryz.underlying23 HI1.out.1 HI1.out.2.1 HI1.out.2.2.1 HI1.out.2.2.2 rfl (by decide) (.slice none 0 0) 0 [] rfl (World.ownsRow_nil _ _ _ _) mv S.mutexes.length mc (pairCells S.mutexes) rfl (pairCells_length _) HN2.out (HS.out.stays M0.out.below).mutexes.src (pairCells_one _) (by have := HF.out.mutexes; unfold maxLen; omega) (by have := HF.out.mutexes; omega) M0.out.size ?_; intro v1 w1 hown1 hg1; simp only [Nat.zero_add, List.nil_append] at hown1; obtain ⟨mv', mc', rfl, hnm, hpm, ham⟩ := PairsIn.of_owns hown1; have M1 : Hid (CM w S (.slice tv S.threads.length tc) (.slice mv S.mutexes.length mc) (.slice sv S.sems.length sc) (.slice qv S.queues.length qc) w1 (.slice none 0 0) (.slice none 0 0) (.slice none 0 0) (.slice none 0 0)) := M0.out.grown hg1 (by simp [Value.ownBlock]); have NM := hid hnm; clear hnm; have z1 := M1.out.c.frozen 3; have y1 := M1.out.c.cell 3; simp at y1; have HA1 : Hid (NewAt (w.heap.size + 3) w1.heap.size mv') := ham; have HP1 : Hid (PairsIn w1.heap.size w1 mv' S.mutexes) := hpm; have G1 : Hid (w0.grownBy w1 none) := hg1; clear hown1 hg1 ham hpm)
  clear x3 c3 z1 y1 M0
  have hM2 := M1.out.set3 (.slice mv' S.mutexes.length mc')
  have hP := HP1.out.keep HA1.out (setCell_same w1 ⟨w.heap.size + 1 + 1, 3, none⟩ (.slice mv' S.mutexes.length mc') _ _ (by show w.heap.size + 1 + 1 < _; omega)) (Nat.le_of_eq (setCell_size _ _ _).symm)
  have hA := HA1.out
  rw [← setCell_size w1 ⟨w.heap.size + 1 + 1, 3, none⟩ (.slice mv' S.mutexes.length mc')] at hA
  clear M1 HA1 HP1 G1 
  generalize w1.setCell ⟨w.heap.size + 1 + 1, 3, none⟩ (.slice mv' S.mutexes.length mc') = w2 at hM2 hP hA ⊢
  have M2 : Hid (CM w S (.slice tv S.threads.length tc) (.slice mv S.mutexes.length mc) (.slice sv S.sems.length sc) (.slice qv S.queues.length qc) w2 (.slice none 0 0) (.slice mv' S.mutexes.length mc') (.slice none 0 0) (.slice none 0 0)) := hM2
  have P2mv : Hid (PairsIn w2.heap.size w2 mv' S.mutexes) := hP
  have A2mv : Hid (NewAt (w.heap.size + 3) w2.heap.size mv') := hA
  clear hM2 hP hA
  have x4 := M2.out.x.cell 4
  have c4 := M2.out.c.cell 4
  simp at x4 c4
  go_upto_region 4 with (at_builtin; refine wpList_append_src rfl (.tmp 19) (.tmp 21) 24 rfl (w.heap.size + 3) 116 i2 (.agg #[.int .i64 0, .int .i64 0]) 2 16 Tryz.underlying24 HI2.out.1 HI2.out.2.1 HI2.out.2.2.1 HI2.out.2.2.2 rfl (by decide) (.slice none 0 0) 0 [] rfl (World.ownsRow_nil _ _ _ _) sv S.sems.length sc (pairCells S.sems) rfl (pairCells_length _) HN3.out (HS.out.stays M2.out.below).sems.src (pairCells_one _) (by have := HF.out.sems; unfold maxLen; omega) (by have := HF.out.sems; omega) M2.out.size ?_; intro v1 w3 hown1 hg1; simp only [Nat.zero_add, List.nil_append] at hown1; obtain ⟨sv', sc', rfl, hnm, hpm, ham⟩ := PairsIn.of_owns hown1; have M3 : Hid (CM w S (.slice tv S.threads.length tc) (.slice mv S.mutexes.length mc) (.slice sv S.sems.length sc) (.slice qv S.queues.length qc) w3 (.slice none 0 0) (.slice mv' S.mutexes.length mc') (.slice none 0 0) (.slice none 0 0)) := M2.out.grown hg1 (by simp [Value.ownBlock]); have NS := hid hnm; clear hnm; have z1 := M3.out.c.frozen 4; have y1 := M3.out.c.cell 4; simp at y1; have HA1 : Hid (NewAt (w.heap.size + 3) w3.heap.size sv') := ham; have HP1 : Hid (PairsIn w3.heap.size w3 sv' S.sems) := hpm; have G3 : Hid (w2.grownBy w3 none) := hg1; clear hown1 hg1 ham hpm)
  clear x4 c4 z1 y1 M2
  have hM4 := M3.out.set4 (.slice sv' S.sems.length sc')
  have hP := HP1.out.keep HA1.out (setCell_same w3 ⟨w.heap.size + 1 + 1, 4, none⟩ (.slice sv' S.sems.length sc') _ _ (by show w.heap.size + 1 + 1 < _; omega)) (Nat.le_of_eq (setCell_size _ _ _).symm)
  have hA := HA1.out
  rw [← setCell_size w3 ⟨w.heap.size + 1 + 1, 4, none⟩ (.slice sv' S.sems.length sc')] at hA
  have hP0 := (P2mv.out.keep A2mv.out (grown_same G3.out _ _ (Nat.le_refl _) (by simp)) G3.out.size).keep (A2mv.out.mono G3.out.size) (setCell_same w3 ⟨w.heap.size + 1 + 1, 4, none⟩ (.slice sv' S.sems.length sc') _ _ (by show w.heap.size + 1 + 1 < _; omega)) (Nat.le_of_eq (setCell_size _ _ _).symm)
  have hA0 := A2mv.out.mono G3.out.size
  rw [← setCell_size w3 ⟨w.heap.size + 1 + 1, 4, none⟩ (.slice sv' S.sems.length sc')] at hA0
  clear M3 HA1 HP1 G3 P2mv A2mv
  generalize w3.setCell ⟨w.heap.size + 1 + 1, 4, none⟩ (.slice sv' S.sems.length sc') = w4 at hM4 hP hA hP0 hA0 ⊢
  have M4 : Hid (CM w S (.slice tv S.threads.length tc) (.slice mv S.mutexes.length mc) (.slice sv S.sems.length sc) (.slice qv S.queues.length qc) w4 (.slice none 0 0) (.slice mv' S.mutexes.length mc') (.slice sv' S.sems.length sc') (.slice none 0 0)) := hM4
  have P4sv : Hid (PairsIn w4.heap.size w4 sv' S.sems) := hP
  have A4sv : Hid (NewAt (w.heap.size + 3) w4.heap.size sv') := hA
  have P4mv : Hid (PairsIn w4.heap.size w4 mv' S.mutexes) := hP0
  have A4mv : Hid (NewAt (w.heap.size + 3) w4.heap.size mv') := hA0
  clear hM4 hP hA hP0 hA0
  have x5 := M4.out.x.cell 5
  have c5 := M4.out.c.cell 5
  simp at x5 c5
  go_upto_region 5 with (at_builtin; refine wpList_append_src rfl (.tmp 25) (.tmp 27) 25 rfl (w.heap.size + 3) 3 i3 (.int .i64 0) 1 8 Tryz.underlying25 HI3.out.1 HI3.out.2.1 HI3.out.2.2.1 HI3.out.2.2.2 rfl (by decide) (.slice none 0 0) 0 [] rfl (World.ownsRow_nil _ _ _ _) qv S.queues.length qc (intCells S.queues) rfl (intCells_length _) HN4.out (HS.out.stays M4.out.below).queues.src (intCells_one _) (by have := HF.out.queues; unfold maxLen; omega) (by have := HF.out.queues; omega) M4.out.size ?_; intro v1 w5 hown1 hg1; simp only [Nat.zero_add, List.nil_append] at hown1; obtain ⟨qv', qc', rfl, hnm, hpm, ham⟩ := IntsIn.of_owns hown1; have M5 : Hid (CM w S (.slice tv S.threads.length tc) (.slice mv S.mutexes.length mc) (.slice sv S.sems.length sc) (.slice qv S.queues.length qc) w5 (.slice none 0 0) (.slice mv' S.mutexes.length mc') (.slice sv' S.sems.length sc') (.slice none 0 0)) := M4.out.grown hg1 (by simp [Value.ownBlock]); have NQ := hid hnm; clear hnm; have z1 := M5.out.c.frozen 5; have y1 := M5.out.c.cell 5; simp at y1; have HA1 : Hid (NewAt (w.heap.size + 3) w5.heap.size qv') := ham; have HP1 : Hid (IntsIn w5.heap.size w5 qv' S.queues) := hpm; have G5 : Hid (w4.grownBy w5 none) := hg1; clear hown1 hg1 ham hpm)
  clear x5 c5 z1 y1 M4
  have hM6 := M5.out.set5 (.slice qv' S.queues.length qc')
  have hP := HP1.out.keep HA1.out (setCell_same w5 ⟨w.heap.size + 1 + 1, 5, none⟩ (.slice qv' S.queues.length qc') _ _ (by show w.heap.size + 1 + 1 < _; omega)) (Nat.le_of_eq (setCell_size _ _ _).symm)
  have hA := HA1.out
  rw [← setCell_size w5 ⟨w.heap.size + 1 + 1, 5, none⟩ (.slice qv' S.queues.length qc')] at hA
  have hP0 := (P4mv.out.keep A4mv.out (grown_same G5.out _ _ (Nat.le_refl _) (by simp)) G5.out.size).keep (A4mv.out.mono G5.out.size) (setCell_same w5 ⟨w.heap.size + 1 + 1, 5, none⟩ (.slice qv' S.queues.length qc') _ _ (by show w.heap.size + 1 + 1 < _; omega)) (Nat.le_of_eq (setCell_size _ _ _).symm)
  have hA0 := A4mv.out.mono G5.out.size
  rw [← setCell_size w5 ⟨w.heap.size + 1 + 1, 5, none⟩ (.slice qv' S.queues.length qc')] at hA0
  have hP1 := (P4sv.out.keep A4sv.out (grown_same G5.out _ _ (Nat.le_refl _) (by simp)) G5.out.size).keep (A4sv.out.mono G5.out.size) (setCell_same w5 ⟨w.heap.size + 1 + 1, 5, none⟩ (.slice qv' S.queues.length qc') _ _ (by show w.heap.size + 1 + 1 < _; omega)) (Nat.le_of_eq (setCell_size _ _ _).symm)
  have hA1 := A4sv.out.mono G5.out.size
  rw [← setCell_size w5 ⟨w.heap.size + 1 + 1, 5, none⟩ (.slice qv' S.queues.length qc')] at hA1
  clear M5 HA1 HP1 G5 P4mv A4mv P4sv A4sv
  generalize w5.setCell ⟨w.heap.size + 1 + 1, 5, none⟩ (.slice qv' S.queues.length qc') = w6 at hM6 hP hA hP0 hA0 hP1 hA1 ⊢
  have M6 : Hid (CM w S (.slice tv S.threads.length tc) (.slice mv S.mutexes.length mc) (.slice sv S.sems.length sc) (.slice qv S.queues.length qc) w6 (.slice none 0 0) (.slice mv' S.mutexes.length mc') (.slice sv' S.sems.length sc') (.slice qv' S.queues.length qc')) := hM6
  have P6qv : Hid (IntsIn w6.heap.size w6 qv' S.queues) := hP
  have A6qv : Hid (NewAt (w.heap.size + 3) w6.heap.size qv') := hA
  have P6mv : Hid (PairsIn w6.heap.size w6 mv' S.mutexes) := hP0
  have A6mv : Hid (NewAt (w.heap.size + 3) w6.heap.size mv') := hA0
  have P6sv : Hid (PairsIn w6.heap.size w6 sv' S.sems) := hP1
  have A6sv : Hid (NewAt (w.heap.size + 3) w6.heap.size sv') := hA1
  clear hM6 hP hA hP0 hA0 hP1 hA1
  have hM6 := M6.out
  have hlow : w.heap.size + 3 ≤ w6.heap.size := hM6.size
  clear HN2 HN3 HN4 HI1 HI2 HI3
  obtain ⟨i4, hi4, hz40, hz41, hz42⟩ := info_parts Tryz.infoInstr
  obtain ⟨i5, hi5, hz50, hz51, hz52⟩ := info_parts Tryz.infoThread
  have HI4 : Hid (Tryz.prog.info? 61 = some i4 ∧ i4.zero = some (.agg #[.int .i64 0, .int .i64 0, .int .i64 0]) ∧ i4.size = 3 ∧ i4.bytes = 24) := ⟨hi4, hz40, hz41, hz42⟩
  have HI5 : Hid (Tryz.prog.info? 59 = some i5 ∧ i5.zero = some (.agg #[.int .i64 0, .int .i64 0, .int .i64 0, .int .i64 0, .slice none 0 0]) ∧ i5.size = 5 ∧ i5.bytes = 56) := ⟨hi5, hz50, hz51, hz52⟩
  clear hi4 hz40 hz41 hz42 hi5 hz50 hz51 hz52 hM6
  go_wp2
  go_loopw [4] (fun i wr => ∃ (k : Nat) (vt : Value) (cs : Nat → Value), k ≤ S.threads.length ∧ i = .int .i64 k ∧ CM w S (.slice tv S.threads.length tc) (.slice mv S.mutexes.length mc) (.slice sv S.sems.length sc) (.slice qv S.queues.length qc) wr vt (.slice mv' S.mutexes.length mc') (.slice sv' S.sems.length sc') (.slice qv' S.queues.length qc') ∧ But w6.heap.size (w.heap.size + 1 + 1) w6 wr ∧ ThRows w6.heap.size wr vt S.threads k cs) (fun i _ => S.threads.length - (intOf i).toNat)
  case atStart => exact ⟨0, _, fun _ => .slice none 0 0, Nat.zero_le _, rfl, M6.out, But.refl _ _ _, ThRows.zero _ _ _ _⟩
  case round =>
    obtain ⟨k, vt, cs, hk, rfl, hM, hB, hR⟩ := hrel
    have M : Hid (CM w S (.slice tv S.threads.length tc) (.slice mv S.mutexes.length mc) (.slice sv S.sems.length sc) (.slice qv S.queues.length qc) wr vt (.slice mv' S.mutexes.length mc') (.slice sv' S.sems.length sc') (.slice qv' S.queues.length qc')) := hM
    have BB : Hid (But w6.heap.size (w.heap.size + 1 + 1) w6 wr) := hB
    have RR : Hid (ThRows w6.heap.size wr vt S.threads k cs) := hR
    clear hM hB hR
    have x2 := M.out.x.cell 2
    simp at x2
    have q0 : w.heap.size + 3 ≤ wr.heap.size := M.out.size
    have q1 : w.heap.size < wr.heap.size := by omega
    have q2 : w6.heap.size ≤ wr.heap.size := BB.out.size
    by_cases hlt : k < S.threads.length
    · obtain ⟨b, o, cv, cc, rfl, hbb, c0, c1, c2, c3, c4, hcode, hcn⟩ := HS.out.threads k hlt
      have c0' := (M.out.below.cell (p := ⟨b, o + k * 5, none⟩) hbb).trans c0
      have c1' := (M.out.below.cell (p := ⟨b, o + k * 5 + 1, none⟩) hbb).trans c1
      have c2' := (M.out.below.cell (p := ⟨b, o + k * 5 + 2, none⟩) hbb).trans c2
      have c3' := (M.out.below.cell (p := ⟨b, o + k * 5 + 3, none⟩) hbb).trans c3
      have c4' := (M.out.below.cell (p := ⟨b, o + k * 5 + 4, none⟩) hbb).trans c4
      have HC : Hid (InstrsIn w.heap.size w cv S.threads[k].code) := hcode
      have HCN : Hid (cv = none → cc = 0) := hcn
      have hfit := HF.out.codes k hlt
      clear c0 c1 c2 c3 c4 hcode hcn
      go_upto_region 11 with (at_builtin; refine wpList_append_src rfl (.tmp 42) (.tmp 44) 57 rfl (wr.heap.size + 1) 61 i4 (.agg #[.int .i64 0, .int .i64 0, .int .i64 0]) 3 24 Tryz.underlying57 HI4.out.1 HI4.out.2.1 HI4.out.2.2.1 HI4.out.2.2.2 rfl (by decide) (.slice none 0 0) 0 [] rfl (World.ownsRow_nil _ _ _ _) cv S.threads[k].code.length cc (instrCells S.threads[k].code) rfl (instrCells_length _) HCN.out (HC.out.stays (M.out.below.alloc (by omega) _)).src (instrCells_one _) (by unfold maxLen; omega) (by omega) (by simp) ?_; intro v4 w7 hown4 hg4; simp only [Nat.zero_add, List.nil_append] at hown4; obtain ⟨cv', cc', rfl, _, _⟩ := owns_cells hown4; have M7 := hid ((M.out.alloc _).grown hg4 (by simp [Value.ownBlock])); have T7 := hid ((Blk.new wr #[.int .i64 S.threads[k].base, .int .i64 S.threads[k].offset, .int .i64 S.threads[k].period, .int .i64 S.threads[k].deadline, .slice cv S.threads[k].code.length cc] 59).grown hg4 (by simp [Value.ownBlock])); have O7 := hid hown4; have G7 := hid hg4; have z4 := T7.out.frozen 4; have y4 := T7.out.cell 4; simp at y4; clear hown4 hg4)
      clear x2 c0' c1' c2' c3' c4'
      go_upto_region 12 with fail
      clear z4 y4
      have hM8 := M7.out.other (p := ⟨wr.heap.size, 4, none⟩) (by show w.heap.size + 3 ≤ wr.heap.size; omega) (.slice cv' S.threads[k].code.length cc')
      have hT8 : Blk (w7.setCell ⟨wr.heap.size, 4, none⟩ (.slice cv' S.threads[k].code.length cc')) wr.heap.size #[.int .i64 S.threads[k].base, .int .i64 S.threads[k].offset, .int .i64 S.threads[k].period, .int .i64 S.threads[k].deadline, .slice cv' S.threads[k].code.length cc'] 59 := by simpa using T7.out.set 4 (.slice cv' S.threads[k].code.length cc')
      have same8 : ∀ g, g < wr.heap.size → (w7.setCell ⟨wr.heap.size, 4, none⟩ (.slice cv' S.threads[k].code.length cc')).heap[g]? = wr.heap[g]? := by
        intro g hg
        rw [Below.heap_setCell _ _ _ _ (show g ≠ wr.heap.size by omega), G7.out.block g (by simp; omega) (by simp [Value.ownBlock]), Below.heap_alloc _ _ _ hg]
      have hR8 := RR.out.same (fun g _ hg => same8 g hg)
      have hO8 : (w7.setCell ⟨wr.heap.size, 4, none⟩ (.slice cv' S.threads[k].code.length cc')).ownsRow w6.heap.size 61 3 (.slice cv' S.threads[k].code.length cc') S.threads[k].code.length (instrCells S.threads[k].code) := by
        refine ownsRow_mono (ownsRow_same O7.out fun g hg => ?_) (show w6.heap.size ≤ wr.heap.size + 1 by omega)
        have := ownsRow_block O7.out hg
        exact Below.heap_setCell _ _ _ _ (show g ≠ wr.heap.size by omega)
      have hB8 : But w6.heap.size (w.heap.size + 1 + 1) w6 (w7.setCell ⟨wr.heap.size, 4, none⟩ (.slice cv' S.threads[k].code.length cc')) :=
        ((BB.out.alloc q2 _).grown G7.out (by simp; omega) (by simp [Value.ownBlock])).setCell (Or.inr (show w6.heap.size ≤ wr.heap.size from q2)) _
      have hs8 : wr.heap.size < (w7.setCell ⟨wr.heap.size, 4, none⟩ (.slice cv' S.threads[k].code.length cc')).heap.size := hT8.lt
      clear M7 T7 O7 G7 same8
      generalize w7.setCell ⟨wr.heap.size, 4, none⟩ (.slice cv' S.threads[k].code.length cc') = w8 at hM8 hT8 hR8 hO8 hB8 hs8 ⊢
      have M8 := hid hM8
      have R8 := hid hR8
      have O8 := hid hO8
      have B8 := hid hB8
      have m2 := hM8.c.cell 2
      have t0 := hT8.cell 0
      have t1 := hT8.cell 1
      have t2 := hT8.cell 2
      have t3 := hT8.cell 3
      have t4 := hT8.cell 4
      simp at m2 t0 t1 t2 t3 t4
      have q8 : w6.heap.size ≤ w8.heap.size := hB8.size
      have q9 : w.heap.size + 1 + 1 < w8.heap.size := by omega
      clear hM8 hT8 hR8 hO8 hB8
      have hn := HF.out.threads
      go_wp2_with (at_builtin; refine wpList_append_src rfl (.tmp 49) (.tmp 51) 22 rfl w6.heap.size 59 i5 (.agg #[.int .i64 0, .int .i64 0, .int .i64 0, .int .i64 0, .slice none 0 0]) 5 56 Tryz.underlying22 HI5.out.1 HI5.out.2.1 HI5.out.2.2.1 HI5.out.2.2.2 rfl (by decide) vt k (thCells S.threads cs k) rfl (R8.out.1.alloc _) (some ⟨w8.heap.size, 0, none⟩) 1 1 [.int .i64 S.threads[k].base, .int .i64 S.threads[k].offset, .int .i64 S.threads[k].period, .int .i64 S.threads[k].deadline, .slice cv' S.threads[k].code.length cc'] rfl rfl (fun h => (by cases h)) (fun j u hj => ⟨_, rfl, (by rw [Addr.add_lit, Nat.zero_add, (Blk.new w8 #[.int .i64 S.threads[k].base, .int .i64 S.threads[k].offset, .int .i64 S.threads[k].period, .int .i64 S.threads[k].deadline, .slice cv' S.threads[k].code.length cc'] 59).cell]; simpa using hj)⟩) (by intro u hu; simp at hu; rcases hu with rfl | rfl | rfl | rfl | rfl <;> rfl) (by unfold maxLen; omega) (by omega) (by simp; omega) ?_; intro v5 w10 hown5 hg5; obtain ⟨tv5, tc5, rfl, _, _⟩ := owns_cells hown5; have M10 := hid ((M8.out.alloc _).grown hg5 (fun g hg => (by have := ownsRow_block R8.out.1 hg; omega))); have z10 := M10.out.c.frozen 2; have y10 := M10.out.c.cell 2; simp at y10; have O10 := hid hown5; have G10 := hid hg5; clear hown5 hg5)
      obtain ⟨cs', hR10⟩ := ThRows.step (ThRows.same R8.out (fun g _ hg => Below.heap_alloc _ _ _ hg)) hlt (O8.out.alloc _) G10.out O10.out
      have hB10 : But w6.heap.size (w.heap.size + 1 + 1) w6 w10 := (B8.out.alloc q8 _).grown G10.out (by simp; omega) (fun g hg => (ownsRow_block R8.out.1 hg).1)
      go_roundw
      case rel => exact ⟨k + 1, _, cs', by omega, by go_num, M10.out.set2 _, hB10.setCell (Or.inl rfl) _, hR10.same (setCell_same _ _ _ _ _ (by show w.heap.size + 1 + 1 < _; omega))⟩
      case measure => simp [intOf]; omega
    · have e : k = S.threads.length := by omega
      subst e
      obtain ⟨tv', tc', rfl, htn, htin⟩ := ThreadsF.of_rows_later RR.out
      have NT := hid htn
      clear htn
      have HT := hid htin
      have m0 := M.out.c.cell 0
      have m1 := M.out.c.cell 1
      have m2 := M.out.c.cell 2
      have m3 := M.out.c.cell 3
      have m4 := M.out.c.cell 4
      have m5 := M.out.c.cell 5
      have r0 := M.out.r.cell 0
      have r1 := M.out.r.cell 1
      have r2 := M.out.r.cell 2
      have r3 := M.out.r.cell 3
      have r4 := M.out.r.cell 4
      have r5 := M.out.r.cell 5
      simp at m0 m1 m2 m3 m4 m5 r0 r1 r2 r3 r4 r5
      have f0 := M.out.r.frozen 0
      have f1 := M.out.r.frozen 1
      have f2 := M.out.r.frozen 2
      have f3 := M.out.r.frozen 3
      have f4 := M.out.r.frozen 4
      have f5 := M.out.r.frozen 5
      have q3 : w.heap.size + 1 < wr.heap.size := by omega
      clear htin
      go_wp2
      have same : ∀ g, w.heap.size + 3 ≤ g → g < w6.heap.size → wr.heap[g]? = w6.heap[g]? := fun g h1 h2 => BB.out.block g h2 (by omega)
      have up : ∀ b, w.heap.size + 3 ≤ b ∧ b < w6.heap.size → w.heap.size ≤ b ∧ b < ((((((wr.setCell ⟨w.heap.size + 1, 0, none⟩ (.int .i64 S.workers)).setCell ⟨w.heap.size + 1, 1, none⟩ (.int .i64 S.start)).setCell ⟨w.heap.size + 1, 2, none⟩ (.slice tv' S.threads.length tc')).setCell ⟨w.heap.size + 1, 3, none⟩ (.slice mv' S.mutexes.length mc')).setCell ⟨w.heap.size + 1, 4, none⟩ (.slice sv' S.sems.length sc')).setCell ⟨w.heap.size + 1, 5, none⟩ (.slice qv' S.queues.length qc')).heap.size := by
        intro b hb
        rw [six_size]
        omega
      refine bodyPost_ret (v := .agg #[.int .i64 S.workers, .int .i64 S.start, .slice tv' S.threads.length tc', .slice mv' S.mutexes.length mc', .slice sv' S.sems.length sc', .slice qv' S.queues.length qc']) ?_ rfl ⟨tv', mv', sv', qv', tc', mc', sc', qc', rfl, ⟨?_, ?_, ?_, ?_⟩, ⟨NT.out, NM.out, NS.out, NQ.out⟩, six_below M.out.below _ (by omega) _ _ _ _ _ _⟩
      · simp [results, Tryz.results15, go_sem, r0, r1, r2, r3, r4, r5]
      · exact (HT.out _ (fun g h1 h2 => six_same _ _ _ _ _ _ _ _ _ (by omega))).mono (fun b hb => ⟨by omega, hb.2⟩)
      · exact ((P6mv.out.newF A6mv.out).same (fun b hb => (six_same _ _ _ _ _ _ _ _ _ (by omega)).trans (same b hb.1 hb.2))).mono up
      · exact ((P6sv.out.newF A6sv.out).same (fun b hb => (six_same _ _ _ _ _ _ _ _ _ (by omega)).trans (same b hb.1 hb.2))).mono up
      · exact ((P6qv.out.newF A6qv.out).same (fun b hb => (six_same _ _ _ _ _ _ _ _ _ (by omega)).trans (same b hb.1 hb.2))).mono up
end Go.Proofs.YtbkfildnijjioaaGreat

/-
  Walks: the leaves of the document's own check (package donateref).
-/
namespace Go.Proofs.YtbkfildnijjioaaGreat
open Go.RowKit

set_option maxHeartbeats 400000 in
theorem rMutexFits_any (k t : Int) (w : World) :
    Calls Tryz.prog 107 #[.agg #[.int .i64 k, .int .i64 t]] w fun e w' => e = .returned (.bool (P3.mutexB k t)) ∧ Below w.heap.size w w' := by
  go_enter Tryz.func107, Tryz.ntmps107
  go_wp2
  all_goals
    go_ret
    refine ⟨ret_bool ?_, (Below.refl _ _).alloc (Nat.le_refl _) _⟩
    unfold P3.mutexB
    rw [Bool.eq_iff_iff]
    simp_all
    try omega

set_option maxHeartbeats 400000 in
theorem rSizes_any (tv mv sv qv : Option Addr) (tc mc sc qc : Nat) (S : SetD) (w : World) :
    Calls Tryz.prog 64 #[.agg #[.int .i64 S.workers, .int .i64 S.start, .slice tv S.threads.length tc, .slice mv S.mutexes.length mc, .slice sv S.sems.length sc, .slice qv S.queues.length qc]] w fun e w' => e = .returned (.bool (P3.sizesB S)) ∧ Below w.heap.size w w' := by
  go_enter Tryz.func64, Tryz.ntmps64
  go_wp2
  all_goals
    go_ret
    refine ⟨ret_bool ?_, (Below.refl _ _).alloc (Nat.le_refl _) _⟩
    unfold P3.sizesB
    rw [Bool.eq_iff_iff]
    simp
    try omega

set_option maxHeartbeats 400000 in
theorem rThreadFits_any (b o p d : Int) (cv : Option Addr) (cn cc : Nat) (w : World) :
    Calls Tryz.prog 66 #[.agg #[.int .i64 b, .int .i64 o, .int .i64 p, .int .i64 d, .slice cv cn cc]] w fun e w' => e = .returned (.bool (P3.threadB b o p d cn)) ∧ Below w.heap.size w w' := by
  go_enter Tryz.func66, Tryz.ntmps66
  go_wp2
  all_goals
    go_ret
    refine ⟨ret_bool ?_, (Below.refl _ _).alloc (Nat.le_refl _) _⟩
    unfold P3.threadB P3.latest
    rw [Bool.eq_iff_iff]
    simp_all
    try omega

end Go.Proofs.YtbkfildnijjioaaGreat

/-
  Walks: the bounds of an operation (package donateref).
-/
namespace Go.Proofs.YtbkfildnijjioaaGreat
open Go.RowKit

set_option maxHeartbeats 400000 in
theorem rBounds_any (wk st : Int) (tv mv sv qv : Option Addr) (tn tc mn mc sn sc qn qc : Nat) (len op : Int) (w : World) (h1 : (tn : Int) ≤ 16) (h2 : (mn : Int) ≤ 8) (h3 : (sn : Int) ≤ 4) (h4 : (qn : Int) ≤ 4) :
    Calls Tryz.prog 108 #[.agg #[.int .i64 wk, .int .i64 st, .slice tv tn tc, .slice mv mn mc, .slice sv sn sc, .slice qv qn qc], .int .i64 len, .int .i64 op] w fun e w' =>
      e = .returned (.tuple #[.agg #[.int .i64 (P3.lowA op), .int .i64 (P3.highA tn mn sn qn op), .int .i64 (P3.lowB op), .int .i64 (P3.highB len op)], .bool (P3.known op)]) ∧ Below w.heap.size w w' := by
  go_enter Tryz.func108, Tryz.ntmps108
  go_wp2
  all_goals
    refine bodyPost_ret (v := .tuple #[.agg #[.int .i64 (P3.lowA op), .int .i64 (P3.highA tn mn sn qn op), .int .i64 (P3.lowB op), .int .i64 (P3.highB len op)], .bool (P3.known op)]) ?_ rfl ⟨rfl, ((Below.refl _ _).alloc (Nat.le_refl _) _).alloc (by simp) _⟩
    first | (have e : op = 0 := beq_iff_eq.1 ‹_›; subst e) | (have e : op = 1 := beq_iff_eq.1 ‹_›; subst e) | (have e : op = 2 := beq_iff_eq.1 ‹_›; subst e) | (have e : op = 3 := beq_iff_eq.1 ‹_›; subst e) | (have e : op = 4 := beq_iff_eq.1 ‹_›; subst e) | (have e : op = 5 := beq_iff_eq.1 ‹_›; subst e) | (have e : op = 6 := beq_iff_eq.1 ‹_›; subst e) | (have e : op = 7 := beq_iff_eq.1 ‹_›; subst e) | (have e : op = 8 := beq_iff_eq.1 ‹_›; subst e) | (have e : op = 9 := beq_iff_eq.1 ‹_›; subst e) | (have e : op = 10 := beq_iff_eq.1 ‹_›; subst e) | (have e : op = 11 := beq_iff_eq.1 ‹_›; subst e) | skip
    all_goals simp_all [results, Tryz.results108, go_sem, P3.known, P3.lowA, P3.highA, P3.lowB, P3.highB]
    all_goals try omega

end Go.Proofs.YtbkfildnijjioaaGreat
