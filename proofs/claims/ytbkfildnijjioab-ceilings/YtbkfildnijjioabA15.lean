import Derived.Test.YtbkfildnijjioabA14
import Derived.Test.YtbkfildnijjioabA12
import Derived.Test.YtbkfildnijjioabA04
/-
  Walks over package donate: deadlines, Tick.
-/
namespace Go.Proofs.Ytbkfildnijjioab
open Go.RowKit

section
variable {F : Nat → Prop} {w w' : World} {kb : Nat} {h : KH} {s : RS} {tk wt : List Nat} {ws : List Int}

set_option maxHeartbeats 400000 in
theorem kNewestJob_any (m : KMem F w kb h s tk wt ws) (t : Nat) (ht : t < s.T.length) (_hfew : s.T.length ≤ 16) (hr : 0 ≤ s.T[t].rel ∧ s.T[t].rel ≤ 2000000000) :
    Calls Try.prog 102 #[.pointer (some ⟨kb, 0, none⟩), .int .i64 t] w fun e w' => e = .returned (.int .i64 (s.T[t].rel - 1)) ∧ w' = w := by
  have c1 := m.blk.cell 1
  simp [kCells] at c1
  have a7 := m.tcell ht 8 (by decide)
  simp [ktCells] at a7
  have htI : (t : Int) < (s.T.length : Int) := by omega
  obtain ⟨h0, h1⟩ := hr
  clear m
  generalize s.T[t].rel = rl at *
  go_enter Try.func102, Try.ntmps102
  go_wp2
  go_ret
  exact ⟨rfl, rfl⟩

/-- The newest job's deadline is now, and it has not ended. -/
def kLate (s : RS) (t : Nat) (x : RT) : Bool := !((s.set.threads.getD t P3.none0).deadline == 0) && (decide (x.ended < x.rel) && (s.set.start + (s.set.threads.getD t P3.none0).offset + (x.rel - 1) * (s.set.threads.getD t P3.none0).period + (s.set.threads.getD t P3.none0).deadline == s.now))

set_option maxHeartbeats 1000000 in
theorem kMissesDeadline_any (m : KMem F w kb h s tk wt ws) (t : Nat) (ht : t < s.T.length) (hfew : s.T.length ≤ 16) (hr : 0 ≤ s.T[t].rel ∧ s.T[t].rel ≤ 2000000000) (he : 0 ≤ s.T[t].ended) (ks : KSet s t) :
    Calls Try.prog 101 #[.pointer (some ⟨kb, 0, none⟩), .int .i64 t] w fun e w' => e = .returned (.bool (kLate s t s.T[t])) ∧ ∃ n, w' = w.drewN n := by
  have c1 := m.blk.cell 1
  simp [kCells] at c1
  have a4 := m.tcell ht 4 (by decide)
  simp only [ktCells] at a4
  have htI : (t : Int) < (s.T.length : Int) := by omega
  have HJ := hid (kHasJob_any m t ht hfew)
  have NJ := hid (fun n => kNewestJob_any (m.drewN n) t ht hfew hr)
  have RT := hid (fun n (hj : s.T[t].ended < s.T[t].rel) => kReleaseTime_any (m.drewN n) t ht hfew (s.T[t].rel - 1) ⟨by omega, by omega⟩ ks.st ks.of ks.pe)
  have C0 := hid (fun n => (m.drewN n).blk.cell 0)
  have EL : Hid (kLate s t s.T[t] = (!((s.set.threads.getD t P3.none0).deadline == 0) && (decide (s.T[t].ended < s.T[t].rel) && (s.set.start + (s.set.threads.getD t P3.none0).offset + (s.T[t].rel - 1) * (s.set.threads.getD t P3.none0).period + (s.set.threads.getD t P3.none0).deadline == s.now)))) := rfl
  have hst := ks.st
  have hof := ks.of
  have hpe := ks.pe
  have hdl := ks.dl
  have mu0 : s.T[t].ended < s.T[t].rel → 0 ≤ (s.T[t].rel - 1) * (s.set.threads.getD t P3.none0).period ∧ (s.T[t].rel - 1) * (s.set.threads.getD t P3.none0).period ≤ 2000000000 * 1000 := fun hj => ⟨Int.mul_nonneg (by omega) hpe.1, Int.mul_le_mul (by omega) hpe.2 hpe.1 (by decide)⟩
  have MU := hid mu0
  clear m ks mu0
  generalize kLate s t s.T[t] = res at *
  generalize s.T[t] = x at *
  generalize (s.set.threads.getD t P3.none0).deadline = dl at *
  generalize (s.set.threads.getD t P3.none0).offset = of at *
  generalize (s.set.threads.getD t P3.none0).period = pe at *
  generalize s.set.start = st at *
  simp at a4
  go_enter Try.func101, Try.ntmps101
  by_cases hd : dl = 0
  · subst hd
    have HE : Hid (res = false) := by rw [EL.out]; exact hid rfl
    clear EL
    go_wp2
    go_ret
    refine ⟨?_, 0, rfl⟩
    rw [HE.out]
    rfl
  · have hd' : (dl == 0) = false := by simpa using hd
    go_wp2_with fail
    refine HJ.out.mono ?_
    rintro e w1 ⟨rfl, n, rfl⟩
    by_cases hj : x.ended < x.rel
    · have hjd : decide (x.ended < x.rel) = true := by simpa using hj
      have NJN := hid (NJ.out n)
      have RTN := hid (RT.out (n + 1) hj)
      have mu := MU.out hj
      generalize hmu : (x.rel - 1) * pe = mp at *
      clear hmu
      have HE : Hid (res = (st + of + mp + dl == s.now)) := by rw [EL.out, hd', hjd]; exact hid (by simp)
      obtain ⟨mu1, mu2⟩ := mu
      obtain ⟨st1, st2⟩ := hst
      obtain ⟨of1, of2⟩ := hof
      obtain ⟨dl1, dl2⟩ := hdl
      obtain ⟨r1, r2⟩ := hr
      have c0 := C0.out n
      simp [kCells] at c0
      clear EL HJ NJ RT MU
      go_wp2_with fail
      refine NJN.out.mono ?_
      rintro e w2 ⟨rfl, hw2⟩
      have hw3 := hw2.symm
      subst hw3
      clear hw2 NJN
      have RTM : Hid (Calls Try.prog 94 #[.pointer (some ⟨kb, 0, none⟩), .int .i64 t, .int .i64 (x.rel - 1)] (w.drewN n).drew fun e w' => e = .returned (.int .i64 (st + of + mp)) ∧ ∃ n', w' = (w.drewN (n + 1)).drewN n') := RTN.out
      clear RTN
      go_wp2_with fail
      go_region_held3 (fun w' => w'.cell? ⟨kb, 0, none⟩ = some (.int .i64 s.now)) (simp [*])
        (first
          | (go_at_call 94; refine RTM.out.mono ?_; rintro e w3 ⟨rfl, n', rfl⟩; have k0 : ((w.drewN (n + 1)).drewN n').cell? ⟨kb, 0, none⟩ = some (.int .i64 s.now) := c0))
      go_wp2
      go_ret
      refine ⟨?_, (n + 1) + n', by simp⟩
      rw [HE.out]
      simp [IntWalk.i64_in (st + of + mp + dl) (by omega)]
    · have hjd : decide (x.ended < x.rel) = false := by simpa using hj
      have HE : Hid (res = false) := by rw [EL.out, hjd]; exact hid (by simp)
      clear EL
      go_wp2
      go_ret
      refine ⟨?_, n, rfl⟩
      rw [HE.out]
      rfl

/-- The misses are lengthened where they lie, or laid anew. -/
theorem KMem.grownMs (m : KMem F w kb h s tk wt ws) {v : Value} {l : List MissD} (hg : w.grownBy w' h.vMs.ownBlock) (hr : w'.ownsRow 0 82 3 v l.length (missCells l)) (hat : v.ownBlock = h.vMs.ownBlock ∨ v.ownBlock = some w.heap.size) :
    Blk w' kb (kCells h s ws) 88 ∧ ∃ h', KMem F (w'.setCell ⟨kb, 8, none⟩ v) kb h' { s with missed := l } tk wt ws ∧ KUp w h h' ∧ h'.vMs = v := by
  have other : ∀ b e, Typ w b e → e ≠ 82 → w'.heap[b]? = w.heap[b]? := fun b e hb he => hg.block b hb.lt (fun x => (own_typ m.mss x.symm).ne hb (Ne.symm he) rfl)
  have hblk : Blk w' kb (kCells h s ws) 88 := by
    have := m.blk
    unfold Blk at this ⊢
    rw [other kb _ m.kT (by decide)]
    exact this
  have kT' : Typ w' kb 88 := ⟨_, hblk⟩
  have away : ∀ b, b ≠ kb → (w'.setCell ⟨kb, 8, none⟩ v).heap[b]? = w'.heap[b]? := fun b hb => Below.heap_setCell _ _ _ _ hb
  have offs : ∀ b e, Typ w b e → e ≠ 82 → e ≠ 88 → (w'.setCell ⟨kb, 8, none⟩ v).heap[b]? = w.heap[b]? := fun b e hb h1 h2 => by
    rw [away b (ne_of_typ m.kT hb (Ne.symm h2)), other b e hb h1]
  refine ⟨hblk, { h with vMs := v }, m.remake (h' := { h with vMs := v }) (s' := { s with missed := l }) rfl rfl ?_ ?_ ?_ ?_ ?_ m.dTk m.dWt (fun g hg' => (m.dSt g hg').2), ⟨rfl, rfl, rfl, fun _ => .inl, fun _ => .inl, fun g hg' => ?_, rfl, rfl, fun _ => .inl⟩, rfl⟩
  · have := hblk.set 8 v
    simpa [kCells] using this
  · rintro b (hb | rfl | rfl | rfl | hb)
    · exact offs b _ (m.ft b hb) (by decide) (by decide)
    · exact offs _ _ m.tT (by decide) (by decide)
    · exact offs _ _ m.mT (by decide) (by decide)
    · exact offs _ _ m.wT (by decide) (by decide)
    · rcases m.st.typ hb with ht | ht | ht
      · exact offs _ _ ht (by decide) (by decide)
      · exact offs _ _ ht (by decide) (by decide)
      · exact offs _ _ ht (by decide) (by decide)
  · exact ownsRow_same m.tks fun g hg' => offs g _ (own_typ m.tks hg') (by decide) (by decide)
  · exact ownsRow_same m.wts fun g hg' => offs g _ (own_typ m.wts hg') (by decide) (by decide)
  · exact ownsRow_same hr fun g hg' => away g (ne_of_typ kT' (own_typ hr hg') (by decide))
  · have hg2 : v.ownBlock = some g := hg'
    rcases hat with e | e
    · rw [e] at hg2
      exact .inl hg2
    · rw [e] at hg2
      cases hg2
      exact .inr (Nat.le_refl _)

/-- A miss is told just where the document tells one. -/
theorem late_is {s : RS} {t : Nat} (ht : t < s.T.length) (rk : RelOk s t s.T[t]) (ks : KSet s t) (hdp : (s.set.threads.getD t P3.none0).period ≠ 0 → (s.set.threads.getD t P3.none0).deadline ≤ (s.set.threads.getD t P3.none0).period) :
    R.lateTo s (t + 1) = if kLate s t s.T[t] = true then R.lateTo s t ++ [⟨(t : Int), s.T[t].rel - 1, s.now⟩] else R.lateTo s t := by
  have hd := ks.dl
  show (if (s.set.threads.getD t P3.none0).deadline = 0 then R.lateTo s t else if 0 ≤ R.numberAt s t (s.set.threads.getD t P3.none0).deadline ∧ (R.th s.T t).ended ≤ R.numberAt s t (s.set.threads.getD t P3.none0).deadline then R.lateTo s t ++ [⟨(t : Int), R.numberAt s t (s.set.threads.getD t P3.none0).deadline, s.now⟩] else R.lateTo s t) = _
  rw [th_ext ht]
  by_cases h0 : (s.set.threads.getD t P3.none0).deadline = 0
  · have e : kLate s t s.T[t] = false := by unfold kLate; rw [h0]; rfl
    rw [if_pos h0, e, if_neg (by decide)]
  · have hl := Ln.late_iff s.set t s.now s.T[t].rel s.T[t].ended ks.pe.1 rk.r0 rk.e0 (by omega) hdp
    have e : kLate s t s.T[t] = true ↔ (s.T[t].ended < s.T[t].rel ∧ s.set.start + (s.set.threads.getD t P3.none0).offset + (s.T[t].rel - 1) * (s.set.threads.getD t P3.none0).period + (s.set.threads.getD t P3.none0).deadline = s.now) := by
      unfold kLate
      have hb : ((s.set.threads.getD t P3.none0).deadline == 0) = false := by simpa using h0
      rw [hb]
      simp only [Bool.not_false, Bool.true_and, Bool.and_eq_true, decide_eq_true_eq, beq_iff_eq]
    rw [if_neg h0]
    unfold R.numberAt
    by_cases hk : kLate s t s.T[t] = true
    · have h1 := hl.1.1 (e.1 hk)
      rw [if_pos h1, if_pos hk, hl.2 h1.1]
    · rw [if_neg hk, if_neg (fun hh => hk (e.2 (hl.1.2 hh)))]

set_option maxRecDepth 100000 in
set_option maxHeartbeats 4000000 in
theorem kLookAtDeadlines_any (m : KMem F w kb h s tk wt ws) (hfew : s.T.length ≤ 16) (hrk : ∀ t (ht : t < s.T.length), RelOk s t s.T[t]) (hks : ∀ t, t < s.T.length → KSet s t) (hdp : ∀ t, t < s.T.length → (s.set.threads.getD t P3.none0).period ≠ 0 → (s.set.threads.getD t P3.none0).deadline ≤ (s.set.threads.getD t P3.none0).period) (hmis : s.missed.length ≤ 16000000000) :
    Calls Try.prog 83 #[.pointer (some ⟨kb, 0, none⟩)] w fun e w' => ∃ v h', e = .returned v ∧ w'.ownsRow w.heap.size 82 3 v (R.late s).length (missCells (R.late s)) ∧ KMem F w' kb h' { s with missed := s.missed ++ R.late s } tk wt ws ∧ Only (kb :: h.vMs.ownBlock.toList) w w' ∧ KUp w h h' ∧ ∀ g, v.ownBlock = some g → h'.vMs.ownBlock ≠ some g := by
  have c1 := m.blk.cell 1
  simp [kCells] at c1
  have M := hid m
  have HRK := hid hrk
  have HKS := hid hks
  have HDP := hid hdp
  have EL : Hid (R.late s = R.lateTo s s.T.length) := rfl
  clear m hrk hks hdp
  generalize R.late s = LT at *
  obtain ⟨i3, hi3, hz30, hz31, hz32⟩ := info_parts Try.infoMiss
  have HI3 := hid (And.intro hi3 (And.intro hz30 (And.intro hz31 hz32)))
  clear hi3 hz30 hz31 hz32
  go_enter Try.func83, Try.ntmps83
  go_wp2
  go_loopw [3, 10] (fun v i wr => ∃ k : Nat, k ≤ s.T.length ∧ i = .int .i64 k ∧ wr.ownsRow w.heap.size 82 3 v (R.lateTo s k).length (missCells (R.lateTo s k)) ∧ Below w.heap.size w wr) (fun _ i _ => s.T.length - (intOf i).toNat)
  case atStart => exact ⟨0, Nat.zero_le _, rfl, World.ownsRow_nil _ _ _ _, Below.refl _ _⟩
  case round =>
    obtain ⟨k, hk, rfl, hrow, hb⟩ := hrel
    have ROW := hid hrow
    have HB := hid hb
    have hsz := hb.size
    have hll := R.lateTo_len s k
    clear hrow hb
    by_cases hkl : k < s.T.length
    · have hkI : (k : Int) < (s.T.length : Int) := by omega
      have rk := HRK.out k hkl
      have ks := HKS.out k hkl
      have ES := hid (late_is hkl rk ks (HDP.out k hkl))
      have MD := hid (kMissesDeadline_any (M.out.below HB.out) k hkl hfew rk.r1 rk.e0 ks)
      have NJ := hid (fun n => kNewestJob_any ((M.out.below HB.out).drewN n) k hkl hfew rk.r1)
      have C0 := hid (fun n => ((M.out.below HB.out).drewN n).blk.cell 0)
      clear rk ks
      generalize kLate s k s.T[k] = dd at *
      generalize s.T[k].rel = rl at *
      generalize R.lateTo s k = f at *
      go_wp2_with fail
      refine MD.out.mono ?_
      rintro e w3 ⟨rfl, n, rfl⟩
      cases dd with
      | false =>
        have HE : Hid (R.lateTo s (k + 1) = f) := by rw [ES.out, if_neg (by decide)]; exact hid rfl
        go_wp2
        go_roundw
        case rel => exact ⟨k + 1, by omega, by go_num, by rw [HE.out]; exact ownsRow_same ROW.out fun _ _ => rfl, bdrewN HB.out n⟩
        case measure => simp [intOf]; omega
      | true =>
        have HE : Hid (R.lateTo s (k + 1) = f ++ [⟨(k : Int), rl - 1, s.now⟩]) := by rw [ES.out, if_pos rfl]; exact hid rfl
        have c0 := C0.out n
        simp [kCells] at c0
        have NJN : Hid (Calls Try.prog 102 #[.pointer (some ⟨kb, 0, none⟩), .int .i64 k] (wr.drewN n).drew fun e w' => e = .returned (.int .i64 (rl - 1)) ∧ w' = (wr.drewN n).drew) := NJ.out (n + 1)
        have ROW1 : Hid ((wr.drewN n).drew.ownsRow w.heap.size 82 3 u3 f.length (missCells f)) := ownsRow_same ROW.out fun _ _ => rfl
        have HB1 : Hid (Below w.heap.size w (wr.drewN n).drew) := bdrewN HB.out (n + 1)
        have hsz1 : w.heap.size ≤ (wr.drewN n).drew.heap.size := hsz
        have hkbl : kb < wr.heap.size := (M.out.below HB.out).kT.lt
        have hnew := World.new_ne (wr.drewN (n + 1)) ⟨kb, 0, none⟩ (by simpa using c0)
        clear NJ C0 MD ROW HB
        go_wp2_with fail
        go_region_held3 (fun w' => w'.cell? ⟨kb, 0, none⟩ = some (.int .i64 s.now)) (go_keep)
          (first
            | (refine step_append_own rfl (.tmp 16) (.tmp 26) 42 rfl w.heap.size 82 i3 (.agg #[.int .i64 0, .int .i64 0, .int .i64 0]) 3 24 Try.underlying42 HI3.out.1 HI3.out.2.1 HI3.out.2.2.1 HI3.out.2.2.2 rfl (by decide) u3 f.length (missCells f) (by simp [Act.eval]) (ROW1.out.alloc _) ⟨(wr.drewN n).drew.heap.size, 0, none⟩ 1 1 [.int .i64 (k : Int), .int .i64 (rl - 1), .int .i64 s.now] (by simp [Act.eval]) rfl (fun j u hj => (by rw [Addr.add_lit, Nat.zero_add]; exact ((Blk.new (wr.drewN n).drew #[.int .i64 (k : Int), .int .i64 (rl - 1), .int .i64 s.now] 82).cell j).trans (by simpa using hj))) (by intro u hu; simp at hu; rcases hu with rfl | rfl | rfl <;> rfl) (by unfold maxLen; omega) (by omega) (by simp; omega) ?_; intro v' w5 hown5 hg5; have O5 := hid hown5; have HB5 := hid ((HB1.out.alloc (by omega) _).grown hg5 (by simp; omega) (fun g hg => (ownsRow_block ROW1.out hg).1)); have k0 : w5.cell? ⟨kb, 0, none⟩ = some (.int .i64 s.now) := (by have := (M.out.below HB5.out).blk.cell 0; simpa [kCells] using this); clear hown5 hg5)
            | (go_at_call 102; refine NJN.out.mono ?_; rintro e w4 ⟨rfl, hw4⟩; have hw5 := hw4.symm; subst hw5; clear hw4))
        all_goals
          go_wp2
          go_roundw
          case rel => exact ⟨k + 1, by omega, by go_num, by rw [HE.out, missCells_append, List.length_append]; exact O5.out, HB5.out⟩
          case measure => simp [intOf]; omega
    · have e : k = s.T.length := by omega
      subst e
      rw [← EL.out] at ROW hll
      obtain ⟨ao, ca, rfl, hn, ha⟩ := owns_cells ROW.out
      have HN := hid hn
      have hsrc : ∀ j u, (missCells LT)[j]? = some u → ∃ ad, ao = some ad ∧ wr.cell? (ad.add j) = some u := by
        intro j u hj
        have hjl : j < (missCells LT).length := by
          rcases Nat.lt_or_ge j (missCells LT).length with h' | h'
          · exact h'
          · rw [List.getElem?_eq_none h'] at hj; cases hj
        rw [missCells_length] at hjl
        cases ao with
        | none => have := (hn rfl).1; omega
        | some ad =>
          obtain ⟨gl, rfl, _, _, _, hc⟩ := ha ad rfl
          refine ⟨_, rfl, ?_⟩
          rw [Addr.add_lit, Nat.zero_add, hc _ hjl]
          exact hj
      have HSRC := hid hsrc
      have MK := hid (M.out.below HB.out)
      have OMS := hid MK.out.mss
      have c8 := MK.out.blk.cell 8
      simp [kCells] at c8
      have hgl : ∀ g, (Value.slice ao LT.length ca).ownBlock = some g → w.heap.size ≤ g ∧ g < wr.heap.size := fun g hg => ⟨(ownsRow_block ROW.out hg).1, (ownsRow_block ROW.out hg).2.1⟩
      have HGL := hid hgl
      have HOLD : Hid (∀ g, h.vMs.ownBlock = some g → g < w.heap.size) := fun g hg => (own_typ M.out.mss hg).lt
      clear hn ha hsrc hgl
      go_wp2_with (at_builtin; refine wpList_append_src_at rfl (.tmp 33) (.tmp 34) 42 rfl 0 82 i3 (.agg #[.int .i64 0, .int .i64 0, .int .i64 0]) 3 24 Try.underlying42 HI3.out.1 HI3.out.2.1 HI3.out.2.2.1 HI3.out.2.2.2 rfl (by decide) h.vMs s.missed.length (missCells s.missed) rfl OMS.out ao LT.length ca (missCells LT) rfl (missCells_length _) (fun hh => (HN.out hh).2) HSRC.out (missCells_one _) (by unfold maxLen; omega) (by omega) (Nat.zero_le _) ?_; intro v' w3 hown3 hg3 hat3; obtain ⟨tv5, tc5, rfl, _, _⟩ := owns_cells hown3; have hr3 : w3.ownsRow 0 82 3 (.slice tv5 (s.missed.length + LT.length) tc5) (s.missed ++ LT).length (missCells (s.missed ++ LT)) := (by rw [List.length_append]; simpa [missCells] using hown3); obtain ⟨b3, h3, m3, u3', e3⟩ := MK.out.grownMs hg3 hr3 hat3; have M3 := hid m3; have U3 := hid u3'; have E3 := hid e3; have y3 := b3.cell 8; have z3 := b3.frozen 8; simp [kCells] at y3; have G3 := hid hg3; have AT3 := hid hat3; clear hown3 hg3 hat3 hr3 b3 m3 u3' e3)
      go_ret
      have hszr := HB.out.size
      refine ⟨_, h3, rfl, ?_, M3.out, ?_, (KUp.refl w h).trans U3.out hszr, fun g hg => ?_⟩
      · refine ownsRow_same ROW.out fun g hg => ?_
        have hgg := HGL.out g hg
        rw [Below.heap_setCell _ _ _ _ (fun e => ?_), G3.out.block g hgg.2 (fun e => ?_)]
        · have := HOLD.out g e.symm
          omega
        · have e' : g = kb := e
          have := M.out.kT.lt
          omega
      · have o1 : Only (kb :: h.vMs.ownBlock.toList) w w3 := by
          have o0 : Only (kb :: h.vMs.ownBlock.toList) w wr := Only.of_below HB.out
          refine ⟨G3.out.os.trans o0.os, G3.out.tape.trans o0.tape, G3.out.output.trans o0.output, Nat.le_trans o0.size G3.out.size, fun b hb hn => ?_⟩
          rw [G3.out.block b (Nat.lt_of_lt_of_le hb o0.size) (fun e => hn (by simp [← e]))]
          exact o0.block b hb hn
        exact o1.setCell (.inl (by simp)) _
      · have hgg := HGL.out g hg
        rw [E3.out]
        intro e
        rcases AT3.out with h' | h'
        · rw [h'] at e
          have := HOLD.out g e
          omega
        · rw [h'] at e
          have := Option.some.inj e
          omega
end

end Go.Proofs.Ytbkfildnijjioab

/-
  Walks over package donate: Tick.
-/
namespace Go.Proofs.Ytbkfildnijjioab
open Go.RowKit

theorem keep_endsTo (s : RS) (k : Nat) : R.Keep s (R.endsTo s k) := by
  induction k with
  | zero => exact R.Keep.refl s
  | succ k ih =>
    refine ih.trans ?_
    show R.Keep _ (R.endOne (R.endsTo s k))
    unfold R.endOne
    split
    · exact R.Keep.refl _
    · exact R.keep_endW _ _ _
theorem keep_release (s : RS) : R.Keep s (R.release s) := ⟨R.releaseTo_len _ _, fun u => (releaseTo_keeps s s.T.length u).1, fun u => (releaseTo_keeps s s.T.length u).2⟩
theorem endsTo_jobs (s : RS) (k u : Nat) : (R.th (R.endsTo s k).T u).rel = (R.th s.T u).rel ∧ (R.th (R.endsTo s k).T u).ended = (R.th s.T u).ended := by
  induction k with
  | zero => exact ⟨rfl, rfl⟩
  | succ k ih =>
    have one : ∀ s : RS, (R.th (R.endOne s).T u).rel = (R.th s.T u).rel ∧ (R.th (R.endOne s).T u).ended = (R.th s.T u).ended := by
      intro s
      have hm : ∀ (T : List RT) (t : Nat) (f : RT → RT), (∀ x, (f x).rel = x.rel ∧ (f x).ended = x.ended) → (R.th (T.modify t f) u).rel = (R.th T u).rel ∧ (R.th (T.modify t f) u).ended = (R.th T u).ended := fun T t f hf => by
        rw [Ln.th_modify]
        split
        · exact hf _
        · exact ⟨rfl, rfl⟩
      unfold R.endOne R.endW R.wake
      split
      · exact ⟨rfl, rfl⟩
      · have h1 := hm s.T (R.due s).toNat (fun x => { x with for_ := 0, of_ := 0, until_ := 0, last := if (R.th s.T (R.due s).toNat).for_ = 4 then 0 else 2 }) (fun _ => ⟨rfl, rfl⟩)
        have h2 := hm (s.T.modify (R.due s).toNat (fun x => { x with for_ := 0, of_ := 0, until_ := 0, last := if (R.th s.T (R.due s).toNat).for_ = 4 then 0 else 2 })) (R.due s).toNat (fun x => { x with awake := true, tick := s.next + 1 }) (fun _ => ⟨rfl, rfl⟩)
        exact ⟨h2.1.trans h1.1, h2.2.trans h1.2⟩
    show (R.th (R.endOne (R.endsTo s k)).T u).rel = _ ∧ (R.th (R.endOne (R.endsTo s k)).T u).ended = _
    rw [(one _).1, (one _).2]
    exact ih
theorem ok_dline {S : SetD} (h : P3.err S = 0) (t : Nat) (ht : t < S.threads.length) : (S.threads.getD t P3.none0).period ≠ 0 → (S.threads.getD t P3.none0).deadline ≤ (S.threads.getD t P3.none0).period := by
  have := badOr_good (ok_parts h).2.2.2.2.1 S.threads[t] (List.getElem_mem ht)
  have e : S.threads.getD t P3.none0 = S.threads[t] := by simp [List.getD, ht]
  rw [e]
  unfold P3.threadP P3.threadB P3.latest at this
  rw [decide_eq_true_iff] at this
  intro hp
  obtain ⟨_, _, _, _, _, _, _, hd, _⟩ := this
  rw [if_neg hp] at hd
  exact hd

section
variable {F : Nat → Prop} {w w' : World} {kb : Nat} {h : KH} {s : RS} {tk wt : List Nat} {ws : List Int}
theorem Only.at {L : List Nat} {w w' : World} (o : Only L w w') {v : Value} {base n : Nat} {e : TypeId} {size : Nat} {xs : List Value} (hr : w.ownsRow base e size v n xs) (hb : ∀ b, b ∈ L → b < base) : w'.ownsRow base e size v n xs :=
  ownsRow_same hr fun g hg => o.block g (ownsRow_block hr hg).2.1 (fun hm => by have := hb g hm; have := (ownsRow_block hr hg).1; omega)
theorem KMem.setNow (m : KMem F w kb h s tk wt ws) (n : Int) : KMem F (w.setCell ⟨kb, 0, none⟩ (.int .i64 n)) kb h { s with now := n } tk wt ws :=
  m.setK 0 (.int .i64 n) rfl rfl (by simp [kCells]) m.tks m.wts m.mss m.dTk m.dWt (fun g hg => (m.dSt g hg).2)
theorem Ln.Aux.other (a : Ln.Aux s tk wt) (n : Int) (l : List MissD) : Ln.Aux { s with now := n, missed := l } tk wt := ⟨⟨a.tk.perm, a.tk.ord, a.tk.bd, a.tk.aw⟩, ⟨a.wt.mem, a.wt.ord, a.wt.top⟩, fun u hu => by
    obtain ⟨k, hk⟩ := a.ch u hu
    refine ⟨k, ?_⟩
    have : ∀ k o, Ln.EndsIn s k o → Ln.EndsIn { s with now := n, missed := l } k o := by
      intro k o he
      induction he with
      | stop o h => exact .stop o h
      | step k o h r ih => exact .step k o h ih
    exact this k _ hk, a.n0⟩
theorem KFit.other (f : KFit s) (n : Int) (l : List MissD) : KFit { s with now := n, missed := l } := ⟨f.few, f.m8, f.ok.len, f.ok.own, f.ok.of1, f.ok.kind⟩
end

set_option maxRecDepth 100000 in
set_option maxHeartbeats 4000000 in
theorem cTick : CTick KPK := by
  intro Q w kb s k hnx
  obtain ⟨F, h, tk, wt, ws, m, a, hq, wkk, f, h8⟩ := k.open
  have g0 := k.inv.good.now0
  have g1 := k.inv.good.now1
  have g2 := k.inv.good.now2
  have c0 := m.blk.cell 0
  have z0 := m.blk.frozen 0
  simp [kCells] at c0
  by_cases hmax : s.now = 1000000000
  · have E1 : R.tickS s = s := by unfold R.tickS; rw [if_pos hmax]
    have E2 : R.tickE s = 8 := by unfold R.tickE; rw [if_pos hmax]
    have E3 : R.tickL s = [] := by unfold R.tickL; rw [if_pos hmax]
    rw [E1, E2, E3]
    rw [hmax] at c0
    have KK : Hid (KPK Q w kb s) := k
    clear E1 E2 E3 m a f hq wkk k
    go_enter Try.func61, Try.ntmps61
    go_wp2
    go_ret2
    exact ⟨_, Q, rfl, World.ownsRow_nil _ _ _ _, KK.out, fun b hb => .inl hb, fun b hb => (by cases hb), Turns.refl _ _⟩
  · have hlt : s.now < 1000000000 := by omega
    have E1 : R.tickS s = R.settle (R.release (R.ends { s with now := s.now + 1, missed := s.missed ++ R.late { s with now := s.now + 1 } })) := by unfold R.tickS; rw [if_neg hmax]; rfl
    have E2 : R.tickE s = 0 := by unfold R.tickE; rw [if_neg hmax]
    have E3 : R.tickL s = R.late { s with now := s.now + 1 } := by unfold R.tickL; rw [if_neg hmax]; rfl
    have hri := k.inv.tick hlt hnx
    have e0 : R.tick s = R.settle (R.release (R.ends { s with now := s.now + 1, missed := s.missed ++ R.late { s with now := s.now + 1 } })) := rfl
    rw [e0] at hri
    rw [E1, E2, E3]
    obtain ⟨LT, HLT⟩ : ∃ LT, Hid (R.late { s with now := s.now + 1 } = LT) := ⟨_, hid rfl⟩
    rw [HLT.out] at hri ⊢
    obtain ⟨s3, HS3⟩ : ∃ s3, Hid (R.ends { s with now := s.now + 1, missed := s.missed ++ LT } = s3) := ⟨_, hid rfl⟩
    rw [HS3.out] at hri ⊢
    obtain ⟨s4, HS4⟩ : ∃ s4, Hid (R.release s3 = s4) := ⟨_, hid rfl⟩
    rw [HS4.out] at hri ⊢
    have hthr : ∀ t (ht : t < s.T.length), RelOk { s with now := s.now + 1 } t s.T[t] := fun t ht => by
      have tok := k.inv.thr t ht
      have hc := k.inv.toRMid.code.ended t ht
      have ks := k.inv.toRMid.kset t ht
      refine ⟨?_, tok.e0, tok.e1, ?_⟩
      · show s.T[t].rel = R.relBy s.set t (s.now + 1 - 1)
        rw [show s.now + 1 - 1 = s.now by omega]
        exact tok.r0
      · have hb := relBy_bd (S := s.set) (t := t) (now := s.now) g0 (by omega) g2 ks.of.1 ks.pe.1
        rw [tok.r0]
        omega
    have hks : ∀ t, t < s.T.length → KSet { s with now := s.now + 1 } t := fun t ht => by
      have ks := k.inv.toRMid.kset t ht
      exact ⟨ks.st, ks.of, ks.pe, ks.dl⟩
    have hdp : ∀ t, t < s.T.length → (s.set.threads.getD t P3.none0).period ≠ 0 → (s.set.threads.getD t P3.none0).deadline ≤ (s.set.threads.getD t P3.none0).period := fun t ht => ok_dline k.inv.ok t (by have := k.inv.good.len; omega)
    have hmis : s.missed.length ≤ 16000000000 := by
      have := k.inv.mis
      omega
    have M1 := hid (m.setNow (s.now + 1))
    have HOLD : Hid (∀ b, KB F kb h b → b < w.heap.size) := KB.lt m
    have O1 : Hid (Only [kb] w (w.setCell ⟨kb, 0, none⟩ (.int .i64 (s.now + 1)))) := (Only.refl _ _).setCell (.inl (by simp)) _
    have hsz1 : w.heap.size = (w.setCell ⟨kb, 0, none⟩ (.int .i64 (s.now + 1))).heap.size := (setCell_size _ _ _).symm
    have FI := hid f
    have AX := hid a
    have HQ := hid hq
    have WKK := hid wkk
    have KK := hid k
    have HRI := hid hri
    have HTH := hid hthr
    have HKS := hid hks
    have HDP := hid hdp
    have hfew := f.few
    clear E1 E2 E3 m a f hq wkk k hri hthr hks hdp e0
    go_enter Try.func61, Try.ntmps61
    go_upto_region 4 with fail
    clear c0 z0
    generalize w.setCell ⟨kb, 0, none⟩ (.int .i64 (s.now + 1)) = w1 at *
    have LD := hid (kLookAtDeadlines_any M1.out hfew HTH.out HKS.out HDP.out hmis)
    rw [HLT.out] at LD
    go_wp2_with fail
    refine LD.out.mono ?_
    rintro e w2 ⟨v, h2, rfl, hr2, m2, o2, u2, hn2⟩
    obtain ⟨va, vc, rfl, _, _⟩ := owns_cells hr2
    have R2 := hid (show w2.ownsRow w.heap.size 82 3 (.slice va LT.length vc) LT.length (missCells LT) from by rw [hsz1]; exact hr2)
    have M2 := hid m2
    have U2 := hid u2
    have HN2 := hid hn2
    have hz2 := o2.size
    have O2 : Hid (Only (kb :: h.gT :: h.gW :: h.vMs.ownBlock.toList) w w2) := (O1.out.mono (fun b hb => by simp at hb; simp [hb])).trans (o2.mono (fun b hb => by simp at hb ⊢; rcases hb with h | h <;> simp [h]))
    have A2 := hid (AX.out.other (s.now + 1) (s.missed ++ LT))
    have F2 := hid (FI.out.other (s.now + 1) (s.missed ++ LT))
    have R2' := hid R2.out
    clear hr2 m2 o2 u2 hn2 LD
    have hgT : h.gT < w.heap.size := HOLD.out _ (.inr (.inr (.inl rfl)))
    have hgW : h.gW < w.heap.size := HOLD.out _ (.inr (.inr (.inr (.inr (.inl rfl)))))
    have hkb : kb < w.heap.size := HOLD.out _ (.inr (.inl rfl))
    have ED := hid (kEndDueWaits_any M2.out F2.out A2.out)
    have JB : Hid (∀ u, (R.th (R.ends { s with now := s.now + 1, missed := s.missed ++ LT }).T u).rel = (R.th s.T u).rel ∧ (R.th (R.ends { s with now := s.now + 1, missed := s.missed ++ LT }).T u).ended = (R.th s.T u).ended) := fun u => endsTo_jobs _ _ u
    have SE : Hid ((R.ends { s with now := s.now + 1, missed := s.missed ++ LT }).set = s.set ∧ (R.ends { s with now := s.now + 1, missed := s.missed ++ LT }).now = s.now + 1 ∧ (R.ends { s with now := s.now + 1, missed := s.missed ++ LT }).T.length = s.T.length) := by
      have := R.endsTo_set { s with now := s.now + 1, missed := s.missed ++ LT } s.T.length
      exact ⟨this.1, this.2.1, this.2.2.2.1⟩
    have KE : Hid (R.Keep s (R.ends { s with now := s.now + 1, missed := s.missed ++ LT })) := by
      have h1 : R.Keep s { s with now := s.now + 1, missed := s.missed ++ LT } := R.keep_same rfl
      exact h1.trans (keep_endsTo _ _)
    have F3 : Hid (KFit (R.ends { s with now := s.now + 1, missed := s.missed ++ LT })) := by
      rw [Ln.ends_all A2.out F2.out.ok]
      exact hid (F2.out.endAll _ (fun u hu => ((A2.out.wt.mem u).1 (List.mem_filter.1 hu).1).1))
    rw [HS3.out] at ED JB SE KE F3
    go_wp2_with fail
    refine ED.out.mono ?_
    rintro e w3 ⟨rfl, h3, tk3, wt3, m3, a3, o3, u3⟩
    have M3 := hid m3
    have A3 := hid a3
    have U3 := hid (U2.out.trans u3 (by omega))
    have U32 := hid u3
    have R3 := hid (o3.at R2.out (fun b hb => by simp [U2.out.gT] at hb; rcases hb with e | e <;> omega))
    have O3 := hid (O2.out.trans (o3.mono (fun b hb => by rw [U2.out.gT] at hb; simp at hb ⊢; rcases hb with h | h <;> simp [h])))
    have hz3 := o3.size
    clear m3 a3 o3 u3 ED R2 O2
    have RJ := hid (kReleaseJobs_any M3.out F3.out A3.out (fun t ht => by
        have ht' : t < s.T.length := by rw [← SE.out.2.2]; exact ht
        have h1 := HTH.out t ht'
        have hj := JB.out t
        rw [th_ext ht, th_ext ht'] at hj
        refine ⟨?_, ?_, ?_, ?_⟩
        · rw [hj.1, SE.out.1, SE.out.2.1]; exact h1.r0
        · rw [hj.2]; exact h1.e0
        · rw [hj.1, hj.2]; exact h1.e1
        · rw [hj.1]; exact h1.r1) (fun t ht => by
        have ks := HKS.out t (by rw [← SE.out.2.2]; exact ht)
        refine ⟨?_, ?_, ?_, ?_⟩ <;> rw [SE.out.1]
        · exact ks.st
        · exact ks.of
        · exact ks.pe
        · exact ks.dl))
    have KR := hid (KE.out.trans (keep_release s3))
    have SR : Hid ((R.release s3).set = s.set) := by
      have h1 : (R.release s3).set = s3.set := R.releaseTo_set _ _
      rw [h1]
      exact hid SE.out.1
    rw [HS4.out] at RJ KR SR
    go_wp2_with fail
    refine RJ.out.mono ?_
    rintro e w4 ⟨rfl, h4, tk4, m4, a4, f4, o4, u4⟩
    have M4 := hid m4
    have A4 := hid a4
    have F4 := hid f4
    have U4 := hid (U3.out.trans u4 (by omega))
    have U42 := hid (U32.out.trans u4 hz3)
    have R4 := hid (o4.at R3.out (fun b hb => by simp [U3.out.gT] at hb; rcases hb with e | e <;> omega))
    have O4 := hid (O3.out.trans (o4.mono (fun b hb => by rw [U3.out.gT] at hb; simp at hb ⊢; rcases hb with h | h <;> simp [h])))
    have hz4 := o4.size
    clear m4 a4 f4 o4 u4 RJ R3 O3
    have GO := hid (kGiveOut_any M4.out F4.out A4.out (RInv.unsettle HRI.out).2 h8)
    go_wp2_with fail
    refine GO.out.mono ?_
    rintro e w5 ⟨rfl, m5, o5⟩
    have M5 := hid m5
    have R5 := hid (o5.at R4.out (fun b hb => by simp [U4.out.gW] at hb; omega))
    have O5 := hid (O4.out.trans (o5.mono (fun b hb => by rw [U4.out.gW] at hb; simp at hb; simp [hb])))
    clear m5 o5 GO R4 O4
    go_wp2
    go_ret2
    have hs : s4.set.workers.toNat = s.set.workers.toNat := by rw [SR.out]
    refine ⟨_, KB F kb h4, rfl, R5.out, ⟨⟨_, ⟨⟨F, h4, tk4, wt3, M5.out.settle, A4.out.settle F4.out, fun _ hb => hb⟩, KB.lt M5.out⟩, ?_⟩, HRI.out⟩, fun b hb => ?_, fun b hb hk => ?_, Turns.of_only O5.out (fun b hb => ?_)⟩
    · exact Ln.seatAll_settle A4.out.tk (by rw [hs]; exact WkW.of_keep WKK.out KR.out.weak)
    · rcases U4.out.blocks b hb with h' | h'
      · exact .inl (HQ.out b h')
      · exact .inr (by omega)
    · have hge := (ownsRow_block R5.out hb).1
      have hty := own_typ R5.out hb
      rcases hk with hk | hk | hk | hk | hk | hk | hk | hk | hk
      · exact hty.ne (M5.out.ft b hk) (by decide) rfl
      · exact hty.ne M5.out.kT (by decide) hk
      · exact hty.ne M5.out.tT (by decide) hk
      · exact hty.ne M5.out.mT (by decide) hk
      · exact hty.ne M5.out.wT (by decide) hk
      · exact hty.ne (own_typ M5.out.tks hk) (by decide) rfl
      · exact hty.ne (own_typ M5.out.wts hk) (by decide) rfl
      · rcases U42.out.ms b hk with h' | h'
        · exact HN2.out b hb h'
        · have := (ownsRow_block R2'.out hb).2.1
          omega
      · rcases M5.out.st.typ hk with ht | ht | ht
        · exact hty.ne ht (by decide) rfl
        · exact hty.ne ht (by decide) rfl
        · exact hty.ne ht (by decide) rfl
    · simp at hb
      rcases hb with e | e | e | e
      · exact HQ.out b (.inr (.inl e))
      · exact HQ.out b (.inr (.inr (.inl e)))
      · exact HQ.out b (.inr (.inr (.inr (.inr (.inl e)))))
      · exact HQ.out b (.inr (.inr (.inr (.inr (.inr (.inr (.inr (.inl e))))))))

end Go.Proofs.Ytbkfildnijjioab

/-
  Package donatekeep: the world as plain data, and how it lies in memory.
-/
namespace Go.Proofs.Ytbkfildnijjioab
open Go.RowKit
/-- What can be seen of a thread (api.View). -/
structure VD where
  st : Int
  base : Int
  lv : Int
  at_ : Int
  last : Int
  got : Int
  rel : Int
  ended : Int
  for_ : Int
  of_ : Int
  until_ : Int
def vCells (v : VD) : List Value :=
  [.int .i64 v.st, .int .i64 v.base, .int .i64 v.lv, .int .i64 v.at_, .int .i64 v.last, .int .i64 v.got, .int .i64 v.rel, .int .i64 v.ended, .int .i64 v.for_, .int .i64 v.of_, .int .i64 v.until_]
def vAll (l : List VD) : List Value := l.flatMap vCells
theorem vAll_length (T : List VD) : (vAll T).length = T.length * 11 := by
  induction T with
  | nil => rfl
  | cons x T ih => simp only [vAll, List.flatMap_cons, List.length_append] at ih ⊢; rw [ih]; simp [vCells]; omega
theorem vAll_get (T : List VD) (i j : Nat) (hi : i < T.length) (hj : j < 11) : (vAll T)[i * 11 + j]? = (vCells T[i])[j]? := by
  induction T generalizing i with
  | nil => simp at hi
  | cons x T ih =>
    have hx : (vCells x).length = 11 := rfl
    cases i with
    | zero =>
      simp only [vAll, List.flatMap_cons, Nat.zero_mul, Nat.zero_add, List.getElem_cons_zero]
      rw [List.getElem?_append_left (by omega)]
    | succ i =>
      have := ih i (by simpa using hi)
      simp only [vAll, List.flatMap_cons, List.getElem_cons_succ] at this ⊢
      rw [List.getElem?_append_right (by omega), hx, show (i + 1) * 11 + j - 11 = i * 11 + j by omega]
      exact this
theorem vCells_one (x : VD) : ∀ u ∈ vCells x, u.oneCell' = true := by
  intro u hu
  simp [vCells] at hu
  rcases hu with rfl | rfl | rfl | rfl | rfl | rfl | rfl | rfl | rfl | rfl | rfl <;> rfl
theorem vAll_append (a b : List VD) : vAll (a ++ b) = vAll a ++ vAll b := by simp [vAll]
def v0 : VD := ⟨0, 0, 0, 0, 0, 0, 0, 0, 0, 0, 0⟩
/-- What is seen of a thread of the document's kernel. -/
def viewD (s : RS) (t : Nat) : VD :=
  ⟨R.stateOf (R.th s.T t), (R.th s.T t).base, R.Level s t, (R.th s.T t).at_, (R.th s.T t).last, (R.th s.T t).got, (R.th s.T t).rel, (R.th s.T t).ended, (R.th s.T t).for_, (R.th s.T t).of_, (R.th s.T t).until_⟩
def viewsD (s : RS) : List VD := (List.range s.T.length).map (viewD s)
theorem viewsD_length (s : RS) : (viewsD s).length = s.T.length := by simp [viewsD]
theorem viewsD_get (s : RS) (t : Nat) (h : t < (viewsD s).length) : (viewsD s)[t] = viewD s t := by simp [viewsD]
theorem lookV_viewD (s : RS) (t : Nat) (h : t < s.T.length) : R.lookV s (t : Int) = .agg (vCells (viewD s t)).toArray ∧ R.lookE s (t : Int) = 0 := by
  unfold R.lookV R.lookE
  have h1 : 0 ≤ (t : Int) ∧ (t : Int) < s.T.length := by omega
  rw [if_pos h1, if_pos h1]
  exact ⟨by simp [viewV, vCells, viewD], rfl⟩

/-- Addresses and capacities that the world's block holds. -/
structure WH where
  tv : Option Addr
  mv : Option Addr
  sv : Option Addr
  qv : Option Addr
  tc : Nat
  mc : Nat
  sc : Nat
  qc : Nat
  vB : Value
  vA : Value
  vE : Value
  vS : Value
  vV : Value
  vR : Value
  vW : Value
  vT : Value
/-- The world's data. -/
structure WD where
  set : SetD
  now : Int
  base : List Int
  at_ : List Int
  ended : List Int
  since : List Int
  views : List VD
  run : List Int
  was : List VD
  steps : Int
  tick : Bool
  who : Int
  i : InstrD
  code : Int
  told : List MissD
def wCells (kb : Nat) (h : WH) (d : WD) : Array Value :=
  #[.int .i64 d.set.workers, .int .i64 d.set.start, .slice h.tv d.set.threads.length h.tc, .slice h.mv d.set.mutexes.length h.mc, .slice h.sv d.set.sems.length h.sc, .slice h.qv d.set.queues.length h.qc,
    .pointer (some ⟨kb, 0, none⟩), .int .i64 d.now, h.vB, h.vA, h.vE, h.vS, h.vV, h.vR, h.vW, .int .i64 d.steps, .bool d.tick, .int .i64 d.who, .int .i64 d.i.op, .int .i64 d.i.a, .int .i64 d.i.b, .int .i64 d.code, h.vT]
/-- The world's own blocks. -/
def WB (wb : Nat) (h : WH) (b : Nat) : Prop :=
  b = wb ∨ h.vB.ownBlock = some b ∨ h.vA.ownBlock = some b ∨ h.vE.ownBlock = some b ∨ h.vS.ownBlock = some b ∨ h.vV.ownBlock = some b ∨ h.vR.ownBlock = some b ∨ h.vW.ownBlock = some b ∨ h.vT.ownBlock = some b
def AptV (a b : Value) : Prop := ∀ g, a.ownBlock = some g → b.ownBlock ≠ some g
theorem AptV.symm {a b : Value} (h : AptV a b) : AptV b a := fun g h1 h2 => h g h2 h1
/-- The lists of numbers lie apart. -/
structure WApart (h : WH) : Prop where
  ba : AptV h.vB h.vA
  be : AptV h.vB h.vE
  bs : AptV h.vB h.vS
  br : AptV h.vB h.vR
  ae : AptV h.vA h.vE
  as_ : AptV h.vA h.vS
  ar : AptV h.vA h.vR
  es : AptV h.vE h.vS
  er : AptV h.vE h.vR
  sr : AptV h.vS h.vR
/-- How the world lies in memory, from B on; its set lies below B. -/
structure WMem (B : Nat) (w : World) (wb kb : Nat) (h : WH) (d : WD) : Prop where
  blk : Blk w wb (wCells kb h d) 49
  set : SetIn B w h.tv h.mv h.sv h.qv d.set
  base : w.ownsRow B 3 1 h.vB d.base.length (intCells d.base)
  at_ : w.ownsRow B 3 1 h.vA d.at_.length (intCells d.at_)
  ended : w.ownsRow B 3 1 h.vE d.ended.length (intCells d.ended)
  since : w.ownsRow B 3 1 h.vS d.since.length (intCells d.since)
  views : w.ownsRow B 53 11 h.vV d.views.length (vAll d.views)
  run : w.ownsRow B 3 1 h.vR d.run.length (intCells d.run)
  was : w.ownsRow B 53 11 h.vW d.was.length (vAll d.was)
  told : w.ownsRow B 82 3 h.vT d.told.length (missCells d.told)
  apt : WApart h
  hb : B ≤ wb
section
variable {B : Nat} {w w' : World} {wb kb : Nat} {h : WH} {d : WD}
theorem WMem.frame (m : WMem B w wb kb h d) (hs : ∀ b, WB wb h b → w'.heap[b]? = w.heap[b]?) (hb : Below B w w') : WMem B w' wb kb h d := by
  refine ⟨?_, m.set.stays hb, ownsRow_same m.base fun g hg => hs g (by simp [WB, hg]), ownsRow_same m.at_ fun g hg => hs g (by simp [WB, hg]), ownsRow_same m.ended fun g hg => hs g (by simp [WB, hg]), ownsRow_same m.since fun g hg => hs g (by simp [WB, hg]), ownsRow_same m.views fun g hg => hs g (by simp [WB, hg]), ownsRow_same m.run fun g hg => hs g (by simp [WB, hg]), ownsRow_same m.was fun g hg => hs g (by simp [WB, hg]), ownsRow_same m.told fun g hg => hs g (by simp [WB, hg]), m.apt, m.hb⟩
  have h1 := m.blk
  unfold Blk at h1 ⊢
  rw [hs wb (.inl rfl)]
  exact h1
theorem WMem.lt (m : WMem B w wb kb h d) : ∀ b, WB wb h b → b < w.heap.size := by
  rintro b (rfl | hg | hg | hg | hg | hg | hg | hg | hg)
  · exact m.blk.lt
  · exact (ownsRow_block m.base hg).2.1
  · exact (ownsRow_block m.at_ hg).2.1
  · exact (ownsRow_block m.ended hg).2.1
  · exact (ownsRow_block m.since hg).2.1
  · exact (ownsRow_block m.views hg).2.1
  · exact (ownsRow_block m.run hg).2.1
  · exact (ownsRow_block m.was hg).2.1
  · exact (ownsRow_block m.told hg).2.1
theorem WMem.ge (m : WMem B w wb kb h d) : ∀ b, WB wb h b → B ≤ b := by
  rintro b (rfl | hg | hg | hg | hg | hg | hg | hg | hg)
  · exact m.hb
  · exact (ownsRow_block m.base hg).1
  · exact (ownsRow_block m.at_ hg).1
  · exact (ownsRow_block m.ended hg).1
  · exact (ownsRow_block m.since hg).1
  · exact (ownsRow_block m.views hg).1
  · exact (ownsRow_block m.run hg).1
  · exact (ownsRow_block m.was hg).1
  · exact (ownsRow_block m.told hg).1
theorem WMem.below (m : WMem B w wb kb h d) (hb : Below w.heap.size w w') : WMem B w' wb kb h d :=
  m.frame (fun b hw => hb.block b (m.lt b hw)) (hb.mono (Nat.le_of_lt (Nat.lt_of_le_of_lt m.hb m.blk.lt)))
theorem WMem.bsz (m : WMem B w wb kb h d) : B ≤ w.heap.size := Nat.le_of_lt (Nat.lt_of_le_of_lt m.hb m.blk.lt)
/-- The world's block is none of the lists'. -/
theorem WMem.wb_ne (m : WMem B w wb kb h d) {e : TypeId} {size n : Nat} {v : Value} {xs : List Value} (ho : w.ownsRow B e size v n xs) (he : e ≠ 49) : v.ownBlock ≠ some wb := by
  intro hg
  obtain ⟨_, _, cur, hc⟩ := ownsRow_block ho hg
  exact he (blk_type m.blk hc).symm
/-- A cell of the world's block is written: what its lists hold lies on. -/
theorem WMem.put (m : WMem B w wb kb h d) (j : Nat) (u : Value) (h' : WH) (d' : WD) (hc : (wCells kb h d).setIfInBounds j u = wCells kb h' d') (hs : d'.set = d.set ∧ h'.tv = h.tv ∧ h'.mv = h.mv ∧ h'.sv = h.sv ∧ h'.qv = h.qv)
    (r1 : h'.vB = h.vB ∧ d'.base = d.base) (r2 : h'.vA = h.vA ∧ d'.at_ = d.at_) (r3 : h'.vE = h.vE ∧ d'.ended = d.ended) (r4 : h'.vS = h.vS ∧ d'.since = d.since)
    (r5 : w.ownsRow B 53 11 h'.vV d'.views.length (vAll d'.views)) (r6 : w.ownsRow B 3 1 h'.vR d'.run.length (intCells d'.run)) (r7 : w.ownsRow B 53 11 h'.vW d'.was.length (vAll d'.was)) (r8 : w.ownsRow B 82 3 h'.vT d'.told.length (missCells d'.told)) (ha : WApart h') :
    WMem B (w.setCell ⟨wb, j, none⟩ u) wb kb h' d' := by
  have keep : ∀ {e : TypeId} {size n : Nat} {v : Value} {xs : List Value}, w.ownsRow B e size v n xs → e ≠ 49 → (w.setCell ⟨wb, j, none⟩ u).ownsRow B e size v n xs := by
    intro e size n v xs ho he
    refine ownsRow_same ho fun g hg => Below.heap_setCell _ _ _ _ (fun e' => ?_)
    have e2 : g = wb := e'
    subst e2
    exact m.wb_ne ho he hg
  refine ⟨?_, ?_, ?_, ?_, ?_, ?_, keep r5 (by decide), keep r6 (by decide), keep r7 (by decide), keep r8 (by decide), ha, m.hb⟩
  · have := m.blk.set j u
    rw [hc] at this
    exact this
  · rw [hs.1, hs.2.1, hs.2.2.1, hs.2.2.2.1, hs.2.2.2.2]
    exact m.set.stays ((Below.refl B w).setCell (p := ⟨wb, j, none⟩) m.hb u)
  · rw [r1.1, r1.2]; exact keep m.base (by decide)
  · rw [r2.1, r2.2]; exact keep m.at_ (by decide)
  · rw [r3.1, r3.2]; exact keep m.ended (by decide)
  · rw [r4.1, r4.2]; exact keep m.since (by decide)
end
end Go.Proofs.Ytbkfildnijjioab

/-
  Walks over package donatekeep: due, fetch.
-/
namespace Go.Proofs.Ytbkfildnijjioab
open Go.RowKit
theorem Try.infoView : (Try.prog.info? 53).map (fun i => (i.zero, i.size, i.bytes)) = some (some (.agg #[.int .i64 0, .int .i64 0, .int .i64 0, .int .i64 0, .int .i64 0, .int .i64 0, .int .i64 0, .int .i64 0, .int .i64 0, .int .i64 0, .int .i64 0]), 11, 88) := by kernel_rfl
/-- What the program promises of all its calls, and what holds of its kernels. -/
structure CAll (PK : KP) : Prop where
  fr : KFrame PK
  now : CNow PK
  run : CRunning PK
  look : CLook PK
  own : COwner PK
  wait : CWaiting PK
  cnt : CCount PK
  msg : CMessages PK
  mis : CMisses PK
  pick : CPick PK
  tick : CTick PK
  inv : ∀ {Q : Nat → Prop} {w : World} {kb : Nat} {s : RS}, PK Q w kb s → RInv s
  aux : ∀ {Q : Nat → Prop} {w : World} {kb : Nat} {s : RS}, PK Q w kb s → ∃ ws tk wt, Ln.Wk s.set.workers.toNat ws s.T ∧ Ln.Aux s tk wt
/-- The world lies in memory, and its kernel stands for s. -/
structure KW (PK : KP) (B : Nat) (w : World) (wb kb : Nat) (P : Nat → Prop) (h : WH) (d : WD) (s : RS) : Prop where
  m : WMem B w wb kb h d
  pk : PK P w kb s
  hp : ∀ b, P b → B ≤ b
  np : ∀ b, P b → ¬ WB wb h b
section
variable {PK : KP} {B : Nat} {w w' : World} {wb kb : Nat} {P : Nat → Prop} {h : WH} {d : WD} {s : RS}
theorem KW.below (f : KFrame PK) (k : KW PK B w wb kb P h d s) (hb : Below w.heap.size w w') : KW PK B w' wb kb P h d s := ⟨k.m.below hb, f.below k.pk hb, k.hp, k.np⟩
/-- What is known of a set's thread, of time. -/
structure DueOk (S : SetD) (now : Int) : Prop where
  n0 : 0 ≤ S.start
  n1 : S.start ≤ now
  n2 : now ≤ 1000000000
  off : ∀ t ∈ S.threads, 0 ≤ t.offset ∧ t.offset ≤ 1000 ∧ 0 ≤ t.period ∧ t.period ≤ 1000 ∧ 0 ≤ t.deadline ∧ t.deadline ≤ 1000
  few : S.threads.length ≤ 16
theorem RInv.due (i : RInv s) : DueOk s.set s.now := ⟨i.good.now0, i.good.now1, i.good.now2, i.good.off, by have := i.good.len; have := i.good.few; omega⟩
set_option maxHeartbeats 1000000 in
theorem wDue_any (m : WMem B w wb kb h d) (g : DueOk d.set d.now) (t : Nat) (ht : t < d.set.threads.length) :
    Calls Try.prog 59 #[.pointer (some ⟨wb, 0, none⟩), .int .i64 t] w fun e w' => e = .returned (.int .i64 (R.relBy d.set t d.now)) ∧ Below w.heap.size w w' := by
  have c1 := m.blk.cell 1
  have c2 := m.blk.cell 2
  have c7 := m.blk.cell 7
  simp [wCells] at c1 c2 c7
  obtain ⟨b, o, cv, cc, ha, hlt, a0, a1, a2, a3, a4, _, _⟩ := m.set.threads t ht
  rw [ha] at c2
  have hbz := m.bsz
  have hfew := g.few
  have ho := g.off d.set.threads[t] (List.getElem_mem ht)
  have hg0 := g.n0
  have hg1 := g.n1
  have hg2 := g.n2
  have ER : Hid (R.relBy d.set t d.now = if d.now - d.set.start - d.set.threads[t].offset < 0 then 0 else if d.set.threads[t].period = 0 then 1 else (d.now - d.set.start - d.set.threads[t].offset) / d.set.threads[t].period + 1) := by
    refine hid ?_
    unfold R.relBy
    have e : d.set.threads.getD t P3.none0 = d.set.threads[t] := by simp [List.getD, ht]
    rw [e]
  generalize R.relBy d.set t d.now = rr at *
  generalize d.set.threads[t] = th at *
  have hltI : (t : Int) < (d.set.threads.length : Int) := by omega
  have M := hid m
  clear m ha
  go_enter Try.func59, Try.ntmps59
  go_upto_region 2 with fail
  have hbA : Below w.heap.size w (w.alloc (.cells #[.int .i64 th.base, .int .i64 th.offset, .int .i64 th.period, .int .i64 th.deadline, .slice cv th.code.length cc] 75)) := (Below.refl _ _).alloc (Nat.le_refl _) _
  have bA := Blk.new w #[.int .i64 th.base, .int .i64 th.offset, .int .i64 th.period, .int .i64 th.deadline, .slice cv th.code.length cc] 75
  generalize w.alloc (.cells #[.int .i64 th.base, .int .i64 th.offset, .int .i64 th.period, .int .i64 th.deadline, .slice cv th.code.length cc] 75) = wA at hbA bA ⊢
  have HB := hid hbA
  have MA := M.out.below hbA
  have c1 := MA.blk.cell 1
  have c7 := MA.blk.cell 7
  simp [wCells] at c1 c7
  have x1 := bA.cell 1
  have x2 := bA.cell 2
  simp at x1 x2
  clear hbA bA MA a0 a1 a2 a3 a4 c2
  by_cases hneg : d.now - d.set.start - th.offset < 0
  · have ER' := ER.out
    rw [if_pos hneg] at ER'
    subst ER'
    go_quiet (fail)
    go_wp2
    go_ret
    exact ⟨rfl, bdrewN HB.out _⟩
  · have hneg' : (decide (d.now - d.set.start - th.offset < 0)) = false := by simpa using hneg
    by_cases hp : th.period = 0
    · have ER' := ER.out
      rw [if_neg hneg, if_pos hp] at ER'
      subst ER'
      go_quiet (fail)
      go_wp2
      go_ret
      exact ⟨rfl, bdrewN HB.out _⟩
    · have hp' : (th.period == 0) = false := by simpa using hp
      have ER' := ER.out
      rw [if_neg hneg, if_neg hp] at ER'
      have h3 := Int.ediv_nonneg (a := d.now - d.set.start - th.offset) (b := th.period) (by omega) ho.2.2.1
      have h4 := Int.ediv_le_self (a := d.now - d.set.start - th.offset) th.period (by omega)
      go_quiet (fail)
      go_wp2
      go_ret
      exact ⟨rfl, bdrewN HB.out _⟩

/-- The instruction at a place of a code. -/
def codeAt (S : SetD) (t n : Nat) : InstrD := ((S.threads.getD t P3.none0).code)[n]?.getD ⟨0, 0, 0⟩
set_option maxRecDepth 100000 in
set_option maxHeartbeats 1000000 in
theorem wFetch_any (m : WMem B w wb kb h d) (t : Nat) (ht : t < d.set.threads.length) (n : Nat) :
    Calls Try.prog 86 #[.pointer (some ⟨wb, 0, none⟩), .int .i64 t, .int .i64 n] w fun e w' => e = .returned (.agg #[.int .i64 (codeAt d.set t n).op, .int .i64 (codeAt d.set t n).a, .int .i64 (codeAt d.set t n).b]) ∧ Below w.heap.size w w' := by
  have c2 := m.blk.cell 2
  simp [wCells] at c2
  obtain ⟨b, o, cv, cc, ha, hlt, a0, a1, a2, a3, a4, hci, _⟩ := m.set.threads t ht
  rw [ha] at c2
  have hbz := m.bsz
  have EC : Hid (codeAt d.set t n = (d.set.threads[t].code)[n]?.getD ⟨0, 0, 0⟩) := by
    refine hid ?_
    unfold codeAt
    simp [List.getD, ht]
  generalize codeAt d.set t n = ii at *
  generalize d.set.threads[t] = th at *
  have hltI : (t : Int) < (d.set.threads.length : Int) := by omega
  have hwl := m.blk.lt
  have M := hid m
  have HCI := hid hci
  have HA := hid ha
  clear m ha hci
  go_enter Try.func86, Try.ntmps86
  go_upto_region 1 with fail
  have hbA : Below w.heap.size w (w.alloc (.cells #[.int .i64 0, .int .i64 0, .int .i64 0] 46)) := (Below.refl _ _).alloc (Nat.le_refl _) _
  have bA := Blk.new w #[.int .i64 0, .int .i64 0, .int .i64 0] 46
  have hszA : (w.alloc (.cells #[.int .i64 0, .int .i64 0, .int .i64 0] 46)).heap.size = w.heap.size + 1 := by simp
  generalize w.alloc (.cells #[.int .i64 0, .int .i64 0, .int .i64 0] 46) = wA at hbA bA hszA ⊢
  have HB := hid hbA
  have c2 := (M.out.below hbA).blk.cell 2
  simp [wCells] at c2
  rw [HA.out] at c2
  have a4 := (hbA.cell (p := ⟨b, o + t * 5 + 4, none⟩) (by simp; omega)).trans a4
  have z0 := bA.frozen 0
  have z1 := bA.frozen 1
  have z2 := bA.frozen 2
  have x0 := bA.cell 0
  have x1 := bA.cell 1
  have x2 := bA.cell 2
  simp at x0 x1 x2
  by_cases hl : n < th.code.length
  · obtain ⟨b2, o2, rfl, hlt2, y0, y1, y2⟩ := HCI.out n hl
    have y0 := (hbA.cell (p := ⟨b2, o2 + n * 3, none⟩) (by simp; omega)).trans y0
    have y1 := (hbA.cell (p := ⟨b2, o2 + n * 3 + 1, none⟩) (by simp; omega)).trans y1
    have y2 := (hbA.cell (p := ⟨b2, o2 + n * 3 + 2, none⟩) (by simp; omega)).trans y2
    have e : ii = th.code[n] := by rw [EC.out]; simp [hl]
    have E := hid e
    have hlI : (n : Int) < (th.code.length : Int) := by omega
    generalize th.code[n] = jj at *
    clear a0 a1 a2 a3 hbA bA
    go_wp2
    refine bodyPost_ret (v := .agg #[.int .i64 jj.op, .int .i64 jj.a, .int .i64 jj.b]) ?_ rfl ⟨by rw [E.out], ?_⟩
    · simp [results, Try.results86, go_sem, x0, x1, x2]
    · iterate 3 refine Below.setCell ?_ (by simp) _
      exact HB.out
  · have e : ii = ⟨0, 0, 0⟩ := by rw [EC.out]; simp [hl]
    have E := hid e
    have hlI : (th.code.length : Int) ≤ (n : Int) := by omega
    clear a0 a1 a2 a3 hbA bA
    go_wp2
    refine bodyPost_ret (v := .agg #[.int .i64 0, .int .i64 0, .int .i64 0]) ?_ rfl ⟨by rw [E.out], ?_⟩
    · simp [results, Try.results86, go_sem, x0, x1, x2]
    · iterate 3 refine Below.setCell ?_ (by simp) _
      exact HB.out
end
end Go.Proofs.Ytbkfildnijjioab

/-
  All that donatekeep's statements ask of this program.
-/
namespace Go.Proofs.Ytbkfildnijjioab
theorem cAll : CAll KPK where
  fr := kframe
  now := cNow
  run := cRunning
  look := cLook
  own := cOwner
  wait := cWaiting
  cnt := cCount
  msg := cMessages
  mis := cMisses
  pick := cPick
  tick := cTick
  inv := fun k => k.inv
  aux := fun k => by
    obtain ⟨F, h, tk, wt, ws, _, a, _, k2, _⟩ := k.open
    exact ⟨ws, tk, wt, k2, a⟩
end Go.Proofs.Ytbkfildnijjioab

/-
  The world in memory: what is laid into its block.
-/
namespace Go.Proofs.Ytbkfildnijjioab
open Go.RowKit
section
variable {PK : KP} {B : Nat} {w w' : World} {wb kb : Nat} {P : Nat → Prop} {h : WH} {d : WD} {s : RS}
theorem KW.put (f : KFrame PK) (k : KW PK B w wb kb P h d s) (j : Nat) (u : Value) {h' : WH} {d' : WD} (m' : WMem B (w.setCell ⟨wb, j, none⟩ u) wb kb h' d') (hw : ∀ b, WB wb h' b → WB wb h b ∨ ¬ P b) : KW PK B (w.setCell ⟨wb, j, none⟩ u) wb kb P h' d' s := by
  refine ⟨m', f.frame k.pk (fun b hb => Below.heap_setCell _ _ _ _ (fun e => ?_)) (by simp [World.setCell]), k.hp, fun b hb hc => ?_⟩
  · have e' : b = wb := e
    exact k.np b hb (.inl e')
  · rcases hw b hc with h1 | h1
    · exact k.np b hb h1
    · exact h1 hb
theorem WApart.run {h' : WH} (a : WApart h) (hB : h'.vB = h.vB) (hA : h'.vA = h.vA) (hE : h'.vE = h.vE) (hS : h'.vS = h.vS) (h1 : AptV h.vB h'.vR) (h2 : AptV h.vA h'.vR) (h3 : AptV h.vE h'.vR) (h4 : AptV h.vS h'.vR) : WApart h' := by
  refine ⟨?_, ?_, ?_, ?_, ?_, ?_, ?_, ?_, ?_, ?_⟩
  · rw [hB, hA]; exact a.ba
  · rw [hB, hE]; exact a.be
  · rw [hB, hS]; exact a.bs
  · rw [hB]; exact h1
  · rw [hA, hE]; exact a.ae
  · rw [hA, hS]; exact a.as_
  · rw [hA]; exact h2
  · rw [hE, hS]; exact a.es
  · rw [hE]; exact h3
  · rw [hS]; exact h4
theorem WB.cases {wb : Nat} {h h' : WH} {v : Value} {b : Nat} (hb : WB wb h' b) (h1 : h'.vB = h.vB) (h2 : h'.vA = h.vA) (h3 : h'.vE = h.vE) (h4 : h'.vS = h.vS) (h5 : h'.vV = h.vV ∨ h'.vV = v) (h6 : h'.vR = h.vR ∨ h'.vR = v) (h7 : h'.vW = h.vW ∨ h'.vW = v) (h8 : h'.vT = h.vT ∨ h'.vT = v) : WB wb h b ∨ v.ownBlock = some b := by
  unfold WB at hb ⊢
  rw [h1, h2, h3, h4] at hb
  rcases hb with e | e | e | e | e | e | e | e | e
  · exact .inl (.inl e)
  · exact .inl (.inr (.inl e))
  · exact .inl (.inr (.inr (.inl e)))
  · exact .inl (.inr (.inr (.inr (.inl e))))
  · exact .inl (.inr (.inr (.inr (.inr (.inl e)))))
  · rcases h5 with h5 | h5 <;> rw [h5] at e
    · exact .inl (.inr (.inr (.inr (.inr (.inr (.inl e))))))
    · exact .inr e
  · rcases h6 with h6 | h6 <;> rw [h6] at e
    · exact .inl (.inr (.inr (.inr (.inr (.inr (.inr (.inl e)))))))
    · exact .inr e
  · rcases h7 with h7 | h7 <;> rw [h7] at e
    · exact .inl (.inr (.inr (.inr (.inr (.inr (.inr (.inr (.inl e))))))))
    · exact .inr e
  · rcases h8 with h8 | h8 <;> rw [h8] at e
    · exact .inl (.inr (.inr (.inr (.inr (.inr (.inr (.inr (.inr e))))))))
    · exact .inr e
theorem KW.setWas (f : KFrame PK) (k : KW PK B w wb kb P h d s) : ∃ h', KW PK B (w.setCell ⟨wb, 14, none⟩ h.vV) wb kb P h' { d with was := d.views } s := by
  refine ⟨{ h with vW := h.vV }, k.put f 14 h.vV (k.m.put 14 h.vV _ _ (by simp [wCells]) ⟨rfl, rfl, rfl, rfl, rfl⟩ ⟨rfl, rfl⟩ ⟨rfl, rfl⟩ ⟨rfl, rfl⟩ ⟨rfl, rfl⟩ k.m.views k.m.run k.m.views k.m.told (k.m.apt.run rfl rfl rfl rfl k.m.apt.br k.m.apt.ar k.m.apt.er k.m.apt.sr)) fun b hb => .inl ?_⟩
  rcases hb.cases (h := h) (v := h.vV) rfl rfl rfl rfl (.inl rfl) (.inl rfl) (.inr rfl) (.inl rfl) with e | e
  · exact e
  · exact .inr (.inr (.inr (.inr (.inr (.inl e)))))
theorem KW.setViews (f : KFrame PK) (k : KW PK B w wb kb P h d s) {v : Value} {l : List VD} (hr : w.ownsRow B 53 11 v l.length (vAll l)) (hp : ∀ g, v.ownBlock = some g → ¬ P g) : ∃ h', KW PK B (w.setCell ⟨wb, 12, none⟩ v) wb kb P h' { d with views := l } s := by
  refine ⟨{ h with vV := v }, k.put f 12 v (k.m.put 12 v _ _ (by simp [wCells]) ⟨rfl, rfl, rfl, rfl, rfl⟩ ⟨rfl, rfl⟩ ⟨rfl, rfl⟩ ⟨rfl, rfl⟩ ⟨rfl, rfl⟩ hr k.m.run k.m.was k.m.told (k.m.apt.run rfl rfl rfl rfl k.m.apt.br k.m.apt.ar k.m.apt.er k.m.apt.sr)) fun b hb => ?_⟩
  rcases hb.cases (h := h) (v := v) rfl rfl rfl rfl (.inr rfl) (.inl rfl) (.inl rfl) (.inl rfl) with e | e
  · exact .inl e
  · exact .inr (hp b e)
theorem KW.setRun (f : KFrame PK) (k : KW PK B w wb kb P h d s) {v : Value} {l : List Int} (hr : w.ownsRow B 3 1 v l.length (intCells l)) (hp : ∀ g, v.ownBlock = some g → ¬ P g ∧ ¬ WB wb h g) : ∃ h', KW PK B (w.setCell ⟨wb, 13, none⟩ v) wb kb P h' { d with run := l } s := by
  refine ⟨{ h with vR := v }, k.put f 13 v (k.m.put 13 v _ _ (by simp [wCells]) ⟨rfl, rfl, rfl, rfl, rfl⟩ ⟨rfl, rfl⟩ ⟨rfl, rfl⟩ ⟨rfl, rfl⟩ ⟨rfl, rfl⟩ k.m.views hr k.m.was k.m.told (k.m.apt.run rfl rfl rfl rfl ?_ ?_ ?_ ?_)) fun b hb => ?_⟩
  · exact fun g h1 h2 => (hp g h2).2 (.inr (.inl h1))
  · exact fun g h1 h2 => (hp g h2).2 (.inr (.inr (.inl h1)))
  · exact fun g h1 h2 => (hp g h2).2 (.inr (.inr (.inr (.inl h1))))
  · exact fun g h1 h2 => (hp g h2).2 (.inr (.inr (.inr (.inr (.inl h1)))))
  rcases hb.cases (h := h) (v := v) rfl rfl rfl rfl (.inl rfl) (.inr rfl) (.inl rfl) (.inl rfl) with e | e
  · exact .inl e
  · exact .inr (hp b e).1
theorem KW.setTold (f : KFrame PK) (k : KW PK B w wb kb P h d s) {v : Value} {l : List MissD} (hr : w.ownsRow B 82 3 v l.length (missCells l)) (hp : ∀ g, v.ownBlock = some g → ¬ P g) : ∃ h', KW PK B (w.setCell ⟨wb, 22, none⟩ v) wb kb P h' { d with told := l } s := by
  refine ⟨{ h with vT := v }, k.put f 22 v (k.m.put 22 v _ _ (by simp [wCells]) ⟨rfl, rfl, rfl, rfl, rfl⟩ ⟨rfl, rfl⟩ ⟨rfl, rfl⟩ ⟨rfl, rfl⟩ ⟨rfl, rfl⟩ k.m.views k.m.run k.m.was hr (k.m.apt.run rfl rfl rfl rfl k.m.apt.br k.m.apt.ar k.m.apt.er k.m.apt.sr)) fun b hb => ?_⟩
  rcases hb.cases (h := h) (v := v) rfl rfl rfl rfl (.inl rfl) (.inl rfl) (.inl rfl) (.inr rfl) with e | e
  · exact .inl e
  · exact .inr (hp b e)
/-- A cell that holds no list. -/
theorem KW.setOne (f : KFrame PK) (k : KW PK B w wb kb P h d s) (j : Nat) (u : Value) (d' : WD) (hc : (wCells kb h d).setIfInBounds j u = wCells kb h d') (h1 : d'.set = d.set) (h2 : d'.base = d.base) (h3 : d'.at_ = d.at_) (h4 : d'.ended = d.ended) (h5 : d'.since = d.since) (h6 : d'.views = d.views) (h7 : d'.run = d.run) (h8 : d'.was = d.was) (h9 : d'.told = d.told) : KW PK B (w.setCell ⟨wb, j, none⟩ u) wb kb P h d' s := by
  refine k.put f j u (k.m.put j u _ _ hc ⟨h1, rfl, rfl, rfl, rfl⟩ ⟨rfl, h2⟩ ⟨rfl, h3⟩ ⟨rfl, h4⟩ ⟨rfl, h5⟩ ?_ ?_ ?_ ?_ k.m.apt) fun b hb => .inl hb
  · rw [h6]; exact k.m.views
  · rw [h7]; exact k.m.run
  · rw [h8]; exact k.m.was
  · rw [h9]; exact k.m.told
end
end Go.Proofs.Ytbkfildnijjioab
