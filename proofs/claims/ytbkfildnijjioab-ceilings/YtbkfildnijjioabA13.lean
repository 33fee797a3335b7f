import Derived.Test.YtbkfildnijjioabA12
import Derived.Test.YtbkfildnijjioabA09
/-
  Walks over package donate: a step.
-/
namespace Go.Proofs.Ytbkfildnijjioab
open Go.RowKit

section
variable {F : Nat → Prop} {w w' : World} {kb : Nat} {h : KH} {s : RS} {tk wt : List Nat} {ws : List Int}

set_option maxRecDepth 100000 in
set_option maxHeartbeats 2000000 in
theorem kNextInstr_any (m : KMem F w kb h s tk wt ws) (t : Nat) (ht : t < s.T.length) (_hfew : s.T.length ≤ 16) (ha0 : 0 ≤ s.T[t].at_) (_hc32 : (s.set.threads.getD t P3.none0).code.length ≤ 32) :
    Calls Try.prog 106 #[.pointer (some ⟨kb, 0, none⟩), .int .i64 t] w fun e w' => e = .returned (.agg #[.int .i64 (R.instrAt s t).op, .int .i64 (R.instrAt s t).a, .int .i64 (R.instrAt s t).b]) ∧ Below w.heap.size w w' := by
  have hbA : Below w.heap.size w (w.alloc (.cells #[.int .i64 0, .int .i64 0, .int .i64 0] 46)) := (Below.refl _ _).alloc (Nat.le_refl _) _
  have XA := Blk.new w #[.int .i64 0, .int .i64 0, .int .i64 0] 46
  have EI : Hid (R.instrAt s t = ((s.set.threads.getD t P3.none0).code)[s.T[t].at_.toNat]?.getD ⟨0, 0, 0⟩) := by
    unfold R.instrAt
    rw [th_ext ht]
    exact hid rfl
  have M := hid m
  clear m
  generalize R.instrAt s t = ii at *
  go_enter Try.func106, Try.ntmps106
  go_upto_region 1 with fail
  generalize w.alloc (.cells #[.int .i64 0, .int .i64 0, .int .i64 0] 46) = wA at hbA XA ⊢
  have MA := hid (M.out.below hbA)
  have HBA := hid hbA
  have HXA := hid XA
  clear XA hbA
  have c1 := MA.out.blk.cell 1
  simp [kCells] at c1
  obtain ⟨cv, cc, hcs, hcode⟩ := MA.out.codes t ht
  have a0 := MA.out.tcell ht 0 (by decide)
  have a5 := MA.out.tcell ht 5 (by decide)
  rw [hcs] at a0
  simp [ktCells] at a5
  simp only [ktCells] at a0
  have x0 := HXA.out.cell 0
  have x1 := HXA.out.cell 1
  have x2 := HXA.out.cell 2
  simp at x0 x1 x2
  have z0 := HXA.out.frozen 0
  have z1 := HXA.out.frozen 1
  have z2 := HXA.out.frozen 2
  have hxl := HXA.out.lt
  have htI : (t : Int) < (s.T.length : Int) := by omega
  have HCODE := hid hcode
  clear hcs hcode
  generalize s.T[t].at_ = at_ at *
  generalize (s.set.threads.getD t P3.none0).code = C at *
  simp at a0
  obtain ⟨k, rfl⟩ := Int.eq_ofNat_of_zero_le ha0
  have ek : Int.toNat (k : Int) = k := by omega
  rw [ek] at EI
  by_cases hin : k < C.length
  · obtain ⟨b, o, ha, hF, y0, y1, y2⟩ := HCODE.out k hin
    subst ha
    have HE : Hid (ii = C[k]) := by rw [EI.out]; exact hid (by simp [hin])
    have hkI : (k : Int) < (C.length : Int) := by omega
    generalize C[k] = x at *
    go_wp2
    refine bodyPost_ret (v := .agg #[.int .i64 x.op, .int .i64 x.a, .int .i64 x.b]) ?_ rfl ⟨by rw [HE.out], ?_⟩
    · simp [results, Try.results106, go_sem, x0, x1, x2]
    · iterate 3 refine Below.setCell ?_ (by simp) _
      exact HBA.out
  · have HE : Hid (ii = ⟨0, 0, 0⟩) := by rw [EI.out]; exact hid (by simp [show C.length ≤ k by omega])
    have hge : (C.length : Int) ≤ (k : Int) := by omega
    go_wp2
    refine bodyPost_ret (v := .agg #[.int .i64 0, .int .i64 0, .int .i64 0]) ?_ rfl ⟨by rw [HE.out], ?_⟩
    · simp [results, Try.results106, go_sem, x0, x1, x2]
    · iterate 3 refine Below.setCell ?_ (by simp) _
      exact HBA.out

set_option maxHeartbeats 1000000 in
theorem kJumpWhen_any (m : KMem F w kb h s tk wt ws) (t : Nat) (ht : t < s.T.length) (_hfew : s.T.length ≤ 16) (la pl : Int) (ha0 : 0 ≤ s.T[t].at_ ∧ s.T[t].at_ ≤ 1000) :
    Calls Try.prog 108 #[.pointer (some ⟨kb, 0, none⟩), .int .i64 t, .int .i64 la, .int .i64 pl] w fun e w' => e = .returned (.tuple #[]) ∧ ∃ h', KMem F w' kb h' (if s.T[t].last = la then R.toAt s t pl else R.toAt s t (s.T[t].at_ + 1)) tk wt ws ∧ Only [kb, h.gT] w w' ∧ KUp w h h' := by
  have c1 := m.blk.cell 1
  simp [kCells] at c1
  have a5 := m.tcell ht 5 (by decide)
  have a6 := m.tcell ht 6 (by decide)
  simp [ktCells] at a5 a6
  have f5 := m.tfrozen (t * 13 + 5)
  have htI : (t : Int) < (s.T.length : Int) := by omega
  have SET := hid (fun v : Int => m.setT' ht (j := 5) (by decide) (.int .i64 v) (fun x => { x with at_ := v }) (ktCells_at _ _ _ _ _))
  have ONL : Hid (∀ v, Only [kb, h.gT] w (w.setCell ⟨h.gT, t * 13 + 5, none⟩ v)) := fun v => (Only.refl _ _).setCell (.inl (by simp)) v
  obtain ⟨h0, h1⟩ := ha0
  clear m
  generalize s.T[t].last = ls at *
  generalize s.T[t].at_ = at_ at *
  by_cases hl : ls = la
  · simp only [if_pos hl]
    subst hl
    obtain ⟨h2, m2, u2⟩ := SET.out pl
    have M2 := hid m2
    have U2 := hid u2
    clear m2 u2
    go_enter Try.func108, Try.ntmps108
    go_wp2
    (try simp only [Exit.inBlock, Exit.then])
    refine bodyPost_ret (results_none rfl _ _ _) rfl ?_
    exact ⟨rfl, h2, M2.out, ONL.out _, U2.out⟩
  · simp only [if_neg hl]
    have hl' : (ls == la) = false := by simpa using hl
    obtain ⟨h2, m2, u2⟩ := SET.out (at_ + 1)
    have M2 := hid m2
    have U2 := hid u2
    clear m2 u2
    go_enter Try.func108, Try.ntmps108
    go_wp2
    go_end0
    exact ⟨rfl, h2, M2.out, ONL.out _, U2.out⟩

/-- The job's end is laid down. -/
theorem KMem.setEnd (m : KMem F w kb h s tk wt ws) {t : Nat} (ht : t < s.T.length) : ∃ h', KMem F (((w.setCell ⟨h.gT, t * 13 + 9, none⟩ (.int .i64 (s.T[t].ended + 1))).setCell ⟨h.gT, t * 13 + 5, none⟩ (.int .i64 0)).setCell ⟨h.gT, t * 13 + 6, none⟩ (.int .i64 0)) kb h' (R.stop0 s t) tk wt ws ∧ KUp w h h' := by
  obtain ⟨h1, m1, u1⟩ := m.setT' ht (j := 9) (by decide) (.int .i64 (s.T[t].ended + 1)) (fun x => { x with ended := s.T[t].ended + 1 }) (ktCells_ended _ _ _ _ _)
  obtain ⟨h2, m2, u2⟩ := m1.setT' (t := t) (by simpa using ht) (j := 5) (by decide) (.int .i64 0) (fun x => { x with at_ := 0 }) (ktCells_at _ _ _ _ _)
  obtain ⟨h3, m3, u3⟩ := m2.setT' (t := t) (by simpa using ht) (j := 6) (by decide) (.int .i64 0) (fun x => { x with last := 0 }) (ktCells_last _ _ _ _ _)
  dsimp only at m3
  rw [u2.gT, u1.gT] at m3
  refine ⟨h3, ?_, (u1.trans u2 (setCell_sz _ _ _)).trans u3 (Nat.le_trans (setCell_sz _ _ _) (setCell_sz _ _ _))⟩
  refine m3.cong rfl rfl (by simp [R.stop0]) rfl rfl rfl rfl (fun i hi => ?_)
  simp only [R.stop0, List.getElem_modify]
  by_cases e : t = i
  · subst e
    simp only [if_pos]
  · simp only [if_neg e]
/-- What puts a thread to sleep is not seen in the memory. -/
theorem KMem.asleep (m : KMem F w kb h s tk wt ws) (t : Nat) : KMem F w kb h (R.asleep s t) tk wt ws := by
  refine m.cong rfl rfl (by simp [R.asleep]) rfl rfl rfl rfl (fun i hi => ?_)
  simp only [R.asleep, List.getElem_modify]
  by_cases e : t = i
  · simp only [if_pos e]
    rfl
  · simp only [if_neg e]

set_option maxHeartbeats 1000000 in
theorem kEndJob_any (m : KMem F w kb h s tk wt ws) (f : KFit s) (a : Ln.Aux s tk wt) (t : Nat) (ht : t < s.T.length) (he : 0 ≤ s.T[t].ended ∧ s.T[t].ended ≤ 2000000000) :
    Calls Try.prog 107 #[.pointer (some ⟨kb, 0, none⟩), .int .i64 t] w fun e w' => e = .returned (.tuple #[]) ∧ ∃ h' tk' wt', KMem F w' kb h' (R.stop s t) tk' wt' ws ∧ Ln.Aux (R.stop s t) tk' wt' ∧ Only [kb, h.gT, h.gM] w w' ∧ KUp w h h' := by
  have c1 := m.blk.cell 1
  simp [kCells] at c1
  have a8 := m.tcell ht 9 (by decide)
  have a5 := m.tcell ht 5 (by decide)
  have a6 := m.tcell ht 6 (by decide)
  simp [ktCells] at a5 a6 a8
  have f8 := m.tfrozen (t * 13 + 9)
  have f5 := m.tfrozen (t * 13 + 5)
  have f6 := m.tfrozen (t * 13 + 6)
  have htI : (t : Int) < (s.T.length : Int) := by omega
  obtain ⟨h1, m1, u1⟩ := m.setEnd ht
  have fs : KFit (R.stop0 s t) := f.modify t _ (fun _ => ⟨rfl, rfl⟩)
  have as0 : Ln.Aux (R.stop0 s t) tk wt := a.modify f.ok t _ (fun _ => ⟨rfl, rfl, rfl, rfl, id⟩)
  have CU := hid (kUnlockAll_any m1 fs as0 t)
  have O1 : Hid (Only [kb, h.gT, h.gM] w (((w.setCell ⟨h.gT, t * 13 + 9, none⟩ (.int .i64 (s.T[t].ended + 1))).setCell ⟨h.gT, t * 13 + 5, none⟩ (.int .i64 0)).setCell ⟨h.gT, t * 13 + 6, none⟩ (.int .i64 0))) := (((Only.refl _ _).setCell (.inl (by simp)) _).setCell (.inl (by simp)) _).setCell (.inl (by simp)) _
  have U1 := hid u1
  have F4 := hid (fs.unlocks t s.owner.length)
  obtain ⟨l1, l2, l3⟩ := unlocksTo_len (R.stop0 s t) t s.owner.length
  have hl4 : (R.unlocksTo (R.stop0 s t) t s.owner.length).T.length = s.T.length := by rw [l2]; simp [R.stop0]
  have ES : Hid (R.stop s t = if (R.th (R.asleep (R.unlocksTo (R.stop0 s t) t s.owner.length) t).T t).ended < (R.th (R.asleep (R.unlocksTo (R.stop0 s t) t s.owner.length) t).T t).rel then R.wake (R.asleep (R.unlocksTo (R.stop0 s t) t s.owner.length) t) t else R.asleep (R.unlocksTo (R.stop0 s t) t s.owner.length) t) := rfl
  obtain ⟨e0, e1⟩ := he
  clear m f a m1 u1 fs as0 l1 l2 l3
  generalize R.stop s t = res at *
  have CU' : Hid (Calls Try.prog 113 #[.pointer (some ⟨kb, 0, none⟩), .int .i64 t] (((w.setCell ⟨h.gT, t * 13 + 9, none⟩ (.int .i64 (s.T[t].ended + 1))).setCell ⟨h.gT, t * 13 + 5, none⟩ (.int .i64 0)).setCell ⟨h.gT, t * 13 + 6, none⟩ (.int .i64 0)) fun e w' => e = .returned (.tuple #[]) ∧ ∃ h' tk' wt', KMem F w' kb h' (R.unlocksTo (R.stop0 s t) t s.owner.length) tk' wt' ws ∧ Ln.Aux (R.unlocksTo (R.stop0 s t) t s.owner.length) tk' wt' ∧ Only [kb, h1.gT, h1.gM] (((w.setCell ⟨h.gT, t * 13 + 9, none⟩ (.int .i64 (s.T[t].ended + 1))).setCell ⟨h.gT, t * 13 + 5, none⟩ (.int .i64 0)).setCell ⟨h.gT, t * 13 + 6, none⟩ (.int .i64 0)) w' ∧ KUp (((w.setCell ⟨h.gT, t * 13 + 9, none⟩ (.int .i64 (s.T[t].ended + 1))).setCell ⟨h.gT, t * 13 + 5, none⟩ (.int .i64 0)).setCell ⟨h.gT, t * 13 + 6, none⟩ (.int .i64 0)) h1 h') := CU.out
  clear CU
  generalize R.unlocksTo (R.stop0 s t) t s.owner.length = s4 at *
  have ht4 : t < s4.T.length := by rw [hl4]; exact ht
  have eth : R.th (R.asleep s4 t).T t = { s4.T[t] with awake := false } := by
    show R.th (s4.T.modify t _) t = _
    rw [Ln.th_modify, if_pos ⟨rfl, ht4⟩, th_ext ht4]
  rw [eth] at ES
  have ES2 : Hid (res = if s4.T[t].ended < s4.T[t].rel then R.wake (R.asleep s4 t) t else R.asleep s4 t) := ES.out
  clear ES eth
  generalize s.T[t] = x at *
  go_enter Try.func107, Try.ntmps107
  go_upto_region 3 with fail
  clear c1 a8 a5 a6 f8 f5 f6
  generalize ((w.setCell ⟨h.gT, t * 13 + 9, none⟩ (.int .i64 (x.ended + 1))).setCell ⟨h.gT, t * 13 + 5, none⟩ (.int .i64 0)).setCell ⟨h.gT, t * 13 + 6, none⟩ (.int .i64 0) = w1 at *
  go_wp2_with fail
  refine CU'.out.mono ?_
  rintro e w4 ⟨rfl, h4, tk4, wt4, m4, a4, o4, u4⟩
  have M4 := hid m4
  have A4 := hid a4
  have U4 := hid (U1.out.trans u4 O1.out.size)
  have O4 := hid (O1.out.trans (o4.mono (fun b hb => by rw [U1.out.gT, U1.out.gM] at hb; exact hb)))
  have hsm := a4.few F4.out.few
  have AS : Hid (Ln.Aux (R.asleep s4 t) tk4 wt4) := a4.modify F4.out.ok t _ (fun _ => ⟨rfl, rfl, rfl, rfl, fun hh => by cases hh⟩)
  have FS : Hid (KFit (R.asleep s4 t)) := F4.out.modify t _ (fun _ => ⟨rfl, rfl⟩)
  have HJ := hid (kHasJob_any m4 t ht4 F4.out.few)
  clear m4 a4 o4 u4 CU'
  go_wp2_with fail
  refine HJ.out.mono ?_
  rintro e w5 ⟨rfl, n, rfl⟩
  have O5 := hid (O4.out.drewN n)
  have M5 := hid (M4.out.drewN n)
  have hsz5 := O5.out.size
  clear HJ M4 O4
  generalize w4.drewN n = w5 at *
  cases hj : decide (s4.T[t].ended < s4.T[t].rel)
  · have hn : ¬ s4.T[t].ended < s4.T[t].rel := by simpa using hj
    have HE : Hid (res = R.asleep s4 t) := by rw [ES2.out, if_neg hn]; exact hid rfl
    clear hn ES2
    go_wp2
    go_end0
    refine ⟨rfl, h4, tk4, wt4, ?_, ?_, O5.out, U4.out⟩
    · rw [HE.out]; exact M5.out.asleep t
    · rw [HE.out]; exact AS.out
  · have hn : s4.T[t].ended < s4.T[t].rel := by simpa using hj
    have HE : Hid (res = R.wake (R.asleep s4 t) t) := by rw [ES2.out, if_pos hn]; exact hid rfl
    clear hn ES2
    go_wp2_with fail
    refine (kDraw_any M5.out t hsm.1).mono ?_
    rintro e w6 ⟨rfl, h6, m6, o6, u6⟩
    have M6 := hid m6
    have U6 := hid (U4.out.trans u6 hsz5)
    have O6 := hid (O5.out.trans (o6.mono (fun b hb => by simp at hb; simp [hb])))
    clear m6 o6 u6
    go_wp2
    go_end0
    refine ⟨rfl, h6, Ln.less tk4 t ++ [t], wt4, ?_, ?_, O6.out, U6.out⟩
    · rw [HE.out]; exact (M6.out.asleep t).wake t
    · rw [HE.out]; exact AS.out.wake FS.out.ok t (by simpa [R.asleep] using ht4)
end

end Go.Proofs.Ytbkfildnijjioab

/-
  Walks over package donate: semaphores and queues.
-/
namespace Go.Proofs.Ytbkfildnijjioab
open Go.RowKit

/-- The blocks that an instruction may write. -/
def kW (kb : Nat) (h : KH) : List Nat := kb :: h.gT :: h.gM :: h.gS :: h.gQ :: (h.vWt.ownBlock.toList ++ (List.range h.nq).filterMap fun i => (h.qv i).ownBlock)
theorem kW_sub {F : Nat → Prop} {kb : Nat} {h : KH} : ∀ b, b ∈ kW kb h → KB F kb h b := by
  intro b hb
  simp only [kW, List.mem_cons, List.mem_append, Option.mem_toList, List.mem_filterMap, List.mem_range] at hb
  rcases hb with e | e | e | e | e | e | ⟨i, hi, e⟩
  · exact .inr (.inl e)
  · exact .inr (.inr (.inl e))
  · exact .inr (.inr (.inr (.inl e)))
  · exact .inr (.inr (.inr (.inr (.inr (.inr (.inr (.inr (.inl e))))))))
  · exact .inr (.inr (.inr (.inr (.inr (.inr (.inr (.inr (.inr (.inl e)))))))))
  · exact .inr (.inr (.inr (.inr (.inr (.inr (.inl e))))))
  · exact .inr (.inr (.inr (.inr (.inr (.inr (.inr (.inr (.inr (.inr ⟨i, hi, e⟩)))))))))
theorem kW_kb {kb : Nat} {h : KH} : kb ∈ kW kb h := by simp [kW]
theorem kW_gT {kb : Nat} {h : KH} : h.gT ∈ kW kb h := by simp [kW]
theorem kW_gM {kb : Nat} {h : KH} : h.gM ∈ kW kb h := by simp [kW]
theorem kW_gS {kb : Nat} {h : KH} : h.gS ∈ kW kb h := by simp [kW]
theorem kW_gQ {kb : Nat} {h : KH} : h.gQ ∈ kW kb h := by simp [kW]
theorem kW_wt {kb : Nat} {h : KH} {b : Nat} (e : h.vWt.ownBlock = some b) : b ∈ kW kb h := by simp [kW, e]
theorem kW_q {kb : Nat} {h : KH} {b i : Nat} (hi : i < h.nq) (e : (h.qv i).ownBlock = some b) : b ∈ kW kb h := by
  simp only [kW, List.mem_cons, List.mem_append, Option.mem_toList, List.mem_filterMap, List.mem_range]
  exact .inr (.inr (.inr (.inr (.inr (.inr ⟨i, hi, e⟩)))))
theorem kW_lock {kb : Nat} {h : KH} : ∀ b, b ∈ kb :: h.gT :: h.gM :: h.vWt.ownBlock.toList → b ∈ kW kb h := by
  intro b hb
  simp only [List.mem_cons, Option.mem_toList] at hb
  rcases hb with e | e | e | e
  · rw [e]; exact kW_kb
  · rw [e]; exact kW_gT
  · rw [e]; exact kW_gM
  · exact kW_wt e
theorem kW_wait {kb : Nat} {h : KH} : ∀ b, b ∈ kb :: h.gT :: h.vWt.ownBlock.toList → b ∈ kW kb h := by
  intro b hb
  simp only [List.mem_cons, Option.mem_toList] at hb
  rcases hb with e | e | e
  · rw [e]; exact kW_kb
  · rw [e]; exact kW_gT
  · exact kW_wt e
theorem kW_give {kb : Nat} {h : KH} : ∀ b, b ∈ [kb, h.gT] → b ∈ kW kb h := by
  intro b hb
  simp at hb
  rcases hb with e | e
  · rw [e]; exact kW_kb
  · rw [e]; exact kW_gT

section
variable {F : Nat → Prop} {w w' : World} {kb : Nat} {h : KH} {s : RS} {tk wt : List Nat} {ws : List Int}

theorem Ln.Aux.stores (a : Ln.Aux s tk wt) (f : KFit s) (c : List Int) (b : List (List Int)) : Ln.Aux { s with count := c, box := b } tk wt := a.same f.ok rfl rfl (Int.le_refl _) fun _ _ => ⟨rfl, rfl, rfl, rfl, id⟩

set_option maxRecDepth 100000 in
set_option maxHeartbeats 2000000 in
theorem kDown_any (m : KMem F w kb h s tk wt ws) (f : KFit s) (a : Ln.Aux s tk wt) (t k : Nat) (ht : t < s.T.length) (hf0 : s.T[t].for_ = 0) (hk : k < s.count.length) (_h8 : s.count.length ≤ 8) (hc0 : 0 ≤ s.count[k] ∧ s.count[k] ≤ 1000000) (n : Int) (hn0 : -1 ≤ n) (hn1 : n ≤ 1000) (g0 : 0 ≤ s.now) (g1 : s.now ≤ 1000000000) :
    Calls Try.prog 117 #[.pointer (some ⟨kb, 0, none⟩), .int .i64 t, .int .i64 k, .int .i64 n] w fun e w' => e = .returned (.int .i64 (R.downC s k n)) ∧ ∃ h' tk' wt', KMem F w' kb h' (R.downS s t k n) tk' wt' ws ∧ Ln.Aux (R.downS s t k n) tk' wt' ∧ Only (kW kb h) w w' ∧ KUp w h h' := by
  have c3 := m.blk.cell 3
  simp [kCells] at c3
  have b3 := m.scell hk 0 (by decide)
  simp [ksCells] at b3
  have f3 := m.sfrozen (k * 2)
  have ec : s.count.getD k 0 = s.count[k] := by simp [List.getD, hk]
  have EC : Hid (R.downC s k n = if 0 < s.count[k] then 0 else if n = 0 then 2 else 1) := by unfold R.downC; rw [ec]; exact hid rfl
  have ES : Hid (R.downS s t k n = if R.downC s k n = 0 then { s with count := s.count.set k (s.count[k] - 1) } else if R.downC s k n = 1 then R.beginW s t 2 (k : Int) n else s) := by unfold R.downS; rw [ec]; exact hid rfl
  have hkI : (k : Int) < (s.count.length : Int) := by omega
  have hf0' : (R.th s.T t).for_ = 0 := by rw [th_ext ht]; exact hf0
  have AB := hid (a.beginW f.ok t ht hf0' 2 (k : Int) n (by decide) (fun hh => absurd hh (by decide)))
  have BW := hid (kWaitFor_any m t ht f.few (a.few f.few).2 2 (k : Int) n hn0 hn1 g0 g1)
  have SS := hid (m.setS' k hk (s.count[k] - 1))
  have AS : Hid (Ln.Aux { s with count := s.count.set k (s.count[k] - 1) } tk wt) := a.stores f _ s.box
  have M := hid m
  have AX := hid a
  clear m f a ec hf0 hf0'
  generalize R.downS s t k n = ss at *
  generalize R.downC s k n = cc at *
  generalize R.beginW s t 2 (k : Int) n = sb at *
  go_enter Try.func117, Try.ntmps117
  by_cases hz : s.count[k] = 0
  · have HC : Hid (cc = if n = 0 then 2 else 1) := by rw [EC.out, if_neg (by omega)]; exact hid rfl
    have HS : Hid (ss = if n = 0 then s else sb) := by
      rw [ES.out, HC.out]
      by_cases hz : n = 0
      · simp only [if_pos hz]
        exact hid rfl
      · simp only [if_neg hz]
        exact hid rfl
    have HA : Hid (Ln.Aux (if n = 0 then s else sb) tk (if n = 0 then wt else wt ++ [t])) := by
      by_cases hz : n = 0
      · simp only [if_pos hz]
        exact hid AX.out
      · simp only [if_neg hz]
        exact hid AB.out
    rw [hz] at b3
    clear ES EC AB SS AS hc0
    generalize (if n = 0 then s else sb) = s4 at *
    generalize (if n = 0 then wt else wt ++ [t]) = wt4 at *
    generalize (if n = 0 then (2 : Int) else 1) = c4 at *
    go_wp2_with fail
    refine BW.out.mono ?_
    rintro e w3 ⟨rfl, h3, m3, o3, u3⟩
    have M3 := hid m3
    have U3 := hid u3
    have O3 := hid (o3.mono kW_wait)
    clear m3 o3 u3 BW
    go_wp2
    go_ret
    refine ⟨ret_int HC.out.symm, h3, tk, wt4, ?_, ?_, O3.out, U3.out⟩
    · rw [HS.out]; exact M3.out
    · rw [HS.out]; exact HA.out
  · have HC : Hid (cc = 0) := by rw [EC.out, if_pos (by omega)]; exact hid rfl
    have HS : Hid (ss = { s with count := s.count.set k (s.count[k] - 1) }) := by rw [ES.out, if_pos HC.out]; exact hid rfl
    obtain ⟨h2, m2, u2⟩ := SS.out
    have M2 := hid m2
    have U2 := hid u2
    have O2 : Hid (Only (kW kb h) w (w.setCell ⟨h.gS, k * 2, none⟩ (.int .i64 (s.count[k] - 1)))) := (Only.refl _ _).setCell (.inl kW_gS) _
    have hz' : (s.count[k] == 0) = false := by simpa using hz
    obtain ⟨hc1, hc2⟩ := hc0
    clear EC ES SS m2 u2 BW
    generalize hold : s.count[k] = old at *
    clear hold
    go_wp2
    go_ret
    refine ⟨ret_int HC.out.symm, h2, tk, wt, ?_, ?_, O2.out, U2.out⟩
    · rw [HS.out]; exact M2.out
    · rw [HS.out]; exact AS.out

theorem giveS_stores (s : RS) (what of_ : Int) : (R.giveS s what of_).count = s.count ∧ (R.giveS s what of_).box = s.box ∧ (R.giveT s what of_ < 0 → R.giveS s what of_ = s) := by
  unfold R.giveS
  split
  · exact ⟨rfl, rfl, fun _ => by omega⟩
  · exact ⟨rfl, rfl, fun _ => rfl⟩

set_option maxRecDepth 100000 in
set_option maxHeartbeats 2000000 in
theorem kUp_any (m : KMem F w kb h s tk wt ws) (f : KFit s) (a : Ln.Aux s tk wt) (k : Nat) (hk : k < s.count.length) (_h8 : s.count.length ≤ 8) (hc0 : 0 ≤ s.count[k] ∧ s.count[k] ≤ (s.set.sems.getD k R.pair0).y) (hc1 : (s.set.sems.getD k R.pair0).y ≤ 1000000) :
    Calls Try.prog 118 #[.pointer (some ⟨kb, 0, none⟩), .int .i64 k] w fun e w' => e = .returned (.int .i64 (R.upC s k)) ∧ ∃ h' tk' wt', KMem F w' kb h' (R.upS s k) tk' wt' ws ∧ Ln.Aux (R.upS s k) tk' wt' ∧ Only (kW kb h) w w' ∧ KUp w h h' := by
  have ec : s.count.getD k 0 = s.count[k] := by simp [List.getD, hk]
  have EC : Hid (R.upC s k = if 0 ≤ R.giveT s 2 (k : Int) then 0 else if s.count[k] = (s.set.sems.getD k R.pair0).y then 7 else 0) := by unfold R.upC; rw [ec]; exact hid rfl
  have ES : Hid (R.upS s k = if 0 ≤ R.giveT s 2 (k : Int) then R.giveS s 2 (k : Int) else if s.count[k] = (s.set.sems.getD k R.pair0).y then s else { s with count := s.count.set k (s.count[k] + 1) }) := by unfold R.upS; rw [ec]; exact hid rfl
  have hkI : (k : Int) < (s.count.length : Int) := by omega
  have CG := hid (kGive_any m f a 2 (k : Int) (by decide))
  obtain ⟨e1, e2, e3⟩ := giveS_stores s 2 (k : Int)
  have E3 := hid e3
  have hbd := giveT_bd' s 2 (k : Int)
  have FT := hid f
  clear m a ec e1 e2 e3 f
  generalize R.upS s k = ss at *
  generalize R.upC s k = cc at *
  generalize R.giveS s 2 (k : Int) = sg at *
  generalize R.giveT s 2 (k : Int) = tg at *
  go_enter Try.func118, Try.ntmps118
  go_wp2_with fail
  refine CG.out.mono ?_
  rintro e w1 ⟨rfl, h1, tk1, wt1, m1, a1, o1, u1⟩
  have M1 := hid m1
  have A1 := hid a1
  have O1 := hid (o1.mono kW_give)
  have U1 := hid u1
  clear m1 a1 o1 u1 CG
  by_cases hg : tg = -1
  · have hsg : sg = s := E3.out (by omega)
    subst hsg
    rw [if_neg (by omega)] at EC ES
    have c3 := M1.out.blk.cell 3
    simp [kCells] at c3
    have b3 := M1.out.scell hk 0 (by decide)
    have b4 : w1.cell? ⟨h1.gS, k * 2 + 1, none⟩ = some (.int .i64 (sg.set.sems.getD k R.pair0).y) := M1.out.scell hk 1 (by decide)
    simp [ksCells] at b3
    have f3 := M1.out.sfrozen (k * 2)
    have SS := hid (fun nd => (M1.out.drewN nd).setS' k hk (sg.count[k] + 1))
    have O2 : Hid (∀ nd, Only (kW kb h) w ((w1.drewN nd).setCell ⟨h1.gS, k * 2, none⟩ (.int .i64 (sg.count[k] + 1)))) := fun nd => (O1.out.drewN nd).setCell (.inl (by rw [U1.out.gS]; exact kW_gS)) _
    have A2 : Hid (Ln.Aux { sg with count := sg.count.set k (sg.count[k] + 1) } tk1 wt1) := A1.out.stores FT.out _ sg.box
    subst hg
    clear E3
    generalize hold : sg.count[k] = old at *
    obtain ⟨most, HMO⟩ : ∃ x, Hid ((sg.set.sems.getD k R.pair0).y = x) := ⟨_, hid rfl⟩
    rw [HMO.out] at hc0 hc1 b4 EC ES
    clear hold HMO
    by_cases hfull : old = most
    · have HC : Hid (cc = 7) := by rw [EC.out, if_pos hfull]; exact hid rfl
      have HS : Hid (ss = sg) := by rw [ES.out, if_pos hfull]; exact hid rfl
      subst hfull
      clear EC ES A2 O2 SS
      go_wp2_with fail
      go_quiet (fail)
      go_wp2
      go_ret
      refine ⟨ret_int HC.out.symm, h1, tk1, wt1, ?_, ?_, O1.out.drewN _, U1.out⟩
      · rw [HS.out]; exact M1.out.drewN _
      · rw [HS.out]; exact A1.out
    · have HC : Hid (cc = 0) := by rw [EC.out, if_neg hfull]; exact hid rfl
      have HS : Hid (ss = { sg with count := sg.count.set k (old + 1) }) := by rw [ES.out, if_neg hfull]; exact hid rfl
      have hlt : old < most := by omega
      obtain ⟨hc2, hc3⟩ := hc0
      clear EC ES
      go_wp2_with fail
      go_quiet (fail)
      go_wp2
      go_ret
      obtain ⟨h2, m2, u2⟩ := SS.out nq
      refine ⟨ret_int HC.out.symm, h2, tk1, wt1, ?_, ?_, O2.out nq, U1.out.trans u2 (O1.out.drewN nq).size⟩
      · rw [HS.out]; exact m2
      · rw [HS.out]; exact A2.out
  · have HC : Hid (cc = 0) := by rw [EC.out, if_pos (by omega)]; exact hid rfl
    have HS : Hid (ss = sg) := by rw [ES.out, if_pos (by omega)]; exact hid rfl
    have hg' : (tg == -1) = false := by simpa using hg
    clear EC ES E3
    go_wp2
    go_ret
    refine ⟨ret_int HC.out.symm, h1, tk1, wt1, ?_, ?_, O1.out, U1.out⟩
    · rw [HS.out]; exact M1.out
    · rw [HS.out]; exact A1.out
end

end Go.Proofs.Ytbkfildnijjioab

/-
  Walks over package donate: Send, Recv.
-/
namespace Go.Proofs.Ytbkfildnijjioab
open Go.RowKit

section
variable {F : Nat → Prop} {w w' : World} {kb : Nat} {h : KH} {s : RS} {tk wt : List Nat} {ws : List Int}

theorem KFit.got (f : KFit s) (t : Nat) (v : Int) : KFit (R.gets s t v) := by
  have hth : ∀ u, (R.th (R.gets s t v).T u).for_ = (R.th s.T u).for_ ∧ (R.th (R.gets s t v).T u).of_ = (R.th s.T u).of_ := fun u => by
    unfold R.gets
    dsimp only
    rw [Ln.th_modify]
    split <;> exact ⟨rfl, rfl⟩
  refine ⟨by simpa [R.gets] using f.few, f.m8, f.ok.len, fun i hi => by simpa [R.gets] using f.ok.own i hi, fun u hu hf => ?_, f.ok.kind⟩
  rw [(hth u).2]
  exact f.ok.of1 u (by simpa [R.gets] using hu) (by rw [← (hth u).1]; exact hf)
theorem Ln.Aux.got (a : Ln.Aux s tk wt) (f : KFit s) (t : Nat) (v : Int) : Ln.Aux (R.gets s t v) tk wt := a.modify f.ok t _ (fun _ => ⟨rfl, rfl, rfl, rfl, id⟩)
theorem boxAt_is (k : Nat) (hk : k < s.box.length) : R.boxAt s k = s.box[k] := by simp [R.boxAt, List.getD, hk]

set_option linter.unusedSimpArgs false in
set_option maxRecDepth 100000 in
set_option maxHeartbeats 4000000 in
theorem kSend_any (m : KMem F w kb h s tk wt ws) (f : KFit s) (a : Ln.Aux s tk wt) (k : Nat) (hk : k < s.box.length) (h8 : s.box.length ≤ 8) (hq0 : (s.box[k].length : Int) ≤ s.set.queues.getD k 0) (hq1 : s.set.queues.getD k 0 ≤ 1000) (v : Int) :
    Calls Try.prog 119 #[.pointer (some ⟨kb, 0, none⟩), .int .i64 k, .int .i64 v] w fun e w' => e = .returned (.int .i64 (R.sendC s k)) ∧ ∃ h' tk' wt', KMem F w' kb h' (R.sendS s k v) tk' wt' ws ∧ Ln.Aux (R.sendS s k v) tk' wt' ∧ Only (kW kb h) w w' ∧ KUp w h h' := by
  have eb := boxAt_is k hk
  have EC : Hid (R.sendC s k = if 0 ≤ R.giveT s 3 (k : Int) then 0 else if (s.box[k].length : Int) = s.set.queues.getD k 0 then 7 else 0) := by unfold R.sendC; rw [eb]; exact hid rfl
  have ES : Hid (R.sendS s k v = if 0 ≤ R.giveT s 3 (k : Int) then R.gets (R.giveS s 3 (k : Int)) (R.giveT s 3 (k : Int)).toNat v else if (s.box[k].length : Int) = s.set.queues.getD k 0 then s else { s with box := s.box.set k (s.box[k] ++ [v]) }) := by unfold R.sendS; rw [eb]; exact hid rfl
  have hkI : (k : Int) < (s.box.length : Int) := by omega
  have CG := hid (kGive_any m f a 3 (k : Int) (by decide))
  obtain ⟨e1, e2, e3⟩ := giveS_stores s 3 (k : Int)
  have E3 := hid e3
  have hbd := giveT_bd' s 3 (k : Int)
  have hsl := (giveS_owner s 3 (k : Int)).2.2
  have FT := hid f
  have FG := hid (f.give 3 (k : Int))
  have hfew := f.few
  obtain ⟨i3, hi3, hz30, hz31, hz32⟩ := info_parts Try.infoInt
  have HI3 := hid (And.intro hi3 (And.intro hz30 (And.intro hz31 hz32)))
  clear hi3 hz30 hz31 hz32
  clear m a eb e1 e2 e3 f
  generalize R.sendS s k v = ss at *
  generalize R.sendC s k = cc at *
  generalize R.giveS s 3 (k : Int) = sg at *
  generalize R.giveT s 3 (k : Int) = tg at *
  go_enter Try.func119, Try.ntmps119
  go_wp2_with fail
  refine CG.out.mono ?_
  rintro e w1 ⟨rfl, h1, tk1, wt1, m1, a1, o1, u1⟩
  have M1 := hid m1
  have A1 := hid a1
  have O1 := hid (o1.mono kW_give)
  have U1 := hid u1
  clear m1 a1 o1 u1 CG
  by_cases hg : tg = -1
  · have hsg : sg = s := E3.out (by omega)
    subst hsg
    rw [if_neg (by omega)] at EC ES
    subst hg
    have c3 := M1.out.blk.cell 4
    simp [kCells] at c3
    have b3 : w1.cell? ⟨h1.gQ, k * 2, none⟩ = some (.int .i64 (sg.set.queues.getD k 0)) := M1.out.qcell hk 0 (by decide)
    have b4 := M1.out.qcell hk 1 (by decide)
    simp [kqCells] at b4
    have f3 := M1.out.qfrozen (k * 2 + 1)
    have ROW := hid (M1.out.st.boxes k hk)
    have hnq : k < h1.nq := by rw [M1.out.st.nq]; exact hk
    obtain ⟨ao, ca, hv, hla, hna⟩ := ListAt.of_row ROW.out
    have HV := hid hv
    rw [hv] at b4
    clear hla hna hv E3
    obtain ⟨room, HMO⟩ : ∃ x, Hid (sg.set.queues.getD k 0 = x) := ⟨_, hid rfl⟩
    rw [HMO.out] at hq0 hq1 b3 EC ES
    clear HMO
    by_cases hfull : (sg.box[k].length : Int) = room
    · have HC : Hid (cc = 7) := by rw [EC.out, if_pos hfull]; exact hid rfl
      have HS : Hid (ss = sg) := by rw [ES.out, if_pos hfull]; exact hid rfl
      subst hfull
      clear EC ES ROW
      generalize sg.box[k] = bx at *
      go_wp2_with fail
      go_quiet (fail)
      go_wp2
      go_ret
      refine ⟨ret_int HC.out.symm, h1, tk1, wt1, ?_, ?_, O1.out.drewN _, U1.out⟩
      · rw [HS.out]; exact M1.out.drewN _
      · rw [HS.out]; exact A1.out
    · have HC : Hid (cc = 0) := by rw [EC.out, if_neg hfull]; exact hid rfl
      have HS : Hid (ss = { sg with box := sg.box.set k (sg.box[k] ++ [v]) }) := by rw [ES.out, if_neg hfull]; exact hid rfl
      have hlt : (sg.box[k].length : Int) < room := by omega
      have A2 : Hid (Ln.Aux { sg with box := sg.box.set k (sg.box[k] ++ [v]) } tk1 wt1) := A1.out.stores FT.out sg.count _
      clear EC ES
      obtain ⟨B, HB⟩ : ∃ x, Hid (sg.box[k] = x) := ⟨_, hid rfl⟩
      rw [HB.out] at HV ROW b4 hlt HS hq0 A2
      clear hfull
      have hB8 : (B.length : Int) < 1000 := by omega
      go_wp2_with fail
      go_quiet (fail)
      go_wp2_with fail
      have m1q := M1.out.drewN nq
      have o1q := O1.out.drewN nq
      clear b4 ROW M1 O1 f3 b3 c3
      generalize w1.drewN nq = wq at m1q o1q ⊢
      have ROWq : Hid (wq.ownsRow 0 3 1 (h1.qv k) B.length (intCells B)) := by
        have := m1q.st.boxes k hk
        rw [HB.out] at this
        exact hid this
      have c3 := m1q.blk.cell 4
      simp [kCells] at c3
      have b4q : wq.cell? ⟨h1.gQ, k * 2 + 1, none⟩ = some (.slice ao B.length ca) := by
        have := m1q.qcell hk 1 (by decide)
        simp [kqCells] at this
        rw [this, HV.out]
      have M1q := hid m1q
      have O1q := hid o1q
      clear m1q o1q
      have hbA : Below wq.heap.size wq (wq.drew.alloc (.cells #[.int .i64 v] 3)) := (Below.refl _ _).drew.alloc (Nat.le_refl _) _
      have HBA := hid hbA
      have MD := hid (M1q.out.below hbA)
      have ROWD := hid (MD.out.st.boxes k hk)
      rw [HB.out, HV.out] at ROWD
      have SQ := hid (fun (w3 : World) (v3 : Value) => M1q.out.setQ' (w1 := w3) k hk (v := v3) (l := B ++ [v]))
      have HGN : Hid (∀ b e, Typ wq b e → e ≠ 3 → (Value.slice ao B.length ca).ownBlock ≠ some b) := fun b e ht he hx => by
        have := own_typ ROWq.out (g := b) (by rw [HV.out]; exact hx)
        exact this.ne ht (Ne.symm he) rfl
      have HNK := hid (HGN.out kb _ M1q.out.kT (by decide))
      have HNQ := hid (HGN.out h1.gQ _ (own_typ M1q.out.st.qrow rfl) (by decide))
      have hkbl := M1q.out.kT.lt
      have hgQl : h1.gQ < wq.heap.size := (own_typ M1q.out.st.qrow rfl).lt
      have hkq : h1.gQ ≠ kb := fun e => ((own_typ M1q.out.st.qrow rfl : Typ wq h1.gQ _).ne M1q.out.kT (by decide) e)
      have ka1 : (wq.alloc (.cells #[.int .i64 v] 3)).cell? ⟨kb, 4, none⟩ = some (.slice (some ⟨h1.gQ, 0, none⟩) sg.box.length h1.cQ) := by
        rw [((Below.refl _ _).alloc (Nat.le_refl _) _).cell (p := ⟨kb, 4, none⟩) hkbl]; exact c3
      have ka4 : (wq.alloc (.cells #[.int .i64 v] 3)).cell? ⟨h1.gQ, k * 2 + 1, none⟩ = some (.slice ao B.length ca) := by
        rw [((Below.refl _ _).alloc (Nat.le_refl _) _).cell (p := ⟨h1.gQ, k * 2 + 1, none⟩) hgQl]; exact b4q
      have ka5 : (wq.drew.alloc (.cells #[.int .i64 v] 3)).cell? ⟨h1.gQ, k * 2 + 1, none⟩ = some (.slice ao B.length ca) := ka4
      have HQB : Hid (h1.qv k = .slice ao B.length ca) := HV.out
      have FIN : Hid (∀ (w5 : World) (tv5 : Option Addr) (tc5 : Nat), w5.ownsRow 0 3 1 (.slice tv5 (B.length + 1) tc5) (B.length + 1) (intCells B ++ [.int .i64 v]) → (wq.drew.alloc (.cells #[.int .i64 v] 3)).grownBy w5 (Value.slice ao B.length ca).ownBlock → ((Value.slice tv5 (B.length + 1) tc5).ownBlock = (Value.slice ao B.length ca).ownBlock ∨ (Value.slice tv5 (B.length + 1) tc5).ownBlock = some (wq.drew.alloc (.cells #[.int .i64 v] 3)).heap.size) →
          ∃ h', KMem F (w5.setCell ⟨h1.gQ, k * 2 + 1, none⟩ (.slice tv5 (B.length + 1) tc5)) kb h' { sg with box := sg.box.set k (B ++ [v]) } tk1 wt1 ws ∧ KUp w h h' ∧ Only (kW kb h) w (w5.setCell ⟨h1.gQ, k * 2 + 1, none⟩ (.slice tv5 (B.length + 1) tc5))) := by
        intro w5 tv5 tc5 hown hgr hat
        have hszA := HBA.out.size
        have hr5 : w5.ownsRow 0 3 1 (.slice tv5 (B.length + 1) tc5) (B ++ [v]).length (intCells (B ++ [v])) := by
          rw [intCells_append, List.length_append]
          exact hown
        obtain ⟨h2, m2, u2⟩ := SQ.out w5 (.slice tv5 (B.length + 1) tc5) (fun b hb hn => by
            rw [hgr.block b (Nat.lt_of_lt_of_le hb hszA) (fun e => hn (by rw [HQB.out]; exact e.symm)), HBA.out.block b hb]) hr5 (fun g hg => by
            rcases hat with e | e
            · rw [e] at hg
              exact .inl (by rw [HQB.out]; exact hg)
            · rw [e] at hg
              cases hg
              exact .inr hszA)
        have oA : Only (kW kb h) w (wq.drew.alloc (.cells #[.int .i64 v] 3)) := O1q.out.trans (Only.of_below HBA.out)
        have o5 : Only (kW kb h) w w5 := by
          refine ⟨hgr.os.trans oA.os, hgr.tape.trans oA.tape, hgr.output.trans oA.output, Nat.le_trans oA.size hgr.size, fun b hb hn => ?_⟩
          rw [hgr.block b (Nat.lt_of_lt_of_le hb oA.size) (fun e => ?_)]
          · exact oA.block b hb hn
          · have hkk : KSB h1 b := .inr (.inr ⟨k, hnq, by rw [HQB.out]; exact e.symm⟩)
            rcases U1.out.st b hkk with e' | e'
            · rcases e' with e' | e' | ⟨i, hi, e'⟩
              · exact hn (by rw [e']; exact kW_gS)
              · exact hn (by rw [e']; exact kW_gQ)
              · exact hn (kW_q hi e')
            · omega
        exact ⟨h2, m2, U1.out.trans u2 O1q.out.size, o5.setCell (.inl (by rw [U1.out.gQ]; exact kW_gQ)) _⟩
      clear hbA SQ HGN HQB HV ROWq
      refine wp_region_held_drew (S := (fun w' => w'.cell? ⟨kb, 4, none⟩ = some (.slice (some ⟨h1.gQ, 0, none⟩) sg.box.length h1.cQ))) (by kernel_rfl) ?_ (fun hHeld => ?_)
      · exact c3
      (refine wpAnyH_take (i := 0) (v := ?_) rfl (by kernel_rfl) (by kernel_rfl) (by kernel_rfl) (fun _ _ _ h => h) (Or.inl ⟨by rfl, ?_⟩) (by assumption) ?_; rotate_left 1; (intro w hSw; (try dsimp only at hSw); go_simp); (try with_reducible rfl); (try simp only [Act.put, List.setIfInBounds_toArray, List.set_cons_zero, List.set_cons_succ]))
      (refine wpAnyH_take (i := 1) (v := ?_) rfl (by kernel_rfl) (by kernel_rfl) (by kernel_rfl) (fun _ _ _ h => h) (Or.inl ⟨by rfl, ?_⟩) (by assumption) ?_; rotate_left 1; (intro w hSw; (try dsimp only at hSw); go_simp); (try with_reducible rfl); (try simp only [Act.put, List.setIfInBounds_toArray, List.set_cons_zero, List.set_cons_succ]))
      (refine wpAnyH_take (i := 2) (v := ?_) rfl (by kernel_rfl) (by kernel_rfl) (by kernel_rfl) (fun _ _ _ h => h) (Or.inl ⟨by rfl, ?_⟩) (by assumption) ?_; rotate_left 1; (intro w hSw; (try dsimp only at hSw); go_simp); (try with_reducible rfl); (try simp only [Act.put, List.setIfInBounds_toArray, List.set_cons_zero, List.set_cons_succ]))
      (refine wpAnyH_take (i := 3) (v := ?_) rfl (by kernel_rfl) (by kernel_rfl) (by kernel_rfl) (fun _ _ _ h => h) (Or.inl ⟨by rfl, ?_⟩) (by assumption) ?_; rotate_left 1; (intro w hSw; (try dsimp only at hSw); go_simp); (try with_reducible rfl); (try simp only [Act.put, List.setIfInBounds_toArray, List.set_cons_zero, List.set_cons_succ]))
      (refine wpAnyH_take (i := 4) (v := ?_) rfl (by kernel_rfl) (by kernel_rfl) (by kernel_rfl) (fun _ _ _ h => h) (Or.inl ⟨by rfl, ?_⟩) (by assumption) ?_; rotate_left 1; (intro w hSw; (try dsimp only at hSw); go_simp); (try with_reducible rfl); (try simp only [Act.put, List.setIfInBounds_toArray, List.set_cons_zero, List.set_cons_succ]))
      (refine wpAnyH_take (i := 5) (v := ?_) rfl (by kernel_rfl) (by kernel_rfl) (by kernel_rfl) (fun _ _ _ h => h) (Or.inl ⟨by rfl, ?_⟩) (by assumption) ?_; rotate_left 1; (intro w hSw; (try dsimp only at hSw); go_simp); (try with_reducible rfl); (try simp only [Act.put, List.setIfInBounds_toArray, List.set_cons_zero, List.set_cons_succ]))
      (refine wpAnyH_take (i := 6) (v := ?_) rfl (by kernel_rfl) (by kernel_rfl) (by kernel_rfl) (fun _ _ _ h => h) (Or.inl ⟨by rfl, ?_⟩) (by assumption) ?_; rotate_left 1; (intro w hSw; (try dsimp only at hSw); go_simp); (try with_reducible rfl); (try simp only [Act.put, List.setIfInBounds_toArray, List.set_cons_zero, List.set_cons_succ]))
      (refine wpAnyH_take (i := 7) (v := ?_) rfl (by kernel_rfl) (by kernel_rfl) (by kernel_rfl) (fun _ _ _ h => h) (Or.inl ⟨by rfl, ?_⟩) (by assumption) ?_; rotate_left 1; (intro w hSw; (try dsimp only at hSw); go_simp); (try with_reducible rfl); (try simp only [Act.put, List.setIfInBounds_toArray, List.set_cons_zero, List.set_cons_succ]))
      (refine wpAnyH_take (i := 8) (v := ?_) rfl (by kernel_rfl) (by kernel_rfl) (by kernel_rfl) (fun _ _ _ h => h) (Or.inl ⟨by rfl, ?_⟩) (by assumption) ?_; rotate_left 1; (intro w hSw; (try dsimp only at hSw); go_simp); (try with_reducible rfl); (try simp only [Act.put, List.setIfInBounds_toArray, List.set_cons_zero, List.set_cons_succ]))
      (refine wpAnyH_take (i := 9) (v := ?_) rfl (by kernel_rfl) (by kernel_rfl) (by kernel_rfl) (fun _ _ _ h => h) (Or.inl ⟨by rfl, ?_⟩) (by assumption) ?_; rotate_left 1; (intro w hSw; (try dsimp only at hSw); go_simp); (try with_reducible rfl); (try simp only [Act.put, List.setIfInBounds_toArray, List.set_cons_zero, List.set_cons_succ]))
      (refine wpAnyH_take (i := 10) (v := ?_) rfl (by kernel_rfl) (by kernel_rfl) (by kernel_rfl) (fun _ _ _ h => h) (Or.inl ⟨by rfl, ?_⟩) (by assumption) ?_; rotate_left 1; (intro w hSw; (try dsimp only at hSw); go_simp); (try with_reducible rfl); (try simp only [Act.put, List.setIfInBounds_toArray, List.set_cons_zero, List.set_cons_succ]))
      (refine wpAnyH_take (i := 11) (v := ?_) rfl (by kernel_rfl) (by kernel_rfl) (by kernel_rfl) (fun _ _ _ h => h) (Or.inl ⟨by rfl, ?_⟩) (by assumption) ?_; rotate_left 1; (intro w hSw; (try dsimp only at hSw); go_simp); (try with_reducible rfl); (try simp only [Act.put, List.setIfInBounds_toArray, List.set_cons_zero, List.set_cons_succ]))
      (refine wpAnyH_take (i := 13) (v := ?_) rfl (by kernel_rfl) (by kernel_rfl) (by kernel_rfl) (fun _ _ _ h => h) (Or.inl ⟨by rfl, ?_⟩) (by assumption) ?_; rotate_left 1; (intro w hSw; (try dsimp only at hSw); go_simp); (try with_reducible rfl); (try simp only [Act.put, List.setIfInBounds_toArray, List.set_cons_zero, List.set_cons_succ]))
      refine wpAnyH_ready (rs := [12, 14]) (by kernel_rfl) (by simp) ?_
      refine AllReadyH.cons (i := 12) rfl (fun K hK => ?_) (AllReadyH.cons (i := 14) rfl (fun K hK => ?_) AllReadyH.nil)
      · go_simp
        refine hK.out _ _ ?_ (fun hHeld => ?_)
        · exact c3
        clear hK K
        try simp only [Act.put, List.setIfInBounds_toArray, List.set_cons_zero, List.set_cons_succ]
        refine wpAnyH_ready (rs := [14]) (by kernel_rfl) (by simp) ?_
        refine AllReadyH.cons (i := 14) rfl (fun K hK => ?_) AllReadyH.nil
        go_simp
        refine hK.out _ _ ?_ (fun hHeld => ?_)
        · exact ka1
        clear hK K
        try simp only [Act.put, List.setIfInBounds_toArray, List.set_cons_zero, List.set_cons_succ]
        refine wpAnyH_ready (rs := [15]) (by kernel_rfl) (by simp) ?_
        refine AllReadyH.cons (i := 15) rfl (fun K hK => ?_) AllReadyH.nil
        refine step_append_own_at rfl (.tmp 53) (.tmp 55) 25 rfl 0 3 i3 (.int .i64 0) 1 8 Try.underlying25 HI3.out.1 HI3.out.2.1 HI3.out.2.2.1 HI3.out.2.2.2 rfl (by decide) (.slice ao B.length ca) B.length (intCells B) (by simp [Act.eval]) ROWD.out ⟨wq.heap.size, 0, none⟩ 1 1 [.int .i64 v] (by simp [Act.eval]) rfl (fun j u hj => (by rw [Addr.add_lit, Nat.zero_add]; exact ((Blk.new wq.drew #[.int .i64 v] 3).cell j).trans (by simpa using hj))) (by intro u hu; simp at hu; subst hu; rfl) (by unfold maxLen; omega) (by omega) (Nat.zero_le _) ?_; intro v' w5 hown5 hg5 hat5; obtain ⟨tv5, tc5, rfl, _, _⟩ := owns_cells hown5; have z5 : w5.frozen? ⟨h1.gQ, k * 2 + 1, none⟩ = false := (by rw [World.frozen?_of_block (hg5.block h1.gQ (by simp; omega) (fun e => HNQ.out e.symm))]; exact MD.out.qfrozen _); have y5 : w5.cell? ⟨h1.gQ, k * 2 + 1, none⟩ = some (.slice ao B.length ca) := (by rw [World.cell?_of_block (hg5.block h1.gQ (by simp; omega) (fun e => HNQ.out e.symm))]; exact ka4); have s5 : w5.cell? ⟨kb, 4, none⟩ = some (.slice (some ⟨h1.gQ, 0, none⟩) sg.box.length h1.cQ) := (by rw [World.cell?_of_block (hg5.block kb (by simp; omega) (fun e => HNK.out e.symm))]; exact ka1); have O5 := hid hown5; have G5 := hid hg5; have A5 := hid hat5; clear hown5 hg5 hat5
        refine hK.out _ _ ?_ (fun hHeld => ?_)
        · exact s5
        clear hK K
        try simp only [Act.put, List.setIfInBounds_toArray, List.set_cons_zero, List.set_cons_succ]
        (refine wpAnyH_take (i := 16) (v := ?_) rfl (by kernel_rfl) (by kernel_rfl) (by kernel_rfl) (fun _ _ _ h => h) (Or.inl ⟨by rfl, ?_⟩) (by assumption) ?_; rotate_left 1; (intro w hSw; (try dsimp only at hSw); go_simp); (try with_reducible rfl); (try simp only [Act.put, List.setIfInBounds_toArray, List.set_cons_zero, List.set_cons_succ]))
        (refine wpAnyH_take (i := 17) (v := ?_) rfl (by kernel_rfl) (by kernel_rfl) (by kernel_rfl) (fun _ _ _ h => h) (Or.inl ⟨by rfl, ?_⟩) (by assumption) ?_; rotate_left 1; (intro w hSw; (try dsimp only at hSw); go_simp); (try with_reducible rfl); (try simp only [Act.put, List.setIfInBounds_toArray, List.set_cons_zero, List.set_cons_succ]))
        refine wpAnyH_ready (rs := [18]) (by kernel_rfl) (by simp) ?_
        refine AllReadyH.cons (i := 18) rfl (fun K hK => ?_) AllReadyH.nil
        go_simp
        refine hK.out _ _ ?_ (fun hHeld => ?_)
        · exact (World.cell?_of_block (Below.heap_setCell _ _ _ _ hkq.symm)).trans s5
        clear hK K
        try simp only [Act.put, List.setIfInBounds_toArray, List.set_cons_zero, List.set_cons_succ]
        refine wpAnyH_done (by kernel_rfl) ?_ _
        go_wp2
        go_ret
        obtain ⟨h2, m2, u2, o2⟩ := FIN.out w5 tv5 tc5 O5.out G5.out A5.out
        refine ⟨ret_int HC.out.symm, h2, tk1, wt1, ?_, ?_, o2, u2⟩
        · rw [HS.out]; exact m2
        · rw [HS.out]; exact A2.out
      · go_simp
        refine hK.out _ _ ?_ (fun hHeld => ?_)
        · exact ka1
        clear hK K
        try simp only [Act.put, List.setIfInBounds_toArray, List.set_cons_zero, List.set_cons_succ]
        refine wpAnyH_ready (rs := [12]) (by kernel_rfl) (by simp) ?_
        refine AllReadyH.cons (i := 12) rfl (fun K hK => ?_) AllReadyH.nil
        go_simp
        refine hK.out _ _ ?_ (fun hHeld => ?_)
        · exact ka1
        clear hK K
        try simp only [Act.put, List.setIfInBounds_toArray, List.set_cons_zero, List.set_cons_succ]
        refine wpAnyH_ready (rs := [15]) (by kernel_rfl) (by simp) ?_
        refine AllReadyH.cons (i := 15) rfl (fun K hK => ?_) AllReadyH.nil
        refine step_append_own_at rfl (.tmp 53) (.tmp 55) 25 rfl 0 3 i3 (.int .i64 0) 1 8 Try.underlying25 HI3.out.1 HI3.out.2.1 HI3.out.2.2.1 HI3.out.2.2.2 rfl (by decide) (.slice ao B.length ca) B.length (intCells B) (by simp [Act.eval]) ROWD.out ⟨wq.heap.size, 0, none⟩ 1 1 [.int .i64 v] (by simp [Act.eval]) rfl (fun j u hj => (by rw [Addr.add_lit, Nat.zero_add]; exact ((Blk.new wq.drew #[.int .i64 v] 3).cell j).trans (by simpa using hj))) (by intro u hu; simp at hu; subst hu; rfl) (by unfold maxLen; omega) (by omega) (Nat.zero_le _) ?_; intro v' w5 hown5 hg5 hat5; obtain ⟨tv5, tc5, rfl, _, _⟩ := owns_cells hown5; have z5 : w5.frozen? ⟨h1.gQ, k * 2 + 1, none⟩ = false := (by rw [World.frozen?_of_block (hg5.block h1.gQ (by simp; omega) (fun e => HNQ.out e.symm))]; exact MD.out.qfrozen _); have y5 : w5.cell? ⟨h1.gQ, k * 2 + 1, none⟩ = some (.slice ao B.length ca) := (by rw [World.cell?_of_block (hg5.block h1.gQ (by simp; omega) (fun e => HNQ.out e.symm))]; exact ka4); have s5 : w5.cell? ⟨kb, 4, none⟩ = some (.slice (some ⟨h1.gQ, 0, none⟩) sg.box.length h1.cQ) := (by rw [World.cell?_of_block (hg5.block kb (by simp; omega) (fun e => HNK.out e.symm))]; exact ka1); have O5 := hid hown5; have G5 := hid hg5; have A5 := hid hat5; clear hown5 hg5 hat5
        refine hK.out _ _ ?_ (fun hHeld => ?_)
        · exact s5
        clear hK K
        try simp only [Act.put, List.setIfInBounds_toArray, List.set_cons_zero, List.set_cons_succ]
        (refine wpAnyH_take (i := 16) (v := ?_) rfl (by kernel_rfl) (by kernel_rfl) (by kernel_rfl) (fun _ _ _ h => h) (Or.inl ⟨by rfl, ?_⟩) (by assumption) ?_; rotate_left 1; (intro w hSw; (try dsimp only at hSw); go_simp); (try with_reducible rfl); (try simp only [Act.put, List.setIfInBounds_toArray, List.set_cons_zero, List.set_cons_succ]))
        (refine wpAnyH_take (i := 17) (v := ?_) rfl (by kernel_rfl) (by kernel_rfl) (by kernel_rfl) (fun _ _ _ h => h) (Or.inl ⟨by rfl, ?_⟩) (by assumption) ?_; rotate_left 1; (intro w hSw; (try dsimp only at hSw); go_simp); (try with_reducible rfl); (try simp only [Act.put, List.setIfInBounds_toArray, List.set_cons_zero, List.set_cons_succ]))
        refine wpAnyH_ready (rs := [18]) (by kernel_rfl) (by simp) ?_
        refine AllReadyH.cons (i := 18) rfl (fun K hK => ?_) AllReadyH.nil
        go_simp
        refine hK.out _ _ ?_ (fun hHeld => ?_)
        · exact (World.cell?_of_block (Below.heap_setCell _ _ _ _ hkq.symm)).trans s5
        clear hK K
        try simp only [Act.put, List.setIfInBounds_toArray, List.set_cons_zero, List.set_cons_succ]
        refine wpAnyH_done (by kernel_rfl) ?_ _
        go_wp2
        go_ret
        obtain ⟨h2, m2, u2, o2⟩ := FIN.out w5 tv5 tc5 O5.out G5.out A5.out
        refine ⟨ret_int HC.out.symm, h2, tk1, wt1, ?_, ?_, o2, u2⟩
        · rw [HS.out]; exact m2
        · rw [HS.out]; exact A2.out
  · have HC : Hid (cc = 0) := by rw [EC.out, if_pos (by omega)]; exact hid rfl
    obtain ⟨u, hu⟩ := Int.eq_ofNat_of_zero_le (show 0 ≤ tg by omega)
    subst hu
    have hul : u < sg.T.length := by rw [hsl]; omega
    have HS : Hid (ss = R.gets sg u v) := by rw [ES.out, if_pos (by omega)]; exact hid rfl
    have hg' : ((u : Int) == -1) = false := by simp
    have c1 := M1.out.blk.cell 1
    simp [kCells] at c1
    have a7 := M1.out.tcell hul 7 (by decide)
    simp [ktCells] at a7
    have f7 := M1.out.tfrozen (u * 13 + 7)
    obtain ⟨h2, m2, u2⟩ := M1.out.setT' hul (j := 7) (by decide) (.int .i64 v) (fun x => { x with got := v }) (ktCells_got _ _ _ _ _)
    have M2 := hid m2
    have U2 := hid (U1.out.trans u2 O1.out.size)
    have O2 : Hid (Only (kW kb h) w (w1.setCell ⟨h1.gT, u * 13 + 7, none⟩ (.int .i64 v))) := O1.out.setCell (.inl (by rw [U1.out.gT]; exact kW_gT)) _
    have A2 : Hid (Ln.Aux (R.gets sg u v) tk1 wt1) := A1.out.got FG.out u v
    have huI : (u : Int) < (sg.T.length : Int) := by omega
    have hf16 : sg.T.length ≤ 16 := by omega
    clear EC ES E3 m2 u2
    generalize sg.T[u].got = og at *
    go_wp2
    go_ret
    refine ⟨ret_int HC.out.symm, h2, tk1, wt1, ?_, ?_, O2.out, U2.out⟩
    · rw [HS.out]; exact M2.out
    · rw [HS.out]; exact A2.out

set_option linter.unusedSimpArgs false in
set_option maxRecDepth 100000 in
set_option maxHeartbeats 4000000 in
theorem kReceive_any (m : KMem F w kb h s tk wt ws) (f : KFit s) (a : Ln.Aux s tk wt) (t k : Nat) (ht : t < s.T.length) (hf0 : s.T[t].for_ = 0) (hk : k < s.box.length) (_h8 : s.box.length ≤ 8) (hq0 : s.box[k].length ≤ 1000) (n : Int) (hn0 : -1 ≤ n) (hn1 : n ≤ 1000) (g0 : 0 ≤ s.now) (g1 : s.now ≤ 1000000000) :
    Calls Try.prog 120 #[.pointer (some ⟨kb, 0, none⟩), .int .i64 t, .int .i64 k, .int .i64 n] w fun e w' => e = .returned (.int .i64 (R.recvC s k n)) ∧ ∃ h' tk' wt', KMem F w' kb h' (R.recvS s t k n) tk' wt' ws ∧ Ln.Aux (R.recvS s t k n) tk' wt' ∧ Only (kW kb h) w w' ∧ KUp w h h' := by
  have eb := boxAt_is k hk
  have EC : Hid (R.recvC s k n = if 0 < s.box[k].length then 0 else if n = 0 then 2 else 1) := by unfold R.recvC; rw [eb]; exact hid rfl
  have ES : Hid (R.recvS s t k n = if R.recvC s k n = 0 then { R.gets s t (s.box[k].getD 0 0) with box := s.box.set k (s.box[k].drop 1) } else if R.recvC s k n = 1 then R.beginW s t 3 (k : Int) n else s) := by unfold R.recvS; rw [eb]; exact hid rfl
  have hkI : (k : Int) < (s.box.length : Int) := by omega
  have htI : (t : Int) < (s.T.length : Int) := by omega
  have hfew := f.few
  have hf0' : (R.th s.T t).for_ = 0 := by rw [th_ext ht]; exact hf0
  have AB := hid (a.beginW f.ok t ht hf0' 3 (k : Int) n (by decide) (fun hh => absurd hh (by decide)))
  have BW := hid (kWaitFor_any m t ht f.few (a.few f.few).2 3 (k : Int) n hn0 hn1 g0 g1)
  have AG := hid (fun v => (a.got f t v).stores (f.got t v) s.count (s.box.set k (s.box[k].drop 1)))
  have c4 := m.blk.cell 4
  have c1 := m.blk.cell 1
  simp [kCells] at c4 c1
  have b4 := m.qcell hk 1 (by decide)
  simp [kqCells] at b4
  have ROW := hid (m.st.boxes k hk)
  obtain ⟨ao, ca, hv, hla, hna⟩ := ListAt.of_row ROW.out
  have HV := hid hv
  rw [hv] at b4
  have M := hid m
  have AX := hid a
  clear m f a eb hf0 hf0' hv hna
  generalize R.recvS s t k n = ss at *
  generalize R.recvC s k n = cc at *
  generalize R.beginW s t 3 (k : Int) n = sb at *
  by_cases hz : s.box[k].length = 0
  · have HC : Hid (cc = if n = 0 then 2 else 1) := by rw [EC.out, if_neg (by omega)]; exact hid rfl
    have HS : Hid (ss = if n = 0 then s else sb) := by
      rw [ES.out, HC.out]
      by_cases hz : n = 0
      · simp only [if_pos hz]
        exact hid rfl
      · simp only [if_neg hz]
        exact hid rfl
    have HA : Hid (Ln.Aux (if n = 0 then s else sb) tk (if n = 0 then wt else wt ++ [t])) := by
      by_cases hz : n = 0
      · simp only [if_pos hz]
        exact hid AX.out
      · simp only [if_neg hz]
        exact hid AB.out
    rw [hz] at b4
    clear ES EC AB AG hla HV ROW hq0 hz
    generalize (if n = 0 then s else sb) = s4 at *
    generalize (if n = 0 then wt else wt ++ [t]) = wt4 at *
    generalize (if n = 0 then (2 : Int) else 1) = c4' at *
    go_enter Try.func120, Try.ntmps120
    go_wp2_with fail
    refine BW.out.mono ?_
    rintro e w3 ⟨rfl, h3, m3, o3, u3⟩
    have M3 := hid m3
    have U3 := hid u3
    have O3 := hid (o3.mono kW_wait)
    clear m3 o3 u3 BW
    go_wp2
    go_ret
    refine ⟨ret_int HC.out.symm, h3, tk, wt4, ?_, ?_, O3.out, U3.out⟩
    · rw [HS.out]; exact M3.out
    · rw [HS.out]; exact HA.out
  · have HC : Hid (cc = 0) := by rw [EC.out, if_pos (by omega)]; exact hid rfl
    obtain ⟨bv, HBV⟩ : ∃ x, Hid (s.box[k].getD 0 0 = x) := ⟨_, hid rfl⟩
    have HS : Hid (ss = { R.gets s t bv with box := s.box.set k (s.box[k].drop 1) }) := by rw [ES.out, if_pos HC.out, HBV.out]; exact hid rfl
    have AG2 := hid (AG.out bv)
    obtain ⟨gq, oq, eao, hgl, hq0c⟩ := hla 0 (.int .i64 bv) (by
      have h0 : 0 < s.box[k].length := by omega
      have := HBV.out
      simp [List.getD, h0] at this
      simp [intCells, h0, this])
    have hoq : oq = 0 := by
      rcases ROW.out.2 with ⟨e, _⟩ | ⟨g', cap, cur, e, _⟩
      · rw [HV.out, eao] at e; cases e
      · rw [HV.out, eao] at e; cases e; rfl
    subst hoq
    rw [Nat.zero_add] at hq0c
    rw [eao] at b4 HV
    have hBn : (s.box[k].length == 0) = false := by simpa using hz
    have a7 := M.out.tcell ht 7 (by decide)
    simp [ktCells] at a7
    have f7 := M.out.tfrozen (t * 13 + 7)
    obtain ⟨h2, HM2⟩ : ∃ h2, Hid (KMem F (w.setCell ⟨h.gT, t * 13 + 7, none⟩ (.int .i64 bv)) kb h2 (R.gets s t bv) tk wt ws ∧ h2.qv = h.qv ∧ h2.gQ = h.gQ ∧ h2.nq = h.nq ∧ h2.cQ = h.cQ ∧ KUp w h h2) :=
      ⟨_, hid ⟨M.out.setT ht (by decide) (.int .i64 bv) (fun x => { x with got := bv }) (ktCells_got _ _ _ _ _), rfl, rfl, rfl, rfl, rfl, rfl, rfl, fun _ => .inl, fun _ => .inl, fun _ => .inl, rfl, rfl, fun _ => .inl⟩⟩
    have O2 : Hid (Only (kW kb h) w (w.setCell ⟨h.gT, t * 13 + 7, none⟩ (.int .i64 bv))) := (Only.refl _ _).setCell (.inl kW_gT) _
    clear EC ES AB AG BW eao
    obtain ⟨B, HB⟩ : ∃ x, Hid (s.box[k] = x) := ⟨_, hid rfl⟩
    rw [HB.out] at ROW HV b4 hBn hq0 HS AG2 hz
    have hB0 : 0 < B.length := by omega
    generalize s.T[t].got = og at *
    go_enter Try.func120, Try.ntmps120
    go_wp2_with fail
    go_region
    obtain ⟨m2, eqv, egQ, _, ecQ, u2⟩ := HM2.out
    have o2 := O2.out.drewN 1
    have m2' := m2.drewN 1
    clear HM2 O2 m2 c1 c4 b4 a7 f7 hq0c
    have e1 : (w.setCell ⟨h.gT, t * 13 + 7, none⟩ (.int .i64 bv)).drewN 1 = (w.setCell ⟨h.gT, t * 13 + 7, none⟩ (.int .i64 bv)).drew := rfl
    rw [e1] at o2 m2'
    clear e1
    generalize (w.setCell ⟨h.gT, t * 13 + 7, none⟩ (.int .i64 bv)).drew = wB at o2 m2' ⊢
    have hk2 : k < (R.gets s t bv).box.length := hk
    have U2 := hid u2
    have M2 := hid m2'
    have O2 := hid o2
    have HV2 : Hid (h2.qv k = .slice (some ⟨gq, 0, none⟩) B.length ca) := by rw [eqv]; exact hid HV.out
    have ROWB : Hid (wB.ownsRow 0 3 1 (.slice (some ⟨gq, 0, none⟩) B.length ca) B.length (intCells B)) := by
      have h1 := m2'.st.boxes k hk2
      have h3 : (R.gets s t bv).box[k] = B := HB.out
      rw [h3, HV2.out] at h1
      exact hid h1
    have hcq : B.length ≤ ca := by
      rcases ROWB.out.2 with ⟨e, _⟩ | ⟨g', cap, cur, e, _, _, h4, h5, _⟩
      · cases e
      · cases e
        exact h4
    have hcq2 : ca ≤ maxLen := by
      rcases ROWB.out.2 with ⟨e, _⟩ | ⟨g', cap, cur, e, _, _, h4, h5, _⟩
      · cases e
      · cases e
        exact h5
    have hgl2 : gq < wB.heap.size := (own_typ ROWB.out rfl).lt
    have c4 := m2'.blk.cell 4
    simp [kCells] at c4
    have c4' : wB.cell? ⟨kb, 4, none⟩ = some (.slice (some ⟨h2.gQ, 0, none⟩) s.box.length h2.cQ) := c4
    have HNEWS := hid (drop_news ROWB.out)
    have hDl : (B.drop 1).length = B.length - 1 := List.length_drop
    clear c4 m2' o2 u2 eqv egQ ecQ HV ROW HBV hla
    by_cases hc1 : ca = 1
    · subst hc1
      have hB1 : B.length = 1 := by omega
      have hD0 : B.drop 1 = [] := by apply List.eq_nil_of_length_eq_zero; omega
      rw [hD0] at HS AG2
      clear HNEWS hDl hD0
      obtain ⟨D, HD⟩ : ∃ D : List Int, Hid (([] : List Int) = D) := ⟨_, hid rfl⟩
      have CO := hid (fun ao => kCopyOf_any wB.drew ao 0 [] (fun j u hj => by simp [intCells] at hj) (fun _ => rfl) (by decide))
      rw [HD.out] at HS AG2
      have CO2 : Hid (∀ ao, Calls Try.prog 67 #[.slice ao 0 0] wB.drew fun e w' => ∃ v, e = .returned v ∧ w'.ownsRow wB.drew.heap.size 3 1 v D.length (intCells D) ∧ Below wB.drew.heap.size wB.drew w') := by
        rw [← HD.out]
        exact hid CO.out
      have hkq : h2.gQ ≠ kb := fun e => ((own_typ M2.out.st.qrow rfl : Typ wB h2.gQ _).ne M2.out.kT (by decide) e)
      clear CO HD
      go_wp2_with fail
      go_region_held3 (fun w' => w'.cell? ⟨kb, 4, none⟩ = some (.slice (some ⟨h2.gQ, 0, none⟩) s.box.length h2.cQ)) (go_keep)
        (first
          | (go_at_call 67; refine (CO2.out _).mono ?_; rintro e w3 ⟨v3, rfl, hr3, hb3⟩; obtain ⟨tv3, tc3, rfl, _, _⟩ := owns_cells hr3; have m3 := M2.out.below (via (Below.refl _ _).drew (Nat.le_refl _) hb3); have k0 : w3.cell? ⟨kb, 4, none⟩ = some (.slice (some ⟨h2.gQ, 0, none⟩) s.box.length h2.cQ) := m3.blk.cell 4; have y3 : w3.cell? ⟨h2.gQ, k * 2 + 1, none⟩ = some (h2.qv k) := m3.qcell hk2 1 (by decide); have z3 := m3.qfrozen (k * 2 + 1); have R3 := hid hr3; have HB3 := hid hb3; clear hr3 hb3 m3))
      go_wp2
      go_ret
      obtain ⟨h4, m4, u4⟩ := M2.out.setQ' (w1 := w3) k hk2 (v := .slice tv3 _ tc3) (l := D) (fun b hb _ => HB3.out.block b (by simpa using hb)) (ownsRow_mono R3.out (Nat.zero_le _)) (fun g hg => .inr (by have := (ownsRow_block R3.out hg).1; simpa using this))
      refine ⟨ret_int HC.out.symm, h4, tk, wt, ?_, ?_, ?_, U2.out.trans u4 O2.out.size⟩
      · rw [HS.out]; exact m4
      · rw [HS.out]; exact AG2.out
      · refine (O2.out.trans (Only.of_below (via (Below.refl _ _).drew (Nat.le_refl _) HB3.out))).setCell (.inl ?_) _
        rw [U2.out.gQ]
        exact kW_gQ
    · have hc1d : (ca == 1) = false := by simpa using hc1
      have hi1 : (1 : Int) ≤ (B.length : Int) := by omega
      have hi2 : (B.length : Int) ≤ (ca : Int) := by omega
      have hi3 : (0 : Int) ≤ 1 := by decide
      have hi4 : 1 ≤ B.length := by omega
      generalize B.drop 1 = D at *
      have hla : ListAt wB.drew (some ⟨gq, 1, none⟩) D := fun j u hj => by
        obtain ⟨ad, e1, e2⟩ := HNEWS.out j u hj
        cases e1
        rw [Addr.add_lit] at e2
        exact ⟨gq, 1, rfl, hgl2, e2⟩
      have CO := hid (kCopyOf_any wB.drew (some ⟨gq, 1, none⟩) (ca - 1) D hla (fun hh => by cases hh) (by omega))
      rw [hDl] at CO
      have CO2 : Hid (Calls Try.prog 67 #[.slice (some ⟨gq, 1, none⟩) (B.length - 1) (ca - 1)] wB.drew fun e w' => ∃ v, e = .returned v ∧ w'.ownsRow wB.drew.heap.size 3 1 v D.length (intCells D) ∧ Below wB.drew.heap.size wB.drew w') := by
        rw [hDl]
        exact hid CO.out
      have hkq : h2.gQ ≠ kb := fun e => ((own_typ M2.out.st.qrow rfl : Typ wB h2.gQ _).ne M2.out.kT (by decide) e)
      clear hla HNEWS CO hDl
      go_wp2_with fail
      go_region_held3 (fun w' => w'.cell? ⟨kb, 4, none⟩ = some (.slice (some ⟨h2.gQ, 0, none⟩) s.box.length h2.cQ)) (go_keep)
        (first
          | (go_at_call 67; refine CO2.out.mono ?_; rintro e w3 ⟨v3, rfl, hr3, hb3⟩; obtain ⟨tv3, tc3, rfl, _, _⟩ := owns_cells hr3; have m3 := M2.out.below (via (Below.refl _ _).drew (Nat.le_refl _) hb3); have k0 : w3.cell? ⟨kb, 4, none⟩ = some (.slice (some ⟨h2.gQ, 0, none⟩) s.box.length h2.cQ) := m3.blk.cell 4; have y3 : w3.cell? ⟨h2.gQ, k * 2 + 1, none⟩ = some (h2.qv k) := m3.qcell hk2 1 (by decide); have z3 := m3.qfrozen (k * 2 + 1); have R3 := hid hr3; have HB3 := hid hb3; clear hr3 hb3 m3))
      go_wp2
      go_ret
      obtain ⟨h4, m4, u4⟩ := M2.out.setQ' (w1 := w3) k hk2 (v := .slice tv3 _ tc3) (l := D) (fun b hb _ => HB3.out.block b (by simpa using hb)) (ownsRow_mono R3.out (Nat.zero_le _)) (fun g hg => .inr (by have := (ownsRow_block R3.out hg).1; simpa using this))
      refine ⟨ret_int HC.out.symm, h4, tk, wt, ?_, ?_, ?_, U2.out.trans u4 O2.out.size⟩
      · rw [HS.out]; exact m4
      · rw [HS.out]; exact AG2.out
      · refine (O2.out.trans (Only.of_below (via (Below.refl _ _).drew (Nat.le_refl _) HB3.out))).setCell (.inl ?_) _
        rw [U2.out.gQ]
        exact kW_gQ
end

end Go.Proofs.Ytbkfildnijjioab
