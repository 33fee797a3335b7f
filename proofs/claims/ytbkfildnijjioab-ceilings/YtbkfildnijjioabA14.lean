import Derived.Test.YtbkfildnijjioabA13
import Derived.Test.YtbkfildnijjioabA12
/-
  Walks over package donate: an instruction is done.
-/
namespace Go.Proofs.Ytbkfildnijjioab
open Go.RowKit

/-- What the walks want to know of an instruction. -/
structure KIns (s : RS) (i : InstrD) : Prop where
  prio : i.op = 4 → 0 ≤ i.a ∧ i.a < s.T.length
  sleep : i.op = 5 → 1 ≤ i.a ∧ i.a ≤ 1000
  mtx : i.op = 6 ∨ i.op = 7 → 0 ≤ i.a ∧ i.a < s.owner.length
  wait : i.op = 6 ∨ i.op = 8 ∨ i.op = 11 → -1 ≤ i.b ∧ i.b ≤ 1000
  sem : i.op = 8 ∨ i.op = 9 → 0 ≤ i.a ∧ i.a < s.count.length
  que : i.op = 10 ∨ i.op = 11 → 0 ≤ i.a ∧ i.a < s.box.length
theorem RMid.kins {s : RS} (h : RMid s) (t : Nat) (ht : t < s.set.threads.length) (i : InstrD) (hi : i ∈ s.set.threads[t].code) : KIns s i := by
  have := ok_instr h.ok t ht i hi
  unfold P3.instrP P3.instrB P3.fitsB P3.known P3.lowA P3.highA P3.lowB P3.highB at this
  rw [Bool.and_eq_true, decide_eq_true_iff, decide_eq_true_iff] at this
  obtain ⟨⟨o0, o1⟩, ha0, ha1, hb0, hb1⟩ := this
  have l1 := h.good.len
  have l2 := h.good.own
  have l3 := h.bnd.cs
  have l4 := h.bnd.qs
  refine ⟨fun e => ?_, fun e => ?_, fun e => ?_, fun e => ?_, fun e => ?_, fun e => ?_⟩
  · simp [e] at ha0 ha1; omega
  · simp [e] at ha0 ha1; omega
  · rcases e with e | e <;> simp [e] at ha0 ha1 <;> omega
  · rcases e with e | e | e <;> simp [e] at hb0 hb1 <;> omega
  · rcases e with e | e <;> simp [e] at ha0 ha1 <;> omega
  · rcases e with e | e <;> simp [e] at ha0 ha1 <;> omega
/-- What the walks want to know of semaphores and queues. -/
structure KSto (s : RS) : Prop where
  c8 : s.count.length ≤ 8
  cb : ∀ k (hk : k < s.count.length), 0 ≤ s.count[k] ∧ s.count[k] ≤ (s.set.sems.getD k R.pair0).y
  cy : ∀ k, k < s.count.length → (s.set.sems.getD k R.pair0).y ≤ 1000000
  q8 : s.box.length ≤ 8
  qb : ∀ k (hk : k < s.box.length), (s.box[k].length : Int) ≤ s.set.queues.getD k 0
  qy : ∀ k, k < s.box.length → s.set.queues.getD k 0 ≤ 1000
theorem RMid.ksto {s : RS} (h : RMid s) : KSto s := by
  have hz := ok_sizes h.ok
  have l3 := h.bnd.cs
  have l4 := h.bnd.qs
  refine ⟨by omega, h.bnd.cb, fun k hk => ?_, by omega, h.bnd.qb, fun k hk => ?_⟩
  · have := (ok_sem h.ok k (by omega)).2.1
    omega
  · have := (ok_queue h.ok k (by omega)).2
    omega

section
variable {F : Nat → Prop} {w w' : World} {kb : Nat} {h : KH} {s : RS} {tk wt : List Nat} {ws : List Int}

theorem KMem.tick (m : KMem F w kb h s tk wt ws) (t : Nat) (n k : Int) : KMem F w kb h { s with next := n, T := s.T.modify t (fun x => { x with tick := k }) } tk wt ws := by
  refine m.cong rfl rfl (by simp) rfl rfl rfl rfl (fun i hi => ?_)
  simp only [List.getElem_modify]
  by_cases e : t = i
  · simp only [if_pos e]
    rfl
  · simp only [if_neg e]

set_option maxRecDepth 100000 in
set_option maxHeartbeats 4000000 in
theorem kDo_any (m : KMem F w kb h s tk wt ws) (f : KFit s) (a : Ln.Aux s tk wt) (t : Nat) (ht : t < s.T.length) (hf0 : s.T[t].for_ = 0) (g0 : 0 ≤ s.now) (g1 : s.now ≤ 1000000000) (i : InstrD) (ki : KIns s i) (ksto : KSto s) (hop : i.op = 1 ∨ i.op = 2 ∨ i.op = 4 ∨ i.op = 5 ∨ i.op = 6 ∨ i.op = 7 ∨ i.op = 8 ∨ i.op = 9 ∨ i.op = 10 ∨ i.op = 11) :
    Calls Try.prog 109 #[.pointer (some ⟨kb, 0, none⟩), .int .i64 t, .agg #[.int .i64 i.op, .int .i64 i.a, .int .i64 i.b]] w fun e w' => e = .returned (.int .i64 (R.doesC s t i)) ∧ ∃ h' tk' wt', KMem F w' kb h' (R.doesS s t i) tk' wt' ws ∧ Ln.Aux (R.doesS s t i) tk' wt' ∧ Only (kW kb h) w w' ∧ KUp w h h' := by
  have hbA : Below w.heap.size w (w.alloc (.cells #[.int .i64 i.op, .int .i64 i.a, .int .i64 i.b] 46)) := (Below.refl _ _).alloc (Nat.le_refl _) _
  have XA := Blk.new w #[.int .i64 i.op, .int .i64 i.a, .int .i64 i.b] 46
  have hsm := a.few f.few
  have hfew := f.few
  have hf0' : (R.th s.T t).for_ = 0 := by rw [th_ext ht]; exact hf0
  go_enter Try.func109, Try.ntmps109
  go_upto_region 1 with fail
  generalize w.alloc (.cells #[.int .i64 i.op, .int .i64 i.a, .int .i64 i.b] 46) = wA at hbA XA ⊢
  have MA := hid (m.below hbA)
  have OA : Hid (Only (kW kb h) w wA) := Only.of_below hbA
  have hszA := hbA.size
  have x0 := XA.cell 0
  have x1 := XA.cell 1
  have x2 := XA.cell 2
  simp at x0 x1 x2
  have FT := hid f
  have AX := hid a
  have KI := hid ki
  have KQ := hid ksto
  clear m f a ki hbA XA hf0 ksto
  rcases hop with hop | hop | hop | hop | hop | hop | hop | hop | hop | hop
  · have EC : Hid (R.doesC s t i = 0) := by unfold R.doesC; simp [hop]; exact hid trivial
    have ES : Hid (R.doesS s t i = s) := by unfold R.doesS; simp [hop]; exact hid trivial
    rw [hop] at x0
    clear hop
    go_wp2
    go_ret
    refine ⟨ret_int EC.out.symm, h, tk, wt, ?_, ?_, OA.out, KUp.refl _ _⟩
    · rw [ES.out]; exact MA.out
    · rw [ES.out]; exact AX.out
  · have EC : Hid (R.doesC s t i = 0) := by unfold R.doesC; simp [hop]; exact hid trivial
    have ES : Hid (R.doesS s t i = { s with next := s.next + 1, T := s.T.modify t (fun x => { x with tick := s.next + 1 }) }) := by unfold R.doesS; rw [if_pos hop]; exact hid rfl
    rw [hop] at x0
    clear hop
    have CD := hid (kDraw_any MA.out t hsm.1)
    go_wp2_with fail
    refine CD.out.mono ?_
    rintro e w2 ⟨rfl, h2, m2, o2, u2⟩
    have M2 := hid m2
    have U2 := hid ((KUp.refl w h).trans u2 hszA)
    have O2 := hid (OA.out.trans (o2.mono (fun b hb => by simp at hb; rw [hb]; exact kW_kb)))
    clear m2 o2 u2 CD
    go_wp2
    go_ret
    refine ⟨ret_int EC.out.symm, h2, Ln.less tk t ++ [t], wt, ?_, ?_, O2.out, U2.out⟩
    · rw [ES.out]; exact M2.out.tick t _ _
    · rw [ES.out]; exact AX.out.draws FT.out.ok t ht _ (fun _ => ⟨rfl, rfl, rfl, rfl⟩)
  · have EC : Hid (R.doesC s t i = 0) := by unfold R.doesC; simp [hop]; exact hid trivial
    have ES : Hid (R.doesS s t i = { s with T := s.T.modify i.a.toNat (fun x => { x with base := i.b }) }) := by unfold R.doesS; rw [if_neg (by omega), if_pos hop]; exact hid rfl
    obtain ⟨p0, p1⟩ := KI.out.prio hop
    obtain ⟨k, hk⟩ := Int.eq_ofNat_of_zero_le p0
    have hkl : k < s.T.length := by omega
    have ekn : i.a.toNat = k := by omega
    rw [ekn] at ES
    rw [hk] at x1
    rw [hop] at x0
    have c1 := MA.out.blk.cell 1
    simp [kCells] at c1
    have a1 := MA.out.tcell hkl 1 (by decide)
    simp [ktCells] at a1
    have f1 := MA.out.tfrozen (k * 13 + 1)
    obtain ⟨h2, m2, u2⟩ := MA.out.setT' hkl (j := 1) (by decide) (.int .i64 i.b) (fun x => { x with base := i.b }) (ktCells_base _ _ _ _ _)
    have M2 := hid m2
    have U2 := hid ((KUp.refl w h).trans u2 hszA)
    have O2 := hid (OA.out.setCell (p := ⟨h.gT, k * 13 + 1, none⟩) (.inl kW_gT) (.int .i64 i.b))
    have hkI : (k : Int) < (s.T.length : Int) := by omega
    clear m2 u2 hop p0 p1 hk ekn
    generalize s.T[k].base = ob at *
    go_wp2_with fail
    go_region
    go_wp2
    go_ret
    refine ⟨ret_int EC.out.symm, h2, tk, wt, ?_, ?_, O2.out.drewN 1, U2.out⟩
    · rw [ES.out]; exact M2.out.drewN 1
    · rw [ES.out]; exact AX.out.modify FT.out.ok k _ (fun _ => ⟨rfl, rfl, rfl, rfl, id⟩)
  · have EC : Hid (R.doesC s t i = 1) := by unfold R.doesC; rw [if_pos hop]; exact hid rfl
    have ES : Hid (R.doesS s t i = R.beginW s t 4 0 i.a) := by unfold R.doesS; rw [if_neg (by omega), if_neg (by omega), if_pos hop]; exact hid rfl
    obtain ⟨p0, p1⟩ := KI.out.sleep hop
    have BW := hid (kBeginWait_any MA.out t ht hfew hsm.2 4 0 i.a (by omega) (by omega) g0 g1)
    have AB := hid (AX.out.beginW FT.out.ok t ht hf0' 4 0 i.a (by decide) (fun hh => absurd hh (by decide)))
    rw [hop] at x0
    clear hop
    generalize R.beginW s t 4 0 i.a = sb at *
    go_wp2_with fail
    refine BW.out.mono ?_
    rintro e w2 ⟨rfl, h2, m2, o2, u2⟩
    have M2 := hid m2
    have U2 := hid ((KUp.refl w h).trans u2 hszA)
    have O2 := hid (OA.out.trans (o2.mono kW_wait))
    clear m2 o2 u2 BW
    go_wp2
    go_ret
    refine ⟨ret_int EC.out.symm, h2, tk, wt ++ [t], ?_, ?_, O2.out, U2.out⟩
    · rw [ES.out]; exact M2.out
    · rw [ES.out]; exact AB.out
  · have EC : Hid (R.doesC s t i = R.lockC s t i.a.toNat i.b) := by unfold R.doesC; rw [if_neg (by omega), if_pos hop]; exact hid rfl
    have ES : Hid (R.doesS s t i = R.lockS s t i.a.toNat i.b) := by unfold R.doesS; rw [if_neg (by omega), if_neg (by omega), if_neg (by omega), if_pos hop]; exact hid rfl
    obtain ⟨p0, p1⟩ := KI.out.mtx (.inl hop)
    obtain ⟨q0, q1⟩ := KI.out.wait (.inl hop)
    obtain ⟨k, hk⟩ := Int.eq_ofNat_of_zero_le p0
    have hkl : k < s.owner.length := by omega
    have ekn : i.a.toNat = k := by omega
    rw [ekn] at ES EC
    rw [hk] at x1
    rw [hop] at x0
    have CL := hid (kLock_any MA.out FT.out AX.out t k ht (by rw [← th_ext ht]; exact hf0') hkl i.b q0 q1 g0 g1)
    clear hop p0 p1 q0 q1 hk ekn
    generalize R.lockS s t k i.b = sl at *
    generalize R.lockC s t k i.b = cl at *
    go_wp2_with fail
    refine CL.out.mono ?_
    rintro e w2 ⟨rfl, h2, tk2, wt2, m2, a2, o2, u2⟩
    have M2 := hid m2
    have A2 := hid a2
    have U2 := hid ((KUp.refl w h).trans u2 hszA)
    have O2 := hid (OA.out.trans (o2.mono kW_lock))
    clear m2 a2 o2 u2 CL
    go_wp2
    go_ret
    refine ⟨ret_int EC.out.symm, h2, tk2, wt2, ?_, ?_, O2.out, U2.out⟩
    · rw [ES.out]; exact M2.out
    · rw [ES.out]; exact A2.out
  · have EC : Hid (R.doesC s t i = R.unlockC s t i.a.toNat) := by unfold R.doesC; rw [if_neg (by omega), if_neg (by omega), if_pos hop]; exact hid rfl
    have ES : Hid (R.doesS s t i = R.unlockS s t i.a.toNat) := by unfold R.doesS; rw [if_neg (by omega), if_neg (by omega), if_neg (by omega), if_neg (by omega), if_pos hop]; exact hid rfl
    obtain ⟨p0, p1⟩ := KI.out.mtx (.inr hop)
    obtain ⟨k, hk⟩ := Int.eq_ofNat_of_zero_le p0
    have hkl : k < s.owner.length := by omega
    have ekn : i.a.toNat = k := by omega
    rw [ekn] at ES EC
    rw [hk] at x1
    rw [hop] at x0
    have CL := hid (kUnlock_any MA.out FT.out AX.out t k hkl)
    clear hop p0 p1 hk ekn
    generalize R.unlockS s t k = sl at *
    generalize R.unlockC s t k = cl at *
    go_wp2_with fail
    refine CL.out.mono ?_
    rintro e w2 ⟨rfl, h2, tk2, wt2, m2, a2, o2, u2⟩
    have M2 := hid m2
    have A2 := hid a2
    have U2 := hid ((KUp.refl w h).trans u2 hszA)
    have O2 := hid (OA.out.trans (o2.mono (fun b hb => kW_lock b (by simp at hb ⊢; rcases hb with h | h | h <;> simp [h]))))
    clear m2 a2 o2 u2 CL
    go_wp2
    go_ret
    refine ⟨ret_int EC.out.symm, h2, tk2, wt2, ?_, ?_, O2.out, U2.out⟩
    · rw [ES.out]; exact M2.out
    · rw [ES.out]; exact A2.out
  · have EC : Hid (R.doesC s t i = R.downC s i.a.toNat i.b) := by unfold R.doesC; rw [if_neg (by omega), if_neg (by omega), if_neg (by omega), if_pos hop]; exact hid rfl
    have ES : Hid (R.doesS s t i = R.downS s t i.a.toNat i.b) := by unfold R.doesS; rw [if_neg (by omega), if_neg (by omega), if_neg (by omega), if_neg (by omega), if_neg (by omega), if_pos hop]; exact hid rfl
    obtain ⟨p0, p1⟩ := KI.out.sem (.inl hop)
    obtain ⟨q0, q1⟩ := KI.out.wait (.inr (.inl hop))
    obtain ⟨k, hk⟩ := Int.eq_ofNat_of_zero_le p0
    have hkl : k < s.count.length := by omega
    have ekn : i.a.toNat = k := by omega
    rw [ekn] at ES EC
    rw [hk] at x1
    rw [hop] at x0
    have CL := hid (kDown_any MA.out FT.out AX.out t k ht (by rw [← th_ext ht]; exact hf0') hkl KQ.out.c8 ⟨(KQ.out.cb k hkl).1, Int.le_trans (KQ.out.cb k hkl).2 (KQ.out.cy k hkl)⟩ i.b q0 q1 g0 g1)
    clear hop p0 p1 hk ekn
    generalize R.downS s t k i.b = sl at *
    generalize R.downC s k i.b = cl at *
    go_wp2_with fail
    refine CL.out.mono ?_
    rintro e w2 ⟨rfl, h2, tk2, wt2, m2, a2, o2, u2⟩
    have M2 := hid m2
    have A2 := hid a2
    have U2 := hid ((KUp.refl w h).trans u2 hszA)
    have O2 := hid (OA.out.trans o2)
    clear m2 a2 o2 u2 CL
    go_wp2
    go_ret
    refine ⟨ret_int EC.out.symm, h2, tk2, wt2, ?_, ?_, O2.out, U2.out⟩
    · rw [ES.out]; exact M2.out
    · rw [ES.out]; exact A2.out
  · have EC : Hid (R.doesC s t i = R.upC s i.a.toNat) := by unfold R.doesC; rw [if_neg (by omega), if_neg (by omega), if_neg (by omega), if_neg (by omega), if_pos hop]; exact hid rfl
    have ES : Hid (R.doesS s t i = R.upS s i.a.toNat) := by unfold R.doesS; rw [if_neg (by omega), if_neg (by omega), if_neg (by omega), if_neg (by omega), if_neg (by omega), if_neg (by omega), if_pos hop]; exact hid rfl
    obtain ⟨p0, p1⟩ := KI.out.sem (.inr hop)
    obtain ⟨k, hk⟩ := Int.eq_ofNat_of_zero_le p0
    have hkl : k < s.count.length := by omega
    have ekn : i.a.toNat = k := by omega
    rw [ekn] at ES EC
    rw [hk] at x1
    rw [hop] at x0
    have CL := hid (kUp_any MA.out FT.out AX.out k hkl KQ.out.c8 (KQ.out.cb k hkl) (KQ.out.cy k hkl))
    clear hop p0 p1 hk ekn
    generalize R.upS s k = sl at *
    generalize R.upC s k = cl at *
    go_wp2_with fail
    refine CL.out.mono ?_
    rintro e w2 ⟨rfl, h2, tk2, wt2, m2, a2, o2, u2⟩
    have M2 := hid m2
    have A2 := hid a2
    have U2 := hid ((KUp.refl w h).trans u2 hszA)
    have O2 := hid (OA.out.trans o2)
    clear m2 a2 o2 u2 CL
    go_wp2
    go_ret
    refine ⟨ret_int EC.out.symm, h2, tk2, wt2, ?_, ?_, O2.out, U2.out⟩
    · rw [ES.out]; exact M2.out
    · rw [ES.out]; exact A2.out
  · have EC : Hid (R.doesC s t i = R.sendC s i.a.toNat) := by unfold R.doesC; rw [if_neg (by omega), if_neg (by omega), if_neg (by omega), if_neg (by omega), if_neg (by omega), if_pos hop]; exact hid rfl
    have ES : Hid (R.doesS s t i = R.sendS s i.a.toNat i.b) := by unfold R.doesS; rw [if_neg (by omega), if_neg (by omega), if_neg (by omega), if_neg (by omega), if_neg (by omega), if_neg (by omega), if_neg (by omega), if_pos hop]; exact hid rfl
    obtain ⟨p0, p1⟩ := KI.out.que (.inl hop)
    obtain ⟨k, hk⟩ := Int.eq_ofNat_of_zero_le p0
    have hkl : k < s.box.length := by omega
    have ekn : i.a.toNat = k := by omega
    rw [ekn] at ES EC
    rw [hk] at x1
    rw [hop] at x0
    have CL := hid (kSend_any MA.out FT.out AX.out k hkl KQ.out.q8 (KQ.out.qb k hkl) (KQ.out.qy k hkl) i.b)
    clear hop p0 p1 hk ekn
    generalize R.sendS s k i.b = sl at *
    generalize R.sendC s k = cl at *
    go_wp2_with fail
    refine CL.out.mono ?_
    rintro e w2 ⟨rfl, h2, tk2, wt2, m2, a2, o2, u2⟩
    have M2 := hid m2
    have A2 := hid a2
    have U2 := hid ((KUp.refl w h).trans u2 hszA)
    have O2 := hid (OA.out.trans o2)
    clear m2 a2 o2 u2 CL
    go_wp2
    go_ret
    refine ⟨ret_int EC.out.symm, h2, tk2, wt2, ?_, ?_, O2.out, U2.out⟩
    · rw [ES.out]; exact M2.out
    · rw [ES.out]; exact A2.out
  · have EC : Hid (R.doesC s t i = R.recvC s i.a.toNat i.b) := by unfold R.doesC; rw [if_neg (by omega), if_neg (by omega), if_neg (by omega), if_neg (by omega), if_neg (by omega), if_neg (by omega), if_pos hop]; exact hid rfl
    have ES : Hid (R.doesS s t i = R.recvS s t i.a.toNat i.b) := by unfold R.doesS; rw [if_neg (by omega), if_neg (by omega), if_neg (by omega), if_neg (by omega), if_neg (by omega), if_neg (by omega), if_neg (by omega), if_neg (by omega), if_pos hop]; exact hid rfl
    obtain ⟨p0, p1⟩ := KI.out.que (.inr hop)
    obtain ⟨q0, q1⟩ := KI.out.wait (.inr (.inr hop))
    obtain ⟨k, hk⟩ := Int.eq_ofNat_of_zero_le p0
    have hkl : k < s.box.length := by omega
    have ekn : i.a.toNat = k := by omega
    rw [ekn] at ES EC
    rw [hk] at x1
    rw [hop] at x0
    have CL := hid (kReceive_any MA.out FT.out AX.out t k ht (by rw [← th_ext ht]; exact hf0') hkl KQ.out.q8 (by have := KQ.out.qb k hkl; have := KQ.out.qy k hkl; omega) i.b q0 q1 g0 g1)
    clear hop p0 p1 hk ekn
    generalize R.recvS s t k i.b = sl at *
    generalize R.recvC s k i.b = cl at *
    go_wp2_with fail
    refine CL.out.mono ?_
    rintro e w2 ⟨rfl, h2, tk2, wt2, m2, a2, o2, u2⟩
    have M2 := hid m2
    have A2 := hid a2
    have U2 := hid ((KUp.refl w h).trans u2 hszA)
    have O2 := hid (OA.out.trans o2)
    clear m2 a2 o2 u2 CL
    go_wp2
    go_ret
    refine ⟨ret_int EC.out.symm, h2, tk2, wt2, ?_, ?_, O2.out, U2.out⟩
    · rw [ES.out]; exact M2.out
    · rw [ES.out]; exact A2.out
end

end Go.Proofs.Ytbkfildnijjioab

/-
  The law's own function upTo.
-/
namespace Go.Proofs.Ytbkfildnijjioab
open Go.RowKit
def codeUpTo (most : Int) (c : List InstrD) : Bool := c.all fun i => decide (i.op ≤ most)
def setUpTo (most : Int) (S : SetD) : Bool := S.threads.all fun t => codeUpTo most t.code
end Go.Proofs.Ytbkfildnijjioab

/-
  Walks over package donate: step, Pick.
-/
namespace Go.Proofs.Ytbkfildnijjioab
open Go.RowKit

theorem toAt_self (s : RS) (t : Nat) (ht : t < s.T.length) : R.toAt s t (R.th s.T t).at_ = s := by
  have e : s.T.modify t (fun x => { x with at_ := (R.th s.T t).at_ }) = s.T := by
    apply List.ext_getElem
    · simp
    · intro i h1 h2
      rw [List.getElem_modify]
      split
      · rename_i e
        subst e
        have e2 : (R.th s.T t).at_ = s.T[t].at_ := by rw [th_ext ht]
        simp only [e2]
      · rfl
  unfold R.toAt
  rw [e]
theorem doesS_len (s : RS) (t : Nat) (i : InstrD) : (R.doesS s t i).T.length = s.T.length := (R.keepW_doesS s t i).len
theorem at_doesS (s : RS) (t : Nat) (ht : t < s.T.length) (i : InstrD) : (R.th (R.doesS s t i).T t).at_ = (R.th s.T t).at_ := by
  have h1 := R.doesS_toAt s t (R.th s.T t).at_ i
  rw [toAt_self s t ht] at h1
  rw [h1]
  show (R.th ((R.doesS s t i).T.modify t _) t).at_ = _
  rw [Ln.th_modify, if_pos ⟨rfl, by rw [doesS_len s t i]; exact ht⟩]

section
variable {F : Nat → Prop} {w w' : World} {kb : Nat} {h : KH} {s : RS} {tk wt : List Nat} {ws : List Int}

theorem KFit.unmod {s s' : RS} {t : Nat} {g : RT → RT} (f : KFit s') (hg : ∀ x, (g x).for_ = x.for_ ∧ (g x).of_ = x.of_) (h : s' = { s with T := s.T.modify t g } := by rfl) : KFit s := by
  subst h
  have hth : ∀ u, (R.th (s.T.modify t g) u).for_ = (R.th s.T u).for_ ∧ (R.th (s.T.modify t g) u).of_ = (R.th s.T u).of_ := fun u => by
    rw [Ln.th_modify]
    split
    · exact hg _
    · exact ⟨rfl, rfl⟩
  refine ⟨by simpa using f.few, f.m8, f.ok.len, fun i hi => by simpa using f.ok.own i hi, fun u hu hf => ?_, f.ok.kind⟩
  have h1 := f.ok.of1 u (by simpa using hu) (by show (R.th (s.T.modify t g) u).for_ = 1; rw [(hth u).1]; exact hf)
  have h2 : 0 ≤ (R.th (s.T.modify t g) u).of_ ∧ (R.th (s.T.modify t g) u).of_ < s.owner.length := h1
  rwa [(hth u).2] at h2

set_option maxRecDepth 100000 in
set_option maxHeartbeats 4000000 in
theorem kStep_any (m : KMem F w kb h s tk wt ws) (f : KFit s) (a : Ln.Aux s tk wt) (t : Nat) (ht : t < s.T.length) (hf0 : s.T[t].for_ = 0) (g0 : 0 ≤ s.now) (g1 : s.now ≤ 1000000000) (hat : 0 ≤ s.T[t].at_ ∧ s.T[t].at_ ≤ 1000) (hen : 0 ≤ s.T[t].ended ∧ s.T[t].ended ≤ 2000000000) (hc32 : (s.set.threads.getD t P3.none0).code.length ≤ 32)
    (h0 : 0 ≤ (R.instrAt s t).op) (h7 : (R.instrAt s t).op ≤ 11) (ki : KIns s (R.instrAt s t)) (ksto : KSto s) (fa : KFit (R.actS s t)) :
    Calls Try.prog 85 #[.pointer (some ⟨kb, 0, none⟩), .int .i64 t] w fun e w' => e = .returned (.int .i64 (R.actC s t)) ∧ ∃ h' tk' wt', KMem F w' kb h' (R.actS s t) tk' wt' ws ∧ Ln.Aux (R.actS s t) tk' wt' ∧ Only (kW kb h) w w' ∧ KUp w h h' := by
  have NI := hid (kNextInstr_any m t ht f.few hat.1 hc32)
  have M := hid m
  have FT := hid f
  have AX := hid a
  have hfew := f.few
  have hm8 := f.m8
  have ACT0 : Hid ((R.instrAt s t).op = 0 → R.actS s t = R.stop s t ∧ R.actC s t = 0) := fun e => by
    refine ⟨?_, ?_⟩
    · unfold R.actS
      rw [if_pos e]
    · unfold R.actC
      rw [if_pos (.inl e)]
  have ACT3 : Hid ((R.instrAt s t).op = 3 → R.actS s t = (if s.T[t].last = (R.instrAt s t).a then R.toAt s t (R.instrAt s t).b else R.toAt s t (s.T[t].at_ + 1)) ∧ R.actC s t = 0) := fun e => by
    refine ⟨?_, ?_⟩
    · unfold R.actS
      rw [if_neg (by omega), if_pos e, th_ext ht]
    · unfold R.actC
      rw [if_pos (.inr e)]
  have ACT : Hid ((R.instrAt s t).op ≠ 0 → (R.instrAt s t).op ≠ 3 → R.actS s t = R.toLast (R.toAt (R.doesS s t (R.instrAt s t)) t (s.T[t].at_ + 1)) t (R.doesC s t (R.instrAt s t)) ∧ R.actC s t = R.doesC s t (R.instrAt s t)) := fun e1 e2 => by
    have := R.actS_is s t e1 e2
    rwa [th_ext ht] at this
  have ATD : Hid ((R.th (R.doesS s t (R.instrAt s t)).T t).at_ = s.T[t].at_) := by rw [at_doesS s t ht _, th_ext ht]; exact hid rfl
  have LND := hid (doesS_len s t (R.instrAt s t))
  have DO := hid (fun wx (hb : Below w.heap.size w wx) hop => kDo_any (m.below hb) f a t ht hf0 g0 g1 (R.instrAt s t) ki ksto hop)
  have EJ := hid (fun wx (hb : Below w.heap.size w wx) => kEndJob_any (m.below hb) f a t ht hen)
  have JW := hid (fun wx (hb : Below w.heap.size w wx) => kJumpWhen_any (m.below hb) t ht hfew (R.instrAt s t).a (R.instrAt s t).b hat)
  have FA := hid fa
  clear m f a ki fa
  generalize R.actS s t = sa at *
  generalize R.actC s t = ca at *
  generalize R.instrAt s t = i at *
  go_enter Try.func85, Try.ntmps85
  go_wp2_with fail
  refine NI.out.mono ?_
  rintro e w1 ⟨rfl, hb1⟩
  have HB1 := hid hb1
  have hsz1 := hb1.size
  clear hb1 NI
  go_upto_region 2 with fail
  have hbA : Below w1.heap.size w1 (w1.alloc (.cells #[.int .i64 i.op, .int .i64 i.a, .int .i64 i.b] 46)) := (Below.refl _ _).alloc (Nat.le_refl _) _
  have XA := Blk.new w1 #[.int .i64 i.op, .int .i64 i.a, .int .i64 i.b] 46
  generalize w1.alloc (.cells #[.int .i64 i.op, .int .i64 i.a, .int .i64 i.b] 46) = wA at hbA XA ⊢
  have HBA := hid (via HB1.out HB1.out.size hbA)
  have hszA := HBA.out.size
  have x0 := XA.cell 0
  have x1 := XA.cell 1
  have x2 := XA.cell 2
  simp at x0 x1 x2
  clear hbA XA HB1
  by_cases e0 : i.op = 0
  · obtain ⟨hs, hc⟩ := ACT0.out e0
    have HS := hid hs
    have HC := hid hc
    have EJA := hid (EJ.out wA HBA.out)
    rw [e0] at x0
    clear ACT ACT0 ACT3 hs hc e0 DO JW EJ
    go_wp2_with fail
    refine EJA.out.mono ?_
    rintro e w2 ⟨rfl, h2, tk2, wt2, m2, a2, o2, u2⟩
    have M2 := hid m2
    have A2 := hid a2
    have U2 := hid ((KUp.refl w h).trans u2 hszA)
    have O2 : Hid (Only (kW kb h) w w2) := (Only.of_below HBA.out).trans (o2.mono (fun b hb => kW_lock b (by simp at hb ⊢; rcases hb with h | h | h <;> simp [h])))
    clear m2 a2 o2 u2 EJA
    go_wp2
    go_ret
    refine ⟨ret_int HC.out.symm, h2, tk2, wt2, ?_, ?_, O2.out, U2.out⟩
    · rw [HS.out]; exact M2.out
    · rw [HS.out]; exact A2.out
  · by_cases e3 : i.op = 3
    · obtain ⟨hs, hc⟩ := ACT3.out e3
      have HS := hid hs
      have HC := hid hc
      have JWA := hid (JW.out wA HBA.out)
      rw [e3] at x0
      have AA : Hid (Ln.Aux (if s.T[t].last = i.a then R.toAt s t i.b else R.toAt s t (s.T[t].at_ + 1)) tk wt) := by
        split
        · exact hid (AX.out.modify FT.out.ok t _ (fun _ => ⟨rfl, rfl, rfl, rfl, id⟩))
        · exact hid (AX.out.modify FT.out.ok t _ (fun _ => ⟨rfl, rfl, rfl, rfl, id⟩))
      clear ACT ACT0 ACT3 hs hc e0 e3 DO JW EJ
      generalize (if s.T[t].last = i.a then R.toAt s t i.b else R.toAt s t (s.T[t].at_ + 1)) = sj at *
      go_wp2_with fail
      refine JWA.out.mono ?_
      rintro e w2 ⟨rfl, h2, m2, o2, u2⟩
      have M2 := hid m2
      have U2 := hid ((KUp.refl w h).trans u2 hszA)
      have O2 : Hid (Only (kW kb h) w w2) := (Only.of_below HBA.out).trans (o2.mono (fun b hb => kW_lock b (by simp at hb ⊢; rcases hb with h | h <;> simp [h])))
      clear m2 o2 u2 JWA
      go_wp2
      go_ret
      refine ⟨ret_int HC.out.symm, h2, tk, wt, ?_, ?_, O2.out, U2.out⟩
      · rw [HS.out]; exact M2.out
      · rw [HS.out]; exact AA.out
    · obtain ⟨hs, hc⟩ := ACT.out e0 e3
      have HS := hid hs
      have HC := hid hc
      have DOA := hid (DO.out wA HBA.out (by omega))
      have n0 : (i.op == 0) = false := by simpa using e0
      have n3 : (i.op == 3) = false := by simpa using e3
      clear ACT ACT0 ACT3 hs hc DO JW EJ
      generalize R.doesS s t i = sd at *
      generalize R.doesC s t i = cd at *
      go_wp2_with fail
      refine DOA.out.mono ?_
      rintro e w2 ⟨rfl, h2, tk2, wt2, m2, a2, o2, u2⟩
      have M2 := hid m2
      have A2 := hid a2
      have U2 := hid ((KUp.refl w h).trans u2 hszA)
      have O2 : Hid (Only (kW kb h) w w2) := (Only.of_below HBA.out).trans o2
      have ht2 : t < sd.T.length := by rw [LND.out]; exact ht
      have c1 := m2.blk.cell 1
      simp [kCells] at c1
      have a5 := m2.tcell ht2 5 (by decide)
      have a6 := m2.tcell ht2 6 (by decide)
      simp [ktCells] at a5 a6
      have eat : sd.T[t].at_ = s.T[t].at_ := by have := ATD.out; rwa [th_ext ht2] at this
      rw [eat] at a5
      have f5 := m2.tfrozen (t * 13 + 5)
      have f6 := m2.tfrozen (t * 13 + 6)
      obtain ⟨h3, m3, u3⟩ := m2.setT' ht2 (j := 5) (by decide) (.int .i64 (s.T[t].at_ + 1)) (fun x => { x with at_ := s.T[t].at_ + 1 }) (ktCells_at _ _ _ _ _)
      have ht3 : t < (sd.T.modify t (fun x => { x with at_ := s.T[t].at_ + 1 })).length := by simpa using ht2
      obtain ⟨h4, m4, u4⟩ := m3.setT' (t := t) ht3 (j := 6) (by decide) (.int .i64 cd) (fun x => { x with last := cd }) (ktCells_last _ _ _ _ _)
      have m4' : KMem F ((w2.setCell ⟨h2.gT, t * 13 + 5, none⟩ (.int .i64 (s.T[t].at_ + 1))).setCell ⟨h2.gT, t * 13 + 6, none⟩ (.int .i64 cd)) kb h4 (R.toLast (R.toAt sd t (s.T[t].at_ + 1)) t cd) tk2 wt2 ws := by
        have := m4
        rw [u3.gT] at this
        exact this
      have M4 := hid m4'
      have U4 := hid ((U2.out.trans u3 O2.out.size).trans u4 (Nat.le_trans O2.out.size (setCell_sz _ _ _)))
      have O4 := hid ((O2.out.setCell (p := ⟨h2.gT, t * 13 + 5, none⟩) (.inl (by rw [U2.out.gT]; exact kW_gT)) (.int .i64 (s.T[t].at_ + 1))).setCell (p := ⟨h2.gT, t * 13 + 6, none⟩) (.inl (by rw [U2.out.gT]; exact kW_gT)) (.int .i64 cd))
      have htI : (t : Int) < (sd.T.length : Int) := by omega
      have hfd : sd.T.length ≤ 16 := by rw [LND.out]; exact hfew
      clear m2 a2 o2 u2 m3 u3 m4 m4' u4 DOA
      generalize s.T[t].at_ = at_ at *
      generalize sd.T[t].last = ol at *
      obtain ⟨hat0, hat1⟩ := hat
      go_wp2
      go_ret
      refine ⟨ret_int HC.out.symm, h4, tk2, wt2, ?_, ?_, O4.out, U4.out⟩
      · rw [HS.out]; exact M4.out
      · rw [HS.out]
        have f3 := FA.out
        rw [HS.out] at f3
        have f2 : KFit (R.toAt sd t (at_ + 1)) := KFit.unmod (t := t) (g := fun x => { x with last := cd }) f3 (fun _ => ⟨rfl, rfl⟩)
        have f1 : KFit sd := KFit.unmod (t := t) (g := fun x => { x with at_ := at_ + 1 }) f2 (fun _ => ⟨rfl, rfl⟩)
        have a3 : Ln.Aux (R.toAt sd t (at_ + 1)) tk2 wt2 := A2.out.modify f1.ok t _ (fun _ => ⟨rfl, rfl, rfl, rfl, id⟩)
        exact a3.modify f2.ok t _ (fun _ => ⟨rfl, rfl, rfl, rfl, id⟩)

theorem WkW.of_keep {n : Nat} {s s' : RS} (wk : Ln.Wk n ws s.T) (k : R.KeepW s s') : Ln.WkW n ws s'.T := by
  refine ⟨wk.len, fun t ht => ?_, fun v hv => ?_, fun v hv t ht ha => ?_⟩
  · have ht' : t < s.T.length := by rw [← k.len]; exact ht
    have := k.wkr t
    rw [th_ext ht, th_ext ht'] at this
    have hb := wk.tb t ht'
    have := wk.len
    rcases this with h | h <;> omega
  · rw [k.len]
    exact wk.wb v hv
  · have ht' : t < s.T.length := by rw [← k.len]; exact ht
    have := k.wkr t
    rw [th_ext ht, th_ext ht'] at this
    rcases this with h | h
    · rw [h]
      exact wk.eq v hv t ht'
    · rw [h.2] at ha
      cases ha
/-- What a step wants to know, out of what holds behind every step. -/
theorem step_ready {s : RS} (inv : RInv s) (hnx : s.next ≤ 4611686018427386000) {wk : Int} (hw : ¬ (wk < 0 ∨ s.set.workers ≤ wk)) (hon : ¬ R.on s.T wk < 0) :
    ∃ t : Nat, R.on s.T wk = (t : Int) ∧ ∃ (ht : t < s.T.length), s.T[t].for_ = 0 ∧ (0 ≤ s.T[t].at_ ∧ s.T[t].at_ ≤ 1000) ∧ (0 ≤ s.T[t].ended ∧ s.T[t].ended ≤ 2000000000) ∧ (s.set.threads.getD t P3.none0).code.length ≤ 32 ∧ 0 ≤ (R.instrAt s t).op ∧ (R.instrAt s t).op ≤ 11 ∧ KIns s (R.instrAt s t) ∧ RInv (R.settle (R.actS s t)) ∧ R.pickS s wk = R.settle (R.actS s t) := by
  obtain ⟨o0, o1⟩ := R.on_bd s.T wk
  have hsp := R.on_spec s.T wk (by omega)
  obtain ⟨t, ht0⟩ := Int.eq_ofNat_of_zero_le (show 0 ≤ R.on s.T wk by omega)
  have ht : t < s.T.length := by omega
  have etn : (R.on s.T wk).toNat = t := by omega
  rw [etn, th_ext ht] at hsp
  have haw : s.T[t].awake = true := inv.wk t ht (by rw [hsp]; omega)
  have hx := inv.thr t ht
  have htc : t < s.set.threads.length := by have := inv.good.len; omega
  have ecl : R.codeLen s.set t = s.set.threads[t].code.length := by simp [R.codeLen, List.getD, htc]
  have ecd : s.set.threads.getD t P3.none0 = s.set.threads[t] := by simp [List.getD, htc]
  have hf0 : s.T[t].for_ = 0 := Classical.byContradiction fun hc => by
    have := (hx.fw hc).2
    rw [haw] at this
    cases this
  have hcl := (inv.toRMid.code.code t htc).1
  have hat := inv.toRMid.code.at_ t ht
  have hen := inv.toRMid.code.ended t ht
  have hpk : R.pickS s wk = R.settle (R.actS s t) := by
    unfold R.pickS
    rw [if_neg hw, if_neg hon, etn]
  have hri := inv.pick wk hnx
  rw [hpk] at hri
  have hins : (0 ≤ (R.instrAt s t).op ∧ (R.instrAt s t).op ≤ 11) ∧ KIns s (R.instrAt s t) := by
    have eI : R.instrAt s t = (s.set.threads[t].code)[s.T[t].at_.toNat]?.getD ⟨0, 0, 0⟩ := by
      unfold R.instrAt
      rw [th_ext ht, ecd]
    rcases Nat.lt_or_ge s.T[t].at_.toNat s.set.threads[t].code.length with h' | h'
    · have eI2 : R.instrAt s t = s.set.threads[t].code[s.T[t].at_.toNat] := by rw [eI]; simp [h']
      rw [eI2]
      exact ⟨⟨(inv.toRMid.ins t htc _ (List.getElem_mem h')).1.op0, (inv.toRMid.ins t htc _ (List.getElem_mem h')).1.op1⟩, inv.toRMid.kins t htc _ (List.getElem_mem h')⟩
    · have eI2 : R.instrAt s t = ⟨0, 0, 0⟩ := by rw [eI, List.getElem?_eq_none h']; rfl
      rw [eI2]
      exact ⟨⟨Int.le_refl _, by decide⟩, fun e => (by cases e), fun e => (by cases e), fun e => (by rcases e with e | e <;> cases e), fun e => (by rcases e with e | e | e <;> cases e), fun e => (by rcases e with e | e <;> cases e), fun e => (by rcases e with e | e <;> cases e)⟩
  exact ⟨t, ht0, ht, hf0, ⟨by omega, by omega⟩, ⟨by omega, by omega⟩, by rw [ecd]; exact hcl, hins.1.1, hins.1.2, hins.2, hri, hpk⟩
/-- Behind a step, ahead of the workers: as behind them, but for the workers. -/
theorem RInv.unsettle {s : RS} (inv : RInv (R.settle s)) : KFit s ∧ AwOk s := by
  have f := inv.toRMid.fit
  have hl := settle_len s
  refine ⟨⟨by rw [← hl]; exact f.few, f.m8, f.ok.len, fun i hi => ?_, fun u hu hf => ?_, f.ok.kind⟩, fun t ht => ?_⟩
  · have := f.ok.own i hi
    rw [hl] at this
    exact this
  · obtain ⟨x, hx⟩ := settle_thr hu
    have := f.ok.of1 u (by rw [hl]; exact hu) (by rw [hx]; exact hf)
    rw [hx] at this
    exact this
  · have h1 := inv.toRMid.awOk t (by rw [hl]; exact ht)
    obtain ⟨x, hx⟩ := settle_get ht
    rw [hx] at h1
    exact h1
end

end Go.Proofs.Ytbkfildnijjioab

/-
  Walks over package donate: Pick.
-/
namespace Go.Proofs.Ytbkfildnijjioab
open Go.RowKit

theorem settle_set (s : RS) : (R.settle s).set = s.set := rfl
theorem wake_set (s : RS) (t : Nat) : (R.wake s t).set = s.set := rfl
theorem doesS_set (s : RS) (t : Nat) (i : InstrD) : (R.doesS s t i).set = s.set := by
  have hg : ∀ what of_, (R.giveS s what of_).set = s.set := fun what of_ => (giveS_owner s what of_).2.1
  have h6 : ∀ m n, (R.lockS s t m n).set = s.set := fun m n => by unfold R.lockS; split; rfl; split <;> rfl
  have h7 : ∀ m, (R.unlockS s t m).set = s.set := fun m => by unfold R.unlockS; split; exact hg _ _; rfl
  have h8 : ∀ m n, (R.downS s t m n).set = s.set := fun m n => by unfold R.downS; split; rfl; split <;> rfl
  have h9 : ∀ m, (R.upS s m).set = s.set := fun m => by unfold R.upS; split; exact hg _ _; split <;> rfl
  have h10 : ∀ m n, (R.sendS s m n).set = s.set := fun m n => by unfold R.sendS; split; exact hg _ _; split <;> rfl
  have h11 : ∀ m n, (R.recvS s t m n).set = s.set := fun m n => by unfold R.recvS; split; rfl; split <;> rfl
  unfold R.doesS
  split
  · rfl
  split
  · rfl
  split
  · rfl
  split
  · exact h6 _ _
  split
  · exact h7 _
  split
  · exact h8 _ _
  split
  · exact h9 _
  split
  · exact h10 _ _
  split
  · exact h11 _ _
  · rfl
theorem stop_set (s : RS) (t : Nat) : (R.stop s t).set = s.set := by
  have h := (unlocksTo_len (R.stop0 s t) t s.owner.length).2.2
  unfold R.stop
  split <;> exact h

theorem actS_set (s : RS) (t : Nat) : (R.actS s t).set = s.set := by
  unfold R.actS
  split
  · exact stop_set s t
  · split
    · split <;> rfl
    · exact doesS_set (R.toAt s t _) t _

section
variable {Q : Nat → Prop} {w : World} {kb : Nat} {s : RS}
set_option maxRecDepth 100000 in
set_option maxHeartbeats 4000000 in
theorem cPick : CPick KPK := by
  intro Q w kb s k hnx wk
  obtain ⟨F, h, tk, wt, ws, m, a, hq, wkk, f, h8⟩ := k.open
  have hlen := wkk.len
  have hw1 := k.inv.good.wk1
  have hw0 := k.inv.good.wk0
  have hbA : Below w.heap.size w (w.alloc (.cells #[.int .i64 0, .int .i64 0, .int .i64 0] 117)) := (Below.refl _ _).alloc (Nat.le_refl _) _
  have XA := Blk.new w #[.int .i64 0, .int .i64 0, .int .i64 0] 117
  have HK := hid k
  have stay : R.pickS s wk = s → ∀ w', Below w.heap.size w w' → ∃ Q', KPK Q' w' kb (R.pickS s wk) ∧ (∀ b, Q' b → Q b ∨ w.heap.size ≤ b) ∧ Turns Q w w' := by
    intro e w' hb
    rw [e]
    exact ⟨Q, kframe.below k hb, fun b hb => .inl hb, Turns.of_below hb⟩
  have STAY := hid stay
  clear stay
  by_cases hw : wk < 0 ∨ s.set.workers ≤ wk
  · have E1 : R.pickT s wk = 0 := by unfold R.pickT; rw [if_pos hw]
    have E2 : R.pickA s wk = 0 := by unfold R.pickA; rw [if_pos hw]
    have E3 : R.pickC s wk = 0 := by unfold R.pickC; rw [if_pos hw]
    have E4 : R.pickE s wk = 7 := by unfold R.pickE; rw [if_pos hw]
    have E5 : R.pickS s wk = s := by unfold R.pickS; rw [if_pos hw]
    rw [E1, E2, E3, E4]
    have ST := hid (STAY.out E5)
    have c5 := m.blk.cell 5
    simp [kCells] at c5
    have hsl := m.blk.lt
    clear E1 E2 E3 E4 E5 STAY m a f hq wkk
    generalize R.pickS s wk = sp at *
    go_enter Try.func62, Try.ntmps62
    by_cases hneg : wk < 0
    · go_wp2
      refine bodyPost_ret (v := .tuple #[.agg #[.int .i64 0, .int .i64 0, .int .i64 0], .int .i64 7]) ?_ rfl ⟨rfl, ST.out _ ?_⟩
      · simp [results, Try.results62, go_sem]
      · exact (Below.refl _ _).alloc (Nat.le_refl _) _
    · have hge : (ws.length : Int) ≤ wk := by omega
      go_wp2
      refine bodyPost_ret (v := .tuple #[.agg #[.int .i64 0, .int .i64 0, .int .i64 0], .int .i64 7]) ?_ rfl ⟨rfl, ST.out _ ?_⟩
      · simp [results, Try.results62, go_sem]
      · exact (Below.refl _ _).alloc (Nat.le_refl _) _
  · obtain ⟨v, rfl⟩ := Int.eq_ofNat_of_zero_le (show 0 ≤ wk by omega)
    have hv : v < ws.length := by omega
    have hon := wkk.on v hv
    have E4 : R.pickE s (v : Int) = 0 := by unfold R.pickE; rw [if_neg hw]
    rw [E4]
    have hvI : (v : Int) < (ws.length : Int) := by omega
    have XR := hid XA
    have MA := hid (m.below hbA)
    have HBA := hid hbA
    clear hbA XA
    by_cases hneg : R.on s.T (v : Int) < 0
    · have hwv : ws[v] = -1 := by have := (wkk.wb v hv).1; omega
      have E1 : R.pickT s (v : Int) = -1 := by unfold R.pickT; rw [if_neg hw, if_pos hneg]
      have E2 : R.pickA s (v : Int) = 0 := by unfold R.pickA; rw [if_neg hw, if_pos hneg]
      have E3 : R.pickC s (v : Int) = 0 := by unfold R.pickC; rw [if_neg hw, if_pos hneg]
      have E5 : R.pickS s (v : Int) = s := by unfold R.pickS; rw [if_neg hw, if_pos hneg]
      rw [E1, E2, E3]
      have ST := hid (STAY.out E5)
      clear E1 E2 E3 E5 STAY m a f hq wkk hon hneg
      generalize R.pickS s (v : Int) = sp at *
      go_enter Try.func62, Try.ntmps62
      go_upto_region 1 with fail
      generalize w.alloc (.cells #[.int .i64 0, .int .i64 0, .int .i64 0] 117) = wA at *
      have c5 := MA.out.blk.cell 5
      simp [kCells] at c5
      have y := MA.out.wcell hv
      rw [hwv] at y
      have x0 := XR.out.cell 0
      have x1 := XR.out.cell 1
      have x2 := XR.out.cell 2
      simp at x0 x1 x2
      have z0 := XR.out.frozen 0
      have z1 := XR.out.frozen 1
      have z2 := XR.out.frozen 2
      go_wp2
      refine bodyPost_ret (v := .tuple #[.agg #[.int .i64 (-1), .int .i64 0, .int .i64 0], .int .i64 0]) ?_ rfl ⟨rfl, ST.out _ ?_⟩
      · simp [results, Try.results62, go_sem, x0, x1, x2]
      · iterate 3 refine Below.setCell ?_ (by simp) _
        exact HBA.out
    · obtain ⟨t, hot, ht, hf0, hat, hen, hc32, o0, o7, ki, hri, hpk⟩ := step_ready k.inv hnx hw hneg
      have hwv : ws[v] = (t : Int) := by omega
      have E1 : R.pickT s (v : Int) = (t : Int) := by unfold R.pickT; rw [if_neg hw, if_neg hneg, hot]
      have E2 : R.pickA s (v : Int) = s.T[t].at_ := by unfold R.pickA; rw [if_neg hw, if_neg hneg, hot, show Int.toNat (t : Int) = t by omega, th_ext ht]
      have E3 : R.pickC s (v : Int) = R.actC s t := by unfold R.pickC; rw [if_neg hw, if_neg hneg, hot, show Int.toNat (t : Int) = t by omega]
      rw [E1, E2, E3, hpk]
      obtain ⟨fa, awo⟩ := RInv.unsettle hri
      have keep := R.keepW_actS s t
      have WW := hid (WkW.of_keep wkk keep)
      have g0 := k.inv.good.now0
      have g1 := k.inv.good.now1
      have g2 := k.inv.good.now2
      have CS := hid (fun wx (hb : Below w.heap.size w wx) => kStep_any (m.below hb) f a t ht hf0 (by omega) g2 hat hen hc32 o0 o7 ki k.inv.toRMid.ksto fa)
      have FA := hid fa
      have AWO := hid awo
      have HRI := hid hri
      have HQ := hid hq
      have hset := actS_set s t
      have HOLD : Hid (∀ b, KB F kb h b → b < w.heap.size) := KB.lt m
      have HSET := hid hset
      have htI : (t : Int) < (s.T.length : Int) := by omega
      have hfew := f.few
      clear E1 E2 E3 STAY m a f hq hneg fa awo hri keep hset hpk hot hon ki
      obtain ⟨at_, HAT⟩ : ∃ at_, Hid (s.T[t].at_ = at_) := ⟨_, hid rfl⟩
      rw [HAT.out]
      generalize hca : R.actC s t = ca at *
      generalize hsa : R.actS s t = sa at *
      clear hca hsa
      go_enter Try.func62, Try.ntmps62
      go_upto_region 1 with fail
      generalize w.alloc (.cells #[.int .i64 0, .int .i64 0, .int .i64 0] 117) = wA at *
      have c5 := MA.out.blk.cell 5
      have c1 := MA.out.blk.cell 1
      simp [kCells] at c5 c1
      have y := MA.out.wcell hv
      rw [hwv] at y
      have a5 := MA.out.tcell ht 5 (by decide)
      simp [ktCells] at a5
      rw [HAT.out] at a5
      have hszA := HBA.out.size
      have hxl := XR.out.lt
      have hkbl := MA.out.kT.lt
      have CSA := hid (CS.out wA HBA.out)
      clear CS
      go_wp2_with fail
      refine CSA.out.mono ?_
      rintro e w2 ⟨rfl, h2, tk2, wt2, m2, a2, o2, u2⟩
      have M2 := hid m2
      have A2 := hid a2
      have U2 := hid u2
      have O2 := hid o2
      have hszA2 := o2.size
      have hnot : w.heap.size ∉ kW kb h := by
        intro hm
        have := HOLD.out _ (kW_sub _ hm)
        omega
      have XR2 := hid (XR.out.only o2 hnot)
      have GO := hid (kGiveOut_any m2 FA.out a2 AWO.out h8)
      have hgw2 : h2.gW = h.gW := u2.gW
      have hgw : h.gW < w.heap.size := HOLD.out _ (.inr (.inr (.inr (.inr (.inl rfl)))))
      clear m2 a2 u2 o2 CSA c5 c1 y a5
      go_wp2_with fail
      refine GO.out.mono ?_
      rintro e w3 ⟨rfl, m3, o3⟩
      have XR3 := hid (XR2.out.only o3 (by rw [hgw2]; simp; omega))
      have M3 := hid m3
      have O3 := hid o3
      have hsz3 := o3.size
      clear m3 o3 GO
      have x0 := XR3.out.cell 0
      have x1 := XR3.out.cell 1
      have x2 := XR3.out.cell 2
      simp at x0 x1 x2
      have z0 := XR3.out.frozen 0
      have z1 := XR3.out.frozen 1
      have z2 := XR3.out.frozen 2
      go_wp2
      refine bodyPost_ret (v := .tuple #[.agg #[.int .i64 (t : Int), .int .i64 at_, .int .i64 ca], .int .i64 0]) ?_ rfl ⟨rfl, ?_⟩
      · simp [results, Try.results62, go_sem, x0, x1, x2]
      · have hnk : ∀ b, KB F kb h2 b → b ≠ w.heap.size := fun b hb e => by
          rcases U2.out.blocks b hb with h' | h'
          · have := HOLD.out b h'; omega
          · have := XR.out.lt; omega
        generalize hw4 : ((w3.setCell ⟨w.heap.size, 0, none⟩ (.int .i64 (t : Int))).setCell ⟨w.heap.size, 1, none⟩ (.int .i64 at_)).setCell ⟨w.heap.size, 2, none⟩ (.int .i64 ca) = w4
        have same : ∀ b, b ≠ w.heap.size → w4.heap[b]? = w3.heap[b]? := fun b hb => by
          rw [← hw4]
          iterate 3 rw [Below.heap_setCell _ _ _ _ hb]
        have m4 : KMem F w4 kb h2 sa tk2 wt2 (Ln.seatAll sa tk2 ws) := M3.out.frame (fun b hb => same b (hnk b hb))
        have o4 : Only (h.gW :: kW kb h) w w4 := by
          have h1 : Only (h.gW :: kW kb h) w w3 := ((Only.of_below HBA.out).trans (O2.out.mono (fun b hb => List.mem_cons_of_mem _ hb))).trans (O3.out.mono (fun b hb => by rw [hgw2] at hb; simp at hb; simp [hb]))
          rw [← hw4]
          exact ((h1.setCell (.inr (Nat.le_refl _)) _).setCell (.inr (Nat.le_refl _)) _).setCell (.inr (Nat.le_refl _)) _
        refine ⟨KB F kb h2, ⟨⟨_, ⟨⟨F, h2, tk2, wt2, m4.settle, A2.out.settle FA.out, fun _ hb => hb⟩, KB.lt m4⟩, ?_⟩, HRI.out⟩, fun b hb => ?_, Turns.of_only o4 (fun b hb => ?_)⟩
        · have hs : sa.set.workers.toNat = s.set.workers.toNat := by rw [HSET.out]
          exact Ln.seatAll_settle A2.out.tk (by rw [hs]; exact WW.out)
        · rcases U2.out.blocks b hb with h' | h'
          · exact .inl (HQ.out b h')
          · exact .inr (by omega)
        · rcases List.mem_cons.1 hb with e | e
          · exact HQ.out b (.inr (.inr (.inr (.inr (.inl e)))))
          · exact HQ.out b (kW_sub b e)
end

end Go.Proofs.Ytbkfildnijjioab
