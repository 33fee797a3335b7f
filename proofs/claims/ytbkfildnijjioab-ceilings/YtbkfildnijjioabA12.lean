import Derived.Test.YtbkfildnijjioabA11
import Derived.Deep.QuietTactic
import Derived.BigQuiet
import Derived.Test.YtbkfildnijjioabA01
import Derived.Deep.RegionHeld3
import Derived.Test.YtbkfildnijjioabA10
import Derived.Test.YtbkfildnijjioabA04
/-
  Walks: check.Set and donate.Check: the program's own answer to P3 is the plain one.
-/
namespace Go.Proofs.Ytbkfildnijjioab
open Go.RowKit

theorem bdrew {B : Nat} {a w : World} (h : Below B a w) (n : Nat) : Below B a (w.drewN n) := ⟨h.os, h.tape, h.output, h.size, h.block⟩

set_option maxHeartbeats 1000000 in
theorem checkSet_any (tv mv sv qv : Option Addr) (tc mc sc qc : Nat) (S : SetD) (w : World) (hS : SetIn w.heap.size w tv mv sv qv S) :
    Calls Try.prog 48 #[.agg #[.int .i64 S.workers, .int .i64 S.start, .slice tv S.threads.length tc, .slice mv S.mutexes.length mc, .slice sv S.sems.length sc, .slice qv S.queues.length qc]] w fun e w' =>
      e = .returned (.agg #[.int .i64 (P3.err S), .int .i64 (P3.place S)]) ∧ Below w.heap.size w w' := by
  have HS : Hid (SetIn w.heap.size w tv mv sv qv S) := hS
  clear hS
  go_enter Try.func48, Try.ntmps48
  go_wp2_with fail
  generalize hw0 : (w.alloc (.cells #[.int .i64 S.workers, .int .i64 S.start, .slice tv S.threads.length tc, .slice mv S.mutexes.length mc, .slice sv S.sems.length sc, .slice qv S.queues.length qc] 27)).alloc (.cells #[.int .i64 0, .int .i64 0] 100) = w0
  have hs0 : w0.heap.size = w.heap.size + 2 := by rw [← hw0]; simp
  have b0 : w0.cell? ⟨w.heap.size, 0, none⟩ = some (.int .i64 S.workers) := by rw [← hw0]; simp
  have b1 : w0.cell? ⟨w.heap.size, 1, none⟩ = some (.int .i64 S.start) := by rw [← hw0]; simp
  have b2 : w0.cell? ⟨w.heap.size, 2, none⟩ = some (.slice tv S.threads.length tc) := by rw [← hw0]; simp
  have b3 : w0.cell? ⟨w.heap.size, 3, none⟩ = some (.slice mv S.mutexes.length mc) := by rw [← hw0]; simp
  have b4 : w0.cell? ⟨w.heap.size, 4, none⟩ = some (.slice sv S.sems.length sc) := by rw [← hw0]; simp
  have b5 : w0.cell? ⟨w.heap.size, 5, none⟩ = some (.slice qv S.queues.length qc) := by rw [← hw0]; simp
  have r0 : w0.cell? ⟨w.heap.size + 1, 0, none⟩ = some (.int .i64 0) := by rw [← hw0]; simp
  have r1 : w0.cell? ⟨w.heap.size + 1, 1, none⟩ = some (.int .i64 0) := by rw [← hw0]; simp
  have z0 : w0.frozen? ⟨w.heap.size + 1, 0, none⟩ = false := by rw [← hw0]; simp
  have z1 : w0.frozen? ⟨w.heap.size + 1, 1, none⟩ = false := by rw [← hw0]; simp
  have hb0 : Below w.heap.size w w0 := by rw [← hw0]; exact ((Below.refl _ _).alloc (Nat.le_refl _) _).alloc (by simp) _
  clear hw0
  have hs1 : w.heap.size < w0.heap.size := by omega
  have hs2 : w.heap.size + 1 < w0.heap.size := by omega
  clear hs0
  refine (sizesFit_any _ _ _ _ _ _ _ _ S _).mono ?_
  rintro e w1 ⟨rfl, hb1⟩
  obtain ⟨hc1, hf1⟩ := bcell hb1
  cases hz : P3.sizesB S
  · go_wp2_with fail
    refine bodyPost_ret (v := .agg #[.int .i64 (P3.err S), .int .i64 (P3.place S)]) ?_ rfl ⟨rfl, ?_⟩
    · simp [results, Try.results48, go_sem, hc1, r0, r1, hs2, P3.err, P3.place, hz]
    · exact ((via hb0 (Nat.le_of_lt hs1) hb1).setCell (by simp) _).setCell (by simp) _
  · obtain ⟨n1, n2, n3, n4⟩ := sizes_of hz
    have g1 := via hb0 (Nat.le_of_lt hs1) hb1
    have k1 := hb1.size
    go_wp2_with fail
    refine (firstBadMutex_any _ _ S.mutexes _ (HS.out.later g1).mutexes n2).mono ?_
    rintro e w2 ⟨rfl, hb2⟩
    have hB2 := via hb1 k1 hb2
    have g2 := via hb0 (Nat.le_of_lt hs1) hB2
    have k2 := hB2.size
    clear hc1 hf1
    obtain ⟨hc2, hf2⟩ := bcell hB2
    cases h1 : (P3.badOr P3.mutexP S.mutexes != -1)
    · go_wp2_with fail
      refine (firstBadSem_any _ _ S.sems _ (HS.out.later g2).sems n3).mono ?_
      rintro e w3 ⟨rfl, hb3⟩
      have hB3 := via hB2 k2 hb3
      have g3 := via hb0 (Nat.le_of_lt hs1) hB3
      have k3 := hB3.size
      clear hc2 hf2
      obtain ⟨hc3, hf3⟩ := bcell hB3
      cases h2 : (P3.badOr P3.semP S.sems != -1)
      · go_wp2_with fail
        refine (firstBadQueue_any _ _ S.queues _ (HS.out.later g3).queues n4).mono ?_
        rintro e w4 ⟨rfl, hb4⟩
        have hB4 := via hB3 k3 hb4
        have g4 := via hb0 (Nat.le_of_lt hs1) hB4
        have k4 := hB4.size
        clear hc3 hf3
        obtain ⟨hc4, hf4⟩ := bcell hB4
        cases h3 : (P3.badOr P3.queueB S.queues != -1)
        · go_wp2_with fail
          refine (firstBadThread_any _ _ S.threads _ (HS.out.later g4).threads n1).mono ?_
          rintro e w5 ⟨rfl, hb5⟩
          have hB5 := via hB4 k4 hb5
          have g5 := via hb0 (Nat.le_of_lt hs1) hB5
          have k5 := hB5.size
          clear hc4 hf4
          obtain ⟨hc5, hf5⟩ := bcell hB5
          cases h4 : (P3.badOr P3.threadP S.threads != -1)
          · go_wp2_with fail
            refine (firstBadInstr_any _ _ _ _ _ _ _ _ S _ (HS.out.later g5).threads n1 n2 n3 n4 (codes_of (by simpa using h4))).mono ?_
            rintro e w6 ⟨rfl, hb6⟩
            have hB6 := via hB5 k5 hb6
            have g6 := via hb0 (Nat.le_of_lt hs1) hB6
            have k6 := hB6.size
            clear hc5 hf5
            obtain ⟨hc6, hf6⟩ := bcell hB6
            cases h5 : (P3.badCode S != -1)
            · go_wp2_with fail
              refine bodyPost_ret (v := .agg #[.int .i64 (P3.err S), .int .i64 (P3.place S)]) ?_ rfl ⟨rfl, ?_⟩
              · rw [bne_eq_false_iff_eq] at h1; rw [bne_eq_false_iff_eq] at h2; rw [bne_eq_false_iff_eq] at h3; rw [bne_eq_false_iff_eq] at h4; rw [bne_eq_false_iff_eq] at h5
                simp [results, Try.results48, go_sem, hc6, r0, r1, hs2, P3.err, P3.place, hz, h1, h2, h3, h4, h5]
              · exact (g6.setCell (by simp) _).setCell (by simp) _
            · go_wp2_with fail
              refine bodyPost_ret (v := .agg #[.int .i64 (P3.err S), .int .i64 (P3.place S)]) ?_ rfl ⟨rfl, ?_⟩
              · rw [bne_eq_false_iff_eq] at h1; rw [bne_eq_false_iff_eq] at h2; rw [bne_eq_false_iff_eq] at h3; rw [bne_eq_false_iff_eq] at h4; rw [bne_iff_ne] at h5
                simp [results, Try.results48, go_sem, hc6, r0, r1, hs2, P3.err, P3.place, hz, h1, h2, h3, h4, h5]
              · exact (g6.setCell (by simp) _).setCell (by simp) _
          · go_wp2_with fail
            refine bodyPost_ret (v := .agg #[.int .i64 (P3.err S), .int .i64 (P3.place S)]) ?_ rfl ⟨rfl, ?_⟩
            · rw [bne_eq_false_iff_eq] at h1; rw [bne_eq_false_iff_eq] at h2; rw [bne_eq_false_iff_eq] at h3; rw [bne_iff_ne] at h4
              simp [results, Try.results48, go_sem, hc5, r0, r1, hs2, P3.err, P3.place, hz, h1, h2, h3, h4]
            · exact (g5.setCell (by simp) _).setCell (by simp) _
        · go_wp2_with fail
          refine bodyPost_ret (v := .agg #[.int .i64 (P3.err S), .int .i64 (P3.place S)]) ?_ rfl ⟨rfl, ?_⟩
          · rw [bne_eq_false_iff_eq] at h1; rw [bne_eq_false_iff_eq] at h2; rw [bne_iff_ne] at h3
            simp [results, Try.results48, go_sem, hc4, r0, r1, hs2, P3.err, P3.place, hz, h1, h2, h3]
          · exact (g4.setCell (by simp) _).setCell (by simp) _
      · go_wp2_with fail
        refine bodyPost_ret (v := .agg #[.int .i64 (P3.err S), .int .i64 (P3.place S)]) ?_ rfl ⟨rfl, ?_⟩
        · rw [bne_eq_false_iff_eq] at h1; rw [bne_iff_ne] at h2
          simp [results, Try.results48, go_sem, hc3, r0, r1, hs2, P3.err, P3.place, hz, h1, h2]
        · exact (g3.setCell (by simp) _).setCell (by simp) _
    · go_wp2_with fail
      refine bodyPost_ret (v := .agg #[.int .i64 (P3.err S), .int .i64 (P3.place S)]) ?_ rfl ⟨rfl, ?_⟩
      · rw [bne_iff_ne] at h1
        simp [results, Try.results48, go_sem, hc2, r0, r1, hs2, P3.err, P3.place, hz, h1]
      · exact (g2.setCell (by simp) _).setCell (by simp) _

end Go.Proofs.Ytbkfildnijjioab

/-
  The law's own functions, over any program whose kernel stands for the document's: begun, play, upTo.
-/
namespace Go.Proofs.Ytbkfildnijjioab
open Go.RowKit
/-- What the program promises of New, of sets of which ok holds. -/
def CNew (PK : KP) (ok : SetD → Prop) : Prop := ∀ (tv mv sv qv : Option Addr) (tc mc sc qc : Nat) (S : SetD) (w : World), SetIn w.heap.size w tv mv sv qv S → Fits S → ((tv = none → tc = 0) ∧ (mv = none → mc = 0) ∧ (sv = none → sc = 0) ∧ (qv = none → qc = 0)) → ok S →
  Calls Try.prog 32 #[.agg #[.int .i64 S.workers, .int .i64 S.start, .slice tv S.threads.length tc, .slice mv S.mutexes.length mc, .slice sv S.sems.length sc, .slice qv S.queues.length qc]] w fun e w' =>
    Below w.heap.size w w' ∧ ((P3.err S ≠ 0 ∧ e = .returned (.tuple #[.pointer none, .int .i64 (P3.err S)])) ∨
      (P3.err S = 0 ∧ ∃ kb P, e = .returned (.tuple #[.pointer (some ⟨kb, 0, none⟩), .int .i64 0]) ∧ PK P w' kb (R.new S) ∧ ∀ b, P b → w.heap.size ≤ b))
section
variable {PK : KP} {ok : SetD → Prop}
theorem entry_next (s : RS) (n : Int) (hi : RInv s) : (R.entry s n).next ≤ s.next + 33 := by
  have hfew := hi.good.few
  unfold R.entry
  split
  · unfold R.tickS
    split
    · omega
    · have h1 := (R.endsTo_set (R.missing s) (R.missing s).T.length)
      have h2 := R.releaseTo_next (R.ends (R.missing s)) (R.ends (R.missing s)).T.length
      have e1 : (R.tick s).next = (R.releaseTo (R.ends (R.missing s)) (R.ends (R.missing s)).T.length).next := rfl
      have e2 : (R.missing s).next = s.next := rfl
      have e3 : (R.missing s).T.length = s.T.length := rfl
      have e4 : (R.ends (R.missing s)).T.length = s.T.length := h1.2.2.2.1.trans e3
      have e5 : R.ends (R.missing s) = R.endsTo (R.missing s) (R.missing s).T.length := rfl
      rw [e1]
      rw [← e5] at h1
      have h3 := h1.2.2.2.2.2
      rw [e2] at h3
      omega
  · unfold R.pickS
    split
    · omega
    split
    · omega
    · have hol : s.owner.length ≤ 8 := by have := hi.good.own; have := hi.good.mfew; omega
      have := (like_actS s (R.on s.T n).toNat hol).nx1
      have e : (R.settle (R.actS s (R.on s.T n).toNat)).next = (R.actS s (R.on s.T n).toNat).next := rfl
      rw [e]
      omega
theorem new_next (S : SetD) (h : S.threads.length ≤ 16) : (R.new S).next ≤ 16 := by
  have h2 := R.releaseTo_next (R.bare S) (R.bare S).T.length
  have e1 : (R.new S).next = (R.releaseTo (R.bare S) (R.bare S).T.length).next := rfl
  have e2 : (R.bare S).next = 0 := rfl
  have e3 : (R.bare S).T.length = S.threads.length := by simp [R.bare]
  rw [e1]
  omega
end
end Go.Proofs.Ytbkfildnijjioab

/-
  The program's kernel stands for the document's: what can be seen of it.
-/
namespace Go.Proofs.Ytbkfildnijjioab
open Go.RowKit

section
variable {F : Nat → Prop} {w w' : World} {kb : Nat} {h : KH} {s : RS} {tk wt : List Nat} {ws : List Int}

/-- settle is not seen but in the workers. -/
theorem settle_get {s : RS} {t : Nat} (ht : t < s.T.length) : ∃ w, (R.settle s).T[t]'(by show t < (R.settleT _ _ _).length; rw [R.settleT_length]; exact ht) = { s.T[t] with wkr := w } := by
  obtain ⟨w, hw, _⟩ := settle_th (R.levels s) s.T s.set.workers.toNat t ht
  have hl : t < (R.settle s).T.length := by show t < (R.settleT _ _ _).length; rw [R.settleT_length]; exact ht
  refine ⟨w, ?_⟩
  have e1 : R.th (R.settle s).T t = (R.settle s).T[t] := th_ext hl
  rw [← e1, ← th_ext ht]
  exact hw
theorem settle_len (s : RS) : (R.settle s).T.length = s.T.length := R.settleT_length _ _ _
theorem settle_thr {s : RS} {t : Nat} (ht : t < s.T.length) : ∃ w, R.th (R.settle s).T t = { R.th s.T t with wkr := w } := by
  obtain ⟨w, hw, _⟩ := settle_th (R.levels s) s.T s.set.workers.toNat t ht
  exact ⟨w, hw⟩
theorem KMem.settle (m : KMem F w kb h s tk wt ws) : KMem F w kb h (R.settle s) tk wt ws := by
  refine m.cong rfl rfl (settle_len s) rfl rfl rfl rfl (fun i hi => ?_)
  obtain ⟨x, hx⟩ := settle_get hi
  rw [hx]
  rfl
theorem Ln.Aux.settle (a : Ln.Aux s tk wt) (f : KFit s) : Ln.Aux (R.settle s) tk wt := by
  refine a.same f.ok (settle_len s) rfl (Int.le_refl _) fun u hu => ?_
  obtain ⟨x, hx⟩ := settle_thr hu
  rw [hx]
  exact ⟨rfl, rfl, rfl, rfl, id⟩

/-- What the walks want to know, out of what holds behind every step. -/
theorem ok_mutex {S : SetD} (h : P3.err S = 0) (k : Nat) (hk : k < S.mutexes.length) : (S.mutexes.getD k R.pair0).x = 0 ∨ (S.mutexes.getD k R.pair0).x = 1 := by
  have := badOr_good (ok_parts h).2.1 S.mutexes[k] (List.getElem_mem hk)
  have e : S.mutexes.getD k R.pair0 = S.mutexes[k] := by simp [List.getD, hk]
  rw [e]
  unfold P3.mutexP P3.mutexB at this
  rw [decide_eq_true_iff] at this
  omega
theorem RMid.fit (h : RMid s) : KFit s := by
  refine ⟨h.good.few, by rw [h.good.own]; exact h.good.mfew, h.good.own, fun i hi => ?_, fun t ht hf => ?_, fun i hi => ok_mutex h.ok i (by rw [← h.good.own]; exact hi)⟩
  · have e : s.owner.getD i 0 = s.owner[i] := by simp [List.getD, hi]
    rw [e]
    exact h.own i hi
  · rw [th_ext ht] at hf ⊢
    exact (h.thr t ht).of1 hf
theorem TOk.aw' {S : SetD} {now : Int} {nO t : Nat} {x : RT} (h : TOk S now nO t x) : kAw x = x.awake := by
  unfold kAw
  cases ha : x.awake with
  | true =>
    have h1 := h.aw ha
    have h2 : x.for_ = 0 := Classical.byContradiction fun hc => by
      have := (h.fw hc).2
      rw [ha] at this
      cases this
    simp [h1, h2]
  | false =>
    by_cases hf : x.for_ = 0
    · have := h.id ha hf
      simp [this]
    · simp [hf]
theorem RMid.awOk (h : RMid s) : AwOk s := fun t ht => (h.thr t ht).aw'
theorem RMid.kset (h : RMid s) (t : Nat) (ht : t < s.T.length) : KSet s t := by
  have ht' : t < s.set.threads.length := by have := h.good.len; omega
  have ho := h.good.off s.set.threads[t] (List.getElem_mem ht')
  have e : s.set.threads.getD t P3.none0 = s.set.threads[t] := by simp [List.getD, ht']
  have := h.good.now0
  have := h.good.now1
  have := h.good.now2
  refine ⟨⟨by omega, by omega⟩, ?_, ?_, ?_⟩ <;> rw [e] <;> omega
end

/-- How the program's kernel stands for the document's. -/
structure KPK (Q : Nat → Prop) (w : World) (kb : Nat) (s : RS) : Prop where
  ks : ∃ ws, KS Q w kb s ws ∧ Ln.Wk s.set.workers.toNat ws s.T
  inv : RInv s

theorem kframe : KFrame KPK := by
  refine ⟨fun k b hb => ?_, fun k hs hz => ?_⟩
  · obtain ⟨ws, ks, _⟩ := k.ks
    exact ks.lt b hb
  · obtain ⟨ws, ks, wk⟩ := k.ks
    exact ⟨⟨ws, ks.frame hs hz, wk⟩, k.inv⟩

theorem KPK.open {Q : Nat → Prop} {w : World} {kb : Nat} {s : RS} (k : KPK Q w kb s) : ∃ F h tk wt ws, KMem F w kb h s tk wt ws ∧ Ln.Aux s tk wt ∧ (∀ b, KB F kb h b → Q b) ∧ Ln.Wk s.set.workers.toNat ws s.T ∧ KFit s ∧ ws.length ≤ 8 := by
  obtain ⟨ws, ks, wk⟩ := k.ks
  obtain ⟨F, h, tk, wt, m, a, hq⟩ := ks.mem
  refine ⟨F, h, tk, wt, ws, m, a, hq, wk, k.inv.toRMid.fit, ?_⟩
  rw [wk.len]
  have := k.inv.good.wk1
  have := k.inv.good.wk0
  omega

theorem cNow : CNow KPK := fun Q w kb s k => by
  obtain ⟨F, h, tk, wt, ws, m, _⟩ := k.open
  exact kNow_any m
theorem wk_running {s : RS} {ws : List Int} (wk : Ln.Wk s.set.workers.toNat ws s.T) : R.running s = ws := by
  apply List.ext_getElem
  · rw [wk.len]; simp [R.running]
  · intro i h1 h2
    have := wk.on i h2
    simp only [R.running, List.getElem_map, List.getElem_range]
    exact this
theorem cRunning : CRunning KPK := fun Q w kb s k => by
  obtain ⟨F, h, tk, wt, ws, m, a, hq, wk, f, h8⟩ := k.open
  rw [wk_running wk]
  exact kRunning_any m h8
theorem cMisses : CMisses KPK := fun Q w kb s k => by
  obtain ⟨F, h, tk, wt, ws, m, a, hq, wk, f, h8⟩ := k.open
  refine kMisses_any m ?_
  have := k.inv.mis
  have := k.inv.good.now0
  have := k.inv.good.now1
  have := k.inv.good.now2
  omega
theorem cOwner : COwner KPK := fun Q w kb s k i => by
  obtain ⟨F, h, tk, wt, ws, m, a, hq, wk, f, h8⟩ := k.open
  exact kOwner_any m f i
/-- The state told is the document's. -/
theorem state_is {s : RS} {ws : List Int} (inv : RInv s) (wk : Ln.Wk s.set.workers.toNat ws s.T) {t : Nat} (ht : t < s.T.length) (lv : Int) : K.viewV s.T[t] (K.state s.T[t] ws t) lv = viewV s.T[t] lv := by
  have tok := inv.thr t ht
  have wa := inv.wk t ht
  have hs := wk.seated t ht
  have hp := Ln.placeIn_cases ws (t : Int)
  have hst : K.state s.T[t] ws t = R.stateOf s.T[t] := by
    unfold K.state R.stateOf
    have he := tok.e1
    cases ha : s.T[t].awake with
    | true =>
      have h1 := tok.aw ha
      have h2 : s.T[t].for_ = 0 := Classical.byContradiction fun hc => by
        have := (tok.fw hc).2
        rw [ha] at this
        cases this
      have n1 : ¬ s.T[t].rel ≤ s.T[t].ended := by omega
      have n2 : ¬ s.T[t].for_ ≠ 0 := fun hh => hh h2
      rw [if_neg n1, if_neg n2, if_neg n2]
      rcases hp with ⟨h3, _⟩ | ⟨i, hi, h3, _⟩
      · have n3 : ¬ 0 ≤ s.T[t].wkr := by omega
        rw [if_pos h3, if_neg n3, if_pos rfl]
      · have n3 : ¬ Ln.placeIn ws (t : Int) = -1 := by omega
        have n4 : 0 ≤ s.T[t].wkr := by omega
        rw [if_neg n3, if_pos n4]
    | false =>
      by_cases hf : s.T[t].for_ = 0
      · have h1 := tok.id ha hf
        have n1 : s.T[t].rel ≤ s.T[t].ended := by omega
        have n2 : ¬ s.T[t].for_ ≠ 0 := fun hh => hh hf
        have n3 : ¬ 0 ≤ s.T[t].wkr := fun hh => by
          have := wa hh
          rw [ha] at this
          cases this
        rw [if_pos n1, if_neg n2, if_neg n3, if_neg (by decide)]
      · have h1 := (tok.fw hf).1
        have n1 : ¬ s.T[t].rel ≤ s.T[t].ended := by omega
        rw [if_neg n1, if_pos hf, if_pos hf]
  unfold K.viewV viewV
  rw [hst]
theorem cLook : CLook KPK := fun Q w kb s k t => by
  obtain ⟨F, h, tk, wt, ws, m, a, hq, wk, f, h8⟩ := k.open
  have c := kLook_any m f a.wt t h8
  have e1 : K.lookV s ws t = R.lookV s t := by
    unfold K.lookV R.lookV
    by_cases hin : 0 ≤ t ∧ t < s.T.length
    · rw [if_pos hin, if_pos hin]
      have ht : t.toNat < s.T.length := by omega
      rw [th_ext ht]
      exact state_is k.inv wk ht _
    · rw [if_neg hin, if_neg hin]
  have e2 : K.lookE s t = R.lookE s t := rfl
  rw [e1, e2] at c
  exact c
theorem cWaiting : CWaiting KPK := fun Q w kb s k what i => by
  obtain ⟨F, h, tk, wt, ws, m, a, hq, wk, f, h8⟩ := k.open
  have c := kWaiting_any m f a.wt what i
  have et : K.things s what = R.things s what := by
    rfl
  rw [et] at c
  refine c.mono ?_
  intro e w' hh
  by_cases hin : 0 ≤ i ∧ i < R.things s what
  · rw [if_pos hin] at hh
    obtain ⟨v, rfl, hr, hb⟩ := hh
    have hw : what ≠ 0 := fun e => by
      subst e
      have : R.things s 0 = 0 := rfl
      omega
    have el := Ln.waiting_line a.wt what i hw
    have hno : ¬ (i < 0 ∨ R.things s what ≤ i) := by omega
    have e1 : R.waitE s what i = 0 := by unfold R.waitE; rw [if_neg hno]
    have e2 : R.waitL s what i = Ln.ints (Ln.lineW s wt what i) := by unfold R.waitL; rw [if_neg hno, el]
    refine ⟨v, by rw [e1], ?_, hb⟩
    rw [e2, Ln.ints_length]
    exact hr
  · rw [if_neg hin] at hh
    obtain ⟨rfl, hb⟩ := hh
    have hyes : i < 0 ∨ R.things s what ≤ i := by omega
    have e1 : R.waitE s what i = 7 := by unfold R.waitE; rw [if_pos hyes]
    have e2 : R.waitL s what i = [] := by unfold R.waitL; rw [if_pos hyes]
    refine ⟨_, by rw [e1], ?_, hb⟩
    rw [e2]
    exact World.ownsRow_nil _ _ _ _
theorem box_few {s : RS} (inv : RInv s) (i : Nat) (hi : i < s.box.length) : s.box[i].length ≤ 1000 := by
  have h1 := inv.bnd.qb i hi
  have h2 := ok_queue inv.ok i (by rw [← inv.bnd.qs]; exact hi)
  omega
theorem cCount : CCount KPK := fun Q w kb s k i => by
  obtain ⟨F, h, tk, wt, ws, m, a, hq, wk, f, h8⟩ := k.open
  refine kCount_any m ?_ i
  rw [k.inv.bnd.cs]
  have := (ok_sizes k.inv.ok).1
  omega
theorem cMessages : CMessages KPK := fun Q w kb s k i => by
  obtain ⟨F, h, tk, wt, ws, m, a, hq, wk, f, h8⟩ := k.open
  refine kMessages_any m ?_ (box_few k.inv) i
  rw [k.inv.bnd.qs]
  have := (ok_sizes k.inv.ok).2
  omega
theorem cSee (hd : Int) : CSee KPK hd := ⟨fun _ => ⟨cNow, cMisses⟩, fun _ => cRunning, fun _ => cLook, fun _ => ⟨cOwner, cWaiting⟩, fun _ => ⟨cCount, cMessages, cWaiting⟩⟩

end Go.Proofs.Ytbkfildnijjioab

/-
  Walks over package donate: New.
-/
namespace Go.Proofs.Ytbkfildnijjioab
open Go.RowKit

theorem bare_get {S : SetD} {i : Nat} (hi : i < (R.bare S).T.length) : (R.bare S).T[i] = bareT (S.threads[i]'(by simpa [R.bare] using hi)) := by
  simp only [bare_T, List.getElem_map]
theorem bare_len (S : SetD) : (R.bare S).T.length = S.threads.length := by simp [R.bare]
theorem bare_cnt (S : SetD) : (R.bare S).count.length = S.sems.length := by simp [R.bare]
theorem bare_box (S : SetD) : (R.bare S).box.length = S.queues.length := by simp [R.bare]
theorem bare_own (S : SetD) : (R.bare S).owner.length = S.mutexes.length := by simp [R.bare]
theorem bare_th {S : SetD} {t : Nat} (ht : t < S.threads.length) : R.th (R.bare S).T t = bareT S.threads[t] := by
  rw [th_ext (by rw [bare_len]; exact ht), bare_get]
theorem bare_fit {S : SetD} (h : P3.err S = 0) : KFit (R.bare S) := by
  have g := good_bare h
  refine ⟨g.few, by rw [g.own]; exact g.mfew, g.own, fun i hi => ?_, fun t ht hf => ?_, fun i hi => ok_mutex h i (by rw [← bare_own]; exact hi)⟩
  · have hi' : i < S.mutexes.length := by rw [← bare_own]; exact hi
    have e : (R.bare S).owner.getD i 0 = -1 := by simp [R.bare, List.getD, hi']
    rw [e]
    omega
  · rw [bare_th (by rw [← bare_len]; exact ht)] at hf
    cases hf
theorem bare_aux (S : SetD) : Ln.Aux (R.bare S) (List.range S.threads.length) [] := by
  have hth : ∀ t, t < (R.bare S).T.length → R.th (R.bare S).T t = bareT (S.threads.getD t P3.none0) := fun t ht => by
    have ht' : t < S.threads.length := by rw [← bare_len]; exact ht
    rw [bare_th ht']
    simp [List.getD, ht']
  refine ⟨⟨by rw [bare_len], ?_, fun u hu => ?_, fun u hu ha => ?_⟩, ⟨fun u => ?_, List.Pairwise.nil, fun u hu => by cases hu⟩, fun u hu => ?_, Int.le_refl _⟩
  · refine Ln.pairwise_mem (R := fun _ _ => True) (List.pairwise_of_forall (fun _ _ => trivial)) fun a b ha hb _ => ?_
    rw [hth a (by rw [bare_len]; simpa using ha), hth b (by rw [bare_len]; simpa using hb)]
    exact .inr ⟨rfl, rfl⟩
  · rw [hth u hu]
    exact ⟨Int.le_refl _, Int.le_refl _⟩
  · rw [hth u hu] at ha
    cases ha
  · constructor
    · intro hu; cases hu
    · rintro ⟨hu, hf⟩
      rw [hth u hu] at hf
      exact absurd rfl hf
  · refine ⟨1, .step 0 _ (by omega) (.stop _ ?_)⟩
    unfold R.ahd
    have e : Int.toNat (u : Int) = u := by omega
    rw [e, hth u hu, if_neg (show ¬ (bareT (S.threads.getD u P3.none0)).for_ = 1 from fun hh => by cases hh)]
    decide
theorem bare_rel {S : SetD} (h : P3.err S = 0) (t : Nat) (ht : t < (R.bare S).T.length) : RelOk (R.bare S) t (R.bare S).T[t] := by
  have g := good_bare h
  have ht' : t < S.threads.length := by rw [← bare_len]; exact ht
  have ho := g.off S.threads[t] (List.getElem_mem ht')
  have e : S.threads.getD t P3.none0 = S.threads[t] := by simp [List.getD, ht']
  rw [bare_get]
  refine ⟨?_, Int.le_refl _, Int.le_refl _, ⟨Int.le_refl _, show (0 : Int) ≤ 2000000000 by decide⟩⟩
  show (0 : Int) = R.relBy S t (S.start - 1)
  unfold R.relBy
  rw [if_pos (by rw [e]; omega)]
theorem bare_kset {S : SetD} (h : P3.err S = 0) (t : Nat) (ht : t < (R.bare S).T.length) : KSet (R.bare S) t := by
  have g := good_bare h
  have ht' : t < S.threads.length := by rw [← bare_len]; exact ht
  have ho := g.off S.threads[t] (List.getElem_mem ht')
  have e : S.threads.getD t P3.none0 = S.threads[t] := by simp [List.getD, ht']
  have h0 := g.now0
  have h2 := g.now2
  have hn : (R.bare S).now = S.start := rfl
  have hs : (R.bare S).set = S := rfl
  rw [hn] at h2
  rw [hs] at h0
  refine ⟨⟨h0, h2⟩, ?_, ?_, ?_⟩ <;> (show _ ∧ _; rw [hs, e]; omega)
/-- Only what New and the steps turn is turned by a release. -/
theorem releaseTo_keeps (s : RS) (k u : Nat) : (R.th (R.releaseTo s k).T u).wkr = (R.th s.T u).wkr ∧ (R.th (R.releaseTo s k).T u).got = (R.th s.T u).got := by
  induction k with
  | zero => exact ⟨rfl, rfl⟩
  | succ k ih =>
    have one : ∀ s : RS, (R.th (R.releaseOne s k).T u).wkr = (R.th s.T u).wkr ∧ (R.th (R.releaseOne s k).T u).got = (R.th s.T u).got := by
      intro s
      unfold R.releaseOne R.wake
      split
      · split
        · simp only [Ln.th_modify]
          split <;> (try split) <;> exact ⟨rfl, rfl⟩
        · simp only [Ln.th_modify]
          split <;> exact ⟨rfl, rfl⟩
      · exact ⟨rfl, rfl⟩
    unfold R.releaseTo
    rw [(one _).1, (one _).2]
    exact ih
theorem new_wkw {S : SetD} (n : Nat) : Ln.WkW n (List.replicate n (-1)) (R.release (R.bare S)).T := by
  have hl : (R.release (R.bare S)).T.length = (R.bare S).T.length := R.releaseTo_len _ _
  have hw : ∀ t (ht : t < (R.release (R.bare S)).T.length), (R.release (R.bare S)).T[t].wkr = -1 := fun t ht => by
    have h1 := (releaseTo_keeps (R.bare S) (R.bare S).T.length t).1
    have ht' : t < S.threads.length := by rw [← bare_len, ← hl]; exact ht
    have h2 : R.th (R.releaseTo (R.bare S) (R.bare S).T.length).T t = (R.release (R.bare S)).T[t] := th_ext ht
    rw [h2, bare_th ht'] at h1
    exact h1
  refine ⟨by simp, fun t ht => by rw [hw t ht]; omega, fun w hw' => by simp; omega, fun w hw' t ht _ => ?_⟩
  rw [hw t ht]
  simp

/-- The kernel as New lays it, ahead of the first jobs. -/
theorem kmem_new {B gT gM gS gQ gW gK : Nat} {S : SetD} {w3 w4 wS wQ w5 w6 : World} {cs : Nat → Value} {L LM LS LQ : List Value} {n : Nat} (nt : NT B gT S.start S.threads w3 S.threads.length cs L) (h34 : Below w3.heap.size w3 w4) (nm : NMu w3.heap.size gM S.mutexes w4 S.mutexes.length LM) (h4S : Below w4.heap.size w4 wS) (ns : NSe w4.heap.size gS S.sems wS S.sems.length LS) (hSQ : Below wS.heap.size wS wQ) (nq : NQu wS.heap.size gQ S.queues wQ S.queues.length LQ) (hQ5 : Below wQ.heap.size wQ w5)
    (hW : w5.ownsRow wQ.heap.size 3 1 (.slice (some ⟨gW, 0, none⟩) n n) n (intCells (List.replicate n (-1)))) (h56 : Below w5.heap.size w5 w6)
    (hK : w6.ownsRow w5.heap.size 3 1 (.slice (some ⟨gK, 0, none⟩) S.threads.length S.threads.length) S.threads.length (intCells (Ln.ints (List.range S.threads.length)))) :
    ∃ F h, KMem F (w6.alloc (.cells #[.int .i64 S.start, .slice (some ⟨gT, 0, none⟩) S.threads.length S.threads.length, .slice (some ⟨gM, 0, none⟩) S.mutexes.length S.mutexes.length, .slice (some ⟨gS, 0, none⟩) S.sems.length S.sems.length, .slice (some ⟨gQ, 0, none⟩) S.queues.length S.queues.length, .slice (some ⟨gW, 0, none⟩) n n, .slice (some ⟨gK, 0, none⟩) S.threads.length S.threads.length, .slice none 0 0, .slice none 0 0] 88)) w6.heap.size h (R.bare S) (List.range S.threads.length) [] (List.replicate n (-1)) ∧ ∀ b, KB F w6.heap.size h b → B ≤ b ∨ w3.heap.size ≤ b := by
  generalize hv : (#[.int .i64 S.start, .slice (some ⟨gT, 0, none⟩) S.threads.length S.threads.length, .slice (some ⟨gM, 0, none⟩) S.mutexes.length S.mutexes.length, .slice (some ⟨gS, 0, none⟩) S.sems.length S.sems.length, .slice (some ⟨gQ, 0, none⟩) S.queues.length S.queues.length, .slice (some ⟨gW, 0, none⟩) n n, .slice (some ⟨gK, 0, none⟩) S.threads.length S.threads.length, .slice none 0 0, .slice none 0 0] : Array Value) = vs
  have hbA : Below w6.heap.size w6 (w6.alloc (.cells vs 88)) := (Below.refl _ _).alloc (Nat.le_refl _) _
  have h5A : Below w5.heap.size w5 (w6.alloc (.cells vs 88)) := via h56 h56.size hbA
  have hQA : Below wQ.heap.size wQ (w6.alloc (.cells vs 88)) := via hQ5 hQ5.size h5A
  have hSA : Below wS.heap.size wS (w6.alloc (.cells vs 88)) := via hSQ hSQ.size hQA
  have h4A : Below w4.heap.size w4 (w6.alloc (.cells vs 88)) := via h4S h4S.size hSA
  have h3A : Below w3.heap.size w3 (w6.alloc (.cells vs 88)) := via h34 h34.size h4A
  have bA : Blk (w6.alloc (.cells vs 88)) w6.heap.size vs 88 := Blk.new _ _ _
  generalize w6.alloc (.cells vs 88) = wA at *
  obtain ⟨hgT0, hgT, _⟩ := ownsRow_block nt.row rfl
  obtain ⟨hgM0, hgM, _⟩ := ownsRow_block nm.row rfl
  obtain ⟨hgS0, hgS, hgST⟩ := ownsRow_block ns.row rfl
  obtain ⟨hgQ0, hgQ, hgQT⟩ := ownsRow_block nq.row rfl
  obtain ⟨hgW0, hgW, _⟩ := ownsRow_block hW rfl
  obtain ⟨hgK0, hgK, _⟩ := ownsRow_block hK rfl
  have hgT0 : B ≤ gT := hgT0
  have hgM0 : w3.heap.size ≤ gM := hgM0
  have hgS0 : w4.heap.size ≤ gS := hgS0
  have hgS : gS < wS.heap.size := hgS
  have hgQ0 : wS.heap.size ≤ gQ := hgQ0
  have hgQ : gQ < wQ.heap.size := hgQ
  have hgW0 : wQ.heap.size ≤ gW := hgW0
  have hgK0 : w5.heap.size ≤ gK := hgK0
  have hgW : gW < w5.heap.size := hgW
  have s34 := h34.size
  have s4S := h4S.size
  have sSQ := hSQ.size
  have sQ5 := hQ5.size
  have s56 := h56.size
  refine ⟨fun b => B ≤ b ∧ Typ w3 b 46, ⟨gT, S.threads.length, L, cs, gM, S.mutexes.length, LM, gW, n, .slice (some ⟨gK, 0, none⟩) S.threads.length S.threads.length, .slice none 0 0, .slice none 0 0, gS, S.sems.length, LS, gQ, S.queues.length, LQ, fun _ => .slice none 0 0, S.queues.length⟩, ⟨?_, ?_, fun i hi j hj => ?_, fun i hi => ?_, ?_, fun i hi j hj => ?_, ?_, ?_, World.ownsRow_nil _ _ _ _, World.ownsRow_nil _ _ _ _, fun b hb => ?_, fun g hg => ?_, fun g hg => (by cases hg), ⟨?_, fun i hi j hj => ?_, ?_, ?_, fun i hi j hj => ?_, fun i hi => ?_, fun i j g _ _ _ hg => (by cases hg)⟩, ?_⟩, ?_⟩
  · have e : vs = kCells ⟨gT, S.threads.length, L, cs, gM, S.mutexes.length, LM, gW, n, .slice (some ⟨gK, 0, none⟩) S.threads.length S.threads.length, .slice none 0 0, .slice none 0 0, gS, S.sems.length, LS, gQ, S.queues.length, LQ, fun _ => .slice none 0 0, S.queues.length⟩ (R.bare S) (List.replicate n (-1)) := by
      rw [← hv]
      simp [kCells, bare_len, bare_own, bare_cnt, bare_box]
      rfl
    rw [← e]
    exact bA
  · rw [bare_len]
    exact ownsRow_mono (ownsRow_same nt.row fun g hg => by cases hg; exact h3A.block _ hgT) (Nat.zero_le _)
  · have hi' : i < S.threads.length := by rw [← bare_len]; exact hi
    rw [nt.cells i hi' hi' j hj, bare_get]
    have e : S.threads.getD i P3.none0 = S.threads[i] := by simp [List.getD, hi']
    show (bareCells S.start (cs i) S.threads[i])[j]? = (ktCells S i (cs i) (bareT S.threads[i]))[j]?
    unfold ktCells
    rw [e]
    rfl
  · have hi' : i < S.threads.length := by rw [← bare_len]; exact hi
    have e : S.threads.getD i P3.none0 = S.threads[i] := by simp [List.getD, hi']
    have hco := nt.codes i hi' hi'
    obtain ⟨cv, cc, hcv, _, hci, hna⟩ := InstrsIn.of_owns hco
    refine ⟨cv, cc, ?_, ?_⟩
    · show cs i = .slice cv (S.threads.getD i P3.none0).code.length cc
      rw [e]
      exact hcv
    · show InstrsF _ _ cv (S.threads.getD i P3.none0).code
      rw [e]
      intro j hj
      obtain ⟨b, o, ha, hbl, x0, x1, x2⟩ := hci j hj
      obtain ⟨g', e1, h1, h2⟩ := hna _ ha
      cases e1
      have hbk : (cs i).ownBlock = some b := by rw [hcv, ha]; rfl
      obtain ⟨hB, _, cur, hcur⟩ := ownsRow_block hco hbk
      have same : ∀ o', wA.cell? ⟨b, o', none⟩ = w3.cell? ⟨b, o', none⟩ := fun o' => h3A.cell (p := ⟨b, o', none⟩) hbl
      exact ⟨b, 0, ha, ⟨hB, cur, hcur⟩, (same _).trans x0, (same _).trans x1, (same _).trans x2⟩
  · rw [bare_own]
    exact ownsRow_mono (ownsRow_same nm.row fun g hg => by cases hg; exact h4A.block _ hgM) (Nat.zero_le _)
  · have hi' : i < S.mutexes.length := by rw [← bare_own]; exact hi
    rw [nm.cells i hi' hi' j hj]
    have e : S.mutexes.getD i R.pair0 = S.mutexes[i] := by simp [List.getD, hi']
    have e2 : (R.bare S).owner[i] = -1 := by simp [R.bare]
    show _ = (kmCells S i (R.bare S).owner[i])[j]?
    unfold kmCells
    rw [e, e2]
  · have := ownsRow_mono (ownsRow_same hW fun g hg => by cases hg; exact h5A.block _ hgW) (Nat.zero_le _)
    simpa using this
  · have := ownsRow_mono (ownsRow_same hK fun g hg => by cases hg; exact hbA.block _ hgK) (Nat.zero_le _)
    simpa using this
  · exact hb.2.same (h3A.block b hb.2.lt)
  · cases hg
    show gK ≠ gW
    omega
  · rw [bare_cnt]
    exact ownsRow_mono (ownsRow_same ns.row fun g hg => by cases hg; exact hSA.block _ hgS) (Nat.zero_le _)
  · have hi' : i < S.sems.length := by rw [← bare_cnt]; exact hi
    show LS[i * 2 + j]? = _
    rw [ns.cells i hi' hi' j hj]
    have e : S.sems.getD i R.pair0 = S.sems[i] := by simp [List.getD, hi']
    have e2 : (R.bare S).count[i] = S.sems[i].x := by simp [R.bare]
    show _ = (ksCells S i (R.bare S).count[i])[j]?
    unfold ksCells
    rw [e, e2]
  · rw [bare_box]
    exact ownsRow_mono (ownsRow_same nq.row fun g hg => by cases hg; exact hQA.block _ hgQ) (Nat.zero_le _)
  · rw [bare_box]
  · have hi' : i < S.queues.length := by rw [← bare_box]; exact hi
    show LQ[i * 2 + j]? = (kqCells S i (.slice none 0 0))[j]?
    rw [nq.cells i hi' j hj, if_pos hi']
    have e : S.queues.getD i 0 = S.queues[i] := by simp [List.getD, hi']
    unfold kqCells
    rw [e]
  · have e2 : (R.bare S).box[i] = [] := by simp [R.bare]
    rw [e2]
    exact World.ownsRow_nil _ _ _ _
  · rintro g (hb | hb | ⟨i, _, hb⟩)
    · have hb' : g = gS := hb
      refine ⟨?_, fun e => ?_, fun e => by cases e⟩
      · show g ≠ gW
        omega
      · have e' : some gK = some g := e
        cases e'
        omega
    · have hb' : g = gQ := hb
      refine ⟨?_, fun e => ?_, fun e => by cases e⟩
      · show g ≠ gW
        omega
      · have e' : some gK = some g := e
        cases e'
        omega
    · cases hb
  · rintro b (hb | hb | hb | hb | hb | hb | hb | hb | hb | hb | ⟨i, _, hb⟩)
    · exact .inl hb.1
    · right; omega
    · have hb' : b = gT := hb
      left; omega
    · have hb' : b = gM := hb
      right; omega
    · have hb' : b = gW := hb
      right; omega
    · have hb' : some gK = some b := hb
      cases hb'
      right; omega
    · cases hb
    · cases hb
    · have hb' : b = gS := hb
      right; omega
    · have hb' : b = gQ := hb
      right; omega
    · cases hb


theorem ok_code {S : SetD} (h : P3.err S = 0) : ∀ x ∈ S.threads, x.code.length ≤ 32 := by
  intro x hx
  have := badOr_good (ok_parts h).2.2.2.2.1 x hx
  unfold P3.threadP P3.threadB at this
  rw [decide_eq_true_iff] at this
  omega
theorem new_awOk {S : SetD} (h : P3.err S = 0) : AwOk (R.release (R.bare S)) := by
  intro t ht
  have inv := (inv_new h).toRMid.awOk
  have hl : t < (R.new S).T.length := by show t < (R.settle _).T.length; rw [settle_len]; exact ht
  have h1 := inv t hl
  obtain ⟨x, hx⟩ := settle_get (s := R.release (R.bare S)) ht
  have hx' : (R.new S).T[t] = { (R.release (R.bare S)).T[t] with wkr := x } := hx
  rw [hx'] at h1
  exact h1

set_option maxRecDepth 100000 in
set_option maxHeartbeats 4000000 in
theorem cNew : CNew KPK (fun _ => True) := by
  intro tv mv sv qv tc mc sc qc S w hS hF hnil _
  have HS := hid hS
  clear hS hF hnil
  go_enter Try.func32, Try.ntmps32
  go_upto_region 1 with fail
  have hb0 : Below w.heap.size w (w.alloc (.cells #[.int .i64 S.workers, .int .i64 S.start, .slice tv S.threads.length tc, .slice mv S.mutexes.length mc, .slice sv S.sems.length sc, .slice qv S.queues.length qc] 27)) := (Below.refl _ _).alloc (Nat.le_refl _) _
  have b0 := Blk.new w #[.int .i64 S.workers, .int .i64 S.start, .slice tv S.threads.length tc, .slice mv S.mutexes.length mc, .slice sv S.sems.length sc, .slice qv S.queues.length qc] 27
  generalize w.alloc (.cells #[.int .i64 S.workers, .int .i64 S.start, .slice tv S.threads.length tc, .slice mv S.mutexes.length mc, .slice sv S.sems.length sc, .slice qv S.queues.length qc] 27) = w0 at hb0 b0 ⊢
  have HS0 := hid (HS.out.later hb0)
  have HB0 := hid hb0
  have B0 := hid b0
  have y0 := b0.cell 0
  have y1 := b0.cell 1
  have y2 := b0.cell 2
  have y3 := b0.cell 3
  have y4 := b0.cell 4
  have y5 := b0.cell 5
  simp at y0 y1 y2 y3 y4 y5
  clear hb0 b0 HS
  go_wp2_with fail
  refine (checkSet_any tv mv sv qv tc mc sc qc S w0 HS0.out).mono ?_
  rintro e w1 ⟨rfl, hb1⟩
  have HS1 := hid (HS0.out.later hb1)
  have HB1 := hid (via HB0.out HB0.out.size hb1)
  have B1 := hid (B0.out.below' hb1)
  clear hb1 HS0 HB0 B0 y0 y1 y2 y3 y4 y5
  go_upto_region 2 with fail
  have hb2 : Below w1.heap.size w1 (w1.alloc (.cells #[.int .i64 (P3.err S), .int .i64 (P3.place S)] 100)) := (Below.refl _ _).alloc (Nat.le_refl _) _
  have b2 := Blk.new w1 #[.int .i64 (P3.err S), .int .i64 (P3.place S)] 100
  generalize w1.alloc (.cells #[.int .i64 (P3.err S), .int .i64 (P3.place S)] 100) = w2 at hb2 b2 ⊢
  have HS2 := hid (HS1.out.later hb2)
  have HB2 := hid (via HB1.out HB1.out.size hb2)
  have B2 := hid (B1.out.below' hb2)
  have q0 := b2.cell 0
  simp at q0
  clear hb2 HS1 HB1 B1 b2
  cases herr : (P3.err S != 0)
  · have hok : P3.err S = 0 := by simpa using herr
    have HOK := hid hok
    have hsz := (ok_parts hok).1
    unfold P3.sizesB at hsz
    rw [decide_eq_true_iff] at hsz
    obtain ⟨z1, z2, z3, z4, z5, z6, z7, z8, z9⟩ := hsz
    obtain ⟨nw, hnw⟩ := Int.eq_ofNat_of_zero_le (show 0 ≤ S.workers by omega)
    have HNW := hid hnw
    have HNW2 : Hid (S.workers.toNat = nw) := by rw [hnw]; exact hid rfl
    have y0 := B2.out.cell 0
    have y1 := B2.out.cell 1
    have y2 := B2.out.cell 2
    simp at y0 y1 y2
    have OFF : Hid (∀ x ∈ S.threads, 0 ≤ x.offset ∧ x.offset ≤ 1000) := fun x hx => by have := (good_bare hok).off x hx; omega
    clear hok
    go_wp2_with fail
    refine (kNewThreads_any tv tc S.threads S.start w2 HS2.out.threads (by omega) (by omega) (ok_code HOK.out) ⟨z3, z4⟩ OFF.out).mono ?_
    rintro e w3 ⟨gT, cs, L, rfl, hgT, nt, hb3⟩
    have NTH := hid nt
    have HB3 := hid (via HB2.out HB2.out.size hb3)
    have HS3 := hid (HS2.out.later hb3)
    have B3 := hid (B2.out.below' hb3)
    have y3 := B3.out.cell 3
    simp at y3
    clear nt hb3 HS2 B2 y0 y1 y2 q0
    go_wp2_with fail
    refine (kNewMutexes_any mv mc S.mutexes w3 HS3.out.mutexes (by omega)).mono ?_
    rintro e w4 ⟨gM, LM, rfl, hgM, nm, hb4⟩
    have NMH := hid nm
    have H34 := hid hb4
    have HB4 := hid (via HB3.out HB3.out.size hb4)
    have HS4 := hid (HS3.out.later hb4)
    have B4 := hid (B3.out.below' hb4)
    have y4 := B4.out.cell 4
    simp at y4
    clear nm hb4 B3 y3 HS3
    go_wp2_with fail
    refine (kNewSems_any sv sc S.sems w4 HS4.out.sems (by omega)).mono ?_
    rintro e wS ⟨gS, LS, rfl, hgS, ns, hbS⟩
    have NSH := hid ns
    have H4S := hid hbS
    have HBS := hid (via HB4.out HB4.out.size hbS)
    have HSS := hid (HS4.out.later hbS)
    have BS := hid (B4.out.below' hbS)
    have y5 := BS.out.cell 5
    simp at y5
    clear ns hbS B4 y4 HS4
    go_wp2_with fail
    refine (kNewQueues_any qv qc S.queues wS HSS.out.queues (by omega)).mono ?_
    rintro e wQ ⟨gQ, LQ, rfl, hgQ, nqu, hbQ⟩
    have NQH := hid nqu
    have HSQ := hid hbQ
    have HBQ := hid (via HBS.out HBS.out.size hbQ)
    have BQ := hid (BS.out.below' hbQ)
    have y0 := BQ.out.cell 0
    simp at y0
    rw [HNW.out] at y0
    clear nqu hbQ BS y5 HSS
    go_wp2_with fail
    refine (kFreeWorkers_any wQ nw (by omega) (by omega)).mono ?_
    rintro e w5 ⟨gW, rfl, hW, hb5⟩
    have HW := hid hW
    have HQ5 := hid hb5
    have HB5 := hid (via HBQ.out HBQ.out.size hb5)
    have B5 := hid (BQ.out.below' hb5)
    have y2 := B5.out.cell 2
    simp at y2
    clear hW hb5 BQ y0
    go_wp2_with fail
    refine (kFirstTickets_any w5 S.threads.length (by omega)).mono ?_
    rintro e w6 ⟨gK, rfl, hK, hb6⟩
    have HK := hid hK
    have H56 := hid hb6
    have HB6 := hid (via HB5.out HB5.out.size hb6)
    have B6 := hid (B5.out.below' hb6)
    have y1 := B6.out.cell 1
    simp at y1
    clear hK hb6 B5 y2
    go_upto_region 11 with fail
    obtain ⟨F, h, m7, hq7⟩ := kmem_new NTH.out H34.out NMH.out H4S.out NSH.out HSQ.out NQH.out HQ5.out HW.out H56.out HK.out
    obtain ⟨w7, hw7⟩ : ∃ w7, w7 = w6.alloc (.cells #[.int .i64 S.start, .slice (some ⟨gT, 0, none⟩) S.threads.length S.threads.length, .slice (some ⟨gM, 0, none⟩) S.mutexes.length S.mutexes.length, .slice (some ⟨gS, 0, none⟩) S.sems.length S.sems.length, .slice (some ⟨gQ, 0, none⟩) S.queues.length S.queues.length, .slice (some ⟨gW, 0, none⟩) nw nw, .slice (some ⟨gK, 0, none⟩) S.threads.length S.threads.length, .slice none 0 0, .slice none 0 0] 88) := ⟨_, rfl⟩
    have hb7 : Below w6.heap.size w6 w7 := by rw [hw7]; exact (Below.refl _ _).alloc (Nat.le_refl _) _
    rw [← hw7] at m7
    rw [← hw7]
    have HB7 := hid (via HB6.out HB6.out.size hb7)
    have hz3 := HB3.out.size
    have hz2 := HB2.out.size
    have HQ7 : Hid (∀ b, KB F w6.heap.size h b → w.heap.size ≤ b) := fun b hb => by rcases hq7 b hb with h' | h' <;> omega
    have hkb : w.heap.size ≤ w6.heap.size := HB6.out.size
    have M7 := hid m7
    clear hw7 m7 hq7 hb7 y1 B6 H34 H4S HSQ HQ5 H56 NTH NMH NSH NQH HW HK
    have RJ := hid (kReleaseJobs_any M7.out (bare_fit HOK.out) (bare_aux S) (bare_rel HOK.out) (bare_kset HOK.out))
    generalize w6.heap.size = kb at *
    go_wp2_with fail
    refine RJ.out.mono ?_
    rintro e w8 ⟨rfl, h8, tk8, m8, a8, f8, o8, u8⟩
    have M8 := hid m8
    have A8 := hid a8
    have F8 := hid f8
    have U8 := hid u8
    have HB8 := hid (HB7.out.trans (o8.below (B := w.heap.size) HB7.out.size (fun b hb => by
      simp at hb
      rcases hb with rfl | rfl
      · exact hkb
      · exact HQ7.out _ (.inr (.inr (.inl rfl))))))
    have HQ8 : Hid (∀ b, KB F kb h8 b → w.heap.size ≤ b) := fun b hb => by
      rcases u8.blocks b hb with h' | h'
      · exact HQ7.out b h'
      · exact Nat.le_trans HB7.out.size h'
    clear m8 a8 f8 o8 u8 RJ
    have GO := hid (kGiveOut_any M8.out F8.out A8.out (new_awOk HOK.out) (by simp; omega))
    go_wp2_with fail
    refine GO.out.mono ?_
    rintro e w9 ⟨rfl, m9, o9⟩
    have HB9 := hid (HB8.out.trans (o9.below (B := w.heap.size) HB8.out.size (fun b hb => by
      simp at hb
      subst hb
      exact HQ8.out _ (.inr (.inr (.inr (.inr (.inl rfl))))))))
    have M9 := hid m9
    clear m9 o9 GO
    go_wp2
    go_ret2
    have hset : (R.release (R.bare S)).set.workers.toNat = nw := by
      have : (R.release (R.bare S)).set = S := R.releaseTo_set _ _
      rw [this]
      exact HNW2.out
    refine ⟨HB9.out, .inr ⟨HOK.out, kb, KB F kb h8, rfl, ⟨⟨_, ⟨⟨F, h8, tk8, [], M9.out.settle, A8.out.settle F8.out, fun _ hb => hb⟩, KB.lt M9.out⟩, ?_⟩, inv_new HOK.out⟩, HQ8.out⟩⟩
    exact Ln.seatAll_settle A8.out.tk (by rw [hset]; exact new_wkw nw)
  · have hno : P3.err S ≠ 0 := by simpa using herr
    have HNO := hid hno
    clear hno
    go_wp2_with fail
    go_quiet (fail)
    go_wp2
    go_ret2
    exact ⟨bdrewN HB2.out _, .inl ⟨HNO.out, rfl⟩⟩

theorem cNew' (ok : SetD → Prop) : CNew KPK ok := fun tv mv sv qv tc mc sc qc S w hS hF hnil _ => cNew tv mv sv qv tc mc sc qc S w hS hF hnil trivial

end Go.Proofs.Ytbkfildnijjioab

/-
  An instruction that is done ahead of the thread's At is turned does the same (P7).
-/
namespace Go.Proofs.Ytbkfildnijjioab
namespace R

theorem modify_comm (T : List RT) (t u : Nat) (f g : RT → RT) (h : ∀ x, f (g x) = g (f x)) : (T.modify t f).modify u g = (T.modify u g).modify t f := by
  apply List.ext_getElem
  · simp
  · intro i h1 h2
    simp only [List.getElem_modify]
    by_cases e1 : u = i <;> by_cases e2 : t = i <;> simp [e1, e2, h]

/-- Alike in all that levels, lines and ways hang on. -/
structure Alike (s s' : RS) : Prop where
  set : s'.set = s.set
  owner : s'.owner = s.owner
  len : s'.T.length = s.T.length
  th : ∀ u, (R.th s'.T u).base = (R.th s.T u).base ∧ (R.th s'.T u).for_ = (R.th s.T u).for_ ∧ (R.th s'.T u).of_ = (R.th s.T u).of_ ∧ (R.th s'.T u).since = (R.th s.T u).since
section
variable {s s' : RS}
theorem Alike.inner (a : Alike s s') (f : Nat → Int) (m : Nat) (v : Int) (k : Nat) : innerTo s'.T f m v k = innerTo s.T f m v k := by
  induction k with
  | zero => rfl
  | succ k ih => unfold innerTo; rw [(a.th k).2.1, (a.th k).2.2.1, ih]
theorem Alike.outer (a : Alike s s') (f : Nat → Int) (pos : Bool) (t k : Nat) : outerTo s' f pos t k = outerTo s f pos t k := by
  induction k with
  | zero => unfold outerTo; exact (a.th t).1
  | succ k ih => unfold outerTo; rw [a.owner, a.set, ih, a.inner, a.len]
theorem Alike.lvl (a : Alike s s') (d : Nat) : level s' d = level s d := by
  induction d with
  | zero => funext t; unfold level; rw [a.outer, a.owner]
  | succ d ih => funext t; unfold level; rw [a.outer, a.owner, ih]
theorem Alike.Level (a : Alike s s') (t : Nat) : R.Level s' t = R.Level s t := by unfold R.Level; rw [a.len, a.lvl]
theorem Alike.firstTo (a : Alike s s') (what of_ : Int) (l : List Int) (k : Nat) : R.firstTo s' what of_ l k = R.firstTo s what of_ l k := by
  induction k with
  | zero => rfl
  | succ k ih =>
    have eg : ∀ b, goesFirst s' k b = goesFirst s k b := fun b => by
      unfold goesFirst
      rw [a.Level, a.Level, (a.th k).2.2.2, (a.th b).2.2.2]
    unfold R.firstTo
    rw [ih, (a.th k).2.1, (a.th k).2.2.1, eg]
theorem Alike.giveT (a : Alike s s') (what of_ : Int) : R.giveT s' what of_ = R.giveT s what of_ := by
  unfold R.giveT R.first
  rw [a.len, a.firstTo]
theorem Alike.roundTo (a : Alike s s') (t n : Nat) (o : Int) : R.roundTo s' t n o = R.roundTo s t n o := by
  induction n generalizing o with
  | zero => rfl
  | succ n ih => unfold R.roundTo; rw [(a.th o.toNat).2.1, (a.th o.toNat).2.2.1, a.owner, ih]
theorem Alike.round (a : Alike s s') (t m : Nat) : R.round s' t m = R.round s t m := by
  unfold R.round
  rw [a.roundTo, a.owner, a.len]
end

theorem alike_toAt (s : RS) (t : Nat) (a : Int) : Alike s (toAt s t a) := by
  refine ⟨rfl, rfl, by simp [toAt], fun u => ?_⟩
  show (R.th (s.T.modify t (fun x => { x with at_ := a })) u).base = _ ∧ _
  unfold toAt
  dsimp only
  rw [Ln.th_modify]
  split <;> exact ⟨rfl, rfl, rfl, rfl⟩

section
variable (s : RS) (t : Nat) (a : Int)
theorem beginW_toAt (u : Nat) (what of_ n : Int) : beginW (toAt s t a) u what of_ n = toAt (beginW s u what of_ n) t a := by
  unfold beginW toAt
  simp only [RS.mk.injEq, true_and, and_true]
  exact modify_comm _ _ _ _ _ (fun _ => rfl)
theorem endW_toAt (u : Nat) (c : Int) : endW (toAt s t a) u c = toAt (endW s u c) t a := by
  unfold endW wake toAt
  simp only [RS.mk.injEq, true_and, and_true]
  rw [modify_comm s.T t u (fun x => { x with at_ := a }) _ (fun _ => rfl), modify_comm _ t u (fun x => { x with at_ := a }) _ (fun _ => rfl)]
theorem giveS_toAt (what of_ : Int) : giveS (toAt s t a) what of_ = toAt (giveS s what of_) t a := by
  unfold giveS
  rw [(alike_toAt s t a).giveT]
  split
  · exact endW_toAt s t a _ _
  · rfl
theorem base_toAt (u : Nat) : (R.th (toAt s t a).T u).base = (R.th s.T u).base := ((alike_toAt s t a).th u).1
theorem lockC_toAt (u m : Nat) (n : Int) : lockC (toAt s t a) u m n = lockC s u m n := by
  unfold lockC
  rw [base_toAt, (alike_toAt s t a).round]
  rfl
theorem lockS_toAt (u m : Nat) (n : Int) : lockS (toAt s t a) u m n = toAt (lockS s u m n) t a := by
  unfold lockS
  rw [lockC_toAt]
  split
  · rfl
  · split
    · exact beginW_toAt s t a _ _ _ _
    · rfl
theorem unlockS_toAt (u m : Nat) : unlockS (toAt s t a) u m = toAt (unlockS s u m) t a := by
  unfold unlockS
  rw [giveS_toAt, (alike_toAt s t a).giveT]
  show (if s.owner.getD m 0 = (u : Int) then _ else _) = _
  split <;> rfl
theorem gets_toAt (u : Nat) (v : Int) : gets (toAt s t a) u v = toAt (gets s u v) t a := by
  unfold gets toAt
  simp only [RS.mk.injEq, true_and, and_true]
  exact modify_comm _ _ _ _ _ (fun _ => rfl)
theorem downS_toAt (u m : Nat) (b : Int) : downS (toAt s t a) u m b = toAt (downS s u m b) t a := by
  unfold downS
  show (if downC s m b = 0 then _ else if downC s m b = 1 then _ else _) = _
  split
  · rfl
  · split
    · exact beginW_toAt s t a _ _ _ _
    · rfl
theorem upS_toAt (m : Nat) : upS (toAt s t a) m = toAt (upS s m) t a := by
  unfold upS
  rw [(alike_toAt s t a).giveT, giveS_toAt]
  split
  · rfl
  · show (if s.count.getD m 0 = (s.set.sems.getD m pair0).y then _ else _) = _
    split <;> rfl
theorem recvS_toAt (u m : Nat) (b : Int) : recvS (toAt s t a) u m b = toAt (recvS s u m b) t a := by
  unfold recvS
  show (if recvC s m b = 0 then _ else if recvC s m b = 1 then _ else _) = _
  split
  · show { gets (toAt s t a) u ((boxAt s m).getD 0 0) with box := s.box.set m ((boxAt s m).drop 1) } = _
    rw [gets_toAt]
    rfl
  · split
    · exact beginW_toAt s t a _ _ _ _
    · rfl
theorem sendS_toAt (m : Nat) (b : Int) : sendS (toAt s t a) m b = toAt (sendS s m b) t a := by
  unfold sendS
  rw [(alike_toAt s t a).giveT, giveS_toAt]
  split
  · exact gets_toAt _ _ _ _ _
  · show (if ((boxAt s m).length : Int) = s.set.queues.getD m 0 then _ else _) = _
    split <;> rfl
theorem doesS_toAt (i : InstrD) : doesS (toAt s t a) t i = toAt (doesS s t i) t a := by
  unfold doesS
  rw [beginW_toAt, lockS_toAt, unlockS_toAt, downS_toAt, upS_toAt, sendS_toAt, recvS_toAt]
  split
  · unfold toAt
    simp only [RS.mk.injEq, true_and, and_true]
    exact modify_comm _ _ _ _ _ (fun _ => rfl)
  · split
    · unfold toAt
      simp only [RS.mk.injEq, true_and, and_true]
      exact modify_comm _ _ _ _ _ (fun _ => rfl)
    · repeat (first | rfl | split)
theorem doesC_toAt (i : InstrD) : doesC (toAt s t a) t i = doesC s t i := by
  unfold doesC
  rw [lockC_toAt]
  have e1 : ∀ m, upC (toAt s t a) m = upC s m := fun m => by unfold upC; rw [(alike_toAt s t a).giveT]; rfl
  have e2 : ∀ m, sendC (toAt s t a) m = sendC s m := fun m => by unfold sendC; rw [(alike_toAt s t a).giveT]; rfl
  rw [e1, e2]
  rfl
end

/-- P7, in the program's order: first the instruction, then At and Last. -/
theorem actS_is (s : RS) (t : Nat) (h0 : (instrAt s t).op ≠ 0) (h3 : (instrAt s t).op ≠ 3) : actS s t = toLast (toAt (doesS s t (instrAt s t)) t ((R.th s.T t).at_ + 1)) t (doesC s t (instrAt s t)) ∧ actC s t = doesC s t (instrAt s t) := by
  have hc : actC s t = doesC s t (instrAt s t) := by
    unfold actC
    rw [if_neg (by rintro (h | h); exact h0 h; exact h3 h), doesC_toAt]
  refine ⟨?_, hc⟩
  unfold actS
  rw [if_neg h0, if_neg h3, hc, doesS_toAt]
end R
end Go.Proofs.Ytbkfildnijjioab

/-
  What an instruction leaves as it was: workers (but of one who begins to wait) and messages got.
-/
namespace Go.Proofs.Ytbkfildnijjioab
namespace R

/-- Workers, and what was got, are as they were. -/
structure Keep (s s' : RS) : Prop where
  len : s'.T.length = s.T.length
  wkr : ∀ u, (R.th s'.T u).wkr = (R.th s.T u).wkr
  got : ∀ u, (R.th s'.T u).got = (R.th s.T u).got
/-- But for one who begins to wait. -/
structure KeepW (s s' : RS) : Prop where
  len : s'.T.length = s.T.length
  wkr : ∀ u, (R.th s'.T u).wkr = (R.th s.T u).wkr ∨ ((R.th s'.T u).wkr = -1 ∧ (R.th s'.T u).awake = false)
section
variable {s s' s'' : RS}
theorem Keep.refl (s : RS) : Keep s s := ⟨rfl, fun _ => rfl, fun _ => rfl⟩
theorem Keep.trans (k : Keep s s') (l : Keep s' s'') : Keep s s'' := ⟨l.len.trans k.len, fun u => (l.wkr u).trans (k.wkr u), fun u => (l.got u).trans (k.got u)⟩
theorem Keep.weak (k : Keep s s') : KeepW s s' := ⟨k.len, fun u => .inl (k.wkr u)⟩
theorem keep_of (hT : ∀ u, (R.th s'.T u).wkr = (R.th s.T u).wkr ∧ (R.th s'.T u).got = (R.th s.T u).got) (hl : s'.T.length = s.T.length) : Keep s s' := ⟨hl, fun u => (hT u).1, fun u => (hT u).2⟩
theorem keep_modify {s s' : RS} (t : Nat) {f : RT → RT} (h : s'.T = s.T.modify t f) (hf : ∀ x, (f x).wkr = x.wkr ∧ (f x).got = x.got) : Keep s s' := by
  refine keep_of (fun u => ?_) (by rw [h]; simp)
  rw [h, Ln.th_modify]
  split
  · exact hf _
  · exact ⟨rfl, rfl⟩
theorem keep_same (h : s'.T = s.T) : Keep s s' := keep_of (fun u => by rw [h]; exact ⟨rfl, rfl⟩) (by rw [h])
theorem keep_wake (s : RS) (t : Nat) : Keep s (wake s t) := keep_modify t rfl (fun _ => ⟨rfl, rfl⟩)
theorem keep_endW (s : RS) (t : Nat) (c : Int) : Keep s (endW s t c) := (keep_modify (s' := { s with T := s.T.modify t (fun x => { x with for_ := 0, of_ := 0, until_ := 0, last := c }) }) t rfl (fun _ => ⟨rfl, rfl⟩)).trans (keep_wake _ t)
theorem keep_giveS (s : RS) (what of_ : Int) : Keep s (giveS s what of_) := by
  unfold giveS
  split
  · exact keep_endW _ _ _
  · exact Keep.refl s
theorem keep_unlockS (s : RS) (t m : Nat) : Keep s (unlockS s t m) := by
  unfold unlockS
  split
  · exact (keep_giveS s 1 (m : Int)).trans (keep_same rfl)
  · exact Keep.refl s
theorem keep_unlocksTo (s : RS) (t k : Nat) : Keep s (unlocksTo s t k) := by
  induction k with
  | zero => exact Keep.refl s
  | succ k ih => exact ih.trans (keep_unlockS _ t k)
theorem keep_stop (s : RS) (t : Nat) : Keep s (stop s t) := by
  have h1 : Keep s (stop0 s t) := keep_modify t rfl (fun _ => ⟨rfl, rfl⟩)
  have h2 := h1.trans (keep_unlocksTo (stop0 s t) t s.owner.length)
  have h3 : Keep s (asleep (unlocksTo (stop0 s t) t s.owner.length) t) := h2.trans (keep_modify t rfl (fun _ => ⟨rfl, rfl⟩))
  unfold stop
  split
  · exact h3.trans (keep_wake _ t)
  · exact h3
theorem keep_toAt (s : RS) (t : Nat) (a : Int) : Keep s (toAt s t a) := keep_modify t rfl (fun _ => ⟨rfl, rfl⟩)
theorem keep_toLast (s : RS) (t : Nat) (a : Int) : Keep s (toLast s t a) := keep_modify t rfl (fun _ => ⟨rfl, rfl⟩)
theorem keepW_beginW (s : RS) (t : Nat) (what of_ n : Int) : KeepW s (beginW s t what of_ n) := by
  have hth : ∀ u, (R.th (beginW s t what of_ n).T u = R.th s.T u) ∨ ((R.th (beginW s t what of_ n).T u).wkr = -1 ∧ (R.th (beginW s t what of_ n).T u).awake = false ∧ (R.th (beginW s t what of_ n).T u).got = (R.th s.T u).got) := by
    intro u
    unfold beginW
    dsimp only
    rw [Ln.th_modify]
    split
    · exact .inr ⟨rfl, rfl, rfl⟩
    · exact .inl rfl
  refine ⟨by simp [beginW], fun u => ?_⟩
  rcases hth u with h | h
  · exact .inl (by rw [h])
  · exact .inr ⟨h.1, h.2.1⟩
theorem KeepW.trans' (k : KeepW s s') (hl : s''.T.length = s'.T.length) (h : ∀ u, (R.th s''.T u).wkr = (R.th s'.T u).wkr ∧ (R.th s''.T u).awake = (R.th s'.T u).awake) : KeepW s s'' :=
  ⟨hl.trans k.len, fun u => by rw [(h u).1, (h u).2]; exact k.wkr u⟩
theorem keepW_gets (s : RS) (t : Nat) (v : Int) : KeepW s (gets s t v) := by
  refine ⟨by simp [gets], fun u => .inl ?_⟩
  unfold gets
  dsimp only
  rw [Ln.th_modify]
  split <;> rfl
theorem keepW_same (h : s'.T = s.T) : KeepW s s' := (keep_same h).weak
theorem keepW_doesS (s : RS) (t : Nat) (i : InstrD) : KeepW s (doesS s t i) := by
  unfold doesS
  split
  · exact Keep.weak (keep_modify t rfl (fun _ => ⟨rfl, rfl⟩))
  split
  · exact Keep.weak (keep_modify i.a.toNat rfl (fun _ => ⟨rfl, rfl⟩))
  split
  · exact keepW_beginW _ _ _ _ _
  split
  · unfold lockS
    split
    · exact keepW_same rfl
    · split
      · exact keepW_beginW _ _ _ _ _
      · exact (Keep.refl s).weak
  split
  · exact (keep_unlockS s t _).weak
  split
  · unfold downS
    split
    · exact keepW_same rfl
    · split
      · exact keepW_beginW _ _ _ _ _
      · exact (Keep.refl s).weak
  split
  · unfold upS
    split
    · exact (keep_giveS s 2 _).weak
    · split
      · exact (Keep.refl s).weak
      · exact keepW_same rfl
  split
  · unfold sendS
    split
    · refine (keep_giveS s 3 (i.a.toNat : Int)).weak.trans' (by simp [gets]) fun u => ?_
      unfold gets
      dsimp only
      rw [Ln.th_modify]
      split <;> exact ⟨rfl, rfl⟩
    · split
      · exact (Keep.refl s).weak
      · exact keepW_same rfl
  split
  · unfold recvS
    split
    · exact (keepW_gets s t _).trans' rfl fun u => ⟨rfl, rfl⟩
    · split
      · exact keepW_beginW _ _ _ _ _
      · exact (Keep.refl s).weak
  · exact (Keep.refl s).weak
theorem keepW_actS (s : RS) (t : Nat) : KeepW s (actS s t) := by
  by_cases h0 : (instrAt s t).op = 0
  · unfold actS
    rw [if_pos h0]
    exact (keep_stop s t).weak
  · by_cases h3 : (instrAt s t).op = 3
    · unfold actS
      rw [if_neg h0, if_pos h3]
      split
      · exact (keep_toAt _ _ _).weak
      · exact (keep_toAt _ _ _).weak
    · rw [(actS_is s t h0 h3).1]
      refine (keepW_doesS s t (instrAt s t)).trans' (by simp [toLast, toAt]) fun u => ?_
      unfold toLast toAt
      dsimp only
      rw [Ln.th_modify, Ln.th_modify]
      split <;> split <;> exact ⟨rfl, rfl⟩
end
end R
end Go.Proofs.Ytbkfildnijjioab
