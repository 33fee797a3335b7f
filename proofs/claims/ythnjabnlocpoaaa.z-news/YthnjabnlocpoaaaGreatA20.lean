import Derived.Test.YthnjabnlocpoaaaGreatA19
import Derived.Test.YthnjabnlocpoaaaGreatA09
import Derived.ProofKit
import Derived.SizedLaws
import Derived.Deep.Slices
import Derived.Deep.Fields
import Derived.Deep.Strs
import Derived.Test.YthnjabnlocpoaaaGreatRows
/-
  Walks over package donate: New.
-/
namespace Go.Proofs.YthnjabnlocpoaaaGreat
open Go.RowKit

theorem bare_get {S : SetD} {i : Nat} (hi : i < (R.bare S).T.length) : (R.bare S).T[i] = bareT (S.threads[i]'(by simpa [R.bare] using hi)) := by
  simp only [bare_T, List.getElem_map]
theorem bare_len (S : SetD) : (R.bare S).T.length = S.threads.length := by simp [R.bare]
theorem bare_own (S : SetD) : (R.bare S).owner.length = S.mutexes.length := by simp [R.bare]
theorem bare_th {S : SetD} {t : Nat} (ht : t < S.threads.length) : R.th (R.bare S).T t = bareT S.threads[t] := by
  rw [th_ext (by rw [bare_len]; exact ht), bare_get]
theorem bare_fit {S : SetD} (h : P3.err S = 0) : KFit (R.bare S) := by
  have g := good_bare h
  refine ⟨g.few, by rw [g.own]; exact g.mfew, g.own, fun i hi => ?_, fun t ht hf => ?_, fun i hi => ok_mutex h i (by rw [← bare_own]; exact hi)⟩
  · have hi' : i < S.mutexes.length := by rw [← bare_own]; exact hi
    have e : (R.bare S).owner.getD i 0 = -1 := by simp [R.bare, List.getD, hi']
    rw [e]
    omega
  · rw [bare_th (by rw [← bare_len]; exact ht)] at hf
    cases hf
theorem bare_aux (S : SetD) : Ln.Aux (R.bare S) (List.range S.threads.length) [] := by
  have hth : ∀ t, t < (R.bare S).T.length → R.th (R.bare S).T t = bareT (S.threads.getD t P3.none0) := fun t ht => by
    have ht' : t < S.threads.length := by rw [← bare_len]; exact ht
    rw [bare_th ht']
    simp [List.getD, ht']
  refine ⟨⟨by rw [bare_len], ?_, fun u hu => ?_, fun u hu ha => ?_⟩, ⟨fun u => ?_, List.Pairwise.nil, fun u hu => by cases hu⟩, fun u hu => ?_, Int.le_refl _⟩
  · refine Ln.pairwise_mem (R := fun _ _ => True) (List.pairwise_of_forall (fun _ _ => trivial)) fun a b ha hb _ => ?_
    rw [hth a (by rw [bare_len]; simpa using ha), hth b (by rw [bare_len]; simpa using hb)]
    exact .inr ⟨rfl, rfl⟩
  · rw [hth u hu]
    exact ⟨Int.le_refl _, Int.le_refl _⟩
  · rw [hth u hu] at ha
    cases ha
  · constructor
    · intro hu; cases hu
    · rintro ⟨hu, hf⟩
      rw [hth u hu] at hf
      exact absurd rfl hf
  · refine ⟨1, .step 0 _ (by omega) (.stop _ ?_)⟩
    unfold R.ahd
    have e : Int.toNat (u : Int) = u := by omega
    rw [e, hth u hu, if_neg (show ¬ (bareT (S.threads.getD u P3.none0)).for_ = 1 from fun hh => by cases hh)]
    decide
theorem bare_rel {S : SetD} (h : P3.err S = 0) (t : Nat) (ht : t < (R.bare S).T.length) : RelOk (R.bare S) t (R.bare S).T[t] := by
  have g := good_bare h
  have ht' : t < S.threads.length := by rw [← bare_len]; exact ht
  have ho := g.off S.threads[t] (List.getElem_mem ht')
  have e : S.threads.getD t P3.none0 = S.threads[t] := by simp [List.getD, ht']
  rw [bare_get]
  refine ⟨?_, Int.le_refl _, Int.le_refl _, ⟨Int.le_refl _, show (0 : Int) ≤ 2000000000 by decide⟩⟩
  show (0 : Int) = R.relBy S t (S.start - 1)
  unfold R.relBy
  rw [if_pos (by rw [e]; omega)]
theorem bare_kset {S : SetD} (h : P3.err S = 0) (t : Nat) (ht : t < (R.bare S).T.length) : KSet (R.bare S) t := by
  have g := good_bare h
  have ht' : t < S.threads.length := by rw [← bare_len]; exact ht
  have ho := g.off S.threads[t] (List.getElem_mem ht')
  have e : S.threads.getD t P3.none0 = S.threads[t] := by simp [List.getD, ht']
  have h0 := g.now0
  have h2 := g.now2
  have hn : (R.bare S).now = S.start := rfl
  have hs : (R.bare S).set = S := rfl
  rw [hn] at h2
  rw [hs] at h0
  refine ⟨⟨h0, h2⟩, ?_, ?_, ?_⟩ <;> (show _ ∧ _; rw [hs, e]; omega)
/-- Only what New and the steps turn is turned by a release. -/
theorem releaseTo_keeps (s : RS) (k u : Nat) : (R.th (R.releaseTo s k).T u).wkr = (R.th s.T u).wkr ∧ (R.th (R.releaseTo s k).T u).got = (R.th s.T u).got := by
  induction k with
  | zero => exact ⟨rfl, rfl⟩
  | succ k ih =>
    have one : ∀ s : RS, (R.th (R.releaseOne s k).T u).wkr = (R.th s.T u).wkr ∧ (R.th (R.releaseOne s k).T u).got = (R.th s.T u).got := by
      intro s
      unfold R.releaseOne R.wake
      split
      · split
        · simp only [Ln.th_modify]
          split <;> (try split) <;> exact ⟨rfl, rfl⟩
        · simp only [Ln.th_modify]
          split <;> exact ⟨rfl, rfl⟩
      · exact ⟨rfl, rfl⟩
    unfold R.releaseTo
    rw [(one _).1, (one _).2]
    exact ih
theorem new_wkw {S : SetD} (n : Nat) : Ln.WkW n (List.replicate n (-1)) (R.release (R.bare S)).T := by
  have hl : (R.release (R.bare S)).T.length = (R.bare S).T.length := R.releaseTo_len _ _
  have hw : ∀ t (ht : t < (R.release (R.bare S)).T.length), (R.release (R.bare S)).T[t].wkr = -1 := fun t ht => by
    have h1 := (releaseTo_keeps (R.bare S) (R.bare S).T.length t).1
    have ht' : t < S.threads.length := by rw [← bare_len, ← hl]; exact ht
    have h2 : R.th (R.releaseTo (R.bare S) (R.bare S).T.length).T t = (R.release (R.bare S)).T[t] := th_ext ht
    rw [h2, bare_th ht'] at h1
    exact h1
  refine ⟨by simp, fun t ht => by rw [hw t ht]; omega, fun w hw' => by simp; omega, fun w hw' t ht _ => ?_⟩
  rw [hw t ht]
  simp

/-- The kernel as New lays it, ahead of the first jobs. -/
theorem kmem_new {B gT gM gW gK : Nat} {S : SetD} {w3 w4 w5 w6 : World} {cs : Nat → Value} {L LM : List Value} {n : Nat} (nt : NT B gT S.start S.threads w3 S.threads.length cs L) (h34 : Below w3.heap.size w3 w4) (nm : NMu w3.heap.size gM S.mutexes w4 S.mutexes.length LM) (h45 : Below w4.heap.size w4 w5)
    (hW : w5.ownsRow w4.heap.size 3 1 (.slice (some ⟨gW, 0, none⟩) n n) n (intCells (List.replicate n (-1)))) (h56 : Below w5.heap.size w5 w6)
    (hK : w6.ownsRow w5.heap.size 3 1 (.slice (some ⟨gK, 0, none⟩) S.threads.length S.threads.length) S.threads.length (intCells (Ln.ints (List.range S.threads.length)))) :
    ∃ F h, KMem F (w6.alloc (.cells #[.int .i64 S.start, .slice (some ⟨gT, 0, none⟩) S.threads.length S.threads.length, .slice (some ⟨gM, 0, none⟩) S.mutexes.length S.mutexes.length, .int .i64 (S.sems.length : Nat), .int .i64 (S.queues.length : Nat), .slice (some ⟨gW, 0, none⟩) n n, .slice (some ⟨gK, 0, none⟩) S.threads.length S.threads.length, .slice none 0 0, .slice none 0 0] 66)) w6.heap.size h (R.bare S) (List.range S.threads.length) [] (List.replicate n (-1)) ∧ ∀ b, KB F w6.heap.size h b → B ≤ b ∨ w3.heap.size ≤ b := by
  generalize hv : (#[.int .i64 S.start, .slice (some ⟨gT, 0, none⟩) S.threads.length S.threads.length, .slice (some ⟨gM, 0, none⟩) S.mutexes.length S.mutexes.length, .int .i64 (S.sems.length : Nat), .int .i64 (S.queues.length : Nat), .slice (some ⟨gW, 0, none⟩) n n, .slice (some ⟨gK, 0, none⟩) S.threads.length S.threads.length, .slice none 0 0, .slice none 0 0] : Array Value) = vs
  have hbA : Below w6.heap.size w6 (w6.alloc (.cells vs 66)) := (Below.refl _ _).alloc (Nat.le_refl _) _
  have h5A : Below w5.heap.size w5 (w6.alloc (.cells vs 66)) := via h56 h56.size hbA
  have h4A : Below w4.heap.size w4 (w6.alloc (.cells vs 66)) := via h45 h45.size h5A
  have h3A : Below w3.heap.size w3 (w6.alloc (.cells vs 66)) := via h34 h34.size h4A
  have bA : Blk (w6.alloc (.cells vs 66)) w6.heap.size vs 66 := Blk.new _ _ _
  generalize w6.alloc (.cells vs 66) = wA at *
  obtain ⟨hgT0, hgT, _⟩ := ownsRow_block nt.row rfl
  obtain ⟨hgM0, hgM, _⟩ := ownsRow_block nm.row rfl
  obtain ⟨hgW0, hgW, _⟩ := ownsRow_block hW rfl
  obtain ⟨hgK0, hgK, _⟩ := ownsRow_block hK rfl
  have hgT0 : B ≤ gT := hgT0
  have hgM0 : w3.heap.size ≤ gM := hgM0
  have hgW0 : w4.heap.size ≤ gW := hgW0
  have hgK0 : w5.heap.size ≤ gK := hgK0
  have hgW : gW < w5.heap.size := hgW
  have s34 := h34.size
  have s45 := h45.size
  have s56 := h56.size
  refine ⟨fun b => B ≤ b ∧ Typ w3 b 41, ⟨gT, S.threads.length, L, cs, gM, S.mutexes.length, LM, gW, n, .slice (some ⟨gK, 0, none⟩) S.threads.length S.threads.length, .slice none 0 0, .slice none 0 0⟩, ⟨?_, ?_, fun i hi j hj => ?_, fun i hi => ?_, ?_, fun i hi j hj => ?_, ?_, ?_, World.ownsRow_nil _ _ _ _, World.ownsRow_nil _ _ _ _, fun b hb => ?_, fun g hg => ?_, fun g hg => (by cases hg)⟩, ?_⟩
  · have e : vs = kCells ⟨gT, S.threads.length, L, cs, gM, S.mutexes.length, LM, gW, n, .slice (some ⟨gK, 0, none⟩) S.threads.length S.threads.length, .slice none 0 0, .slice none 0 0⟩ (R.bare S) (List.replicate n (-1)) := by
      rw [← hv]
      simp [kCells, bare_len, bare_own]
      exact ⟨rfl, rfl, rfl⟩
    rw [← e]
    exact bA
  · rw [bare_len]
    exact ownsRow_mono (ownsRow_same nt.row fun g hg => by cases hg; exact h3A.block _ hgT) (Nat.zero_le _)
  · have hi' : i < S.threads.length := by rw [← bare_len]; exact hi
    rw [nt.cells i hi' hi' j hj, bare_get]
    have e : S.threads.getD i P3.none0 = S.threads[i] := by simp [List.getD, hi']
    show (bareCells S.start (cs i) S.threads[i])[j]? = (ktCells S i (cs i) (bareT S.threads[i]))[j]?
    unfold ktCells
    rw [e]
    rfl
  · have hi' : i < S.threads.length := by rw [← bare_len]; exact hi
    have e : S.threads.getD i P3.none0 = S.threads[i] := by simp [List.getD, hi']
    have hco := nt.codes i hi' hi'
    obtain ⟨cv, cc, hcv, _, hci, hna⟩ := InstrsIn.of_owns hco
    refine ⟨cv, cc, ?_, ?_⟩
    · show cs i = .slice cv (S.threads.getD i P3.none0).code.length cc
      rw [e]
      exact hcv
    · show InstrsF _ _ cv (S.threads.getD i P3.none0).code
      rw [e]
      intro j hj
      obtain ⟨b, o, ha, hbl, x0, x1, x2⟩ := hci j hj
      obtain ⟨g', e1, h1, h2⟩ := hna _ ha
      cases e1
      have hbk : (cs i).ownBlock = some b := by rw [hcv, ha]; rfl
      obtain ⟨hB, _, cur, hcur⟩ := ownsRow_block hco hbk
      have same : ∀ o', wA.cell? ⟨b, o', none⟩ = w3.cell? ⟨b, o', none⟩ := fun o' => h3A.cell (p := ⟨b, o', none⟩) hbl
      exact ⟨b, 0, ha, ⟨hB, cur, hcur⟩, (same _).trans x0, (same _).trans x1, (same _).trans x2⟩
  · rw [bare_own]
    exact ownsRow_mono (ownsRow_same nm.row fun g hg => by cases hg; exact h4A.block _ hgM) (Nat.zero_le _)
  · have hi' : i < S.mutexes.length := by rw [← bare_own]; exact hi
    rw [nm.cells i hi' hi' j hj]
    have e : S.mutexes.getD i R.pair0 = S.mutexes[i] := by simp [List.getD, hi']
    have e2 : (R.bare S).owner[i] = -1 := by simp [R.bare]
    show _ = (kmCells S i (R.bare S).owner[i])[j]?
    unfold kmCells
    rw [e, e2]
  · have := ownsRow_mono (ownsRow_same hW fun g hg => by cases hg; exact h5A.block _ hgW) (Nat.zero_le _)
    simpa using this
  · have := ownsRow_mono (ownsRow_same hK fun g hg => by cases hg; exact hbA.block _ hgK) (Nat.zero_le _)
    simpa using this
  · exact hb.2.same (h3A.block b hb.2.lt)
  · cases hg
    show gK ≠ gW
    omega
  · rintro b (hb | hb | hb | hb | hb | hb | hb | hb)
    · exact .inl hb.1
    · right; omega
    · have hb' : b = gT := hb
      left; omega
    · have hb' : b = gM := hb
      right; omega
    · have hb' : b = gW := hb
      right; omega
    · have hb' : some gK = some b := hb
      cases hb'
      right; omega
    · cases hb
    · cases hb


theorem ok_code {S : SetD} (h : P3.err S = 0) : ∀ x ∈ S.threads, x.code.length ≤ 32 := by
  intro x hx
  have := badOr_good (ok_parts h).2.2.2.2.1 x hx
  unfold P3.threadP P3.threadB at this
  rw [decide_eq_true_iff] at this
  omega
theorem new_awOk {S : SetD} (h : P3.err S = 0) : AwOk (R.release (R.bare S)) := by
  intro t ht
  have inv := (inv_new h).toRMid.awOk
  have hl : t < (R.new S).T.length := by show t < (R.settle _).T.length; rw [settle_len]; exact ht
  have h1 := inv t hl
  obtain ⟨x, hx⟩ := settle_get (s := R.release (R.bare S)) ht
  have hx' : (R.new S).T[t] = { (R.release (R.bare S)).T[t] with wkr := x } := hx
  rw [hx'] at h1
  exact h1

set_option maxRecDepth 100000 in
set_option maxHeartbeats 4000000 in
theorem cNew : CNew KPK (fun _ => True) := by
  intro tv mv sv qv tc mc sc qc S w hS hF hnil _
  have HS := hid hS
  clear hS hF hnil
  go_enter Tryz.func17, Tryz.ntmps17
  go_upto_region 1 with fail
  have hb0 : Below w.heap.size w (w.alloc (.cells #[.int .i64 S.workers, .int .i64 S.start, .slice tv S.threads.length tc, .slice mv S.mutexes.length mc, .slice sv S.sems.length sc, .slice qv S.queues.length qc] 27)) := (Below.refl _ _).alloc (Nat.le_refl _) _
  have b0 := Blk.new w #[.int .i64 S.workers, .int .i64 S.start, .slice tv S.threads.length tc, .slice mv S.mutexes.length mc, .slice sv S.sems.length sc, .slice qv S.queues.length qc] 27
  generalize w.alloc (.cells #[.int .i64 S.workers, .int .i64 S.start, .slice tv S.threads.length tc, .slice mv S.mutexes.length mc, .slice sv S.sems.length sc, .slice qv S.queues.length qc] 27) = w0 at hb0 b0 ⊢
  have HS0 := hid (HS.out.later hb0)
  have HB0 := hid hb0
  have B0 := hid b0
  have y0 := b0.cell 0
  have y1 := b0.cell 1
  have y2 := b0.cell 2
  have y3 := b0.cell 3
  have y4 := b0.cell 4
  have y5 := b0.cell 5
  simp at y0 y1 y2 y3 y4 y5
  clear hb0 b0 HS
  go_wp2_with fail
  refine (checkSet_any tv mv sv qv tc mc sc qc S w0 HS0.out).mono ?_
  rintro e w1 ⟨rfl, hb1⟩
  have HS1 := hid (HS0.out.later hb1)
  have HB1 := hid (via HB0.out HB0.out.size hb1)
  have B1 := hid (B0.out.below' hb1)
  clear hb1 HS0 HB0 B0 y0 y1 y2 y3 y4 y5
  go_upto_region 2 with fail
  have hb2 : Below w1.heap.size w1 (w1.alloc (.cells #[.int .i64 (P3.err S), .int .i64 (P3.place S)] 57)) := (Below.refl _ _).alloc (Nat.le_refl _) _
  have b2 := Blk.new w1 #[.int .i64 (P3.err S), .int .i64 (P3.place S)] 57
  generalize w1.alloc (.cells #[.int .i64 (P3.err S), .int .i64 (P3.place S)] 57) = w2 at hb2 b2 ⊢
  have HS2 := hid (HS1.out.later hb2)
  have HB2 := hid (via HB1.out HB1.out.size hb2)
  have B2 := hid (B1.out.below' hb2)
  have q0 := b2.cell 0
  simp at q0
  clear hb2 HS1 HB1 B1 b2
  cases herr : (P3.err S != 0)
  · have hok : P3.err S = 0 := by simpa using herr
    have HOK := hid hok
    have hsz := (ok_parts hok).1
    unfold P3.sizesB at hsz
    rw [decide_eq_true_iff] at hsz
    obtain ⟨z1, z2, z3, z4, z5, z6, z7, z8, z9⟩ := hsz
    obtain ⟨nw, hnw⟩ := Int.eq_ofNat_of_zero_le (show 0 ≤ S.workers by omega)
    have HNW := hid hnw
    have HNW2 : Hid (S.workers.toNat = nw) := by rw [hnw]; exact hid rfl
    have y0 := B2.out.cell 0
    have y1 := B2.out.cell 1
    have y2 := B2.out.cell 2
    simp at y0 y1 y2
    have OFF : Hid (∀ x ∈ S.threads, 0 ≤ x.offset ∧ x.offset ≤ 1000) := fun x hx => by have := (good_bare hok).off x hx; omega
    clear hok
    go_wp2_with fail
    refine (kNewThreads_any tv tc S.threads S.start w2 HS2.out.threads (by omega) (by omega) (ok_code HOK.out) ⟨z3, z4⟩ OFF.out).mono ?_
    rintro e w3 ⟨gT, cs, L, rfl, hgT, nt, hb3⟩
    have NTH := hid nt
    have HB3 := hid (via HB2.out HB2.out.size hb3)
    have HS3 := hid (HS2.out.later hb3)
    have B3 := hid (B2.out.below' hb3)
    have y3 := B3.out.cell 3
    simp at y3
    clear nt hb3 HS2 B2 y0 y1 y2 q0
    go_wp2_with fail
    refine (kNewMutexes_any mv mc S.mutexes w3 HS3.out.mutexes (by omega)).mono ?_
    rintro e w4 ⟨gM, LM, rfl, hgM, nm, hb4⟩
    have NMH := hid nm
    have H34 := hid hb4
    have HB4 := hid (via HB3.out HB3.out.size hb4)
    have B4 := hid (B3.out.below' hb4)
    have y0 := B4.out.cell 0
    simp at y0
    rw [HNW.out] at y0
    clear nm hb4 B3 y3
    go_wp2_with fail
    refine (kFreeWorkers_any w4 nw (by omega) (by omega)).mono ?_
    rintro e w5 ⟨gW, rfl, hW, hb5⟩
    have HW := hid hW
    have H45 := hid hb5
    have HB5 := hid (via HB4.out HB4.out.size hb5)
    have B5 := hid (B4.out.below' hb5)
    have y2 := B5.out.cell 2
    simp at y2
    clear hW hb5 B4 y0
    go_wp2_with fail
    refine (kFirstTickets_any w5 S.threads.length (by omega)).mono ?_
    rintro e w6 ⟨gK, rfl, hK, hb6⟩
    have HK := hid hK
    have H56 := hid hb6
    have HB6 := hid (via HB5.out HB5.out.size hb6)
    have B6 := hid (B5.out.below' hb6)
    have y1 := B6.out.cell 1
    have y4 := B6.out.cell 4
    have y5 := B6.out.cell 5
    simp at y1 y4 y5
    clear hK hb6 B5 y2
    go_upto_region 9 with fail
    obtain ⟨F, h, m7, hq7⟩ := kmem_new NTH.out H34.out NMH.out H45.out HW.out H56.out HK.out
    obtain ⟨w7, hw7⟩ : ∃ w7, w7 = w6.alloc (.cells #[.int .i64 S.start, .slice (some ⟨gT, 0, none⟩) S.threads.length S.threads.length, .slice (some ⟨gM, 0, none⟩) S.mutexes.length S.mutexes.length, .int .i64 (S.sems.length : Nat), .int .i64 (S.queues.length : Nat), .slice (some ⟨gW, 0, none⟩) nw nw, .slice (some ⟨gK, 0, none⟩) S.threads.length S.threads.length, .slice none 0 0, .slice none 0 0] 66) := ⟨_, rfl⟩
    have hb7 : Below w6.heap.size w6 w7 := by rw [hw7]; exact (Below.refl _ _).alloc (Nat.le_refl _) _
    rw [← hw7] at m7
    rw [← hw7]
    have HB7 := hid (via HB6.out HB6.out.size hb7)
    have hz3 := HB3.out.size
    have hz2 := HB2.out.size
    have HQ7 : Hid (∀ b, KB F w6.heap.size h b → w.heap.size ≤ b) := fun b hb => by rcases hq7 b hb with h' | h' <;> omega
    have hkb : w.heap.size ≤ w6.heap.size := HB6.out.size
    have M7 := hid m7
    clear hw7 m7 hq7 hb7 y1 y4 y5 B6 H34 H45 H56 NTH NMH HW HK
    have RJ := hid (kReleaseJobs_any M7.out (bare_fit HOK.out) (bare_aux S) (bare_rel HOK.out) (bare_kset HOK.out))
    generalize w6.heap.size = kb at *
    go_wp2_with fail
    refine RJ.out.mono ?_
    rintro e w8 ⟨rfl, h8, tk8, m8, a8, f8, o8, u8⟩
    have M8 := hid m8
    have A8 := hid a8
    have F8 := hid f8
    have U8 := hid u8
    have HB8 := hid (HB7.out.trans (o8.below (B := w.heap.size) HB7.out.size (fun b hb => by
      simp at hb
      rcases hb with rfl | rfl
      · exact hkb
      · exact HQ7.out _ (.inr (.inr (.inl rfl))))))
    have HQ8 : Hid (∀ b, KB F kb h8 b → w.heap.size ≤ b) := fun b hb => by
      rcases u8.blocks b hb with h' | h'
      · exact HQ7.out b h'
      · exact Nat.le_trans HB7.out.size h'
    clear m8 a8 f8 o8 u8 RJ
    have GO := hid (kGiveOut_any M8.out F8.out A8.out (new_awOk HOK.out) (by simp; omega))
    go_wp2_with fail
    refine GO.out.mono ?_
    rintro e w9 ⟨rfl, m9, o9⟩
    have HB9 := hid (HB8.out.trans (o9.below (B := w.heap.size) HB8.out.size (fun b hb => by
      simp at hb
      subst hb
      exact HQ8.out _ (.inr (.inr (.inr (.inr (.inl rfl))))))))
    have M9 := hid m9
    clear m9 o9 GO
    go_wp2
    go_ret2
    have hset : (R.release (R.bare S)).set.workers.toNat = nw := by
      have : (R.release (R.bare S)).set = S := R.releaseTo_set _ _
      rw [this]
      exact HNW2.out
    refine ⟨HB9.out, .inr ⟨HOK.out, kb, KB F kb h8, rfl, ⟨⟨_, ⟨⟨F, h8, tk8, [], M9.out.settle, A8.out.settle F8.out, fun _ hb => hb⟩, KB.lt M9.out⟩, ?_⟩, inv_new HOK.out, fun t ht => ?_⟩, HQ8.out⟩⟩
    · exact Ln.seatAll_settle A8.out.tk (by rw [hset]; exact new_wkw nw)
    · have ht1 : t < (R.release (R.bare S)).T.length := by
        have : t < (R.settle (R.release (R.bare S))).T.length := ht
        rwa [settle_len] at this
      have ht2 : t < S.threads.length := by
        have := R.releaseTo_len (R.bare S) (R.bare S).T.length
        have e : (R.release (R.bare S)).T.length = (R.bare S).T.length := this
        rw [e, bare_len] at ht1
        exact ht1
      obtain ⟨x, hx⟩ := settle_thr (s := R.release (R.bare S)) ht1
      have h1 := (releaseTo_keeps (R.bare S) (R.bare S).T.length t).2
      rw [bare_th ht2] at h1
      show (R.th (R.settle (R.release (R.bare S))).T t).got = 0
      rw [hx]
      exact h1
  · have hno : P3.err S ≠ 0 := by simpa using herr
    have HNO := hid hno
    clear hno
    go_wp2_with fail
    go_quiet (fail)
    go_wp2
    go_ret2
    exact ⟨bdrewN HB2.out _, .inl ⟨HNO.out, rfl⟩⟩

end Go.Proofs.YthnjabnlocpoaaaGreat

/-
  A set that came in, opened: what the form's reader reads is plain data in memory.
-/
namespace Go.Proofs.YthnjabnlocpoaaaGreat
open Go.ChangeShapes Go.WideShapes Go.ChangeAt Go.RowKit Go.Deep

section
variable {H : Type} {enc : TypeId × Value → H} {w : World} {held : Bool}

/-- Every weight of a datum is within the form's reach. -/
def Light (d : DataW H) (t : TypeId) : Prop := ∀ n ∈ d.weights Tryz.prog t, n ≤ reachBytes

/-- A list, opened: its elements by R. -/
theorem open_list {α : Type} (d0 : α) {t e : TypeId} {size bytes : Nat} (ht : Tryz.prog.underlying t = some (.slice e)) (hc : Tryz.prog.cellsOf e = size) (hby : Tryz.prog.bytesOf e = bytes) (hpos : 0 < size)
    {R : α → List Value → DataW H → Prop} (hR : ∀ n cs x, DataW.trod enc Tryz.prog w 0 (fun _ => true) held n e cs = some x → ∃ a, R a cs x.1)
    {fuel : Nat} {cs : List Value} {x : DataW H × List MemPlace} (h : DataW.trod enc Tryz.prog w 0 (fun _ => true) held fuel t cs = some x) :
    ∃ (ao : Option Addr) (cap : Nat) (l : List α), cs = [.slice ao l.length cap] ∧ (ao = none → cap = 0) ∧
      (∀ i (hi : i < l.length), ∃ b o cs' d, ao = some ⟨b, o, none⟩ ∧ b < w.heap.size ∧ cs'.length = size ∧ (∀ j, j < size → w.cell? ⟨b, o + i * size + j, none⟩ = cs'[j]?) ∧ R l[i] cs' d ∧ (Light x.1 t → Light d e)) ∧
      (Light x.1 t → l.length * bytes ≤ reachBytes) := by
  subst hc; subst hby
  rcases open_slice ht h with ⟨rfl, rfl⟩ | ⟨a, len, cap, m, n, D, Pl, rfl, _, hl, _, hm, rfl, hel⟩
  · exact ⟨none, 0, [], rfl, fun _ => rfl, fun i hi => absurd hi (Nat.not_lt_zero _), fun _ => by simp⟩
  · simp only [if_true] at hm
    subst hm
    have hA : ∀ i, i < len → ∃ y : α, ∀ cs', DataW.trod enc Tryz.prog w 0 (fun _ => true) held n e cs' = some (D i, Pl i) → w.cells? 0 (a.add (i * Tryz.prog.cellsOf e)) (Tryz.prog.cellsOf e) = some cs' → R y cs' (D i) := by
      intro i hi
      obtain ⟨cs', h1, h2⟩ := hel i (by omega)
      obtain ⟨y, hy⟩ := hR n cs' _ h2
      refine ⟨y, fun cs'' _ h4 => ?_⟩
      rw [h1] at h4
      cases h4
      exact hy
    haveI : Inhabited α := ⟨d0⟩
    obtain ⟨A, hA⟩ := choose_lt hA
    refine ⟨some a, m, (List.range len).map A, by simp, fun hh => (by cases hh), fun i hi => ?_, fun hw => ?_⟩
    · have hi' : i < len := by simpa using hi
      obtain ⟨cs', h1, h2⟩ := hel i (by omega)
      obtain ⟨_, hlen, hcell⟩ := World.cells?_some h1
      have h0 := hcell 0 hpos
      rw [add_add, Nat.add_zero, List.getElem?_eq_getElem (by omega)] at h0
      have hspot : (a.add (i * Tryz.prog.cellsOf e)).spot = none := World.cell?_spot h0
      have hlt := World.block_lt_of_cell? _ _ h0
      obtain ⟨b, o, spot⟩ := a
      have hsp : spot = none := by
        by_cases hz : i * Tryz.prog.cellsOf e = 0
        · rw [hz, Addr.add_zero'] at h0
          exact World.cell?_spot h0
        · -- the first element tells it
          obtain ⟨cs0, g1, _⟩ := hel 0 (by omega)
          obtain ⟨_, gl, gc⟩ := World.cells?_some g1
          have g0 := gc 0 hpos
          rw [Nat.zero_mul, Addr.add_zero', Addr.add_zero', List.getElem?_eq_getElem (by omega)] at g0
          exact World.cell?_spot g0
      subst hsp
      refine ⟨b, o, cs', D i, rfl, by simpa [Addr.add_lit] using hlt, hlen, fun j hj => ?_, ?_, fun hw => ?_⟩
      · have := hcell j hj
        rw [Addr.add_lit, Addr.add_lit] at this
        exact this
      · have := hA i hi' cs' h2 h1
        simpa using this
      · intro q hq
        refine hw q ?_
        simp only [DataW.weights, ht]
        refine List.mem_cons_of_mem _ (List.mem_append_left _ ?_)
        have mem_all : ∀ (L : List (DataW H)) (d : DataW H), d ∈ L → ∀ q ∈ d.weights Tryz.prog e, q ∈ DataW.weightsAll Tryz.prog e L := by
          intro L
          induction L with
          | nil => intro d hd; cases hd
          | cons d0 L ih =>
            intro d hd q hq
            simp only [DataW.weightsAll, List.mem_append]
            rcases List.mem_cons.1 hd with rfl | hd
            · exact Or.inl hq
            · exact Or.inr (ih d hd q hq)
        exact mem_all _ (D i) (List.mem_map.2 ⟨i, List.mem_range.2 hi', rfl⟩) q hq
    · have := hw ((((List.range len).map D).length + ((List.range (m - len)).map fun j => D (len + j)).length) * Tryz.prog.bytesOf e) (by simp [DataW.weights, ht])
      simp only [List.length_map, List.length_range] at this ⊢
      exact Nat.le_trans (Nat.mul_le_mul_right _ (Nat.le_add_right _ _)) this

theorem c3 : Tryz.prog.cellsOf 3 = 1 := by kernel_rfl
theorem cMutex : Tryz.prog.cellsOf 90 = 2 := by kernel_rfl
theorem cSem : Tryz.prog.cellsOf 75 = 2 := by kernel_rfl
theorem cInstr : Tryz.prog.cellsOf 41 = 3 := by kernel_rfl
theorem cThread : Tryz.prog.cellsOf 39 = 5 := by kernel_rfl
theorem cCode : Tryz.prog.cellsOf 37 = 1 := by kernel_rfl
theorem cSet : Tryz.prog.cellsOf 27 = 6 := by kernel_rfl
theorem cThreads : Tryz.prog.cellsOf 22 = 1 := by kernel_rfl
theorem cMutexes : Tryz.prog.cellsOf 23 = 1 := by kernel_rfl
theorem cSems : Tryz.prog.cellsOf 24 = 1 := by kernel_rfl
theorem cInts : Tryz.prog.cellsOf 25 = 1 := by kernel_rfl
theorem b3 : Tryz.prog.bytesOf 3 = 8 := by kernel_rfl
theorem bMutex : Tryz.prog.bytesOf 90 = 16 := by kernel_rfl
theorem bSem : Tryz.prog.bytesOf 75 = 16 := by kernel_rfl
theorem bInstr : Tryz.prog.bytesOf 41 = 24 := by kernel_rfl
theorem bThread : Tryz.prog.bytesOf 39 = 56 := by kernel_rfl

theorem list2 {l : List Value} (h : l.length = 2) : ∃ a b, l = [a, b] := by
  match l, h with
  | [a, b], _ => exact ⟨a, b, rfl⟩
theorem list3 {l : List Value} (h : l.length = 3) : ∃ a b c, l = [a, b, c] := by
  match l, h with
  | [a, b, c], _ => exact ⟨a, b, c, rfl⟩
theorem list5 {α : Type} {l : List α} (h : l.length = 5) : ∃ a b c d e, l = [a, b, c, d, e] := by
  match l, h with
  | [a, b, c, d, e], _ => exact ⟨a, b, c, d, e, rfl⟩
theorem list6 {α : Type} {l : List α} (h : l.length = 6) : ∃ a b c d e f, l = [a, b, c, d, e, f] := by
  match l, h with
  | [a, b, c, d, e, f], _ => exact ⟨a, b, c, d, e, f, rfl⟩

theorem open_mutex {n : Nat} {cs : List Value} {x : DataW H × List MemPlace} (h : DataW.trod enc Tryz.prog w 0 (fun _ => true) held n 90 cs = some x) : ∃ a : PairD, cs = [.int .i64 a.x, .int .i64 a.y] := by
  obtain ⟨y0, y1, m, _, hl, h0, h1⟩ := trod_struct2 Tryz.underlying90 h
  rw [cMutex] at hl
  obtain ⟨a, b, rfl⟩ := list2 hl
  simp only [c3] at h0 h1
  obtain ⟨p, hp, _⟩ := DataW.trod_int Tryz.underlying3 h0
  obtain ⟨q, hq, _⟩ := DataW.trod_int Tryz.underlying3 h1
  simp at hp hq
  exact ⟨⟨p, q⟩, by simp [hp, hq]⟩
theorem open_sem {n : Nat} {cs : List Value} {x : DataW H × List MemPlace} (h : DataW.trod enc Tryz.prog w 0 (fun _ => true) held n 75 cs = some x) : ∃ a : PairD, cs = [.int .i64 a.x, .int .i64 a.y] := by
  obtain ⟨y0, y1, m, _, hl, h0, h1⟩ := trod_struct2 Tryz.underlying75 h
  rw [cSem] at hl
  obtain ⟨a, b, rfl⟩ := list2 hl
  simp only [c3] at h0 h1
  obtain ⟨p, hp, _⟩ := DataW.trod_int Tryz.underlying3 h0
  obtain ⟨q, hq, _⟩ := DataW.trod_int Tryz.underlying3 h1
  simp at hp hq
  exact ⟨⟨p, q⟩, by simp [hp, hq]⟩
theorem open_instr {n : Nat} {cs : List Value} {x : DataW H × List MemPlace} (h : DataW.trod enc Tryz.prog w 0 (fun _ => true) held n 41 cs = some x) : ∃ a : InstrD, cs = [.int .i64 a.op, .int .i64 a.a, .int .i64 a.b] := by
  obtain ⟨y0, y1, y2, m, _, hl, h0, h1, h2⟩ := trod_struct3 Tryz.underlying41 h
  rw [cInstr] at hl
  obtain ⟨a, b, c, rfl⟩ := list3 hl
  simp only [c3] at h0 h1 h2
  obtain ⟨p, hp, _⟩ := DataW.trod_int Tryz.underlying3 h0
  obtain ⟨q, hq, _⟩ := DataW.trod_int Tryz.underlying3 h1
  obtain ⟨r, hr, _⟩ := DataW.trod_int Tryz.underlying3 h2
  simp at hp hq hr
  exact ⟨⟨p, q, r⟩, by simp [hp, hq, hr]⟩

theorem open_code {n : Nat} {cs : List Value} {x : DataW H × List MemPlace} (h : DataW.trod enc Tryz.prog w 0 (fun _ => true) held n 37 cs = some x) :
    ∃ (ao : Option Addr) (cap : Nat) (l : List InstrD), cs = [.slice ao l.length cap] ∧ (ao = none → cap = 0) ∧ InstrsIn w.heap.size w ao l ∧ (Light x.1 37 → l.length * 24 ≤ reachBytes) := by
  obtain ⟨ao, cap, l, h1, h2, h3, h4⟩ := open_list (α := InstrD) ⟨0, 0, 0⟩ (R := fun a cs _ => cs = [.int .i64 a.op, .int .i64 a.a, .int .i64 a.b]) Tryz.underlying37 cInstr bInstr (by decide) (fun _ _ _ hh => open_instr hh) h
  refine ⟨ao, cap, l, h1, h2, fun i hi => ?_, h4⟩
  obtain ⟨b, o, cs', d, ha, hb, hl, hc, rfl, _⟩ := h3 i hi
  exact ⟨b, o, ha, hb, by simpa using hc 0 (by decide), by simpa using hc 1 (by decide), by simpa using hc 2 (by decide)⟩

theorem open_pairsM {n : Nat} {cs : List Value} {x : DataW H × List MemPlace} (h : DataW.trod enc Tryz.prog w 0 (fun _ => true) held n 23 cs = some x) :
    ∃ (ao : Option Addr) (cap : Nat) (l : List PairD), cs = [.slice ao l.length cap] ∧ (ao = none → cap = 0) ∧ PairsIn w.heap.size w ao l ∧ (Light x.1 23 → l.length * 16 ≤ reachBytes) := by
  obtain ⟨ao, cap, l, h1, h2, h3, h4⟩ := open_list (α := PairD) ⟨0, 0⟩ (R := fun a cs _ => cs = [.int .i64 a.x, .int .i64 a.y]) Tryz.underlying23 cMutex bMutex (by decide) (fun _ _ _ hh => open_mutex hh) h
  refine ⟨ao, cap, l, h1, h2, fun i hi => ?_, h4⟩
  obtain ⟨b, o, cs', d, ha, hb, hl, hc, rfl, _⟩ := h3 i hi
  exact ⟨b, o, ha, hb, by simpa using hc 0 (by decide), by simpa using hc 1 (by decide)⟩
theorem open_pairsS {n : Nat} {cs : List Value} {x : DataW H × List MemPlace} (h : DataW.trod enc Tryz.prog w 0 (fun _ => true) held n 24 cs = some x) :
    ∃ (ao : Option Addr) (cap : Nat) (l : List PairD), cs = [.slice ao l.length cap] ∧ (ao = none → cap = 0) ∧ PairsIn w.heap.size w ao l ∧ (Light x.1 24 → l.length * 16 ≤ reachBytes) := by
  obtain ⟨ao, cap, l, h1, h2, h3, h4⟩ := open_list (α := PairD) ⟨0, 0⟩ (R := fun a cs _ => cs = [.int .i64 a.x, .int .i64 a.y]) Tryz.underlying24 cSem bSem (by decide) (fun _ _ _ hh => open_sem hh) h
  refine ⟨ao, cap, l, h1, h2, fun i hi => ?_, h4⟩
  obtain ⟨b, o, cs', d, ha, hb, hl, hc, rfl, _⟩ := h3 i hi
  exact ⟨b, o, ha, hb, by simpa using hc 0 (by decide), by simpa using hc 1 (by decide)⟩
theorem open_numbers {n : Nat} {cs : List Value} {x : DataW H × List MemPlace} (h : DataW.trod enc Tryz.prog w 0 (fun _ => true) held n 25 cs = some x) :
    ∃ (ao : Option Addr) (cap : Nat) (l : List Int), cs = [.slice ao l.length cap] ∧ (ao = none → cap = 0) ∧ IntsIn w.heap.size w ao l ∧ (Light x.1 25 → l.length * 8 ≤ reachBytes) := by
  obtain ⟨ao, cap, l, h1, h2, h3, h4⟩ := open_list (α := Int) 0 (R := fun a cs _ => cs = [.int .i64 a]) Tryz.underlying25 c3 b3 (by decide) (fun _ _ _ hh => by obtain ⟨z, hz, _⟩ := DataW.trod_int Tryz.underlying3 hh; exact ⟨z, hz⟩) h
  refine ⟨ao, cap, l, h1, h2, fun i hi => ?_, h4⟩
  obtain ⟨b, o, cs', d, ha, hb, hl, hc, rfl, _⟩ := h3 i hi
  exact ⟨b, o, ha, hb, by simpa using hc 0 (by decide)⟩

theorem trod_struct5 {t : TypeId} {f0 f1 f2 f3 f4 : Field} {fuel : Nat} {cs : List Value} {x : DataW H × List MemPlace} (ht : Tryz.prog.underlying t = some (.struct #[f0, f1, f2, f3, f4])) (h : DataW.trod enc Tryz.prog w 0 (fun _ => true) held fuel t cs = some x) :
    ∃ y0 y1 y2 y3 y4 n, x.1 = .agg [y0.1, y1.1, y2.1, y3.1, y4.1] ∧ cs.length = Tryz.prog.cellsOf t ∧ DataW.trod enc Tryz.prog w 0 (fun _ => true) held n f0.type ((cs.drop f0.offset).take (Tryz.prog.cellsOf f0.type)) = some y0 ∧
      DataW.trod enc Tryz.prog w 0 (fun _ => true) held n f1.type ((cs.drop f1.offset).take (Tryz.prog.cellsOf f1.type)) = some y1 ∧ DataW.trod enc Tryz.prog w 0 (fun _ => true) held n f2.type ((cs.drop f2.offset).take (Tryz.prog.cellsOf f2.type)) = some y2 ∧
      DataW.trod enc Tryz.prog w 0 (fun _ => true) held n f3.type ((cs.drop f3.offset).take (Tryz.prog.cellsOf f3.type)) = some y3 ∧ DataW.trod enc Tryz.prog w 0 (fun _ => true) held n f4.type ((cs.drop f4.offset).take (Tryz.prog.cellsOf f4.type)) = some y4 := by
  obtain ⟨xs, n, _, rfl, hl, hlen, hf⟩ := DataW.trod_struct ht h
  obtain ⟨y0, y1, y2, y3, y4, rfl⟩ := list5 (hlen.trans rfl)
  exact ⟨y0, y1, y2, y3, y4, n, by simp, hl, by simpa using hf 0 f0 rfl, by simpa using hf 1 f1 rfl, by simpa using hf 2 f2 rfl, by simpa using hf 3 f3 rfl, by simpa using hf 4 f4 rfl⟩
theorem trod_struct6 {t : TypeId} {f0 f1 f2 f3 f4 f5 : Field} {fuel : Nat} {cs : List Value} {x : DataW H × List MemPlace} (ht : Tryz.prog.underlying t = some (.struct #[f0, f1, f2, f3, f4, f5])) (h : DataW.trod enc Tryz.prog w 0 (fun _ => true) held fuel t cs = some x) :
    ∃ y0 y1 y2 y3 y4 y5 n, x.1 = .agg [y0.1, y1.1, y2.1, y3.1, y4.1, y5.1] ∧ cs.length = Tryz.prog.cellsOf t ∧ DataW.trod enc Tryz.prog w 0 (fun _ => true) held n f0.type ((cs.drop f0.offset).take (Tryz.prog.cellsOf f0.type)) = some y0 ∧
      DataW.trod enc Tryz.prog w 0 (fun _ => true) held n f1.type ((cs.drop f1.offset).take (Tryz.prog.cellsOf f1.type)) = some y1 ∧ DataW.trod enc Tryz.prog w 0 (fun _ => true) held n f2.type ((cs.drop f2.offset).take (Tryz.prog.cellsOf f2.type)) = some y2 ∧
      DataW.trod enc Tryz.prog w 0 (fun _ => true) held n f3.type ((cs.drop f3.offset).take (Tryz.prog.cellsOf f3.type)) = some y3 ∧ DataW.trod enc Tryz.prog w 0 (fun _ => true) held n f4.type ((cs.drop f4.offset).take (Tryz.prog.cellsOf f4.type)) = some y4 ∧
      DataW.trod enc Tryz.prog w 0 (fun _ => true) held n f5.type ((cs.drop f5.offset).take (Tryz.prog.cellsOf f5.type)) = some y5 := by
  obtain ⟨xs, n, _, rfl, hl, hlen, hf⟩ := DataW.trod_struct ht h
  obtain ⟨y0, y1, y2, y3, y4, y5, rfl⟩ := list6 (hlen.trans rfl)
  exact ⟨y0, y1, y2, y3, y4, y5, n, by simp, hl, by simpa using hf 0 f0 rfl, by simpa using hf 1 f1 rfl, by simpa using hf 2 f2 rfl, by simpa using hf 3 f3 rfl, by simpa using hf 4 f4 rfl, by simpa using hf 5 f5 rfl⟩

theorem open_thread {n : Nat} {cs : List Value} {x : DataW H × List MemPlace} (h : DataW.trod enc Tryz.prog w 0 (fun _ => true) held n 39 cs = some x) :
    ∃ a : ThreadD, ∃ cv cc, cs = [.int .i64 a.base, .int .i64 a.offset, .int .i64 a.period, .int .i64 a.deadline, .slice cv a.code.length cc] ∧ (cv = none → cc = 0) ∧ InstrsIn w.heap.size w cv a.code ∧ (Light x.1 39 → a.code.length * 24 ≤ reachBytes) := by
  obtain ⟨y0, y1, y2, y3, y4, m, hx, hl, h0, h1, h2, h3, h4⟩ := trod_struct5 Tryz.underlying39 h
  rw [cThread] at hl
  obtain ⟨a, b, c, d, e, rfl⟩ := list5 hl
  simp only [c3, cCode] at h0 h1 h2 h3 h4
  obtain ⟨p0, e0, _⟩ := DataW.trod_int Tryz.underlying3 h0
  obtain ⟨p1, e1, _⟩ := DataW.trod_int Tryz.underlying3 h1
  obtain ⟨p2, e2, _⟩ := DataW.trod_int Tryz.underlying3 h2
  obtain ⟨p3, e3, _⟩ := DataW.trod_int Tryz.underlying3 h3
  obtain ⟨cv, cc, l, e4, hn, hin, hw⟩ := open_code h4
  simp at e0 e1 e2 e3 e4
  refine ⟨⟨p0, p1, p2, p3, l⟩, cv, cc, by simp [e0, e1, e2, e3, e4], hn, hin, fun hlight => hw ?_⟩
  intro q hq
  refine hlight q ?_
  rw [hx]
  simp only [DataW.weights, Tryz.underlying39]
  exact DataW.weights_mem_each (j := 4) rfl rfl q hq

theorem open_threads {n : Nat} {cs : List Value} {x : DataW H × List MemPlace} (h : DataW.trod enc Tryz.prog w 0 (fun _ => true) held n 22 cs = some x) :
    ∃ (ao : Option Addr) (cap : Nat) (l : List ThreadD), cs = [.slice ao l.length cap] ∧ (ao = none → cap = 0) ∧ ThreadsIn w.heap.size w ao l ∧ (Light x.1 22 → l.length * 56 ≤ reachBytes ∧ ∀ j (hj : j < l.length), l[j].code.length * 24 ≤ reachBytes) := by
  obtain ⟨ao, cap, l, h1, h2, h3, h4⟩ := open_list (α := ThreadD) P3.none0 (R := fun a cs d => ∃ cv cc, cs = [.int .i64 a.base, .int .i64 a.offset, .int .i64 a.period, .int .i64 a.deadline, .slice cv a.code.length cc] ∧ (cv = none → cc = 0) ∧ InstrsIn w.heap.size w cv a.code ∧ (Light d 39 → a.code.length * 24 ≤ reachBytes)) Tryz.underlying22 cThread bThread (by decide) (fun _ _ _ hh => open_thread hh) h
  refine ⟨ao, cap, l, h1, h2, fun i hi => ?_, fun hw => ⟨h4 hw, fun j hj => ?_⟩⟩
  · obtain ⟨b, o, cs', d, ha, hb, hl, hc, ⟨cv, cc, rfl, hn, hin, _⟩, _⟩ := h3 i hi
    exact ⟨b, o, cv, cc, ha, hb, by simpa using hc 0 (by decide), by simpa using hc 1 (by decide), by simpa using hc 2 (by decide), by simpa using hc 3 (by decide), by simpa using hc 4 (by decide), hin, hn⟩
  · obtain ⟨b, o, cs', d, ha, hb, hl, hc, ⟨cv, cc, rfl, hn, hin, hlight⟩, hd⟩ := h3 j hj
    exact hlight (hd hw)

set_option maxRecDepth 100000 in
/-- A SET THAT CAME IN. -/
theorem open_set {r : Reach} {b0 : Nat} {v : Value} {d : DataW H} {p : List MemPlace} (hv : Value.okWide Tryz.prog w r b0 27 v) (h : DataW.Trod enc Tryz.prog w 0 (fun _ => true) held 27 v d p) (hw : Light d 27) :
    ∃ (S : SetD) (tv mv sv qv : Option Addr) (tc mc sc qc : Nat), v = .agg #[.int .i64 S.workers, .int .i64 S.start, .slice tv S.threads.length tc, .slice mv S.mutexes.length mc, .slice sv S.sems.length sc, .slice qv S.queues.length qc] ∧
      SetIn w.heap.size w tv mv sv qv S ∧ Fits S ∧ (tv = none → tc = 0) ∧ (mv = none → mc = 0) ∧ (sv = none → sc = 0) ∧ (qv = none → qc = 0) := by
  obtain ⟨cs, rfl, hsz⟩ := okWide_struct Tryz.underlying27 hv
  obtain ⟨fuel, hf⟩ := h
  obtain ⟨y0, y1, y2, y3, y4, y5, m, hx, hl, h0, h1, h2, h3, h4, h5⟩ := trod_struct6 Tryz.underlying27 hf
  simp only at hx
  rw [cSet] at hl
  obtain ⟨a, b, c, dd, e, f, hcs⟩ := list6 hl
  have hcs' : cs = #[a, b, c, dd, e, f] := by
    have : cs.toList = [a, b, c, dd, e, f] := by simpa [Value.cells] using hcs
    exact Array.ext' (by simpa using this)
  subst hcs'
  simp only [Value.cells, c3, cThreads, cMutexes, cSems, cInts] at h0 h1 h2 h3 h4 h5
  simp at h0 h1 h2 h3 h4 h5
  obtain ⟨p0, e0, _⟩ := DataW.trod_int Tryz.underlying3 h0
  obtain ⟨p1, e1, _⟩ := DataW.trod_int Tryz.underlying3 h1
  obtain ⟨tv, tc, ts, e2, n2, i2, w2⟩ := open_threads h2
  obtain ⟨mv, mc, ms, e3, n3, i3, w3⟩ := open_pairsM h3
  obtain ⟨sv, sc, ss, e4, n4, i4, w4⟩ := open_pairsS h4
  obtain ⟨qv, qc, qs, e5, n5, i5, w5⟩ := open_numbers h5
  simp at e0 e1 e2 e3 e4 e5
  subst e0 e1 e2 e3 e4 e5
  have part : ∀ (j : Nat) (t : TypeId) (y : DataW H), [(3 : TypeId), 3, 22, 23, 24, 25][j]? = some t → [y0.1, y1.1, y2.1, y3.1, y4.1, y5.1][j]? = some y → Light y t := by
    intro j t y hj hy q hq
    refine hw q ?_
    rw [hx]
    simp only [DataW.weights, Tryz.underlying27]
    exact DataW.weights_mem_each hj hy q hq
  have l2 := w2 (part 2 _ _ rfl rfl)
  have l3 := w3 (part 3 _ _ rfl rfl)
  have l4 := w4 (part 4 _ _ rfl rfl)
  have l5 := w5 (part 5 _ _ rfl rfl)
  exact ⟨⟨p0, p1, ts, ms, ss, qs⟩, tv, mv, sv, qv, tc, mc, sc, qc, rfl, ⟨i2, i3, i4, i5⟩, ⟨l2.1, l3, l4, l5, l2.2⟩, n2, n3, n4, n5⟩

end
end Go.Proofs.YthnjabnlocpoaaaGreat

/-
  The statement News, from what the program promises.
-/
namespace Go.Proofs.YthnjabnlocpoaaaGreat
open Go.ChangeShapes Go.WideShapes Go.ChangeAt Go.RowKit Go.Deep

theorem Tryz.own : ownKnob Tryz.prog.godebug = none := by kernel_rfl
theorem Tryz.laidOut : laidOutB Tryz.prog = true := by kernel_rfl

set_option maxHeartbeats 400000 in
theorem lNews_any {PK : KP} (f : KFrame PK) (cn : CNew PK (fun _ => True)) (ct : CSee PK 14) (tv mv sv qv : Option Addr) (tc mc sc qc : Nat) (S : SetD) (w : World) (hS : SetIn w.heap.size w tv mv sv qv S) (hF : Fits S) (hnil : (tv = none → tc = 0) ∧ (mv = none → mc = 0) ∧ (sv = none → sc = 0) ∧ (qv = none → qc = 0)) :
    Calls Tryz.prog 3 #[.agg #[.int .i64 S.workers, .int .i64 S.start, .slice tv S.threads.length tc, .slice mv S.mutexes.length mc, .slice sv S.sems.length sc, .slice qv S.queues.length qc]] w fun e w' =>
      e = .returned (.bool true) ∧ Below w.heap.size w w' := by
  have HS := hid hS
  have HF := hid hF
  have HN := hid hnil
  clear hS hF hnil
  go_enter Tryz.func3, Tryz.ntmps3
  go_wp2_with fail
  have hb0 : Below w.heap.size w (w.alloc (.cells #[.int .i64 S.workers, .int .i64 S.start, .slice tv S.threads.length tc, .slice mv S.mutexes.length mc, .slice sv S.sems.length sc, .slice qv S.queues.length qc] 27)) := (Below.refl _ _).alloc (Nat.le_refl _) _
  generalize w.alloc (.cells #[.int .i64 S.workers, .int .i64 S.start, .slice tv S.threads.length tc, .slice mv S.mutexes.length mc, .slice sv S.sems.length sc, .slice qv S.queues.length qc] 27) = w0 at hb0 ⊢
  refine (lPlay_any f cn 14 ct tv mv sv qv none tc mc sc qc 0 S [] w0 (HS.out.later hb0) HF.out HN.out trivial (fun i hi => absurd hi (by simp)) (by simp) (by unfold Holds; omega) true (fun h => absurd rfl h) (fun _ h => absurd rfl h)).mono ?_
  rintro e w1 ⟨rfl, hb1⟩
  have hb2 := via hb0 hb0.size hb1
  go_wp2
  go_ret
  exact ⟨rfl, hb2⟩

set_option maxRecDepth 100000 in
theorem news_lifted {PK : KP} (f : KFrame PK) (cn : CNew PK (fun _ => True)) (ct : CSee PK 14) (os : Os) (started : os.Started) (H : Type) (enc : TypeId × Value → H) :
    ReturnsInHanded {} Tryz.checked os 3 .any (Rows.newsSpec.pre6 enc Tryz.prog Tryz.f3 Rows.newsRow.domain false) (Rows.newsSpec.post enc Tryz.prog Tryz.f3 false true false false) := by
  refine returnsInHanded_of_change_sized (C := Tryz.checked) Tryz.own started (by kernel_rfl) Tryz.func3
    (ChangeSpec.witness6 (enc := enc) (C := Tryz.checked) false ⟨#[], #[.agg #[.int .i64 0, .int .i64 0, .slice none 0 0, .slice none 0 0, .slice none 0 0, .slice none 0 0]], []⟩ 8 (by kernel_rfl) (by kernel_rfl) (by kernel_rfl) (by kernel_rfl)) ?_
  intro W base args ds gs before hval0 hW _ hsz0 _
  have hval : ∀ (j : Nat) t v, Tryz.f3.params[j]? = some t → args[j]? = some v → Value.okWide Tryz.prog W .any base t v := hval0
  have hsz : (DataW.weightsEach Tryz.prog (Tryz.f3.params.toList ++ Rows.newsSpec.plain.varTypes Tryz.prog) (ds ++ gs)).all (· ≤ reachBytes) = true := hsz0
  have hW' := hW
  obtain ⟨p, q, hA0, hV, rfl, hfz, hnd⟩ := hW
  have hA : DataW.TrodAll enc Tryz.prog W 0 (fun _ => true) true Tryz.f3.params.toList args.toList ds p := hA0
  rw [Tryz.params3] at hA hval hsz
  obtain ⟨v0, d0, rfl, rfl, h0⟩ := trodAll_one hA
  obtain ⟨rfl, rfl⟩ := trodVars_none hV
  clear hA0 hval0 hsz0
  have hlight : Light d0 27 := by
    intro n hn
    have := List.all_eq_true.1 hsz n (DataW.weights_mem_each (j := 0) rfl rfl n hn)
    simpa using this
  obtain ⟨S, tv, mv, sv, qv, tc, mc, sc, qc, hv, hin, hfit, hnil⟩ := open_set (hval 0 27 v0 rfl rfl) h0 hlight
  subst hv
  simp only [List.append_nil] at hW'
  refine (lNews_any f cn ct tv mv sv qv tc mc sc qc S W hin hfit hnil).mono fun e W' ⟨he, hb⟩ => ?_
  subst he
  refine ⟨_, rfl, _, _, _, [], p, [], hW', ?_, ?_, rfl, hb.frame _, fun h => by cases h⟩
  · exact trodAll_mk1 (shut_bool Tryz.underlying4 _)
  · exact trodAll_mk1 (Below.trod Tryz.laidOut (by kernel_rfl) (of_decide_eq_true (by kernel_rfl)) h0 hb (fun x hx => by simpa using hW'.lt x hx))

theorem news_of {PK : KP} (f : KFrame PK) (cn : CNew PK (fun _ => True)) (ct : CSee PK 14) : Rows.NewsSaid :=
  OpenClaim.holds_of_wide 3 Tryz.f3 rfl rfl rfl rfl rfl rfl rfl ⟨rfl, rfl, rfl, rfl, rfl⟩ rfl rfl rfl rfl rfl (by kernel_rfl) Tryz.func3 (by kernel_rfl)
    (of_decide_eq_true (by kernel_rfl)) (by unfold Func.isWrapper; first | (rw [if_pos (by decide +kernel)]; kernel_rfl) | (rw [if_neg (by decide +kernel)]; exact ⟨rfl, rfl⟩))
    (fun os started H enc _ => news_lifted f cn ct os started H enc)

end Go.Proofs.YthnjabnlocpoaaaGreat

/-
  News, of this program.
-/
namespace Go.Proofs.YthnjabnlocpoaaaGreat

theorem news_holds : Rows.NewsSaid := news_of kframe cNew (cSee 14 (by decide))

end Go.Proofs.YthnjabnlocpoaaaGreat
