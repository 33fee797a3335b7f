import Derived.Test.YtbkfildnijjioaaGreatRows
import Derived.Test.YtbkfildnijjioaaGreatA16
import Derived.Test.YtbkfildnijjioaaGreatA23
import Derived.Test.YtbkfildnijjioaaGreatA14
/-
  The statement News, from what the program promises.
-/
namespace Go.Proofs.YtbkfildnijjioaaGreat
open Go.ChangeShapes Go.WideShapes Go.ChangeAt Go.RowKit Go.Deep

theorem Tryz.own : ownKnob Tryz.prog.godebug = none := by kernel_rfl
theorem Tryz.laidOut : laidOutB Tryz.prog = true := by kernel_rfl

set_option maxHeartbeats 400000 in
theorem lNews_any {PK : KP} (f : KFrame PK) (cn : CNew PK (fun _ => True)) (ct : CSee PK 14) (tv mv sv qv : Option Addr) (tc mc sc qc : Nat) (S : SetD) (w : World) (hS : SetIn w.heap.size w tv mv sv qv S) (hF : Fits S) (hnil : (tv = none → tc = 0) ∧ (mv = none → mc = 0) ∧ (sv = none → sc = 0) ∧ (qv = none → qc = 0)) :
    Calls Tryz.prog 3 #[.agg #[.int .i64 S.workers, .int .i64 S.start, .slice tv S.threads.length tc, .slice mv S.mutexes.length mc, .slice sv S.sems.length sc, .slice qv S.queues.length qc]] w fun e w' =>
      e = .returned (.bool true) ∧ Below w.heap.size w w' := by
  have HS := hid hS
  have HF := hid hF
  have HN := hid hnil
  clear hS hF hnil
  go_enter Tryz.func3, Tryz.ntmps3
  go_wp2_with fail
  have hb0 : Below w.heap.size w (w.alloc (.cells #[.int .i64 S.workers, .int .i64 S.start, .slice tv S.threads.length tc, .slice mv S.mutexes.length mc, .slice sv S.sems.length sc, .slice qv S.queues.length qc] 27)) := (Below.refl _ _).alloc (Nat.le_refl _) _
  generalize w.alloc (.cells #[.int .i64 S.workers, .int .i64 S.start, .slice tv S.threads.length tc, .slice mv S.mutexes.length mc, .slice sv S.sems.length sc, .slice qv S.queues.length qc] 27) = w0 at hb0 ⊢
  refine (lPlay_any f cn 14 ct tv mv sv qv none tc mc sc qc 0 S [] w0 (HS.out.later hb0) HF.out HN.out trivial (fun i hi => absurd hi (by simp)) (by simp) (by unfold Holds; omega) true (fun h => absurd rfl h) (fun _ h => absurd rfl h)).mono ?_
  rintro e w1 ⟨rfl, hb1⟩
  have hb2 := via hb0 hb0.size hb1
  go_wp2
  go_ret
  exact ⟨rfl, hb2⟩

set_option maxRecDepth 100000 in
theorem news_lifted {PK : KP} (f : KFrame PK) (cn : CNew PK (fun _ => True)) (ct : CSee PK 14) (os : Os) (started : os.Started) (H : Type) (enc : TypeId × Value → H) :
    ReturnsInHanded {} Tryz.checked os 3 .any (Rows.newsSpec.pre6 enc Tryz.prog Tryz.f3 Rows.newsRow.domain false) (Rows.newsSpec.post enc Tryz.prog Tryz.f3 false true false false) := by
  refine returnsInHanded_of_change_sized (C := Tryz.checked) Tryz.own started (by kernel_rfl) Tryz.func3
    (ChangeSpec.witness6 (enc := enc) (C := Tryz.checked) false ⟨#[], #[.agg #[.int .i64 0, .int .i64 0, .slice none 0 0, .slice none 0 0, .slice none 0 0, .slice none 0 0]], []⟩ 8 (by kernel_rfl) (by kernel_rfl) (by kernel_rfl) (by kernel_rfl)) ?_
  intro W base args ds gs before hval0 hW _ hsz0 _
  have hval : ∀ (j : Nat) t v, Tryz.f3.params[j]? = some t → args[j]? = some v → Value.okWide Tryz.prog W .any base t v := hval0
  have hsz : (DataW.weightsEach Tryz.prog (Tryz.f3.params.toList ++ Rows.newsSpec.plain.varTypes Tryz.prog) (ds ++ gs)).all (· ≤ reachBytes) = true := hsz0
  have hW' := hW
  obtain ⟨p, q, hA0, hV, rfl, hfz, hnd⟩ := hW
  have hA : DataW.TrodAll enc Tryz.prog W 0 (fun _ => true) true Tryz.f3.params.toList args.toList ds p := hA0
  rw [Tryz.params3] at hA hval hsz
  obtain ⟨v0, d0, rfl, rfl, h0⟩ := trodAll_one hA
  obtain ⟨rfl, rfl⟩ := trodVars_none hV
  clear hA0 hval0 hsz0
  have hlight : Light d0 27 := by
    intro n hn
    have := List.all_eq_true.1 hsz n (DataW.weights_mem_each (j := 0) rfl rfl n hn)
    simpa using this
  obtain ⟨S, tv, mv, sv, qv, tc, mc, sc, qc, hv, hin, hfit, hnil⟩ := open_set (hval 0 27 v0 rfl rfl) h0 hlight
  subst hv
  simp only [List.append_nil] at hW'
  refine (lNews_any f cn ct tv mv sv qv tc mc sc qc S W hin hfit hnil).mono fun e W' ⟨he, hb⟩ => ?_
  subst he
  refine ⟨_, rfl, _, _, _, [], p, [], hW', ?_, ?_, rfl, hb.frame _, fun h => by cases h⟩
  · exact trodAll_mk1 (shut_bool Tryz.underlying4 _)
  · exact trodAll_mk1 (Below.trod Tryz.laidOut (by kernel_rfl) (of_decide_eq_true (by kernel_rfl)) h0 hb (fun x hx => by simpa using hW'.lt x hx))

theorem news_of {PK : KP} (f : KFrame PK) (cn : CNew PK (fun _ => True)) (ct : CSee PK 14) : Rows.NewsSaid :=
  OpenClaim.holds_of_wide 3 Tryz.f3 rfl rfl rfl rfl rfl rfl rfl ⟨rfl, rfl, rfl, rfl, rfl⟩ rfl rfl rfl rfl rfl (by kernel_rfl) Tryz.func3 (by kernel_rfl)
    (of_decide_eq_true (by kernel_rfl)) (by unfold Func.isWrapper; first | (rw [if_pos (by decide +kernel)]; kernel_rfl) | (rw [if_neg (by decide +kernel)]; exact ⟨rfl, rfl⟩))
    (fun os started H enc _ => news_lifted f cn ct os started H enc)

end Go.Proofs.YtbkfildnijjioaaGreat

/-
  The law's own function upTo.
-/
namespace Go.Proofs.YtbkfildnijjioaaGreat
open Go.RowKit
set_option maxHeartbeats 1000000 in
theorem lUpTo_any (tv mv sv qv : Option Addr) (tc mc sc qc : Nat) (S : SetD) (most : Int) (w : World) (hS : SetIn w.heap.size w tv mv sv qv S) (hF : Fits S) :
    Calls Tryz.prog 14 #[.agg #[.int .i64 S.workers, .int .i64 S.start, .slice tv S.threads.length tc, .slice mv S.mutexes.length mc, .slice sv S.sems.length sc, .slice qv S.queues.length qc], .int .i64 most] w fun e w' =>
      e = .returned (.bool (setUpTo most S)) ∧ Below w.heap.size w w' := by
  have HS := hid hS
  have hlen : S.threads.length * 56 ≤ reachBytes := hF.threads
  have HF := hid hF
  unfold reachBytes at hlen
  clear hS hF
  go_enter Tryz.func14, Tryz.ntmps14
  go_upto_region 1 with fail
  have hb0 : Below w.heap.size w (w.alloc (.cells #[.int .i64 S.workers, .int .i64 S.start, .slice tv S.threads.length tc, .slice mv S.mutexes.length mc, .slice sv S.sems.length sc, .slice qv S.queues.length qc] 27)) := (Below.refl _ _).alloc (Nat.le_refl _) _
  have X0 := Blk.new w #[.int .i64 S.workers, .int .i64 S.start, .slice tv S.threads.length tc, .slice mv S.mutexes.length mc, .slice sv S.sems.length sc, .slice qv S.queues.length qc] 27
  generalize w.alloc (.cells #[.int .i64 S.workers, .int .i64 S.start, .slice tv S.threads.length tc, .slice mv S.mutexes.length mc, .slice sv S.sems.length sc, .slice qv S.queues.length qc] 27) = w0 at hb0 X0 ⊢
  have x2 := X0.cell 2
  simp at x2
  have HB := hid hb0
  have HS0 := hid (HS.out.later hb0)
  clear X0 hb0
  go_wp2
  go_loop [5] (fun i => ∃ k : Nat, k ≤ S.threads.length ∧ i = .int .i64 k ∧ ∀ j (hj : j < S.threads.length), j < k → codeUpTo most S.threads[j].code = true) (fun i => S.threads.length - (intOf i).toNat)
  case atStart => exact ⟨0, Nat.zero_le _, rfl, fun _ _ h => absurd h (Nat.not_lt_zero _)⟩
  case round =>
    obtain ⟨k, hk, rfl, hall⟩ := hrel
    have HA := hid hall
    clear hall
    by_cases hlt : k < S.threads.length
    · obtain ⟨b, o, cv, cc, hta, hbb, _, _, _, _, y4, hcode, _⟩ := HS0.out.threads k hlt
      rw [hta] at x2
      have hcl : S.threads[k].code.length * 24 ≤ reachBytes := HF.out.codes k hlt
      unfold reachBytes at hcl
      have HC := hid hcode
      have hkI : (k : Int) < (S.threads.length : Int) := by omega
      clear hta hcode
      generalize hcd : S.threads[k].code = c at *
      have HCD := hid hcd
      clear hcd
      go_wp2
      go_loop [7] (fun i => ∃ m : Nat, m ≤ c.length ∧ i = .int .i64 m ∧ ∀ j (hj : j < c.length), j < m → c[j].op ≤ most) (fun i => c.length - (intOf i).toNat)
      case atStart => exact ⟨0, Nat.zero_le _, rfl, fun _ _ h => absurd h (Nat.not_lt_zero _)⟩
      case round =>
        obtain ⟨m, hm, rfl, hall⟩ := hrel
        have HA2 := hid hall
        clear hall
        by_cases hml : m < c.length
        · obtain ⟨b', o', hca, hb', z0, _, _⟩ := HC.out m hml
          subst hca
          have hmI : (m : Int) < (c.length : Int) := by omega
          by_cases hop : c[m].op ≤ most
          · have HOP := hid hop
            have HST : Hid (∀ j (hj : j < c.length), j < m + 1 → c[j].op ≤ most) := by
              intro j hj hjm
              rcases Nat.lt_or_ge j m with h1 | h1
              · exact HA2.out j hj h1
              · have e : j = m := by omega
                subst e
                exact HOP.out
            generalize c[m].op = op at *
            go_wp2
            go_round
            case rel => exact ⟨m + 1, by omega, by go_num, HST.out⟩
            case measure => simp [intOf]; omega
          · have hno : setUpTo most S = false := by
              unfold setUpTo
              rw [List.all_eq_false]
              refine ⟨S.threads[k], List.getElem_mem hlt, ?_⟩
              rw [HCD.out]
              unfold codeUpTo
              intro hh
              rw [List.all_eq_true] at hh
              have := hh c[m] (List.getElem_mem hml)
              simp at this
              omega
            have HNO := hid hno
            have hop' : most < c[m].op := by omega
            generalize c[m].op = op at *
            clear hno
            go_wp2
            go_ret
            refine ⟨?_, HB.out⟩
            rw [HNO.out]
            rfl
        · have e : m = c.length := by omega
          subst e
          have hgood : codeUpTo most S.threads[k].code = true := by
            rw [HCD.out]
            unfold codeUpTo
            rw [List.all_eq_true]
            intro x hx
            obtain ⟨j, hj, rfl⟩ := List.mem_iff_getElem.1 hx
            simpa using HA2.out j hj hj
          have HST : Hid (∀ j (hj : j < S.threads.length), j < k + 1 → codeUpTo most S.threads[j].code = true) := by
            intro j hj hjm
            rcases Nat.lt_or_ge j k with h1 | h1
            · exact HA.out j hj h1
            · have e : j = k := by omega
              subst e
              exact hgood
          clear hgood
          go_wp2
          go_round
          case rel => exact ⟨k + 1, by omega, by go_num, HST.out⟩
          case measure => simp [intOf]; omega
    · go_wp2
      go_ret
      refine ⟨?_, HB.out⟩
      have : setUpTo most S = true := by
        unfold setUpTo
        rw [List.all_eq_true]
        intro t ht
        obtain ⟨j, hj, rfl⟩ := List.mem_iff_getElem.1 ht
        exact HA.out j hj (by omega)
      rw [this]
      rfl
end Go.Proofs.YtbkfildnijjioaaGreat

/-
  The statements with a script, from what the program promises.
-/
namespace Go.Proofs.YtbkfildnijjioaaGreat
open Go.ChangeShapes Go.WideShapes Go.ChangeAt Go.RowKit Go.Deep

set_option maxRecDepth 100000 in
theorem open_script {H : Type} {enc : TypeId × Value → H} {w : World} {held : Bool} {r : Reach} {b0 : Nat} {v : Value} {d : DataW H} {p : List MemPlace} (hv : Value.okWide Tryz.prog w r b0 25 v) (h : DataW.Trod enc Tryz.prog w 0 (fun _ => true) held 25 v d p) (hw : Light d 25) :
    ∃ (ao : Option Addr) (cap : Nat) (l : List Int), v = .slice ao l.length cap ∧ IntsIn w.heap.size w ao l ∧ l.length * 8 ≤ reachBytes := by
  obtain ⟨ao', n, c, rfl⟩ := okWide_slice Tryz.underlying25 hv
  obtain ⟨fuel, hf⟩ := h
  obtain ⟨ao, cap, l, h1, h2, h3, h4⟩ := open_numbers hf
  simp [Value.cells] at h1
  obtain ⟨rfl, rfl, rfl⟩ := h1
  exact ⟨_, _, l, rfl, h3, h4 hw⟩

set_option maxHeartbeats 1000000 in
theorem lQueued_any {PK : KP} (f : KFrame PK) (cn : CNew PK (fun S => setUpTo 4 S = true)) (ct : CSee PK 13) (cp : CPick PK) (tv mv sv qv av : Option Addr) (tc mc sc qc ac : Nat) (S : SetD) (l : List Int) (w : World) (hS : SetIn w.heap.size w tv mv sv qv S) (hF : Fits S) (hnil : (tv = none → tc = 0) ∧ (mv = none → mc = 0) ∧ (sv = none → sc = 0) ∧ (qv = none → qc = 0)) (hl : IntsIn w.heap.size w av l) (hll : l.length ≤ 9223372036854775807) :
    Calls Tryz.prog 4 #[.agg #[.int .i64 S.workers, .int .i64 S.start, .slice tv S.threads.length tc, .slice mv S.mutexes.length mc, .slice sv S.sems.length sc, .slice qv S.queues.length qc], .slice av l.length ac] w fun e w' =>
      e = .returned (.bool true) ∧ Below w.heap.size w w' := by
  have HS := hid hS
  have HF := hid hF
  have HN := hid hnil
  have HL := hid hl
  have CP := hid cp
  clear hS hF hnil hl
  go_enter Tryz.func4, Tryz.ntmps4
  go_wp2_with fail
  have hb0 : Below w.heap.size w (w.alloc (.cells #[.int .i64 S.workers, .int .i64 S.start, .slice tv S.threads.length tc, .slice mv S.mutexes.length mc, .slice sv S.sems.length sc, .slice qv S.queues.length qc] 27)) := (Below.refl _ _).alloc (Nat.le_refl _) _
  have X0 := Blk.new w #[.int .i64 S.workers, .int .i64 S.start, .slice tv S.threads.length tc, .slice mv S.mutexes.length mc, .slice sv S.sems.length sc, .slice qv S.queues.length qc] 27
  generalize w.alloc (.cells #[.int .i64 S.workers, .int .i64 S.start, .slice tv S.threads.length tc, .slice mv S.mutexes.length mc, .slice sv S.sems.length sc, .slice qv S.queues.length qc] 27) = w0 at hb0 X0 ⊢
  refine (lUpTo_any tv mv sv qv tc mc sc qc S 4 w0 (HS.out.later hb0) HF.out).mono ?_
  rintro e w1 ⟨rfl, hb1⟩
  have HB1 := hid (via hb0 hb0.size hb1)
  have X1 := hid (show Blk w1 w.heap.size #[.int .i64 S.workers, .int .i64 S.start, .slice tv S.threads.length tc, .slice mv S.mutexes.length mc, .slice sv S.sems.length sc, .slice qv S.queues.length qc] 27 from by
    have h1 := X0
    have hl := X0.lt
    unfold Blk at h1 ⊢
    rw [hb1.block _ hl]
    exact h1)
  clear hb0 hb1 X0
  cases hu : setUpTo 4 S
  · go_wp2
    go_ret
    exact ⟨rfl, HB1.out⟩
  · have x0 := X1.out.cell 0
    have x1 := X1.out.cell 1
    have x2 := X1.out.cell 2
    have x3 := X1.out.cell 3
    have x4 := X1.out.cell 4
    have x5 := X1.out.cell 5
    simp at x0 x1 x2 x3 x4 x5
    have HU := hid hu
    go_wp2_with fail
    refine (lPlay_any f cn 13 ct tv mv sv qv av tc mc sc qc ac S l w1 (HS.out.later HB1.out) HF.out HN.out HU.out (HL.out.on HB1.out) hll (by unfold Holds; omega) true (fun _ => CP.out) (fun h => absurd h (by decide))).mono ?_
    rintro e w2 ⟨rfl, hb2⟩
    have HB2 := hid (via HB1.out HB1.out.size hb2)
    clear hb2
    go_wp2
    go_ret
    exact ⟨rfl, HB2.out⟩

set_option maxRecDepth 100000 in
theorem queued_lifted {PK : KP} (f : KFrame PK) (cn : CNew PK (fun S => setUpTo 4 S = true)) (ct : CSee PK 13) (cp : CPick PK) (os : Os) (started : os.Started) (H : Type) (enc : TypeId × Value → H) :
    ReturnsInHanded {} Tryz.checked os 4 .any (Rows.queuedSpec.pre6 enc Tryz.prog Tryz.f4 Rows.queuedRow.domain false) (Rows.queuedSpec.post enc Tryz.prog Tryz.f4 false true false false) := by
  refine returnsInHanded_of_change_sized (C := Tryz.checked) Tryz.own started (by kernel_rfl) Tryz.func4
    (ChangeSpec.witness6 (enc := enc) (C := Tryz.checked) false ⟨#[], #[.agg #[.int .i64 0, .int .i64 0, .slice none 0 0, .slice none 0 0, .slice none 0 0, .slice none 0 0], .slice none 0 0], []⟩ 8 (by kernel_rfl) (by kernel_rfl) (by kernel_rfl) (by kernel_rfl)) ?_
  intro W base args ds gs before hval0 hW _ hsz0 _
  have hval : ∀ (j : Nat) t v, Tryz.f4.params[j]? = some t → args[j]? = some v → Value.okWide Tryz.prog W .any base t v := hval0
  have hsz : (DataW.weightsEach Tryz.prog (Tryz.f4.params.toList ++ Rows.queuedSpec.plain.varTypes Tryz.prog) (ds ++ gs)).all (· ≤ reachBytes) = true := hsz0
  have hW' := hW
  obtain ⟨p, q, hA0, hV, rfl, hfz, hnd⟩ := hW
  have hA : DataW.TrodAll enc Tryz.prog W 0 (fun _ => true) true Tryz.f4.params.toList args.toList ds p := hA0
  rw [Tryz.params4] at hA hval hsz
  obtain ⟨v0, v1, d0, d1, p0, p1, rfl, rfl, rfl, h0, h1⟩ := trodAll_two hA
  obtain ⟨rfl, rfl⟩ := trodVars_none hV
  clear hA0 hval0 hsz0
  have hlight : Light d0 27 := by
    intro n hn
    have := List.all_eq_true.1 hsz n (DataW.weights_mem_each (j := 0) rfl rfl n hn)
    simpa using this
  have hlight1 : Light d1 25 := by
    intro n hn
    have := List.all_eq_true.1 hsz n (DataW.weights_mem_each (j := 1) rfl rfl n hn)
    simpa using this
  obtain ⟨S, tv, mv, sv, qv, tc, mc, sc, qc, hv, hin, hfit, hnil⟩ := open_set (hval 0 27 v0 rfl rfl) h0 hlight
  subst hv
  obtain ⟨av, ac, l, hv, hil, hll⟩ := open_script (hval 1 25 v1 rfl rfl) h1 hlight1
  subst hv
  unfold reachBytes at hll
  simp only [List.append_nil] at hW'
  refine (lQueued_any f cn ct cp tv mv sv qv av tc mc sc qc ac S l W hin hfit hnil hil (by omega)).mono fun e W' ⟨he, hb⟩ => ?_
  subst he
  refine ⟨_, rfl, _, _, _, [], p0 ++ p1, [], hW', ?_, ?_, rfl, hb.frame _, fun h => by cases h⟩
  · exact trodAll_mk1 (shut_bool Tryz.underlying4 _)
  · exact trodAll_mk2 (Below.trod Tryz.laidOut (by kernel_rfl) (of_decide_eq_true (by kernel_rfl)) h0 hb (fun x hx => hW'.lt x (by simp; exact .inl hx))) (Below.trod Tryz.laidOut (by kernel_rfl) (of_decide_eq_true (by kernel_rfl)) h1 hb (fun x hx => hW'.lt x (by simp; exact .inr hx)))

theorem queued_of {PK : KP} (f : KFrame PK) (cn : CNew PK (fun S => setUpTo 4 S = true)) (ct : CSee PK 13) (cp : CPick PK) : Rows.QueuedSaid :=
  OpenClaim.holds_of_wide 4 Tryz.f4 rfl rfl rfl rfl rfl rfl rfl ⟨rfl, rfl, rfl, rfl, rfl⟩ rfl rfl rfl rfl rfl (by kernel_rfl) Tryz.func4 (by kernel_rfl)
    (of_decide_eq_true (by kernel_rfl)) (by unfold Func.isWrapper; first | (rw [if_pos (by decide +kernel)]; kernel_rfl) | (rw [if_neg (by decide +kernel)]; exact ⟨rfl, rfl⟩))
    (fun os started H enc _ => queued_lifted f cn ct cp os started H enc)

end Go.Proofs.YtbkfildnijjioaaGreat

/-
  The statements with a script, from what the program promises: Timed, Picks, Seats, Looks.
-/
namespace Go.Proofs.YtbkfildnijjioaaGreat
open Go.ChangeShapes Go.WideShapes Go.ChangeAt Go.RowKit Go.Deep

set_option maxHeartbeats 1000000 in
theorem lawTimed_any {PK : KP} (f : KFrame PK) (cn : CNew PK (fun S => setUpTo 5 S = true)) (ct : CSee PK 15) (cp : CPick PK) (ck : CTick PK) (tv mv sv qv av : Option Addr) (tc mc sc qc ac : Nat) (S : SetD) (l : List Int) (w : World) (hS : SetIn w.heap.size w tv mv sv qv S) (hF : Fits S) (hnil : (tv = none → tc = 0) ∧ (mv = none → mc = 0) ∧ (sv = none → sc = 0) ∧ (qv = none → qc = 0)) (hl : IntsIn w.heap.size w av l) (hll : l.length ≤ 9223372036854775807) :
    Calls Tryz.prog 5 #[.agg #[.int .i64 S.workers, .int .i64 S.start, .slice tv S.threads.length tc, .slice mv S.mutexes.length mc, .slice sv S.sems.length sc, .slice qv S.queues.length qc], .slice av l.length ac] w fun e w' =>
      e = .returned (.bool true) ∧ Below w.heap.size w w' := by
  have HS := hid hS
  have HF := hid hF
  have HN := hid hnil
  have HL := hid hl
  have CK := hid ck
  have CP := hid cp
  clear hS hF hnil hl
  go_enter Tryz.func5, Tryz.ntmps5
  go_wp2_with fail
  have hb0 : Below w.heap.size w (w.alloc (.cells #[.int .i64 S.workers, .int .i64 S.start, .slice tv S.threads.length tc, .slice mv S.mutexes.length mc, .slice sv S.sems.length sc, .slice qv S.queues.length qc] 27)) := (Below.refl _ _).alloc (Nat.le_refl _) _
  have X0 := Blk.new w #[.int .i64 S.workers, .int .i64 S.start, .slice tv S.threads.length tc, .slice mv S.mutexes.length mc, .slice sv S.sems.length sc, .slice qv S.queues.length qc] 27
  generalize w.alloc (.cells #[.int .i64 S.workers, .int .i64 S.start, .slice tv S.threads.length tc, .slice mv S.mutexes.length mc, .slice sv S.sems.length sc, .slice qv S.queues.length qc] 27) = w0 at hb0 X0 ⊢
  refine (lUpTo_any tv mv sv qv tc mc sc qc S 5 w0 (HS.out.later hb0) HF.out).mono ?_
  rintro e w1 ⟨rfl, hb1⟩
  have HB1 := hid (via hb0 hb0.size hb1)
  have X1 := hid (show Blk w1 w.heap.size #[.int .i64 S.workers, .int .i64 S.start, .slice tv S.threads.length tc, .slice mv S.mutexes.length mc, .slice sv S.sems.length sc, .slice qv S.queues.length qc] 27 from by
    have h1 := X0
    have hl := X0.lt
    unfold Blk at h1 ⊢
    rw [hb1.block _ hl]
    exact h1)
  clear hb0 hb1 X0
  cases hu : setUpTo 5 S
  · go_wp2
    go_ret
    exact ⟨rfl, HB1.out⟩
  · have x0 := X1.out.cell 0
    have x1 := X1.out.cell 1
    have x2 := X1.out.cell 2
    have x3 := X1.out.cell 3
    have x4 := X1.out.cell 4
    have x5 := X1.out.cell 5
    simp at x0 x1 x2 x3 x4 x5
    have HU := hid hu
    go_wp2_with fail
    refine (lPlay_any f cn 15 ct tv mv sv qv av tc mc sc qc ac S l w1 (HS.out.later HB1.out) HF.out HN.out HU.out (HL.out.on HB1.out) hll (by unfold Holds; omega) false (fun _ => CP.out) (fun _ _ => CK.out)).mono ?_
    rintro e w2 ⟨rfl, hb2⟩
    have HB2 := hid (via HB1.out HB1.out.size hb2)
    clear hb2
    go_wp2
    go_ret
    exact ⟨rfl, HB2.out⟩

set_option maxRecDepth 100000 in
theorem timed_lifted {PK : KP} (f : KFrame PK) (cn : CNew PK (fun S => setUpTo 5 S = true)) (ct : CSee PK 15) (cp : CPick PK) (ck : CTick PK) (os : Os) (started : os.Started) (H : Type) (enc : TypeId × Value → H) :
    ReturnsInHanded {} Tryz.checked os 5 .any (Rows.timedSpec.pre6 enc Tryz.prog Tryz.f5 Rows.timedRow.domain false) (Rows.timedSpec.post enc Tryz.prog Tryz.f5 false true false false) := by
  refine returnsInHanded_of_change_sized (C := Tryz.checked) Tryz.own started (by kernel_rfl) Tryz.func5
    (ChangeSpec.witness6 (enc := enc) (C := Tryz.checked) false ⟨#[], #[.agg #[.int .i64 0, .int .i64 0, .slice none 0 0, .slice none 0 0, .slice none 0 0, .slice none 0 0], .slice none 0 0], []⟩ 8 (by kernel_rfl) (by kernel_rfl) (by kernel_rfl) (by kernel_rfl)) ?_
  intro W base args ds gs before hval0 hW _ hsz0 _
  have hval : ∀ (j : Nat) t v, Tryz.f5.params[j]? = some t → args[j]? = some v → Value.okWide Tryz.prog W .any base t v := hval0
  have hsz : (DataW.weightsEach Tryz.prog (Tryz.f5.params.toList ++ Rows.timedSpec.plain.varTypes Tryz.prog) (ds ++ gs)).all (· ≤ reachBytes) = true := hsz0
  have hW' := hW
  obtain ⟨p, q, hA0, hV, rfl, hfz, hnd⟩ := hW
  have hA : DataW.TrodAll enc Tryz.prog W 0 (fun _ => true) true Tryz.f5.params.toList args.toList ds p := hA0
  rw [Tryz.params5] at hA hval hsz
  obtain ⟨v0, v1, d0, d1, p0, p1, rfl, rfl, rfl, h0, h1⟩ := trodAll_two hA
  obtain ⟨rfl, rfl⟩ := trodVars_none hV
  clear hA0 hval0 hsz0
  have hlight : Light d0 27 := by
    intro n hn
    have := List.all_eq_true.1 hsz n (DataW.weights_mem_each (j := 0) rfl rfl n hn)
    simpa using this
  have hlight1 : Light d1 25 := by
    intro n hn
    have := List.all_eq_true.1 hsz n (DataW.weights_mem_each (j := 1) rfl rfl n hn)
    simpa using this
  obtain ⟨S, tv, mv, sv, qv, tc, mc, sc, qc, hv, hin, hfit, hnil⟩ := open_set (hval 0 27 v0 rfl rfl) h0 hlight
  subst hv
  obtain ⟨av, ac, l, hv, hil, hll⟩ := open_script (hval 1 25 v1 rfl rfl) h1 hlight1
  subst hv
  unfold reachBytes at hll
  simp only [List.append_nil] at hW'
  refine (lawTimed_any f cn ct cp ck tv mv sv qv av tc mc sc qc ac S l W hin hfit hnil hil (by omega)).mono fun e W' ⟨he, hb⟩ => ?_
  subst he
  refine ⟨_, rfl, _, _, _, [], p0 ++ p1, [], hW', ?_, ?_, rfl, hb.frame _, fun h => by cases h⟩
  · exact trodAll_mk1 (shut_bool Tryz.underlying4 _)
  · exact trodAll_mk2 (Below.trod Tryz.laidOut (by kernel_rfl) (of_decide_eq_true (by kernel_rfl)) h0 hb (fun x hx => hW'.lt x (by simp; exact .inl hx))) (Below.trod Tryz.laidOut (by kernel_rfl) (of_decide_eq_true (by kernel_rfl)) h1 hb (fun x hx => hW'.lt x (by simp; exact .inr hx)))

theorem timed_of {PK : KP} (f : KFrame PK) (cn : CNew PK (fun S => setUpTo 5 S = true)) (ct : CSee PK 15) (cp : CPick PK) (ck : CTick PK) : Rows.TimedSaid :=
  OpenClaim.holds_of_wide 5 Tryz.f5 rfl rfl rfl rfl rfl rfl rfl ⟨rfl, rfl, rfl, rfl, rfl⟩ rfl rfl rfl rfl rfl (by kernel_rfl) Tryz.func5 (by kernel_rfl)
    (of_decide_eq_true (by kernel_rfl)) (by unfold Func.isWrapper; first | (rw [if_pos (by decide +kernel)]; kernel_rfl) | (rw [if_neg (by decide +kernel)]; exact ⟨rfl, rfl⟩))
    (fun os started H enc _ => timed_lifted f cn ct cp ck os started H enc)

set_option maxHeartbeats 1000000 in
theorem lawPicks_any {PK : KP} (f : KFrame PK) (cn : CNew PK (fun _ => True)) (ct : CSee PK 1) (cp : CPick PK) (ck : CTick PK) (tv mv sv qv av : Option Addr) (tc mc sc qc ac : Nat) (S : SetD) (l : List Int) (w : World) (hS : SetIn w.heap.size w tv mv sv qv S) (hF : Fits S) (hnil : (tv = none → tc = 0) ∧ (mv = none → mc = 0) ∧ (sv = none → sc = 0) ∧ (qv = none → qc = 0)) (hl : IntsIn w.heap.size w av l) (hll : l.length ≤ 9223372036854775807) :
    Calls Tryz.prog 7 #[.agg #[.int .i64 S.workers, .int .i64 S.start, .slice tv S.threads.length tc, .slice mv S.mutexes.length mc, .slice sv S.sems.length sc, .slice qv S.queues.length qc], .slice av l.length ac] w fun e w' =>
      e = .returned (.bool true) ∧ Below w.heap.size w w' := by
  have HS := hid hS
  have HF := hid hF
  have HN := hid hnil
  have HL := hid hl
  have CK := hid ck
  have CP := hid cp
  clear hS hF hnil hl
  go_enter Tryz.func7, Tryz.ntmps7
  go_wp2_with fail
  have hb0 : Below w.heap.size w (w.alloc (.cells #[.int .i64 S.workers, .int .i64 S.start, .slice tv S.threads.length tc, .slice mv S.mutexes.length mc, .slice sv S.sems.length sc, .slice qv S.queues.length qc] 27)) := (Below.refl _ _).alloc (Nat.le_refl _) _
  generalize w.alloc (.cells #[.int .i64 S.workers, .int .i64 S.start, .slice tv S.threads.length tc, .slice mv S.mutexes.length mc, .slice sv S.sems.length sc, .slice qv S.queues.length qc] 27) = w0 at hb0 ⊢
  refine (lPlay_any f cn 1 ct tv mv sv qv av tc mc sc qc ac S l w0 (HS.out.later hb0) HF.out HN.out trivial (HL.out.on hb0) hll (by unfold Holds; omega) false (fun _ => CP.out) (fun _ _ => CK.out)).mono ?_
  rintro e w1 ⟨rfl, hb1⟩
  have HB1 := hid (via hb0 hb0.size hb1)
  clear hb1
  go_wp2
  go_ret
  exact ⟨rfl, HB1.out⟩

set_option maxRecDepth 100000 in
theorem picks_lifted {PK : KP} (f : KFrame PK) (cn : CNew PK (fun _ => True)) (ct : CSee PK 1) (cp : CPick PK) (ck : CTick PK) (os : Os) (started : os.Started) (H : Type) (enc : TypeId × Value → H) :
    ReturnsInHanded {} Tryz.checked os 7 .any (Rows.picksSpec.pre6 enc Tryz.prog Tryz.f7 Rows.picksRow.domain false) (Rows.picksSpec.post enc Tryz.prog Tryz.f7 false true false false) := by
  refine returnsInHanded_of_change_sized (C := Tryz.checked) Tryz.own started (by kernel_rfl) Tryz.func7
    (ChangeSpec.witness6 (enc := enc) (C := Tryz.checked) false ⟨#[], #[.agg #[.int .i64 0, .int .i64 0, .slice none 0 0, .slice none 0 0, .slice none 0 0, .slice none 0 0], .slice none 0 0], []⟩ 8 (by kernel_rfl) (by kernel_rfl) (by kernel_rfl) (by kernel_rfl)) ?_
  intro W base args ds gs before hval0 hW _ hsz0 _
  have hval : ∀ (j : Nat) t v, Tryz.f7.params[j]? = some t → args[j]? = some v → Value.okWide Tryz.prog W .any base t v := hval0
  have hsz : (DataW.weightsEach Tryz.prog (Tryz.f7.params.toList ++ Rows.picksSpec.plain.varTypes Tryz.prog) (ds ++ gs)).all (· ≤ reachBytes) = true := hsz0
  have hW' := hW
  obtain ⟨p, q, hA0, hV, rfl, hfz, hnd⟩ := hW
  have hA : DataW.TrodAll enc Tryz.prog W 0 (fun _ => true) true Tryz.f7.params.toList args.toList ds p := hA0
  rw [Tryz.params7] at hA hval hsz
  obtain ⟨v0, v1, d0, d1, p0, p1, rfl, rfl, rfl, h0, h1⟩ := trodAll_two hA
  obtain ⟨rfl, rfl⟩ := trodVars_none hV
  clear hA0 hval0 hsz0
  have hlight : Light d0 27 := by
    intro n hn
    have := List.all_eq_true.1 hsz n (DataW.weights_mem_each (j := 0) rfl rfl n hn)
    simpa using this
  have hlight1 : Light d1 25 := by
    intro n hn
    have := List.all_eq_true.1 hsz n (DataW.weights_mem_each (j := 1) rfl rfl n hn)
    simpa using this
  obtain ⟨S, tv, mv, sv, qv, tc, mc, sc, qc, hv, hin, hfit, hnil⟩ := open_set (hval 0 27 v0 rfl rfl) h0 hlight
  subst hv
  obtain ⟨av, ac, l, hv, hil, hll⟩ := open_script (hval 1 25 v1 rfl rfl) h1 hlight1
  subst hv
  unfold reachBytes at hll
  simp only [List.append_nil] at hW'
  refine (lawPicks_any f cn ct cp ck tv mv sv qv av tc mc sc qc ac S l W hin hfit hnil hil (by omega)).mono fun e W' ⟨he, hb⟩ => ?_
  subst he
  refine ⟨_, rfl, _, _, _, [], p0 ++ p1, [], hW', ?_, ?_, rfl, hb.frame _, fun h => by cases h⟩
  · exact trodAll_mk1 (shut_bool Tryz.underlying4 _)
  · exact trodAll_mk2 (Below.trod Tryz.laidOut (by kernel_rfl) (of_decide_eq_true (by kernel_rfl)) h0 hb (fun x hx => hW'.lt x (by simp; exact .inl hx))) (Below.trod Tryz.laidOut (by kernel_rfl) (of_decide_eq_true (by kernel_rfl)) h1 hb (fun x hx => hW'.lt x (by simp; exact .inr hx)))

theorem picks_of {PK : KP} (f : KFrame PK) (cn : CNew PK (fun _ => True)) (ct : CSee PK 1) (cp : CPick PK) (ck : CTick PK) : Rows.PicksSaid :=
  OpenClaim.holds_of_wide 7 Tryz.f7 rfl rfl rfl rfl rfl rfl rfl ⟨rfl, rfl, rfl, rfl, rfl⟩ rfl rfl rfl rfl rfl (by kernel_rfl) Tryz.func7 (by kernel_rfl)
    (of_decide_eq_true (by kernel_rfl)) (by unfold Func.isWrapper; first | (rw [if_pos (by decide +kernel)]; kernel_rfl) | (rw [if_neg (by decide +kernel)]; exact ⟨rfl, rfl⟩))
    (fun os started H enc _ => picks_lifted f cn ct cp ck os started H enc)

set_option maxHeartbeats 1000000 in
theorem lawSeats_any {PK : KP} (f : KFrame PK) (cn : CNew PK (fun _ => True)) (ct : CSee PK 4) (cp : CPick PK) (ck : CTick PK) (tv mv sv qv av : Option Addr) (tc mc sc qc ac : Nat) (S : SetD) (l : List Int) (w : World) (hS : SetIn w.heap.size w tv mv sv qv S) (hF : Fits S) (hnil : (tv = none → tc = 0) ∧ (mv = none → mc = 0) ∧ (sv = none → sc = 0) ∧ (qv = none → qc = 0)) (hl : IntsIn w.heap.size w av l) (hll : l.length ≤ 9223372036854775807) :
    Calls Tryz.prog 8 #[.agg #[.int .i64 S.workers, .int .i64 S.start, .slice tv S.threads.length tc, .slice mv S.mutexes.length mc, .slice sv S.sems.length sc, .slice qv S.queues.length qc], .slice av l.length ac] w fun e w' =>
      e = .returned (.bool true) ∧ Below w.heap.size w w' := by
  have HS := hid hS
  have HF := hid hF
  have HN := hid hnil
  have HL := hid hl
  have CK := hid ck
  have CP := hid cp
  clear hS hF hnil hl
  go_enter Tryz.func8, Tryz.ntmps8
  go_wp2_with fail
  have hb0 : Below w.heap.size w (w.alloc (.cells #[.int .i64 S.workers, .int .i64 S.start, .slice tv S.threads.length tc, .slice mv S.mutexes.length mc, .slice sv S.sems.length sc, .slice qv S.queues.length qc] 27)) := (Below.refl _ _).alloc (Nat.le_refl _) _
  generalize w.alloc (.cells #[.int .i64 S.workers, .int .i64 S.start, .slice tv S.threads.length tc, .slice mv S.mutexes.length mc, .slice sv S.sems.length sc, .slice qv S.queues.length qc] 27) = w0 at hb0 ⊢
  refine (lPlay_any f cn 4 ct tv mv sv qv av tc mc sc qc ac S l w0 (HS.out.later hb0) HF.out HN.out trivial (HL.out.on hb0) hll (by unfold Holds; omega) false (fun _ => CP.out) (fun _ _ => CK.out)).mono ?_
  rintro e w1 ⟨rfl, hb1⟩
  have HB1 := hid (via hb0 hb0.size hb1)
  clear hb1
  go_wp2
  go_ret
  exact ⟨rfl, HB1.out⟩

set_option maxRecDepth 100000 in
theorem seats_lifted {PK : KP} (f : KFrame PK) (cn : CNew PK (fun _ => True)) (ct : CSee PK 4) (cp : CPick PK) (ck : CTick PK) (os : Os) (started : os.Started) (H : Type) (enc : TypeId × Value → H) :
    ReturnsInHanded {} Tryz.checked os 8 .any (Rows.seatsSpec.pre6 enc Tryz.prog Tryz.f8 Rows.seatsRow.domain false) (Rows.seatsSpec.post enc Tryz.prog Tryz.f8 false true false false) := by
  refine returnsInHanded_of_change_sized (C := Tryz.checked) Tryz.own started (by kernel_rfl) Tryz.func8
    (ChangeSpec.witness6 (enc := enc) (C := Tryz.checked) false ⟨#[], #[.agg #[.int .i64 0, .int .i64 0, .slice none 0 0, .slice none 0 0, .slice none 0 0, .slice none 0 0], .slice none 0 0], []⟩ 8 (by kernel_rfl) (by kernel_rfl) (by kernel_rfl) (by kernel_rfl)) ?_
  intro W base args ds gs before hval0 hW _ hsz0 _
  have hval : ∀ (j : Nat) t v, Tryz.f8.params[j]? = some t → args[j]? = some v → Value.okWide Tryz.prog W .any base t v := hval0
  have hsz : (DataW.weightsEach Tryz.prog (Tryz.f8.params.toList ++ Rows.seatsSpec.plain.varTypes Tryz.prog) (ds ++ gs)).all (· ≤ reachBytes) = true := hsz0
  have hW' := hW
  obtain ⟨p, q, hA0, hV, rfl, hfz, hnd⟩ := hW
  have hA : DataW.TrodAll enc Tryz.prog W 0 (fun _ => true) true Tryz.f8.params.toList args.toList ds p := hA0
  rw [Tryz.params8] at hA hval hsz
  obtain ⟨v0, v1, d0, d1, p0, p1, rfl, rfl, rfl, h0, h1⟩ := trodAll_two hA
  obtain ⟨rfl, rfl⟩ := trodVars_none hV
  clear hA0 hval0 hsz0
  have hlight : Light d0 27 := by
    intro n hn
    have := List.all_eq_true.1 hsz n (DataW.weights_mem_each (j := 0) rfl rfl n hn)
    simpa using this
  have hlight1 : Light d1 25 := by
    intro n hn
    have := List.all_eq_true.1 hsz n (DataW.weights_mem_each (j := 1) rfl rfl n hn)
    simpa using this
  obtain ⟨S, tv, mv, sv, qv, tc, mc, sc, qc, hv, hin, hfit, hnil⟩ := open_set (hval 0 27 v0 rfl rfl) h0 hlight
  subst hv
  obtain ⟨av, ac, l, hv, hil, hll⟩ := open_script (hval 1 25 v1 rfl rfl) h1 hlight1
  subst hv
  unfold reachBytes at hll
  simp only [List.append_nil] at hW'
  refine (lawSeats_any f cn ct cp ck tv mv sv qv av tc mc sc qc ac S l W hin hfit hnil hil (by omega)).mono fun e W' ⟨he, hb⟩ => ?_
  subst he
  refine ⟨_, rfl, _, _, _, [], p0 ++ p1, [], hW', ?_, ?_, rfl, hb.frame _, fun h => by cases h⟩
  · exact trodAll_mk1 (shut_bool Tryz.underlying4 _)
  · exact trodAll_mk2 (Below.trod Tryz.laidOut (by kernel_rfl) (of_decide_eq_true (by kernel_rfl)) h0 hb (fun x hx => hW'.lt x (by simp; exact .inl hx))) (Below.trod Tryz.laidOut (by kernel_rfl) (of_decide_eq_true (by kernel_rfl)) h1 hb (fun x hx => hW'.lt x (by simp; exact .inr hx)))

theorem seats_of {PK : KP} (f : KFrame PK) (cn : CNew PK (fun _ => True)) (ct : CSee PK 4) (cp : CPick PK) (ck : CTick PK) : Rows.SeatsSaid :=
  OpenClaim.holds_of_wide 8 Tryz.f8 rfl rfl rfl rfl rfl rfl rfl ⟨rfl, rfl, rfl, rfl, rfl⟩ rfl rfl rfl rfl rfl (by kernel_rfl) Tryz.func8 (by kernel_rfl)
    (of_decide_eq_true (by kernel_rfl)) (by unfold Func.isWrapper; first | (rw [if_pos (by decide +kernel)]; kernel_rfl) | (rw [if_neg (by decide +kernel)]; exact ⟨rfl, rfl⟩))
    (fun os started H enc _ => seats_lifted f cn ct cp ck os started H enc)

set_option maxHeartbeats 1000000 in
theorem lawLooks_any {PK : KP} (f : KFrame PK) (cn : CNew PK (fun _ => True)) (ct : CSee PK 8) (cp : CPick PK) (ck : CTick PK) (tv mv sv qv av : Option Addr) (tc mc sc qc ac : Nat) (S : SetD) (l : List Int) (w : World) (hS : SetIn w.heap.size w tv mv sv qv S) (hF : Fits S) (hnil : (tv = none → tc = 0) ∧ (mv = none → mc = 0) ∧ (sv = none → sc = 0) ∧ (qv = none → qc = 0)) (hl : IntsIn w.heap.size w av l) (hll : l.length ≤ 9223372036854775807) :
    Calls Tryz.prog 9 #[.agg #[.int .i64 S.workers, .int .i64 S.start, .slice tv S.threads.length tc, .slice mv S.mutexes.length mc, .slice sv S.sems.length sc, .slice qv S.queues.length qc], .slice av l.length ac] w fun e w' =>
      e = .returned (.bool true) ∧ Below w.heap.size w w' := by
  have HS := hid hS
  have HF := hid hF
  have HN := hid hnil
  have HL := hid hl
  have CK := hid ck
  have CP := hid cp
  clear hS hF hnil hl
  go_enter Tryz.func9, Tryz.ntmps9
  go_wp2_with fail
  have hb0 : Below w.heap.size w (w.alloc (.cells #[.int .i64 S.workers, .int .i64 S.start, .slice tv S.threads.length tc, .slice mv S.mutexes.length mc, .slice sv S.sems.length sc, .slice qv S.queues.length qc] 27)) := (Below.refl _ _).alloc (Nat.le_refl _) _
  generalize w.alloc (.cells #[.int .i64 S.workers, .int .i64 S.start, .slice tv S.threads.length tc, .slice mv S.mutexes.length mc, .slice sv S.sems.length sc, .slice qv S.queues.length qc] 27) = w0 at hb0 ⊢
  refine (lPlay_any f cn 8 ct tv mv sv qv av tc mc sc qc ac S l w0 (HS.out.later hb0) HF.out HN.out trivial (HL.out.on hb0) hll (by unfold Holds; omega) false (fun _ => CP.out) (fun _ _ => CK.out)).mono ?_
  rintro e w1 ⟨rfl, hb1⟩
  have HB1 := hid (via hb0 hb0.size hb1)
  clear hb1
  go_wp2
  go_ret
  exact ⟨rfl, HB1.out⟩

set_option maxRecDepth 100000 in
theorem looks_lifted {PK : KP} (f : KFrame PK) (cn : CNew PK (fun _ => True)) (ct : CSee PK 8) (cp : CPick PK) (ck : CTick PK) (os : Os) (started : os.Started) (H : Type) (enc : TypeId × Value → H) :
    ReturnsInHanded {} Tryz.checked os 9 .any (Rows.looksSpec.pre6 enc Tryz.prog Tryz.f9 Rows.looksRow.domain false) (Rows.looksSpec.post enc Tryz.prog Tryz.f9 false true false false) := by
  refine returnsInHanded_of_change_sized (C := Tryz.checked) Tryz.own started (by kernel_rfl) Tryz.func9
    (ChangeSpec.witness6 (enc := enc) (C := Tryz.checked) false ⟨#[], #[.agg #[.int .i64 0, .int .i64 0, .slice none 0 0, .slice none 0 0, .slice none 0 0, .slice none 0 0], .slice none 0 0], []⟩ 8 (by kernel_rfl) (by kernel_rfl) (by kernel_rfl) (by kernel_rfl)) ?_
  intro W base args ds gs before hval0 hW _ hsz0 _
  have hval : ∀ (j : Nat) t v, Tryz.f9.params[j]? = some t → args[j]? = some v → Value.okWide Tryz.prog W .any base t v := hval0
  have hsz : (DataW.weightsEach Tryz.prog (Tryz.f9.params.toList ++ Rows.looksSpec.plain.varTypes Tryz.prog) (ds ++ gs)).all (· ≤ reachBytes) = true := hsz0
  have hW' := hW
  obtain ⟨p, q, hA0, hV, rfl, hfz, hnd⟩ := hW
  have hA : DataW.TrodAll enc Tryz.prog W 0 (fun _ => true) true Tryz.f9.params.toList args.toList ds p := hA0
  rw [Tryz.params9] at hA hval hsz
  obtain ⟨v0, v1, d0, d1, p0, p1, rfl, rfl, rfl, h0, h1⟩ := trodAll_two hA
  obtain ⟨rfl, rfl⟩ := trodVars_none hV
  clear hA0 hval0 hsz0
  have hlight : Light d0 27 := by
    intro n hn
    have := List.all_eq_true.1 hsz n (DataW.weights_mem_each (j := 0) rfl rfl n hn)
    simpa using this
  have hlight1 : Light d1 25 := by
    intro n hn
    have := List.all_eq_true.1 hsz n (DataW.weights_mem_each (j := 1) rfl rfl n hn)
    simpa using this
  obtain ⟨S, tv, mv, sv, qv, tc, mc, sc, qc, hv, hin, hfit, hnil⟩ := open_set (hval 0 27 v0 rfl rfl) h0 hlight
  subst hv
  obtain ⟨av, ac, l, hv, hil, hll⟩ := open_script (hval 1 25 v1 rfl rfl) h1 hlight1
  subst hv
  unfold reachBytes at hll
  simp only [List.append_nil] at hW'
  refine (lawLooks_any f cn ct cp ck tv mv sv qv av tc mc sc qc ac S l W hin hfit hnil hil (by omega)).mono fun e W' ⟨he, hb⟩ => ?_
  subst he
  refine ⟨_, rfl, _, _, _, [], p0 ++ p1, [], hW', ?_, ?_, rfl, hb.frame _, fun h => by cases h⟩
  · exact trodAll_mk1 (shut_bool Tryz.underlying4 _)
  · exact trodAll_mk2 (Below.trod Tryz.laidOut (by kernel_rfl) (of_decide_eq_true (by kernel_rfl)) h0 hb (fun x hx => hW'.lt x (by simp; exact .inl hx))) (Below.trod Tryz.laidOut (by kernel_rfl) (of_decide_eq_true (by kernel_rfl)) h1 hb (fun x hx => hW'.lt x (by simp; exact .inr hx)))

theorem looks_of {PK : KP} (f : KFrame PK) (cn : CNew PK (fun _ => True)) (ct : CSee PK 8) (cp : CPick PK) (ck : CTick PK) : Rows.LooksSaid :=
  OpenClaim.holds_of_wide 9 Tryz.f9 rfl rfl rfl rfl rfl rfl rfl ⟨rfl, rfl, rfl, rfl, rfl⟩ rfl rfl rfl rfl rfl (by kernel_rfl) Tryz.func9 (by kernel_rfl)
    (of_decide_eq_true (by kernel_rfl)) (by unfold Func.isWrapper; first | (rw [if_pos (by decide +kernel)]; kernel_rfl) | (rw [if_neg (by decide +kernel)]; exact ⟨rfl, rfl⟩))
    (fun os started H enc _ => looks_lifted f cn ct cp ck os started H enc)

end Go.Proofs.YtbkfildnijjioaaGreat

/-
  The statements with a script, from what the program promises: Locked.
-/
namespace Go.Proofs.YtbkfildnijjioaaGreat
open Go.ChangeShapes Go.WideShapes Go.ChangeAt Go.RowKit Go.Deep

set_option maxHeartbeats 1000000 in
theorem lawLocked_any {PK : KP} (f : KFrame PK) (cn : CNew PK (fun S => setUpTo 7 S = true)) (ct : CSee PK 31) (cp : CPick PK) (ck : CTick PK) (tv mv sv qv av : Option Addr) (tc mc sc qc ac : Nat) (S : SetD) (l : List Int) (w : World) (hS : SetIn w.heap.size w tv mv sv qv S) (hF : Fits S) (hnil : (tv = none → tc = 0) ∧ (mv = none → mc = 0) ∧ (sv = none → sc = 0) ∧ (qv = none → qc = 0)) (hl : IntsIn w.heap.size w av l) (hll : l.length ≤ 9223372036854775807) :
    Calls Tryz.prog 6 #[.agg #[.int .i64 S.workers, .int .i64 S.start, .slice tv S.threads.length tc, .slice mv S.mutexes.length mc, .slice sv S.sems.length sc, .slice qv S.queues.length qc], .slice av l.length ac] w fun e w' =>
      e = .returned (.bool true) ∧ Below w.heap.size w w' := by
  have HS := hid hS
  have HF := hid hF
  have HN := hid hnil
  have HL := hid hl
  have CK := hid ck
  have CP := hid cp
  clear hS hF hnil hl
  go_enter Tryz.func6, Tryz.ntmps6
  go_wp2_with fail
  have hb0 : Below w.heap.size w (w.alloc (.cells #[.int .i64 S.workers, .int .i64 S.start, .slice tv S.threads.length tc, .slice mv S.mutexes.length mc, .slice sv S.sems.length sc, .slice qv S.queues.length qc] 27)) := (Below.refl _ _).alloc (Nat.le_refl _) _
  have X0 := Blk.new w #[.int .i64 S.workers, .int .i64 S.start, .slice tv S.threads.length tc, .slice mv S.mutexes.length mc, .slice sv S.sems.length sc, .slice qv S.queues.length qc] 27
  generalize w.alloc (.cells #[.int .i64 S.workers, .int .i64 S.start, .slice tv S.threads.length tc, .slice mv S.mutexes.length mc, .slice sv S.sems.length sc, .slice qv S.queues.length qc] 27) = w0 at hb0 X0 ⊢
  refine (lUpTo_any tv mv sv qv tc mc sc qc S 7 w0 (HS.out.later hb0) HF.out).mono ?_
  rintro e w1 ⟨rfl, hb1⟩
  have HB1 := hid (via hb0 hb0.size hb1)
  have X1 := hid (show Blk w1 w.heap.size #[.int .i64 S.workers, .int .i64 S.start, .slice tv S.threads.length tc, .slice mv S.mutexes.length mc, .slice sv S.sems.length sc, .slice qv S.queues.length qc] 27 from by
    have h1 := X0
    have hl := X0.lt
    unfold Blk at h1 ⊢
    rw [hb1.block _ hl]
    exact h1)
  clear hb0 hb1 X0
  cases hu : setUpTo 7 S
  · go_wp2
    go_ret
    exact ⟨rfl, HB1.out⟩
  · have x0 := X1.out.cell 0
    have x1 := X1.out.cell 1
    have x2 := X1.out.cell 2
    have x3 := X1.out.cell 3
    have x4 := X1.out.cell 4
    have x5 := X1.out.cell 5
    simp at x0 x1 x2 x3 x4 x5
    have HU := hid hu
    go_wp2_with fail
    refine (lPlay_any f cn 31 ct tv mv sv qv av tc mc sc qc ac S l w1 (HS.out.later HB1.out) HF.out HN.out HU.out (HL.out.on HB1.out) hll (by unfold Holds; omega) false (fun _ => CP.out) (fun _ _ => CK.out)).mono ?_
    rintro e w2 ⟨rfl, hb2⟩
    have HB2 := hid (via HB1.out HB1.out.size hb2)
    clear hb2
    go_wp2
    go_ret
    exact ⟨rfl, HB2.out⟩

set_option maxRecDepth 100000 in
theorem locked_lifted {PK : KP} (f : KFrame PK) (cn : CNew PK (fun S => setUpTo 7 S = true)) (ct : CSee PK 31) (cp : CPick PK) (ck : CTick PK) (os : Os) (started : os.Started) (H : Type) (enc : TypeId × Value → H) :
    ReturnsInHanded {} Tryz.checked os 6 .any (Rows.lockedSpec.pre6 enc Tryz.prog Tryz.f6 Rows.lockedRow.domain false) (Rows.lockedSpec.post enc Tryz.prog Tryz.f6 false true false false) := by
  refine returnsInHanded_of_change_sized (C := Tryz.checked) Tryz.own started (by kernel_rfl) Tryz.func6
    (ChangeSpec.witness6 (enc := enc) (C := Tryz.checked) false ⟨#[], #[.agg #[.int .i64 0, .int .i64 0, .slice none 0 0, .slice none 0 0, .slice none 0 0, .slice none 0 0], .slice none 0 0], []⟩ 8 (by kernel_rfl) (by kernel_rfl) (by kernel_rfl) (by kernel_rfl)) ?_
  intro W base args ds gs before hval0 hW _ hsz0 _
  have hval : ∀ (j : Nat) t v, Tryz.f6.params[j]? = some t → args[j]? = some v → Value.okWide Tryz.prog W .any base t v := hval0
  have hsz : (DataW.weightsEach Tryz.prog (Tryz.f6.params.toList ++ Rows.lockedSpec.plain.varTypes Tryz.prog) (ds ++ gs)).all (· ≤ reachBytes) = true := hsz0
  have hW' := hW
  obtain ⟨p, q, hA0, hV, rfl, hfz, hnd⟩ := hW
  have hA : DataW.TrodAll enc Tryz.prog W 0 (fun _ => true) true Tryz.f6.params.toList args.toList ds p := hA0
  rw [Tryz.params6] at hA hval hsz
  obtain ⟨v0, v1, d0, d1, p0, p1, rfl, rfl, rfl, h0, h1⟩ := trodAll_two hA
  obtain ⟨rfl, rfl⟩ := trodVars_none hV
  clear hA0 hval0 hsz0
  have hlight : Light d0 27 := by
    intro n hn
    have := List.all_eq_true.1 hsz n (DataW.weights_mem_each (j := 0) rfl rfl n hn)
    simpa using this
  have hlight1 : Light d1 25 := by
    intro n hn
    have := List.all_eq_true.1 hsz n (DataW.weights_mem_each (j := 1) rfl rfl n hn)
    simpa using this
  obtain ⟨S, tv, mv, sv, qv, tc, mc, sc, qc, hv, hin, hfit, hnil⟩ := open_set (hval 0 27 v0 rfl rfl) h0 hlight
  subst hv
  obtain ⟨av, ac, l, hv, hil, hll⟩ := open_script (hval 1 25 v1 rfl rfl) h1 hlight1
  subst hv
  unfold reachBytes at hll
  simp only [List.append_nil] at hW'
  refine (lawLocked_any f cn ct cp ck tv mv sv qv av tc mc sc qc ac S l W hin hfit hnil hil (by omega)).mono fun e W' ⟨he, hb⟩ => ?_
  subst he
  refine ⟨_, rfl, _, _, _, [], p0 ++ p1, [], hW', ?_, ?_, rfl, hb.frame _, fun h => by cases h⟩
  · exact trodAll_mk1 (shut_bool Tryz.underlying4 _)
  · exact trodAll_mk2 (Below.trod Tryz.laidOut (by kernel_rfl) (of_decide_eq_true (by kernel_rfl)) h0 hb (fun x hx => hW'.lt x (by simp; exact .inl hx))) (Below.trod Tryz.laidOut (by kernel_rfl) (of_decide_eq_true (by kernel_rfl)) h1 hb (fun x hx => hW'.lt x (by simp; exact .inr hx)))

theorem locked_of {PK : KP} (f : KFrame PK) (cn : CNew PK (fun S => setUpTo 7 S = true)) (ct : CSee PK 31) (cp : CPick PK) (ck : CTick PK) : Rows.LockedSaid :=
  OpenClaim.holds_of_wide 6 Tryz.f6 rfl rfl rfl rfl rfl rfl rfl ⟨rfl, rfl, rfl, rfl, rfl⟩ rfl rfl rfl rfl rfl (by kernel_rfl) Tryz.func6 (by kernel_rfl)
    (of_decide_eq_true (by kernel_rfl)) (by unfold Func.isWrapper; first | (rw [if_pos (by decide +kernel)]; kernel_rfl) | (rw [if_neg (by decide +kernel)]; exact ⟨rfl, rfl⟩))
    (fun os started H enc _ => locked_lifted f cn ct cp ck os started H enc)

end Go.Proofs.YtbkfildnijjioaaGreat

/-
  Stores, from what the program promises.
-/
namespace Go.Proofs.YtbkfildnijjioaaGreat
open Go.ChangeShapes Go.WideShapes Go.ChangeAt Go.RowKit Go.Deep

set_option maxHeartbeats 1000000 in
theorem lawStores_any {PK : KP} (f : KFrame PK) (cn : CNew PK (fun _ => True)) (ct : CSee PK 32) (cp : CPick PK) (ck : CTick PK) (tv mv sv qv av : Option Addr) (tc mc sc qc ac : Nat) (S : SetD) (l : List Int) (w : World) (hS : SetIn w.heap.size w tv mv sv qv S) (hF : Fits S) (hnil : (tv = none → tc = 0) ∧ (mv = none → mc = 0) ∧ (sv = none → sc = 0) ∧ (qv = none → qc = 0)) (hl : IntsIn w.heap.size w av l) (hll : l.length ≤ 9223372036854775807) :
    Calls Tryz.prog 10 #[.agg #[.int .i64 S.workers, .int .i64 S.start, .slice tv S.threads.length tc, .slice mv S.mutexes.length mc, .slice sv S.sems.length sc, .slice qv S.queues.length qc], .slice av l.length ac] w fun e w' =>
      e = .returned (.bool true) ∧ Below w.heap.size w w' := by
  have HS := hid hS
  have HF := hid hF
  have HN := hid hnil
  have HL := hid hl
  have CK := hid ck
  have CP := hid cp
  clear hS hF hnil hl
  go_enter Tryz.func10, Tryz.ntmps10
  go_wp2_with fail
  have hb0 : Below w.heap.size w (w.alloc (.cells #[.int .i64 S.workers, .int .i64 S.start, .slice tv S.threads.length tc, .slice mv S.mutexes.length mc, .slice sv S.sems.length sc, .slice qv S.queues.length qc] 27)) := (Below.refl _ _).alloc (Nat.le_refl _) _
  generalize w.alloc (.cells #[.int .i64 S.workers, .int .i64 S.start, .slice tv S.threads.length tc, .slice mv S.mutexes.length mc, .slice sv S.sems.length sc, .slice qv S.queues.length qc] 27) = w0 at hb0 ⊢
  refine (lPlay_any f cn 32 ct tv mv sv qv av tc mc sc qc ac S l w0 (HS.out.later hb0) HF.out HN.out trivial (HL.out.on hb0) hll (by unfold Holds; omega) false (fun _ => CP.out) (fun _ _ => CK.out)).mono ?_
  rintro e w1 ⟨rfl, hb1⟩
  have HB1 := hid (via hb0 hb0.size hb1)
  clear hb1
  go_wp2
  go_ret
  exact ⟨rfl, HB1.out⟩

set_option maxRecDepth 100000 in
theorem stores_lifted {PK : KP} (f : KFrame PK) (cn : CNew PK (fun _ => True)) (ct : CSee PK 32) (cp : CPick PK) (ck : CTick PK) (os : Os) (started : os.Started) (H : Type) (enc : TypeId × Value → H) :
    ReturnsInHanded {} Tryz.checked os 10 .any (Rows.storesSpec.pre6 enc Tryz.prog Tryz.f10 Rows.storesRow.domain false) (Rows.storesSpec.post enc Tryz.prog Tryz.f10 false true false false) := by
  refine returnsInHanded_of_change_sized (C := Tryz.checked) Tryz.own started (by kernel_rfl) Tryz.func10
    (ChangeSpec.witness6 (enc := enc) (C := Tryz.checked) false ⟨#[], #[.agg #[.int .i64 0, .int .i64 0, .slice none 0 0, .slice none 0 0, .slice none 0 0, .slice none 0 0], .slice none 0 0], []⟩ 8 (by kernel_rfl) (by kernel_rfl) (by kernel_rfl) (by kernel_rfl)) ?_
  intro W base args ds gs before hval0 hW _ hsz0 _
  have hval : ∀ (j : Nat) t v, Tryz.f10.params[j]? = some t → args[j]? = some v → Value.okWide Tryz.prog W .any base t v := hval0
  have hsz : (DataW.weightsEach Tryz.prog (Tryz.f10.params.toList ++ Rows.storesSpec.plain.varTypes Tryz.prog) (ds ++ gs)).all (· ≤ reachBytes) = true := hsz0
  have hW' := hW
  obtain ⟨p, q, hA0, hV, rfl, hfz, hnd⟩ := hW
  have hA : DataW.TrodAll enc Tryz.prog W 0 (fun _ => true) true Tryz.f10.params.toList args.toList ds p := hA0
  rw [Tryz.params10] at hA hval hsz
  obtain ⟨v0, v1, d0, d1, p0, p1, rfl, rfl, rfl, h0, h1⟩ := trodAll_two hA
  obtain ⟨rfl, rfl⟩ := trodVars_none hV
  clear hA0 hval0 hsz0
  have hlight : Light d0 27 := by
    intro n hn
    have := List.all_eq_true.1 hsz n (DataW.weights_mem_each (j := 0) rfl rfl n hn)
    simpa using this
  have hlight1 : Light d1 25 := by
    intro n hn
    have := List.all_eq_true.1 hsz n (DataW.weights_mem_each (j := 1) rfl rfl n hn)
    simpa using this
  obtain ⟨S, tv, mv, sv, qv, tc, mc, sc, qc, hv, hin, hfit, hnil⟩ := open_set (hval 0 27 v0 rfl rfl) h0 hlight
  subst hv
  obtain ⟨av, ac, l, hv, hil, hll⟩ := open_script (hval 1 25 v1 rfl rfl) h1 hlight1
  subst hv
  unfold reachBytes at hll
  simp only [List.append_nil] at hW'
  refine (lawStores_any f cn ct cp ck tv mv sv qv av tc mc sc qc ac S l W hin hfit hnil hil (by omega)).mono fun e W' ⟨he, hb⟩ => ?_
  subst he
  refine ⟨_, rfl, _, _, _, [], p0 ++ p1, [], hW', ?_, ?_, rfl, hb.frame _, fun h => by cases h⟩
  · exact trodAll_mk1 (shut_bool Tryz.underlying4 _)
  · exact trodAll_mk2 (Below.trod Tryz.laidOut (by kernel_rfl) (of_decide_eq_true (by kernel_rfl)) h0 hb (fun x hx => hW'.lt x (by simp; exact .inl hx))) (Below.trod Tryz.laidOut (by kernel_rfl) (of_decide_eq_true (by kernel_rfl)) h1 hb (fun x hx => hW'.lt x (by simp; exact .inr hx)))

theorem stores_of {PK : KP} (f : KFrame PK) (cn : CNew PK (fun _ => True)) (ct : CSee PK 32) (cp : CPick PK) (ck : CTick PK) : Rows.StoresSaid :=
  OpenClaim.holds_of_wide 10 Tryz.f10 rfl rfl rfl rfl rfl rfl rfl ⟨rfl, rfl, rfl, rfl, rfl⟩ rfl rfl rfl rfl rfl (by kernel_rfl) Tryz.func10 (by kernel_rfl)
    (of_decide_eq_true (by kernel_rfl)) (by unfold Func.isWrapper; first | (rw [if_pos (by decide +kernel)]; kernel_rfl) | (rw [if_neg (by decide +kernel)]; exact ⟨rfl, rfl⟩))
    (fun os started H enc _ => stores_lifted f cn ct cp ck os started H enc)

end Go.Proofs.YtbkfildnijjioaaGreat
