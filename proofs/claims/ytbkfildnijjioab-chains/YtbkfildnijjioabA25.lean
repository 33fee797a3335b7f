import Derived.Test.YtbkfildnijjioabA23
import Derived.Test.YtbkfildnijjioabA24
import Derived.Test.YtbkfildnijjioabA21
import Derived.Test.YtbkfildnijjioabA15
import Derived.Test.YtbkfildnijjioabA12
/-
  Chains: the law's own function.
-/
namespace Go.Proofs.Ytbkfildnijjioab
open Go.RowKit
theorem waiting_short {s : RS} (i : RInv s) (m : Nat) (hm : m < s.owner.length) : (R.waiting s 1 (m : Int)).length ≤ 1000 := by
  have hwl := waitL_len s 1 (m : Int) i.good.few
  have e5 : R.waitL s 1 (m : Int) = R.waiting s 1 (m : Int) := by
    unfold R.waitL
    rw [if_neg]
    unfold R.things
    rw [if_pos rfl]
    omega
  rw [e5] at hwl
  omega
/-- What the step asks of each mutex, of the lines as they are kept. -/
theorem chains_pass {s : RS} {d : WD} {tk wt : List Nat} (i : RInv s) (x : R.Ext0 s) (a : Ln.Aux s tk wt) (sn : Snc d s) (n : Int) (m : Nat) (hm : m < s.owner.length) :
    PassP (stepD d s n).who (stepD d s n).i (stepD d s n).code m (s.owner.getD m 0) ((R.entry s n).owner.getD m 0) ((waitsTo s 1 s.owner.length)[m]'(by rw [waitsTo_length]; exact hm)) (LockS (stepD d s n) (R.entry s n) s.owner m ((R.entry s n).owner.getD m 0)) := by
  have h := chains_step (d := d) i x a sn n m hm
  rw [waitsTo_get s 1 _ m hm]
  unfold LockS
  rw [entry_set i x n, entry_len i x n]
  exact h
set_option maxRecDepth 100000 in
set_option maxHeartbeats 8000000 in
theorem lawChains_any {PK : KP} (c : CAll PK) (cn : CNew PK (fun _ => True)) (tv mv sv qv av : Option Addr) (tc mc sc qc ac : Nat) (S : SetD) (l : List Int) (w : World) (hS : SetIn w.heap.size w tv mv sv qv S) (hF : Fits S) (hnil : (tv = none → tc = 0) ∧ (mv = none → mc = 0) ∧ (sv = none → sc = 0) ∧ (qv = none → qc = 0)) (hl : IntsIn w.heap.size w av l) (hll : l.length ≤ 9223372036854775807) :
    Calls Try.prog 4 #[.agg #[.int .i64 S.workers, .int .i64 S.start, .slice tv S.threads.length tc, .slice mv S.mutexes.length mc, .slice sv S.sems.length sc, .slice qv S.queues.length qc], .slice av l.length ac] w fun e w' =>
      e = .returned (.bool true) ∧ Below w.heap.size w w' := by
  have HS := hid hS
  have HF := hid hF
  have HN := hid hnil
  have HL := hid hl
  clear hS hF hnil hl
  go_enter Try.func4, Try.ntmps4
  by_cases hlong : l.length ≤ 1099511627776
  · have hlI : (l.length : Int) ≤ 1099511627776 := by omega
    go_wp2_with fail
    have hb0 : Below w.heap.size w (w.alloc (.cells #[.int .i64 S.workers, .int .i64 S.start, .slice tv S.threads.length tc, .slice mv S.mutexes.length mc, .slice sv S.sems.length sc, .slice qv S.queues.length qc] 27)) := (Below.refl _ _).alloc (Nat.le_refl _) _
    generalize w.alloc (.cells #[.int .i64 S.workers, .int .i64 S.start, .slice tv S.threads.length tc, .slice mv S.mutexes.length mc, .slice sv S.sems.length sc, .slice qv S.queues.length qc] 27) = w0 at hb0 ⊢
    have HB0 := hid hb0
    have HS0 := hid (HS.out.later hb0)
    have HL0 := hid (HL.out.on hb0)
    clear hb0
    refine (wBeginS_any c cn tv mv sv qv tc mc sc qc S w0 HS0.out HF.out HN.out).mono ?_
    rintro e w1 ⟨hb1, hcase⟩
    have HB1 := hid hb1
    clear hb1
    rcases hcase with ⟨_, rfl⟩ | ⟨herr, hnx, B, wb, kb, P, h, hB, rfl, ks⟩
    · go_wp2
      go_ret
      exact ⟨rfl, via HB0.out HB0.out.size HB1.out⟩
    · have K1 := hid ks
      have HBB := hid hB
      have HSN := hid (new_set S)
      have HCN := hid (fun m hm => chains_new S m hm)
      have hM8 : (R.new S).owner.length ≤ 8 := by have := ks.i.good.own; have := ks.i.good.mfew; omega
      clear ks hB
      go_wp2_with fail
      refine (wSeen_any c K1.out).mono ?_
      rintro e w2 ⟨cb, ao, co, vl, vs, rfl, hch, hb2⟩
      have CH2 := hid (hch.mono K1.out.k.m.bsz)
      have K2 := hid (K1.out.below c.fr hb2)
      have AP2 : Hid (Apart w2 wb P h B (CB cb ao vl vs)) := hid (fun b hb => by
        have h1 := hch.bd b hb
        have h2 := K1.out.fresh c.fr h1.1
        exact ⟨h2.1, h1.2, h2.2⟩)
      have HB2 := hid (via HB1.out HB1.out.size hb2)
      clear hch hb2 K1 HB1
      obtain ⟨M, hM⟩ : ∃ x, Hid ((R.new S).owner.length = x) := ⟨_, hid rfl⟩
      rw [hM.out] at hM8
      go_wp2
      go_loopw [8] (fun i wr => ∃ j : Nat, j ≤ M ∧ i = .int .i64 j ∧ wr = w2) (fun i _ => M - (intOf i).toNat)
      case atStart => exact ⟨0, Nat.zero_le _, rfl, rfl⟩
      case round =>
        obtain ⟨j, hj, rfl, rfl⟩ := hrel
        have z0 := CH2.out.cell0
        rw [hM.out] at z0
        by_cases hjl : j < M
        · have hjI : (j : Int) < (M : Int) := by omega
          obtain ⟨go, hgo, zo⟩ := CH2.out.owners (by rw [hM.out]; omega)
          rw [hgo] at z0
          have zom := zo j (by rw [hM.out]; exact hjl)
          rw [HCN.out j (by rw [hM.out]; exact hjl)] at zom
          clear zo hgo
          go_wp2
          go_roundw
          case rel => exact ⟨j + 1, by omega, by go_num, by first | rfl | trivial⟩
          case measure => simp [intOf]; omega
        · have e : j = M := by omega
          subst e
          clear hM
          go_wp2
          go_loopw [7, 9] (fun v i wr => ∃ (k : Nat) (s : RS) (d : WD) (P : Nat → Prop) (h : WH) (cb : Nat) (ao : Option Addr) (co : Nat) (vl : Value) (vs : List Value), k ≤ l.length ∧ v = .pointer (some ⟨cb, 0, none⟩) ∧ i = .int .i64 k ∧ KWS PK B wr wb kb P h d s ∧ s.next ≤ 16 + 33 * k ∧ d.steps = k ∧ CH B wr cb ao co vl s.owner (waitsTo s 1 s.owner.length) vs ∧ Apart wr wb P h B (CB cb ao vl vs) ∧ Below w0.heap.size w0 wr) (fun _ i _ => l.length + 1 - (intOf i).toNat)
          case atStart => exact ⟨0, R.new S, firstD S, P, h, cb, ao, co, vl, vs, Nat.zero_le _, rfl, rfl, K2.out, by omega, rfl, CH2.out, AP2.out, HB2.out⟩
          case round =>
            obtain ⟨k, s, d, P, h, cb, ao, co, vl, vs, hk, rfl, rfl, hks, hnk, hst, hch, hap, hbk⟩ := hrel
            have KK := hid hks
            have HBK := hid hbk
            have HST := hid hst
            have CHK := hid hch
            have AP := hid hap
            clear hks hbk hst hch hap z0
            by_cases hkl : k < l.length
            · obtain ⟨ab, aoff, ha, hab, hcell⟩ := HL0.out k hkl
              subst ha
              have hcell' : wr.cell? ⟨ab, aoff + k, none⟩ = some (.int .i64 l[k]) := (HBK.out.cell (p := ⟨ab, aoff + k, none⟩) hab).trans hcell
              have hkl2 : (k : Int) < (l.length : Int) := by omega
              have hen := entry_next s l[k] KK.out.i
              have ESD := hid (stepD_steps d s l[k])
              have ESET := hid (entry_set KK.out.i KK.out.x.toExt0 l[k])
              obtain ⟨_, tk, wt, _, ax⟩ := c.aux KK.out.k.pk
              have CP := hid (fun m hm => chains_pass (d := d) KK.out.i KK.out.x.toExt0 ax KK.out.snc l[k] m hm)
              have WS := hid (fun m hm => waiting_short KK.out.i m hm)
              have ELN := hid (entry_len KK.out.i KK.out.x.toExt0 l[k])
              have HOW := hid (fun m hm => (R.RInv.linksOk KK.out.i).own m hm)
              have hol : s.owner.length = s.set.mutexes.length := KK.out.i.good.own
              have hol8 : s.owner.length ≤ 8 := by have := KK.out.i.good.mfew; omega
              have HOL := hid hol
              have HOL8 := hid hol8
              clear ax hcell hol hol8
              generalize l[k] = x at *
              have ST := hid (wStepL_any c KK.out CH.frame AP.out CHK.out (by omega) (by rw [HST.out]; omega) (by rw [HST.out]; omega) x)
              go_wp2_with fail
              refine ST.out.mono ?_
              rintro e w4 ⟨rfl, ⟨P', h', k4, ap4, ch4⟩, hb4⟩
              have K4 := hid k4
              have AP4 := hid ap4
              have CH4 := hid ch4
              have HB4 := hid (HBK.out.trans (hb4.mono HBB.out))
              clear k4 ap4 ch4 hb4 hcell' ST KK AP CHK HBK
              go_wp2_with fail
              refine (wSeen_any c K4.out).mono ?_
              rintro e w5 ⟨cb5, ao5, co5, vl5, vs5, rfl, hch5, hb5⟩
              have K5 := hid (K4.out.below c.fr hb5)
              have CH5 := hid (CH4.out.below hb5)
              have NEW := hid hch5
              have HB5 := hid (via HB4.out HB4.out.size hb5)
              clear hch5 hb5 HB4 CH4
              have HOW5 := hid (fun m hm => (R.RInv.linksOk K5.out.i).own m hm)
              have HO8 : Hid ((R.entry s x).owner.length ≤ 8) := hid (by have := K5.out.i.good.own; have := K5.out.i.good.mfew; omega)
              have HOE : Hid ((R.entry s x).owner.length = s.owner.length) := hid (by have := K5.out.i.good.own; rw [ESET.out] at this; rw [this, HOL.out])
              obtain ⟨_, tk, wt, _, ax⟩ := c.aux K5.out.k.pk
              have OP := hid (fun t ht => open_ends K5.out.i ax t ht)
              clear ax
              go_wp2_with fail
              refine (wOpen_any c K5.out NEW.out HO8.out HOW5.out OP.out).mono ?_
              rintro e w6 ⟨rfl, hb6⟩
              have K6 := hid (K5.out.below c.fr hb6)
              have CH6 := hid (CH5.out.below hb6)
              have NEW6 := hid (NEW.out.below hb6)
              have HB6 := hid (via HB5.out HB5.out.size hb6)
              have hsz6 := hb6.size
              clear hb6 K5 CH5 HB5
              go_wp2_with fail
              refine (wTurned_any c K6.out CH6.out NEW6.out (by rw [ESET.out]; exact HOL.out) HOL8.out (by rw [ELN.out]; exact HOW.out) (waitsTo_length _ _ _) HOE.out (fun m hm => by rw [waitsTo_get s 1 _ m hm]; exact WS.out m hm) CP.out).mono ?_
              rintro e w7 ⟨rfl, hb7⟩
              have K7 := hid (K6.out.below c.fr hb7)
              have NEW7 := hid (NEW6.out.below hb7)
              have HB7 := hid (via HB6.out HB6.out.size hb7)
              have AP7 : Hid (Apart w7 wb P' h' B (CB cb5 ao5 vl5 vs5)) := hid (fun b hb => by
                have h1 := NEW7.out.bd b hb
                have h2 := K4.out.fresh c.fr h1.1
                exact ⟨h2.1, h1.2, h2.2⟩)
              have C7 := hid (NEW7.out.mono K4.out.k.m.bsz)
              clear hb7 K6 NEW6 HB6 NEW7
              go_wp2
              go_roundw
              case rel => exact ⟨k + 1, R.entry s x, stepD d s x, P', h', cb5, ao5, co5, vl5, vs5, by omega, rfl, by go_num, K7.out, by omega, by rw [ESD.out, HST.out]; omega, C7.out, AP7.out, HB7.out⟩
              case measure => simp [intOf]; omega
            · have e : k = l.length := by omega
              subst e
              go_wp2
              go_ret
              exact ⟨rfl, via HB0.out HB0.out.size HBK.out⟩
  · have hlI : (1099511627776 : Int) < (l.length : Int) := by omega
    go_wp2
    go_ret
    exact ⟨rfl, (Below.refl _ _).alloc (Nat.le_refl _) _⟩
end Go.Proofs.Ytbkfildnijjioab

/-
  Chains: the given statement out of the walk. (Written by wip/mkkeep.py.)
-/
namespace Go.Proofs.Ytbkfildnijjioab
open Go.ChangeShapes Go.WideShapes Go.ChangeAt Go.RowKit Go.Deep

set_option maxRecDepth 100000 in
theorem chains_lifted {PK : KP} (c : CAll PK) (cn : CNew PK (fun _ => True)) (os : Os) (started : os.Started) (H : Type) (enc : TypeId × Value → H) :
    ReturnsInHanded {} Try.checked os 4 .any (Rows.chainsSpec.pre6 enc Try.prog Try.f4 Rows.chainsRow.domain false) (Rows.chainsSpec.post enc Try.prog Try.f4 false true false false) := by
  refine returnsInHanded_of_change_sized (C := Try.checked) Try.own started (by kernel_rfl) Try.func4
    (ChangeSpec.witness6 (enc := enc) (C := Try.checked) false ⟨#[], #[.agg #[.int .i64 0, .int .i64 0, .slice none 0 0, .slice none 0 0, .slice none 0 0, .slice none 0 0], .slice none 0 0], []⟩ 8 (by kernel_rfl) (by kernel_rfl) (by kernel_rfl) (by kernel_rfl)) ?_
  intro W base args ds gs before hval0 hW _ hsz0 _
  have hval : ∀ (j : Nat) t v, Try.f4.params[j]? = some t → args[j]? = some v → Value.okWide Try.prog W .any base t v := hval0
  have hsz : (DataW.weightsEach Try.prog (Try.f4.params.toList ++ Rows.chainsSpec.plain.varTypes Try.prog) (ds ++ gs)).all (· ≤ reachBytes) = true := hsz0
  have hW' := hW
  obtain ⟨p, q, hA0, hV, rfl, hfz, hnd⟩ := hW
  have hA : DataW.TrodAll enc Try.prog W 0 (fun _ => true) true Try.f4.params.toList args.toList ds p := hA0
  rw [Try.params4] at hA hval hsz
  obtain ⟨v0, v1, d0, d1, p0, p1, rfl, rfl, rfl, h0, h1⟩ := trodAll_two hA
  obtain ⟨rfl, rfl⟩ := trodVars_none hV
  clear hA0 hval0 hsz0
  have hlight : Light d0 27 := by
    intro n hn
    have := List.all_eq_true.1 hsz n (DataW.weights_mem_each (j := 0) rfl rfl n hn)
    simpa using this
  have hlight1 : Light d1 25 := by
    intro n hn
    have := List.all_eq_true.1 hsz n (DataW.weights_mem_each (j := 1) rfl rfl n hn)
    simpa using this
  obtain ⟨S, tv, mv, sv, qv, tc, mc, sc, qc, hv, hin, hfit, hnil⟩ := open_set (hval 0 27 v0 rfl rfl) h0 hlight
  subst hv
  obtain ⟨av, ac, l, hv, hil, hll⟩ := open_script (hval 1 25 v1 rfl rfl) h1 hlight1
  subst hv
  unfold reachBytes at hll
  simp only [List.append_nil] at hW'
  refine (lawChains_any c cn tv mv sv qv av tc mc sc qc ac S l W hin hfit hnil hil (by omega)).mono fun e W' ⟨he, hb⟩ => ?_
  subst he
  refine ⟨_, rfl, _, _, _, [], p0 ++ p1, [], hW', ?_, ?_, rfl, hb.frame _, fun h => by cases h⟩
  · exact trodAll_mk1 (shut_bool Try.underlying4 _)
  · exact trodAll_mk2 (Below.trod Try.laidOut (by kernel_rfl) (of_decide_eq_true (by kernel_rfl)) h0 hb (fun x hx => hW'.lt x (by simp; exact .inl hx))) (Below.trod Try.laidOut (by kernel_rfl) (of_decide_eq_true (by kernel_rfl)) h1 hb (fun x hx => hW'.lt x (by simp; exact .inr hx)))

theorem chains_of {PK : KP} (c : CAll PK) (cn : CNew PK (fun _ => True)) : Rows.ChainsSaid :=
  OpenClaim.holds_of_wide 4 Try.f4 rfl rfl rfl rfl rfl rfl rfl ⟨rfl, rfl, rfl, rfl, rfl⟩ rfl rfl rfl rfl rfl (by kernel_rfl) Try.func4 (by kernel_rfl)
    (of_decide_eq_true (by kernel_rfl)) (by unfold Func.isWrapper; first | (rw [if_pos (by decide +kernel)]; kernel_rfl) | (rw [if_neg (by decide +kernel)]; exact ⟨rfl, rfl⟩))
    (fun os started H enc _ => chains_lifted c cn os started H enc)

end Go.Proofs.Ytbkfildnijjioab

/-
  Chains, of this program.
-/
namespace Go.Proofs.Ytbkfildnijjioab

theorem chains_holds : Rows.ChainsSaid := chains_of cAll cNew

end Go.Proofs.Ytbkfildnijjioab
