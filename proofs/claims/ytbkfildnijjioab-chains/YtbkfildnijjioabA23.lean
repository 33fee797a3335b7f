import Derived.Test.YtbkfildnijjioabA20
import Derived.Test.YtbkfildnijjioabA22
import Derived.Test.YtbkfildnijjioabA18
/-
  Tokens: the law's own function.
-/
namespace Go.Proofs.Ytbkfildnijjioab
open Go.RowKit
theorem entry_set {s : RS} (i : RInv s) (x : R.Ext0 s) (n : Int) : (R.entry s n).set = s.set := by
  rcases moved_cases (d := ⟨s.set, 0, [], [], [], [], [], [], [], 0, false, 0, ⟨0, 0, 0⟩, 0, []⟩) i x n with ⟨e, _⟩ | ⟨_, e, _⟩ | ⟨u, _, p, e, _⟩
  · rw [e]
  · rw [e]; exact (R.tick_rest s).2.2.2.2.1
  · rw [e]
    have hol : s.owner.length ≤ 8 := by have := i.good.own; have := i.good.mfew; omega
    exact (like_actS s u hol).set
theorem new_set (S : SetD) : (R.new S).set = S := by
  show (R.settle (R.release (R.bare S))).set = S
  exact R.releaseTo_set (R.bare S) _
set_option maxRecDepth 100000 in
set_option maxHeartbeats 8000000 in
theorem lawTokens_any {PK : KP} (c : CAll PK) (cn : CNew PK (fun _ => True)) (tv mv sv qv av : Option Addr) (tc mc sc qc ac : Nat) (S : SetD) (l : List Int) (w : World) (hS : SetIn w.heap.size w tv mv sv qv S) (hF : Fits S) (hnil : (tv = none → tc = 0) ∧ (mv = none → mc = 0) ∧ (sv = none → sc = 0) ∧ (qv = none → qc = 0)) (hl : IntsIn w.heap.size w av l) (hll : l.length ≤ 9223372036854775807) :
    Calls Try.prog 8 #[.agg #[.int .i64 S.workers, .int .i64 S.start, .slice tv S.threads.length tc, .slice mv S.mutexes.length mc, .slice sv S.sems.length sc, .slice qv S.queues.length qc], .slice av l.length ac] w fun e w' =>
      e = .returned (.bool true) ∧ Below w.heap.size w w' := by
  obtain ⟨i3, hi3, hz30, hz31, hz32⟩ := info_parts Try.infoInt
  have HI3 := hid (And.intro hi3 (And.intro hz30 (And.intro hz31 hz32)))
  clear hi3 hz30 hz31 hz32
  have HS := hid hS
  have HF := hid hF
  have HN := hid hnil
  have HL := hid hl
  clear hS hF hnil hl
  go_enter Try.func8, Try.ntmps8
  by_cases hlong : l.length ≤ 1099511627776
  · have hlI : (l.length : Int) ≤ 1099511627776 := by omega
    go_wp2_with fail
    have hb0 : Below w.heap.size w (w.alloc (.cells #[.int .i64 S.workers, .int .i64 S.start, .slice tv S.threads.length tc, .slice mv S.mutexes.length mc, .slice sv S.sems.length sc, .slice qv S.queues.length qc] 27)) := (Below.refl _ _).alloc (Nat.le_refl _) _
    have X0 := Blk.new w #[.int .i64 S.workers, .int .i64 S.start, .slice tv S.threads.length tc, .slice mv S.mutexes.length mc, .slice sv S.sems.length sc, .slice qv S.queues.length qc] 27
    generalize w.alloc (.cells #[.int .i64 S.workers, .int .i64 S.start, .slice tv S.threads.length tc, .slice mv S.mutexes.length mc, .slice sv S.sems.length sc, .slice qv S.queues.length qc] 27) = w0 at hb0 X0 ⊢
    have HX0 := hid X0
    have HB0 := hid hb0
    have HS0 := hid (HS.out.later hb0)
    have HL0 := hid (HL.out.on hb0)
    have HXL := hid X0.lt
    clear hb0 X0
    refine (wBeginS_any c cn tv mv sv qv tc mc sc qc S w0 HS0.out HF.out HN.out).mono ?_
    rintro e w1 ⟨hb1, hcase⟩
    have HB1 := hid hb1
    clear hb1
    rcases hcase with ⟨_, rfl⟩ | ⟨herr, hnx, B, wb, kb, P, h, hB, rfl, ks⟩
    · go_wp2
      go_ret
      exact ⟨rfl, via HB0.out HB0.out.size HB1.out⟩
    · have K1 := hid ks
      have HBB := hid hB
      have hs4 : S.sems.length ≤ 4 := by have := (ok_sizes (s := R.new S) (by rw [new_set]; exact herr)).1; rw [new_set] at this; exact this
      have hcl : (R.new S).count.length = S.sems.length := by rw [tok_new]; simp
      have HCN := hid (tok_new (S := S))
      have HSN := hid (new_set S)
      clear ks hB
      go_wp2
      go_loopw [7, 8] (fun v i wr => ∃ k : Nat, k ≤ S.sems.length ∧ i = .int .i64 k ∧ KWS PK B wr wb kb P h (firstD S) (R.new S) ∧ wr.ownsRow B 3 1 v k (intCells ((R.new S).count.take k)) ∧ Apart wr wb P h B (fun b => v.ownBlock = some b) ∧ Below w0.heap.size w0 wr) (fun _ i _ => S.sems.length - (intOf i).toNat)
      case atStart => exact ⟨0, Nat.zero_le _, rfl, K1.out, World.ownsRow_nil _ _ _ _, (fun b hb => by cases hb), HB1.out⟩
      case round =>
        obtain ⟨k, hk, rfl, hks, hrow, hap, hbk⟩ := hrel
        have KK := hid hks
        have ROW := hid hrow
        have AP := hid hap
        have HBK := hid hbk
        have HX := HX0.out.only (Only.of_below (L := []) hbk) (by simp)
        have x4 := HX.cell 4
        simp at x4
        clear hks hrow hap hbk HX K1 HB1
        by_cases hkl : k < S.sems.length
        · have hkI : (k : Int) < (S.sems.length : Int) := by omega
          obtain ⟨bm, om, ham, hbm, z0, _⟩ := HS0.out.sems k hkl
          have z0 := (HBK.out.cell (p := ⟨bm, om + k * 2, none⟩) hbm).trans z0
          rw [ham] at x4
          have ET : Hid ((R.new S).count.take (k + 1) = (R.new S).count.take k ++ [S.sems[k].x]) := by
            refine hid ?_
            rw [List.take_succ_eq_append_getElem (by rw [hcl]; exact hkl)]
            simp [HCN.out]
          have HLT : Hid (((R.new S).count.take k).length = k) := hid (by rw [List.length_take, hcl]; omega)
          generalize S.sems[k].x = fx at *
          have hbz := KK.out.k.m.bsz
          clear ham
          go_wp2_with (at_builtin; refine wpList_append_src_at rfl (.tmp 40) (.tmp 47) 25 rfl B 3 i3 (.int .i64 0) 1 8 Try.underlying25 HI3.out.1 HI3.out.2.1 HI3.out.2.2.1 HI3.out.2.2.2 rfl (by decide) u7 k (intCells ((R.new S).count.take k)) rfl (ROW.out.alloc _) (some ⟨wr.heap.size, 0, none⟩) 1 1 [.int .i64 fx] rfl rfl (fun h => (by cases h)) (fun j u hj => ⟨_, rfl, (by rw [Addr.add_lit, Nat.zero_add, (Blk.new wr #[.int .i64 fx] 3).cell]; simpa using hj)⟩) (by intro u hu; simp at hu; subst hu; rfl) (by unfold maxLen; omega) (by omega) (by simp; omega) ?_; intro v5 w5 hown5 hg5 hat5; have O5 := hid hown5; have G5 := hid hg5; have A5 := hid hat5; clear hown5 hg5 hat5)
          go_roundw
          case rel =>
            have hbA : Below wr.heap.size wr (wr.alloc (.cells #[.int .i64 fx] 3)) := (Below.refl _ _).alloc (Nat.le_refl _) _
            have kA := KK.out.below c.fr hbA
            have apA := AP.out.below hbA.size
            have AQ2 : ∀ g, u7.ownBlock = some g → B ≤ g ∧ ¬ P g ∧ ¬ WB wb h g := fun g hg => ⟨(apA g hg).1, (apA g hg).2.2⟩
            obtain ⟨k5, hb5⟩ := kA.grown c.fr G5.out AQ2
            have r5 : w5.ownsRow B 3 1 v5 (k + 1) (intCells ((R.new S).count.take (k + 1))) := by
              rw [ET.out]
              simpa [intCells] using O5.out
            refine ⟨k + 1, by omega, by go_num, k5, r5, fun b hb => ?_, (HBK.out.trans (hbA.mono HBK.out.size)).trans (hb5.mono HBB.out)⟩
            have hlt := (ownsRow_block r5 hb).2.1
            rcases A5.out with e | e
            · have hb' : v5.ownBlock = some b := hb
              rw [e] at hb'
              have := AQ2 b hb'
              exact ⟨this.1, hlt, this.2⟩
            · have hb' : v5.ownBlock = some b := hb
              rw [e] at hb'
              have e2 := Option.some.inj hb'
              have := kA.fresh c.fr (g := b) (by omega)
              exact ⟨this.1, hlt, this.2⟩
          case measure => simp [intOf]; omega
        · have e : k = S.sems.length := by omega
          subst e
          have hr0 := ROW.out
          rw [List.take_of_length_le (by omega)] at hr0
          have ROW0 := hid hr0
          obtain ⟨an, cn7, rfl, hnn, hna⟩ := owns_cells hr0
          clear hr0 ROW
          obtain ⟨m, hm⟩ : ∃ x, Hid (S.sems.length = x) := ⟨_, hid rfl⟩
          rw [hm.out] at ROW0 AP hs4 hcl x4 ⊢
          by_cases hm0 : m = 0
          · have HM0 := hid hm0
            clear hm0
            go_wp2
            go_loopw [9] (fun i wr => ∃ (k : Nat) (s : RS) (d : WD) (P : Nat → Prop) (h : WH), k ≤ l.length ∧ i = .int .i64 k ∧ KWS PK B wr wb kb P h d s ∧ s.next ≤ 16 + 33 * k ∧ d.steps = k ∧ s.set = S ∧ wr.ownsRow B 3 1 (.slice an m cn7) m (intCells s.count) ∧ Apart wr wb P h B (fun b => (Value.ownBlock (.slice an m cn7)) = some b) ∧ Below w0.heap.size w0 wr) (fun i _ => l.length + 1 - (intOf i).toNat)
            case atStart => exact ⟨0, R.new S, firstD S, P, h, Nat.zero_le _, rfl, KK.out, by omega, rfl, HSN.out, ROW0.out, AP.out, HBK.out⟩
            case round =>
              obtain ⟨k, s, d, P, h, hk, rfl, hks, hnk, hst, hset, hrow, hap, hbk⟩ := hrel
              have KK := hid hks
              have HBK := hid hbk
              have HST := hid hst
              have HSET := hid hset
              have ROW := hid hrow
              have AP := hid hap
              clear hks hbk hst hset hrow hap ROW0
              have hkI : (k : Int) ≤ (l.length : Int) := by omega
              have hcnt : s.count.length = m := by have := KK.out.i.bnd.cs; rw [this, HSET.out]; exact hm.out
              have hth : R.things s 2 = (m : Int) := by unfold R.things; rw [if_neg (by decide), if_pos rfl, hcnt]
              have LC := hid (wLines_any c KK.out 2 m (by decide) (by rw [hth]; exact Int.le_refl _) (by omega))
              clear hth
              go_wp2_with fail
              refine LC.out.mono ?_
              rintro e w2 ⟨vl, vs, rfl, hll2, hb2⟩
              have LL2 := hid hll2
              have K2 := hid (KK.out.below c.fr hb2)
              have AP2 := hid (AP.out.below hb2.size)
              have ROW2 := hid (wrow_keep ROW.out hb2)
              have HB2 := hid (via HBK.out HBK.out.size hb2)
              have NLT : Hid (∀ b, (Value.ownBlock (.slice an m cn7)) = some b → b < wr.heap.size) := hid (fun b hb => (ownsRow_block ROW.out hb).2.1)
              obtain ⟨al, cl, hvl, hal0, hal1⟩ := owns_cells hll2.row
              rw [waitsTo_length] at hvl hal0
              subst hvl
              have hszw := HBK.out.size
              clear hb2 hll2 LC
              clear hal0 hal1
              go_wp2
              go_loopw [12] (fun i wr => ∃ j : Nat, j ≤ m ∧ i = .int .i64 j ∧ Below w2.heap.size w2 wr) (fun i _ => m - (intOf i).toNat)
              case atStart => exact ⟨0, Nat.zero_le _, rfl, Below.refl _ _⟩
              case round =>
                obtain ⟨j, hj, rfl, hbj⟩ := hrel
                have KJ := hid (K2.out.below c.fr hbj)
                have HBJ := hid hbj
                have ROWJ := hid (wrow_keep ROW2.out hbj)
                have LLJ := hid (LL2.out.below hbj)
                have APJ := hid (AP2.out.below hbj.size)
                have HB0J := hid (via HB2.out HB2.out.size hbj)
                have hszj := hbj.size
                clear hbj
                by_cases hjl : j < m
                · exact absurd hjl (by have := HM0.out; omega)
                · have e : m = j := by omega
                  subst e
                  by_cases hkl : k < l.length
                  · obtain ⟨ab, aoff, ha, hab, hcell⟩ := HL0.out k hkl
                    subst ha
                    have hcell' : wr.cell? ⟨ab, aoff + k, none⟩ = some (.int .i64 l[k]) := (HB0J.out.cell (p := ⟨ab, aoff + k, none⟩) hab).trans hcell
                    have hkl2 : (k : Int) < (l.length : Int) := by omega
                    have hkne : ((k : Int) == (l.length : Int)) = false := by rw [beq_eq_false_iff_ne]; omega
                    have hen := entry_next s l[k] KJ.out.i
                    have ESD := hid (stepD_steps d s l[k])
                    have ESET := hid (entry_set KJ.out.i KJ.out.x.toExt0 l[k])
                    obtain ⟨_, tk, wt, _, ax⟩ := c.aux KJ.out.k.pk
                    have TS := hid (tok_step (d := d) KJ.out.i KJ.out.x.toExt0 ax KJ.out.snc l[k])
                    have ELN := hid (entry_len KJ.out.i KJ.out.x.toExt0 l[k])
                    generalize l[k] = x at *
                    clear ax
                    have FM : FrameM (fun b => (Value.ownBlock (.slice an m cn7)) = some b ∨ LB (.slice al m cl) vs b) (fun w' => w'.ownsRow B 3 1 (.slice an m cn7) m (intCells s.count) ∧ LL B w' (.slice al m cl) (waitsTo s 2 m) vs) := fun u v m hs hz => ⟨frame_row u v m.1 (fun b hb => hs b (.inl hb)) hz, LL.frame u v m.2 (fun b hb => hs b (.inr hb)) hz⟩
                    have APL : Apart wr wb P h B (fun b => (Value.ownBlock (.slice an m cn7)) = some b ∨ LB (.slice al m cl) vs b) := by
                      rintro b (hb | hb)
                      · exact APJ.out b hb
                      · have h1 := LL2.out.ge b hb
                        have h2 := KK.out.fresh c.fr h1.1
                        exact ⟨h2.1, by omega, h2.2⟩
                    have ST := hid (wStepL_any c KJ.out FM APL ⟨ROWJ.out, LLJ.out.mono KK.out.k.m.bsz⟩ (by omega) (by rw [HST.out]; omega) (by rw [HST.out]; omega) x)
                    clear FM APL
                    go_wp2_with fail
                    refine ST.out.mono ?_
                    rintro e w4 ⟨rfl, ⟨P', h', k4, ap4, row4, ll4⟩, hb4⟩
                    have K4 := hid k4
                    have AP4 := hid ap4
                    have ROW4 := hid row4
                    have LL4 := hid ll4
                    have HB4 := hid (HB0J.out.trans (hb4.mono HBB.out))
                    have hfew := K4.out.i.good.few
                    have hcnt2 : (R.entry s x).count.length = m := by have := K4.out.i.bnd.cs; rw [this, ESET.out, HSET.out]; exact hm.out
                    have HD : Hid (∀ b, (Value.ownBlock (.slice an m cn7)) = some b → ¬ LB (.slice al m cl) vs b) := hid (fun b hb hl => by
                      have h1 := NLT.out b hb
                      have h2 := (LL2.out.ge b hl).1
                      omega)
                    clear k4 ap4 row4 ll4 hb4 hcell' ST
                    go_wp2
                    go_loopw [15] (fun i wr => ∃ n : Nat, n ≤ m ∧ i = .int .i64 n ∧ KWS PK B wr wb kb P' h' (stepD d s x) (R.entry s x) ∧ wr.ownsRow B 3 1 (.slice an m cn7) m (intCells (mixL s.count (R.entry s x).count n)) ∧ LL B wr (.slice al m cl) (waitsTo s 2 m) vs ∧ w4.heap.size ≤ wr.heap.size ∧ Below w0.heap.size w0 wr) (fun i _ => m - (intOf i).toNat)
                    case atStart => exact ⟨0, Nat.zero_le _, rfl, K4.out, by rw [mixL_zero]; exact ROW4.out, LL4.out, Nat.le_refl _, HB4.out⟩
                    case round =>
                      obtain ⟨n, hn, rfl, hks, hrow, hll5, hsz5, hb5⟩ := hrel
                      have K5 := hid hks
                      have ROW5 := hid hrow
                      have LL5 := hid hll5
                      have HB5 := hid hb5
                      clear hks hrow hll5 hb5
                      by_cases hnl : n < m
                      · exact absurd hnl (by have := HM0.out; omega)
                      · have e : m = n := by omega
                        subst e
                        have r5 := ROW5.out
                        rw [← hcnt, mixL_full (by omega)] at r5
                        rw [hcnt] at r5
                        have R5 := hid r5
                        have AP5 : Hid (Apart wr wb P' h' B (fun b => (Value.ownBlock (.slice an m cn7)) = some b)) := hid (fun b hb => by have := AP4.out b (.inl hb); exact ⟨this.1, by omega, this.2.2⟩)
                        clear r5
                        go_wp2
                        go_roundw
                        case rel => exact ⟨k + 1, R.entry s x, stepD d s x, P', h', by omega, by go_num, K5.out, by omega, by rw [ESD.out, HST.out]; omega, by rw [ESET.out]; exact HSET.out, R5.out, AP5.out, HB5.out⟩
                        case measure => simp [intOf]; omega
                  · have e : k = l.length := by omega
                    subst e
                    go_wp2
                    go_ret
                    exact ⟨rfl, via HB0.out HB0.out.size HB0J.out⟩
          · have HM0 := hid hm0
            clear hm0
            cases an with
            | none => exact absurd (hnn rfl).1 (by rw [hm.out]; exact HM0.out)
            | some ad =>
            obtain ⟨gn, hgn0, _, _, _, _⟩ := hna ad rfl
            subst hgn0
            go_wp2
            go_loopw [9] (fun i wr => ∃ (k : Nat) (s : RS) (d : WD) (P : Nat → Prop) (h : WH), k ≤ l.length ∧ i = .int .i64 k ∧ KWS PK B wr wb kb P h d s ∧ s.next ≤ 16 + 33 * k ∧ d.steps = k ∧ s.set = S ∧ wr.ownsRow B 3 1 (.slice (some ⟨gn, 0, none⟩) m cn7) m (intCells s.count) ∧ Apart wr wb P h B (fun b => (Value.ownBlock (.slice (some ⟨gn, 0, none⟩) m cn7)) = some b) ∧ Below w0.heap.size w0 wr) (fun i _ => l.length + 1 - (intOf i).toNat)
            case atStart => exact ⟨0, R.new S, firstD S, P, h, Nat.zero_le _, rfl, KK.out, by omega, rfl, HSN.out, ROW0.out, AP.out, HBK.out⟩
            case round =>
              obtain ⟨k, s, d, P, h, hk, rfl, hks, hnk, hst, hset, hrow, hap, hbk⟩ := hrel
              have KK := hid hks
              have HBK := hid hbk
              have HST := hid hst
              have HSET := hid hset
              have ROW := hid hrow
              have AP := hid hap
              clear hks hbk hst hset hrow hap ROW0
              have hkI : (k : Int) ≤ (l.length : Int) := by omega
              have hcnt : s.count.length = m := by have := KK.out.i.bnd.cs; rw [this, HSET.out]; exact hm.out
              have hth : R.things s 2 = (m : Int) := by unfold R.things; rw [if_neg (by decide), if_pos rfl, hcnt]
              have LC := hid (wLines_any c KK.out 2 m (by decide) (by rw [hth]; exact Int.le_refl _) (by omega))
              clear hth
              go_wp2_with fail
              refine LC.out.mono ?_
              rintro e w2 ⟨vl, vs, rfl, hll2, hb2⟩
              have LL2 := hid hll2
              have K2 := hid (KK.out.below c.fr hb2)
              have AP2 := hid (AP.out.below hb2.size)
              have ROW2 := hid (wrow_keep ROW.out hb2)
              have HB2 := hid (via HBK.out HBK.out.size hb2)
              have NLT : Hid (∀ b, (Value.ownBlock (.slice (some ⟨gn, 0, none⟩) m cn7)) = some b → b < wr.heap.size) := hid (fun b hb => (ownsRow_block ROW.out hb).2.1)
              obtain ⟨al, cl, hvl, hal0, hal1⟩ := owns_cells hll2.row
              rw [waitsTo_length] at hvl hal0
              subst hvl
              have hszw := HBK.out.size
              clear hb2 hll2 LC
              cases al with
              | none => exact absurd (hal0 rfl).1 HM0.out
              | some ad =>
              obtain ⟨gl, hgl0, _, _, _, _⟩ := hal1 ad rfl
              subst hgl0
              clear hal0 hal1
              go_wp2
              go_loopw [12] (fun i wr => ∃ j : Nat, j ≤ m ∧ i = .int .i64 j ∧ Below w2.heap.size w2 wr) (fun i _ => m - (intOf i).toNat)
              case atStart => exact ⟨0, Nat.zero_le _, rfl, Below.refl _ _⟩
              case round =>
                obtain ⟨j, hj, rfl, hbj⟩ := hrel
                have KJ := hid (K2.out.below c.fr hbj)
                have HBJ := hid hbj
                have ROWJ := hid (wrow_keep ROW2.out hbj)
                have LLJ := hid (LL2.out.below hbj)
                have APJ := hid (AP2.out.below hbj.size)
                have HB0J := hid (via HB2.out HB2.out.size hbj)
                have hszj := hbj.size
                clear hbj
                by_cases hjl : j < m
                · have hjI : (j : Int) < (m : Int) := by omega
                  have hjc : j < s.count.length := by omega
                  have y6 := KJ.out.k.m.blk.cell 6
                  simp [wCells] at y6
                  have C1 := hid (c.cnt P wr kb s KJ.out.k.pk (j : Int))
                  have ev : R.countV s (j : Int) = s.count.getD j 0 := by unfold R.countV; rw [if_pos (by omega)]; rfl
                  have ee : R.countE s (j : Int) = 0 := by unfold R.countE; rw [if_pos (by omega)]
                  rw [ev, ee] at C1
                  have cb := KJ.out.i.bnd.cb j hjc
                  have egd : s.count.getD j 0 = s.count[j] := by simp [List.getD, hjc]
                  rw [← egd] at cb
                  obtain ⟨_, tk, wt, _, ax⟩ := c.aux KJ.out.k.pk
                  have DRY := hid (tok_dry (d := d) KJ.out.x.toExt0 ax KJ.out.snc j)
                  have hsm : (s.set.sems.getD j R.pair0).y = (S.sems[j]'(by rw [hm.out]; exact hjl)).y := by rw [HSET.out]; simp [List.getD, hm.out, hjl]
                  rw [hsm] at cb
                  clear ev ee egd ax hsm
                  obtain ⟨cc, hcc⟩ : ∃ x, Hid (s.count.getD j 0 = x) := ⟨_, hid rfl⟩
                  rw [hcc.out] at C1 cb DRY
                  go_wp2_with fail
                  refine C1.out.mono ?_
                  rintro e w3 ⟨rfl, hb3⟩
                  have HB3 := hid (via HBJ.out HBJ.out.size hb3)
                  have ROW3 := hid (wrow_keep ROWJ.out hb3)
                  have LL3 := hid (LLJ.out.below hb3)
                  have HB03 := hid (via HB0J.out HB0J.out.size hb3)
                  clear hb3 C1 y6
                  have znj := wrow_get ROW3.out hcnt hjl
                  rw [hcc.out] at znj
                  have HX := HX0.out.only (Only.of_below (L := []) HB03.out) (by simp)
                  have x4 := HX.cell 4
                  simp at x4
                  rw [hm.out] at x4
                  obtain ⟨bm, om, ham, hbm, _, z1⟩ := HS0.out.sems j (by rw [hm.out]; exact hjl)
                  have z1 := (HB03.out.cell (p := ⟨bm, om + j * 2 + 1, none⟩) hbm).trans z1
                  rw [ham] at x4
                  generalize (S.sems[j]'(by rw [hm.out]; exact hjl)).y = my at *
                  obtain ⟨aj, cj, zlj⟩ := LL3.out.at j (by rw [waitsTo_length]; exact hjl)
                  rw [waitsTo_get s 2 m j hjl] at zlj
                  have hne : (cc != cc) = false := by simp
                  have g1 : decide (cc < 0) = false := by rw [decide_eq_false_iff_not]; omega
                  have g2 : decide (my < cc) = false := by rw [decide_eq_false_iff_not]; omega
                  obtain ⟨ln, hln⟩ : ∃ x, Hid ((R.waiting s 2 (j : Int)).length = x) := ⟨_, hid rfl⟩
                  rw [hln.out] at zlj DRY
                  clear HX ham
                  by_cases hpos : 0 < cc
                  · have hl0 := DRY.out hpos
                    subst hl0
                    go_wp2
                    go_roundw
                    case rel => exact ⟨j + 1, by omega, by go_num, HB3.out⟩
                    case measure => simp [intOf]; omega
                  · have hpos' : decide (0 < cc) = false := by simpa using hpos
                    clear hpos
                    go_wp2
                    go_roundw
                    case rel => exact ⟨j + 1, by omega, by go_num, HB3.out⟩
                    case measure => simp [intOf]; omega
                · have e : m = j := by omega
                  subst e
                  by_cases hkl : k < l.length
                  · obtain ⟨ab, aoff, ha, hab, hcell⟩ := HL0.out k hkl
                    subst ha
                    have hcell' : wr.cell? ⟨ab, aoff + k, none⟩ = some (.int .i64 l[k]) := (HB0J.out.cell (p := ⟨ab, aoff + k, none⟩) hab).trans hcell
                    have hkl2 : (k : Int) < (l.length : Int) := by omega
                    have hkne : ((k : Int) == (l.length : Int)) = false := by rw [beq_eq_false_iff_ne]; omega
                    have hen := entry_next s l[k] KJ.out.i
                    have ESD := hid (stepD_steps d s l[k])
                    have ESET := hid (entry_set KJ.out.i KJ.out.x.toExt0 l[k])
                    obtain ⟨_, tk, wt, _, ax⟩ := c.aux KJ.out.k.pk
                    have TS := hid (tok_step (d := d) KJ.out.i KJ.out.x.toExt0 ax KJ.out.snc l[k])
                    have ELN := hid (entry_len KJ.out.i KJ.out.x.toExt0 l[k])
                    generalize l[k] = x at *
                    clear ax
                    have FM : FrameM (fun b => (Value.ownBlock (.slice (some ⟨gn, 0, none⟩) m cn7)) = some b ∨ LB (.slice (some ⟨gl, 0, none⟩) m cl) vs b) (fun w' => w'.ownsRow B 3 1 (.slice (some ⟨gn, 0, none⟩) m cn7) m (intCells s.count) ∧ LL B w' (.slice (some ⟨gl, 0, none⟩) m cl) (waitsTo s 2 m) vs) := fun u v m hs hz => ⟨frame_row u v m.1 (fun b hb => hs b (.inl hb)) hz, LL.frame u v m.2 (fun b hb => hs b (.inr hb)) hz⟩
                    have APL : Apart wr wb P h B (fun b => (Value.ownBlock (.slice (some ⟨gn, 0, none⟩) m cn7)) = some b ∨ LB (.slice (some ⟨gl, 0, none⟩) m cl) vs b) := by
                      rintro b (hb | hb)
                      · exact APJ.out b hb
                      · have h1 := LL2.out.ge b hb
                        have h2 := KK.out.fresh c.fr h1.1
                        exact ⟨h2.1, by omega, h2.2⟩
                    have ST := hid (wStepL_any c KJ.out FM APL ⟨ROWJ.out, LLJ.out.mono KK.out.k.m.bsz⟩ (by omega) (by rw [HST.out]; omega) (by rw [HST.out]; omega) x)
                    clear FM APL
                    go_wp2_with fail
                    refine ST.out.mono ?_
                    rintro e w4 ⟨rfl, ⟨P', h', k4, ap4, row4, ll4⟩, hb4⟩
                    have K4 := hid k4
                    have AP4 := hid ap4
                    have ROW4 := hid row4
                    have LL4 := hid ll4
                    have HB4 := hid (HB0J.out.trans (hb4.mono HBB.out))
                    have hfew := K4.out.i.good.few
                    have hcnt2 : (R.entry s x).count.length = m := by have := K4.out.i.bnd.cs; rw [this, ESET.out, HSET.out]; exact hm.out
                    have HD : Hid (∀ b, (Value.ownBlock (.slice (some ⟨gn, 0, none⟩) m cn7)) = some b → ¬ LB (.slice (some ⟨gl, 0, none⟩) m cl) vs b) := hid (fun b hb hl => by
                      have h1 := NLT.out b hb
                      have h2 := (LL2.out.ge b hl).1
                      omega)
                    clear k4 ap4 row4 ll4 hb4 hcell' ST
                    go_wp2
                    go_loopw [15] (fun i wr => ∃ n : Nat, n ≤ m ∧ i = .int .i64 n ∧ KWS PK B wr wb kb P' h' (stepD d s x) (R.entry s x) ∧ wr.ownsRow B 3 1 (.slice (some ⟨gn, 0, none⟩) m cn7) m (intCells (mixL s.count (R.entry s x).count n)) ∧ LL B wr (.slice (some ⟨gl, 0, none⟩) m cl) (waitsTo s 2 m) vs ∧ w4.heap.size ≤ wr.heap.size ∧ Below w0.heap.size w0 wr) (fun i _ => m - (intOf i).toNat)
                    case atStart => exact ⟨0, Nat.zero_le _, rfl, K4.out, by rw [mixL_zero]; exact ROW4.out, LL4.out, Nat.le_refl _, HB4.out⟩
                    case round =>
                      obtain ⟨n, hn, rfl, hks, hrow, hll5, hsz5, hb5⟩ := hrel
                      have K5 := hid hks
                      have ROW5 := hid hrow
                      have LL5 := hid hll5
                      have HB5 := hid hb5
                      clear hks hrow hll5 hb5
                      by_cases hnl : n < m
                      · have hnI : (n : Int) < (m : Int) := by omega
                        have hnc : n < s.count.length := by omega
                        have hml : (mixL s.count (R.entry s x).count n).length = m := by rw [mixL_length (by omega) (by omega)]; exact hcnt
                        have zn := wrow_get ROW5.out hml hnl
                        have fn := ROW5.out.frozenAt n
                        have emg : (mixL s.count (R.entry s x).count n).getD n 0 = s.count.getD n 0 := by rw [List.getD_eq_getElem?_getD, mixL_get (by omega) hnc, ← List.getD_eq_getElem?_getD]
                        rw [emg] at zn
                        obtain ⟨aj, cj, zlj⟩ := LL5.out.at n (by rw [waitsTo_length]; exact hnl)
                        have hlj := LL5.out.at_row zlj
                        have egn := waitsTo_get s 2 m n hnl
                        rw [egn] at zlj hlj
                        have tp := TS.out n hnc
                        have cb := KJ.out.i.bnd.cb n hnc
                        have egd : s.count.getD n 0 = s.count[n] := by simp [List.getD, hnc]
                        rw [← egd] at cb
                        have os := ok_sem (s := s) KJ.out.i.ok n (by rw [HSET.out, hm.out]; exact hnl)
                        have EMS := hid (mixL_set (old := s.count) (new := (R.entry s x).count) (j := n) (by omega) hnc)
                        have enw : (R.entry s x).count[n]'(by omega) = (R.entry s x).count.getD n 0 := by simp [List.getD, show n < (R.entry s x).count.length by omega]
                        rw [enw] at EMS
                        have hset5 : (R.entry s x).set.sems.length = m := by rw [ESET.out, HSET.out]; exact hm.out
                        have esy : (s.set.sems.getD n R.pair0).y = ((R.entry s x).set.sems.getD n R.pair0).y := by rw [ESET.out]
                        have hwl := waitL_len s 2 (n : Int) KJ.out.i.good.few
                        have ewl : (R.waiting s 2 (n : Int)).length ≤ 17 := by
                          have e5 : R.waitL s 2 (n : Int) = R.waiting s 2 (n : Int) := by
                            unfold R.waitL
                            rw [if_neg]
                            unfold R.things
                            rw [if_neg (by decide), if_pos rfl, hcnt]
                            omega
                          rw [e5] at hwl
                          exact hwl
                        rw [esy, ← ELN.out] at tp
                        obtain ⟨L, hL⟩ : ∃ x, Hid (R.waiting s 2 (n : Int) = x) := ⟨_, hid rfl⟩
                        rw [hL.out] at tp hlj zlj ewl
                        obtain ⟨n1, hn1⟩ : ∃ y, Hid ((R.entry s x).count.getD n 0 = y) := ⟨_, hid rfl⟩
                        obtain ⟨n0, hn0⟩ : ∃ y, Hid (s.count.getD n 0 = y) := ⟨_, hid rfl⟩
                        rw [hn1.out, hn0.out] at tp
                        rw [hn1.out] at EMS
                        rw [hn0.out] at zn cb
                        have TK := hid (fun (wx : World) (kx : KWS PK B wx wb kb P' h' (stepD d s x) (R.entry s x)) (hx : wx.ownsRow B 3 1 (.slice aj L.length cj) L.length (intCells L)) => wTokens_any c kx n (by rw [hset5]; exact hnl) n0 n1 (by omega) (by omega) B aj cj L hx (by omega) tp)
                        have RL := hid hlj
                        have KD : Hid (KWS PK B wr.drew wb kb P' h' (stepD d s x) (R.entry s x)) := hid (K5.out.below c.fr (Below.refl _ _).drew)
                        have hgn := (ownsRow_block ROW5.out (g := gn) rfl).2.1
                        have hgl := (ownsRow_block LL5.out.row (g := gl) rfl).2.1
                        clear emg egn cb egd os enw hset5 esy hwl tp hlj
                        go_wp2_with fail
                        go_region_held3 (fun w' => w'.cell? ⟨gn, n, none⟩ = some (.int .i64 n0) ∧ w'.cell? ⟨gl, n, none⟩ = some (.slice aj L.length cj)) (go_keep)
                          (first
                            | (go_at_call 26; refine (TK.out _ KD.out RL.out).mono ?_; rintro e w6 ⟨rfl, hb6⟩; have k0 : w6.cell? ⟨gn, n, none⟩ = some (.int .i64 n0) := (hb6.cell (p := ⟨gn, n, none⟩) hgn).trans zn; have k1 : w6.cell? ⟨gl, n, none⟩ = some (.slice aj L.length cj) := (hb6.cell (p := ⟨gl, n, none⟩) hgl).trans zlj; have HB6 := hid hb6; clear hb6))
                        have hb6 : Below wr.heap.size wr w6 := via (Below.refl _ _).drew (Nat.le_refl _) HB6.out
                        have K6 := hid (K5.out.below c.fr hb6)
                        have ROW6 := hid (wrow_keep ROW5.out hb6)
                        have LL6 := hid (LL5.out.below hb6)
                        have HB06 := hid (via HB5.out HB5.out.size hb6)
                        have hsz6 := hb6.size
                        have f6 := ROW6.out.frozenAt n
                        have AN := hid (AP4.out gn (.inl rfl))
                        obtain ⟨k7, hb7⟩ := K6.out.put c.fr ⟨gn, n, none⟩ (.int .i64 n1) ⟨AN.out.1, AN.out.2.2⟩
                        have K7 := hid k7
                        have ROW7 := hid (wrow_set ROW6.out n n1)
                        have LL7 := hid (LL6.out.put (p := ⟨gn, n, none⟩) (.int .i64 n1) (HD.out gn rfl))
                        have HB07 := hid (HB06.out.trans (hb7.mono HBB.out))
                        rw [EMS.out] at ROW7
                        clear k7 hb7 hb6 zn zlj fn
                        go_wp2
                        go_roundw
                        case rel => exact ⟨n + 1, by omega, by go_num, K7.out, ROW7.out, LL7.out, by simp [World.setCell]; omega, HB07.out⟩
                        case measure => simp [intOf]; omega
                      · have e : m = n := by omega
                        subst e
                        have r5 := ROW5.out
                        rw [← hcnt, mixL_full (by omega)] at r5
                        rw [hcnt] at r5
                        have R5 := hid r5
                        have AP5 : Hid (Apart wr wb P' h' B (fun b => (Value.ownBlock (.slice (some ⟨gn, 0, none⟩) m cn7)) = some b)) := hid (fun b hb => by have := AP4.out b (.inl hb); exact ⟨this.1, by omega, this.2.2⟩)
                        clear r5
                        go_wp2
                        go_roundw
                        case rel => exact ⟨k + 1, R.entry s x, stepD d s x, P', h', by omega, by go_num, K5.out, by omega, by rw [ESD.out, HST.out]; omega, by rw [ESET.out]; exact HSET.out, R5.out, AP5.out, HB5.out⟩
                        case measure => simp [intOf]; omega
                  · have e : k = l.length := by omega
                    subst e
                    go_wp2
                    go_ret
                    exact ⟨rfl, via HB0.out HB0.out.size HB0J.out⟩
  · have hlI : (1099511627776 : Int) < (l.length : Int) := by omega
    go_wp2
    go_ret
    exact ⟨rfl, (Below.refl _ _).alloc (Nat.le_refl _) _⟩
end Go.Proofs.Ytbkfildnijjioab

/-
  Who is given the mutexes of a thread whose job ends: those who were first ahead of it (P12, P13).
-/
namespace Go.Proofs.Ytbkfildnijjioab
namespace R
/-- A mutex was given up: what has not changed for those who wait on. -/
structure Gave (s s' : RS) (m : Nat) : Prop where
  set : s'.set = s.set
  len : s'.T.length = s.T.length
  olen : s'.owner.length = s.owner.length
  base : ∀ u, (R.th s'.T u).base = (R.th s.T u).base
  same : ∀ u, (R.th s'.T u).for_ ≠ 0 → (R.th s'.T u).for_ = (R.th s.T u).for_ ∧ (R.th s'.T u).of_ = (R.th s.T u).of_ ∧ (R.th s'.T u).since = (R.th s.T u).since
  oth : ∀ u, (R.th s.T u).for_ = 1 → (R.th s.T u).of_ ≠ (m : Int) → (R.th s'.T u).for_ = 1 ∧ (R.th s'.T u).of_ = (R.th s.T u).of_
  own : ∀ j, j ≠ m → s'.owner.getD j 0 = s.owner.getD j 0
  old : ∀ u : Nat, (R.th s'.T u).for_ ≠ 0 → s.owner.getD m 0 ≠ (u : Int)
  new : ∀ u : Nat, (R.th s'.T u).for_ ≠ 0 → s'.owner.getD m 0 ≠ (u : Int)
section
variable {s s' : RS} {m : Nat}
theorem Gave.inner (g : Gave s s' m) {f f' : Nat → Int} (hf : ∀ u, (R.th s'.T u).for_ ≠ 0 → f' u = f u) (j : Nat) (hj : j ≠ m) (v : Int) (k : Nat) : innerTo s'.T f' j v k = innerTo s.T f j v k := by
  induction k with
  | zero => rfl
  | succ k ih =>
    unfold innerTo
    by_cases h : (R.th s.T k).for_ = 1 ∧ (R.th s.T k).of_ = (j : Int)
    · have h2 := g.oth k h.1 (by rw [h.2]; omega)
      rw [if_pos h, if_pos ⟨h2.1, h2.2.trans h.2⟩, ih, hf k (by rw [h2.1]; decide)]
    · have h2 : ¬ ((R.th s'.T k).for_ = 1 ∧ (R.th s'.T k).of_ = (j : Int)) := by
        rintro ⟨a, b⟩
        have := g.same k (by rw [a]; decide)
        exact h ⟨this.1.symm.trans a, this.2.1.symm.trans b⟩
      rw [if_neg h, if_neg h2, ih]
theorem Gave.outer (g : Gave s s' m) {f f' : Nat → Int} (hf : ∀ u, (R.th s'.T u).for_ ≠ 0 → f' u = f u) (pos : Bool) (u : Nat) (hu : (R.th s'.T u).for_ ≠ 0) (k : Nat) : outerTo s' f' pos u k = outerTo s f pos u k := by
  induction k with
  | zero => exact g.base u
  | succ k ih =>
    unfold outerTo
    by_cases hk : k = m
    · subst hk
      rw [if_pos (g.new u hu), if_pos (g.old u hu), ih]
    · rw [g.own k hk, g.set, ih, g.len]
      split
      · rfl
      · split
        · rfl
        · split
          · exact g.inner hf k hk _ _
          · rfl
theorem Gave.level (g : Gave s s' m) (d : Nat) : ∀ u, (R.th s'.T u).for_ ≠ 0 → level s' d u = level s d u := by
  induction d with
  | zero =>
    intro u hu
    unfold R.level
    rw [g.olen]
    exact g.outer (fun _ _ => rfl) false u hu _
  | succ d ih =>
    intro u hu
    unfold R.level
    rw [g.olen]
    exact g.outer ih true u hu _
theorem Gave.Level (g : Gave s s' m) (u : Nat) (hu : (R.th s'.T u).for_ ≠ 0) : R.Level s' u = R.Level s u := by
  unfold R.Level
  rw [g.len]
  exact g.level _ u hu
theorem firstTo_spec' (s : RS) (what of_ : Int) (k : Nat) (h : 0 ≤ firstTo s what of_ [] k) : (R.th s.T (firstTo s what of_ [] k).toNat).for_ = what ∧ (R.th s.T (firstTo s what of_ [] k).toNat).of_ = of_ := by
  induction k with
  | zero => simp [firstTo] at h
  | succ k ih =>
    unfold firstTo at h ⊢
    by_cases h1 : (R.th s.T k).for_ ≠ what ∨ (R.th s.T k).of_ ≠ of_
    · rw [if_pos h1] at h ⊢
      exact ih h
    · have h2 : (R.th s.T k).for_ = what ∧ (R.th s.T k).of_ = of_ := ⟨Classical.not_not.1 fun e => h1 (.inl e), Classical.not_not.1 fun e => h1 (.inr e)⟩
      rw [if_neg h1] at h ⊢
      have h3 : namedTo ([] : List Int) (k : Int) ([] : List Int).length = false := rfl
      rw [if_neg (by rw [h3]; decide)] at h ⊢
      by_cases h4 : firstTo s what of_ [] k < 0
      · rw [if_pos h4] at h ⊢
        exact h2
      · rw [if_neg h4] at h ⊢
        split
        · exact h2
        · exact ih (by omega)
theorem Gave.firstTo (g : Gave s s' m) (j : Nat) (hj : j ≠ m) (k : Nat) : R.firstTo s' 1 (j : Int) [] k = R.firstTo s 1 (j : Int) [] k := by
  induction k with
  | zero => rfl
  | succ k ih =>
    have hiff : ((R.th s'.T k).for_ ≠ 1 ∨ (R.th s'.T k).of_ ≠ (j : Int)) ↔ ((R.th s.T k).for_ ≠ 1 ∨ (R.th s.T k).of_ ≠ (j : Int)) := by
      constructor
      · intro h
        by_cases h2 : (R.th s.T k).for_ = 1 ∧ (R.th s.T k).of_ = (j : Int)
        · have h3 := g.oth k h2.1 (by rw [h2.2]; omega)
          rcases h with h | h
          · exact absurd h3.1 h
          · exact absurd (h3.2.trans h2.2) h
        · by_cases h4 : (R.th s.T k).for_ = 1
          · exact .inr (fun e => h2 ⟨h4, e⟩)
          · exact .inl h4
      · intro h
        by_cases h2 : (R.th s'.T k).for_ = 1 ∧ (R.th s'.T k).of_ = (j : Int)
        · have h3 := g.same k (by rw [h2.1]; decide)
          rcases h with h | h
          · exact absurd (h3.1.symm.trans h2.1) h
          · exact absurd (h3.2.1.symm.trans h2.2) h
        · by_cases h4 : (R.th s'.T k).for_ = 1
          · exact .inr (fun e => h2 ⟨h4, e⟩)
          · exact .inl h4
    unfold R.firstTo
    rw [ih]
    by_cases h1 : (R.th s.T k).for_ ≠ 1 ∨ (R.th s.T k).of_ ≠ (j : Int)
    · rw [if_pos h1, if_pos (hiff.2 h1)]
    · rw [if_neg h1, if_neg (fun e => h1 (hiff.1 e))]
      have h3 : namedTo ([] : List Int) (k : Int) ([] : List Int).length = false := rfl
      have h3' : ¬ (namedTo ([] : List Int) (k : Int) ([] : List Int).length = true) := by rw [h3]; decide
      simp only [if_neg h3']
      by_cases h4 : R.firstTo s 1 (j : Int) [] k < 0
      · rw [if_pos h4, if_pos h4]
      · rw [if_neg h4, if_neg h4]
        have hw : (R.th s.T k).for_ = 1 ∧ (R.th s.T k).of_ = (j : Int) := ⟨Classical.not_not.1 fun e => h1 (.inl e), Classical.not_not.1 fun e => h1 (.inr e)⟩
        have hk' := g.oth k hw.1 (by rw [hw.2]; omega)
        have hb := firstTo_spec' s 1 (j : Int) k (by omega)
        have hb' := g.oth _ hb.1 (by rw [hb.2]; omega)
        have e1 := g.Level k (by rw [hk'.1]; decide)
        have e2 := g.Level _ (show (R.th s'.T (R.firstTo s 1 (j : Int) [] k).toNat).for_ ≠ 0 by rw [hb'.1]; decide)
        have e3 := (g.same k (by rw [hk'.1]; decide)).2.2
        have e4 := (g.same _ (show (R.th s'.T (R.firstTo s 1 (j : Int) [] k).toNat).for_ ≠ 0 by rw [hb'.1]; decide)).2.2
        unfold goesFirst
        rw [e1, e2, e3, e4]
theorem Gave.giveT (g : Gave s s' m) (j : Nat) (hj : j ≠ m) : R.giveT s' 1 (j : Int) = R.giveT s 1 (j : Int) := by
  unfold R.giveT R.first
  rw [g.len]
  exact g.firstTo j hj _
theorem gave_unlock (s : RS) (t m : Nat) (hm : m < s.owner.length) (hf : (R.th s.T t).for_ = 0) (ho : s.owner.getD m 0 = (t : Int)) : Gave s (unlockS s t m) m := by
  have mv := moved_giveS (F := fun a b => a = 1 ∧ b = (m : Int)) (X := fun _ => False) (s := s) 1 (m : Int) (by decide) ⟨rfl, rfl⟩
  have e : unlockS s t m = { giveS s 1 (m : Int) with owner := s.owner.set m (R.giveT s 1 (m : Int)) } := by unfold unlockS; rw [if_pos ho]
  have eT : (unlockS s t m).T = (giveS s 1 (m : Int)).T := by rw [e]
  have eo : (unlockS s t m).owner = s.owner.set m (R.giveT s 1 (m : Int)) := by rw [e]
  refine ⟨?_, by rw [eT]; exact mv.len, by rw [eo]; simp, fun u => ?_, fun u hu => ?_, fun u h1 h2 => ?_, fun j hj => ?_, fun u hu => ?_, fun u hu => ?_⟩
  · rw [e]
    unfold giveS
    split <;> rfl
  · exact ((cols_unlockS s t m).th u).1
  · rw [eT] at hu ⊢
    rcases mv.th u id with ⟨h, _⟩ | ⟨_, h⟩
    · exact ⟨h.for_, h.of_, h.since⟩
    · exact absurd h.for_ hu
  · rw [eT]
    rcases mv.th u id with ⟨h, _⟩ | ⟨h, _⟩
    · exact ⟨h.for_.trans h1, h.of_⟩
    · exact absurd h.2 h2
  · rw [eo]
    exact getD_set_ne _ _ _ _ (fun e => hj e.symm)
  · rw [ho]
    intro e2
    have e3 : u = t := by omega
    subst e3
    rw [eT] at hu
    rcases mv.th u id with ⟨h, _⟩ | ⟨h, _⟩
    · exact hu (h.for_.trans hf)
    · rw [hf] at h; exact absurd h.1 (by decide)
  · rw [eo]
    intro e2
    have e3 : R.giveT s 1 (m : Int) = (u : Int) := by
      rw [← e2]
      simp [List.getD, hm]
    rw [eT] at hu
    apply hu
    have h1 := giveT_spec s 1 (m : Int) (by omega)
    have e4 : (R.giveT s 1 (m : Int)).toNat = u := by omega
    rw [e4] at h1
    unfold giveS
    rw [if_pos (by omega), e4, Ln.endW_th _ h1.1, if_pos rfl]
theorem alike_stop0 (s : RS) (t : Nat) : Alike s (stop0 s t) := by
  refine ⟨rfl, rfl, by simp [stop0], fun u => ?_⟩
  have e : R.th (stop0 s t).T u = if u = t ∧ t < s.T.length then { R.th s.T u with ended := (R.th s.T u).ended + 1, at_ := 0, last := 0 } else R.th s.T u := Ln.th_modify _ _ _ _
  rw [e]
  split <;> exact ⟨rfl, rfl, rfl, rfl⟩
/-- The heirs of all that a thread owned. -/
theorem heirs (s : RS) (t : Nat) (hf : (R.th s.T t).for_ = 0) (k : Nat) (hk : k ≤ s.owner.length) :
    (R.th (unlocksTo (stop0 s t) t k).T t).for_ = 0 ∧ (unlocksTo (stop0 s t) t k).owner.length = s.owner.length ∧ (∀ j, k ≤ j → j < s.owner.length → (unlocksTo (stop0 s t) t k).owner.getD j 0 = s.owner.getD j 0 ∧ R.giveT (unlocksTo (stop0 s t) t k) 1 (j : Int) = R.giveT s 1 (j : Int)) ∧
    (∀ j, j < k → (unlocksTo (stop0 s t) t k).owner.getD j 0 = if s.owner.getD j 0 = (t : Int) then R.giveT s 1 (j : Int) else s.owner.getD j 0) := by
  induction k with
  | zero =>
    refine ⟨((alike_stop0 s t).th t).2.1.trans hf, rfl, fun j _ _ => ⟨rfl, (alike_stop0 s t).giveT 1 (j : Int)⟩, fun j hj => by omega⟩
  | succ k ih =>
    obtain ⟨h1, h2, h3, h4⟩ := ih (by omega)
    have hkl : k < (unlocksTo (stop0 s t) t k).owner.length := by omega
    obtain ⟨o1, g1⟩ := h3 k (Nat.le_refl _) (by omega)
    show (R.th (unlockS (unlocksTo (stop0 s t) t k) t k).T t).for_ = 0 ∧ _
    by_cases ho : (unlocksTo (stop0 s t) t k).owner.getD k 0 = (t : Int)
    · have g := gave_unlock (unlocksTo (stop0 s t) t k) t k hkl h1 ho
      have hset : (unlockS (unlocksTo (stop0 s t) t k) t k).owner = (unlocksTo (stop0 s t) t k).owner.set k (R.giveT (unlocksTo (stop0 s t) t k) 1 (k : Int)) := by unfold unlockS; rw [if_pos ho]
      refine ⟨Classical.byContradiction fun hc => ?_, g.olen.trans h2, fun j hj hjl => ?_, fun j hj => ?_⟩
      · have := (g.same t hc).1
        rw [h1] at this
        exact hc this
      · show (unlockS (unlocksTo (stop0 s t) t k) t k).owner.getD j 0 = _ ∧ R.giveT (unlockS (unlocksTo (stop0 s t) t k) t k) 1 (j : Int) = _
        obtain ⟨a, b⟩ := h3 j (by omega) hjl
        exact ⟨(g.own j (by omega)).trans a, (g.giveT j (by omega)).trans b⟩
      · show (unlockS (unlocksTo (stop0 s t) t k) t k).owner.getD j 0 = _
        by_cases e : j = k
        · subst e
          rw [← o1, if_pos ho, hset, ← g1]
          simp [List.getD, hkl]
        · rw [g.own j e]
          exact h4 j (by omega)
    · have e : unlockS (unlocksTo (stop0 s t) t k) t k = unlocksTo (stop0 s t) t k := by unfold unlockS; rw [if_neg ho]
      refine ⟨by rw [e]; exact h1, ?_, fun j hj hjl => ?_, fun j hj => ?_⟩
      · show (unlockS (unlocksTo (stop0 s t) t k) t k).owner.length = _
        rw [e]; exact h2
      · show (unlockS (unlocksTo (stop0 s t) t k) t k).owner.getD j 0 = _ ∧ R.giveT (unlockS (unlocksTo (stop0 s t) t k) t k) 1 (j : Int) = _
        rw [e]; exact h3 j (by omega) hjl
      · show (unlockS (unlocksTo (stop0 s t) t k) t k).owner.getD j 0 = _
        rw [e]
        by_cases e2 : j = k
        · subst e2
          rw [o1] at ho ⊢
          rw [if_neg ho]
        · exact h4 j (by omega)
end
end R
end Go.Proofs.Ytbkfildnijjioab

/-
  Chains: owners and ways behind a step, in plain words (P12, P13).
-/
namespace Go.Proofs.Ytbkfildnijjioab
/-- The owner of what a thread waits for, by a list of owners. -/
def onwd (own : List Int) (s : RS) (u : Nat) : Int := if (R.th s.T u).for_ = 1 ∧ 0 ≤ (R.th s.T u).of_ ∧ (R.th s.T u).of_ < own.length then own.getD (R.th s.T u).of_.toNat 0 else -1
def metTo (own : List Int) (s : RS) (t : Nat) : Nat → Int → Bool
  | 0, _ => false
  | n + 1, o => if o = -1 then false else if o = (t : Int) then true else metTo own s t n (onwd own s o.toNat)
def goTo (own : List Int) (s : RS) : Nat → Int → Int
  | 0, o => o
  | n + 1, o => if o = -1 then -1 else goTo own s n (onwd own s o.toNat)
def heirOf (L : List Int) : Int := if h : 0 < L.length then L[0] else -1
/-- What a Lock ends with, and who owns its mutex then. -/
def LockP (who : Int) (b code : Int) (m : Nat) (o o' : Int) (kd tp base : Int) (met : Bool) (fo oo : Int) : Prop :=
  (o = who ∧ o' = o ∧ code = 3) ∨ (o ≠ who ∧ (kd = 1 ∧ tp < base) ∧ o' = o ∧ code = 4) ∨
  (o ≠ who ∧ ¬ (kd = 1 ∧ tp < base) ∧ o = -1 ∧ o' = who ∧ code = 0) ∨ (o ≠ who ∧ ¬ (kd = 1 ∧ tp < base) ∧ o ≠ -1 ∧ met = true ∧ o' = o ∧ code = 5) ∨
  (o ≠ who ∧ ¬ (kd = 1 ∧ tp < base) ∧ o ≠ -1 ∧ met = false ∧ b = 0 ∧ o' = o ∧ code = 2) ∨
  (o ≠ who ∧ ¬ (kd = 1 ∧ tp < base) ∧ o ≠ -1 ∧ met = false ∧ b ≠ 0 ∧ o' = o ∧ code = 1 ∧ fo = 1 ∧ oo = (m : Int))
/-- Who must own a mutex behind a step. -/
def PassP (who : Int) (i : InstrD) (code : Int) (m : Nat) (o o' : Int) (L : List Int) (lock : Prop) : Prop :=
  (who = -1 ∧ o' = o) ∨ (who ≠ -1 ∧ i.op = 6 ∧ i.a = (m : Int) ∧ lock) ∨ (who ≠ -1 ∧ i.op = 7 ∧ i.a = (m : Int) ∧ o = who ∧ o' = heirOf L ∧ code = 0) ∨
  (who ≠ -1 ∧ i.op = 7 ∧ i.a = (m : Int) ∧ o ≠ who ∧ o' = o ∧ code = 6) ∨ (who ≠ -1 ∧ i.op = 0 ∧ o = who ∧ o' = heirOf L ∧ code = 0) ∨
  (who ≠ -1 ∧ i.op = 0 ∧ o ≠ who ∧ o' = o) ∨ (who ≠ -1 ∧ (i.op = 6 ∨ i.op = 7) ∧ i.a ≠ (m : Int) ∧ o' = o) ∨ (who ≠ -1 ∧ i.op ≠ 0 ∧ i.op ≠ 6 ∧ i.op ≠ 7 ∧ o' = o)
section
variable {d : WD} {s : RS}
theorem heir_give {tk wt : List Nat} (a : Ln.Aux s tk wt) (sn : Snc d s) (m : Nat) : R.giveT s 1 (m : Int) = heirOf (R.waiting s 1 (m : Int)) := (line_ok (d := d) a sn 1 (m : Int) (by decide)).give
theorem met_round (s' : RS) (t : Nat) (i : RInv s) (hst : ∀ u, u ≠ t → (R.th s'.T u).for_ = (R.th s.T u).for_ ∧ (R.th s'.T u).of_ = (R.th s.T u).of_) (n : Nat) : ∀ o : Int, -1 ≤ o → o < s.T.length → metTo s.owner s' t n o = R.roundTo s t n o := by
  have ok := R.RInv.linksOk i
  induction n with
  | zero => intro o _ _; rfl
  | succ n ih =>
    intro o h0 h1
    unfold metTo R.roundTo
    by_cases hm : o = -1
    · rw [if_pos hm, if_pos (.inl (by omega))]
      have : ¬ o = (t : Int) := by omega
      simp [this]
    · rw [if_neg hm]
      by_cases ht : o = (t : Int)
      · rw [if_pos ht, if_pos (.inr ht)]
        simp [ht]
      · have hu : o.toNat < s.T.length := by omega
        have hne : o.toNat ≠ t := by omega
        rw [if_neg ht, if_neg (by rintro (h | h); omega; exact ht h)]
        obtain ⟨e1, e2⟩ := hst o.toNat hne
        unfold onwd
        rw [e1, e2]
        by_cases hf : (R.th s.T o.toNat).for_ = 1
        · have hof := ok.of1 _ hu hf
          rw [if_pos ⟨hf, hof.1, hof.2⟩, if_neg (fun e => e hf)]
          have hb := ok.own (R.th s.T o.toNat).of_.toNat (by omega)
          exact ih _ hb.1 hb.2
        · rw [if_neg (fun e => hf e.1), if_pos hf]
          cases n with
          | zero => rfl
          | succ n => unfold metTo; rw [if_pos rfl]
theorem goTo_none (own : List Int) (s : RS) (n : Nat) : goTo own s n (-1) = -1 := by
  cases n with
  | zero => rfl
  | succ n => unfold goTo; rw [if_pos rfl]
theorem open_ends {tk wt : List Nat} (i : RInv s) (a : Ln.Aux s tk wt) (t : Nat) (ht : t < s.T.length) : goTo s.owner s s.T.length (t : Int) = -1 := by
  have ok := R.RInv.linksOk i
  have onw : ∀ u, u < s.T.length → onwd s.owner s u = R.ahd s u := by
    intro u hu
    unfold onwd R.ahd
    by_cases hf : (R.th s.T u).for_ = 1
    · have hof := ok.of1 u hu hf
      rw [if_pos hf, if_pos ⟨hf, hof.1, hof.2⟩]
    · rw [if_neg hf, if_neg (fun e => hf e.1)]
  have key : ∀ k (o : Int), Ln.EndsIn s k o → -1 ≤ o → o < s.T.length → ∀ n, k ≤ n → goTo s.owner s n o = -1 := by
    intro k o he
    induction he with
    | stop o h => intro h0 _ n _; rw [show o = -1 by omega]; exact goTo_none _ _ _
    | step k o h r ih =>
      intro h0 h1 n hn
      cases n with
      | zero => omega
      | succ n =>
        unfold goTo
        rw [if_neg (by omega), onw o.toNat (by omega)]
        have hb := Ln.ahd_bd ok o.toNat (by omega)
        exact ih hb.1 hb.2 n (by omega)
  obtain ⟨k, hk⟩ := a.ch t ht
  exact key k _ hk (by omega) (by omega) _ (hk.le ok (by omega))
theorem seen_ok {tk wt : List Nat} (i : RInv s) (x : R.Ext0 s) (a : Ln.Aux s tk wt) (sn : Snc d s) (m : Nat) (hm : m < s.owner.length) :
    (-1 ≤ s.owner.getD m 0 ∧ s.owner.getD m 0 < s.T.length) ∧ (s.owner.getD m 0 = -1 → (R.waiting s 1 (m : Int)).length = 0) ∧ (s.owner.getD m 0 ≠ -1 → (viewD s (s.owner.getD m 0).toNat).st ≠ 0) := by
  have hb := (R.RInv.linksOk i).own m hm
  refine ⟨hb, fun h => ?_, fun h => ?_⟩
  · have lo := line_ok (d := d) a sn 1 (m : Int) (by decide)
    rcases Nat.eq_zero_or_pos (R.waiting s 1 (m : Int)).length with h1 | h1
    · exact h1
    · obtain ⟨u, hu, _, hf, ho⟩ := lo.mem 0 h1
      have := x.own1 u hu hf
      rw [ho] at this
      have e : ((m : Int)).toNat = m := by omega
      rw [e, h] at this
      omega
  · have hj := x.job m hm (by omega)
    have hu : (s.owner.getD m 0).toNat < s.T.length := by omega
    generalize (s.owner.getD m 0).toNat = u at *
    have tok := i.thr u hu
    rw [← th_ext hu] at tok
    show R.stateOf (R.th s.T u) ≠ 0
    unfold R.stateOf
    by_cases hf : (R.th s.T u).for_ ≠ 0
    · rw [if_pos hf]; omega
    · rw [if_neg hf]
      split
      · omega
      · split
        · omega
        · rename_i ha
          have := tok.id (by simpa using ha) (Classical.not_not.1 hf)
          omega
theorem chains_new (S : SetD) (m : Nat) (hm : m < (R.new S).owner.length) : (R.new S).owner.getD m 0 = -1 := by
  have e : (R.new S).owner = (R.bare S).owner := by
    show (R.settle (R.release (R.bare S))).owner = _
    have ro : ∀ k, (R.releaseTo (R.bare S) k).owner = (R.bare S).owner := by
      intro k
      induction k with
      | zero => rfl
      | succ k ih =>
        unfold R.releaseTo R.releaseOne
        split
        · split
          · exact ih
          · exact ih
        · exact ih
    exact ro _
  rw [e] at hm ⊢
  have hm' : m < S.mutexes.length := by simpa [R.bare] using hm
  simp [R.bare, List.getD, hm']
theorem chains_step {tk wt : List Nat} (i : RInv s) (x : R.Ext0 s) (a : Ln.Aux s tk wt) (sn : Snc d s) (n : Int) (m : Nat) (hm : m < s.owner.length) :
    PassP (stepD d s n).who (stepD d s n).i (stepD d s n).code m (s.owner.getD m 0) ((R.entry s n).owner.getD m 0) (R.waiting s 1 (m : Int))
      (∃ t : Nat, (stepD d s n).who = (t : Int) ∧ t < s.T.length ∧ LockP (t : Int) (stepD d s n).i.b (stepD d s n).code m (s.owner.getD m 0) ((R.entry s n).owner.getD m 0) (s.set.mutexes.getD m R.pair0).x (s.set.mutexes.getD m R.pair0).y (viewD (R.entry s n) t).base (metTo s.owner (R.entry s n) t (s.T.length + 1) (s.owner.getD m 0)) (viewD (R.entry s n) t).for_ (viewD (R.entry s n) t).of_) := by
  have e1 : (stepD d s n).who = (movedD d s n).who := rfl
  have e2 : (stepD d s n).i = (movedD d s n).i := rfl
  have e3 : (stepD d s n).code = (movedD d s n).code := rfl
  rcases moved_cases (d := d) i x n with ⟨e, em⟩ | ⟨_, e, em⟩ | ⟨u, _, p, e, em⟩
  · left
    rw [e1, em, e]
    exact ⟨rfl, rfl⟩
  · left
    rw [e1, em, e, (R.tick_rest s).1]
    exact ⟨rfl, rfl⟩
  · rw [e1, e2, e3, em, doesD_who, doesD_i, doesD_code, e]
    have eo : (R.settle (R.actS s u)).owner = (R.actS s u).owner := rfl
    rw [eo, R.actS_owner]
    have hw : (u : Int) ≠ -1 := by omega
    have ok := R.RInv.linksOk i
    by_cases h0 : (R.instrAt s u).op = 0
    · rw [if_pos h0]
      have hh := (R.heirs s u p.f0 s.owner.length (Nat.le_refl _)).2.2.2 m hm
      rw [hh]
      by_cases ho : s.owner.getD m 0 = (u : Int)
      · right; right; right; right; left
        rw [if_pos ho]
        exact ⟨hw, h0, ho, heir_give a sn m, R.actC_lt s u (.inl h0)⟩
      · right; right; right; right; right; left
        rw [if_neg ho]
        exact ⟨hw, h0, ho, rfl⟩
    rw [if_neg h0]
    by_cases h6 : (R.instrAt s u).op = 6
    · rw [if_pos h6, (R.lockS_rest s u _ _).2.2]
      have ha := p.ins.mtx (.inl h6)
      by_cases hma : (R.instrAt s u).a = (m : Int)
      · right; left
        refine ⟨hw, h6, hma, u, rfl, p.ht, ?_⟩
        have hat : (R.instrAt s u).a.toNat = m := by omega
        have hc : R.actC s u = R.lockC s u m (R.instrAt s u).b := by
          rw [(R.actS_is s u (by omega) (by omega)).2]
          unfold R.doesC
          rw [if_neg (by omega), if_pos h6, hat]
        have hcols := (p.cols.2 u).1
        rw [if_neg (fun h => by omega)] at hcols
        have hbase : (viewD (R.settle (R.actS s u)) u).base = (R.th s.T u).base := by
          obtain ⟨w, hw⟩ := R.settle_eq (R.actS s u) u
          show (R.th (R.settle (R.actS s u)).T u).base = _
          rw [hw]
          exact hcols
        have hst : ∀ v, v ≠ u → (R.th (R.settle (R.actS s u)).T v).for_ = (R.th s.T v).for_ ∧ (R.th (R.settle (R.actS s u)).T v).of_ = (R.th s.T v).of_ := by
          intro v hv
          have ss := (R.settle_stay (R.actS s u) v).1
          rcases p.moved.th v hv with ⟨k, _⟩ | ⟨k, _⟩
          · exact ⟨ss.for_.trans k.for_, ss.of_.trans k.of_⟩
          · exfalso
            rcases k with ⟨k, _⟩ | ⟨k, _⟩ | ⟨k, _⟩ | ⟨k, _⟩ <;> omega
        have hbd := ok.own m hm
        have hmt : metTo s.owner (R.settle (R.actS s u)) u (s.T.length + 1) (s.owner.getD m 0) = R.round s u m := met_round _ u i hst _ _ hbd.1 hbd.2
        rw [hc, hbase, hmt, hat]
        unfold R.lockC
        by_cases q1 : s.owner.getD m 0 = (u : Int)
        · left
          rw [if_pos q1, if_neg (by decide)]
          exact ⟨q1, rfl, rfl⟩
        rw [if_neg q1]
        by_cases q2 : (s.set.mutexes.getD m R.pair0).x = 1 ∧ (s.set.mutexes.getD m R.pair0).y < (R.th s.T u).base
        · right; left
          rw [if_pos q2, if_neg (by decide)]
          exact ⟨q1, q2, rfl, rfl⟩
        rw [if_neg q2]
        by_cases q3 : s.owner.getD m 0 < 0
        · right; right; left
          rw [if_pos q3, if_pos rfl]
          exact ⟨q1, q2, by omega, R.getD_set_self _ _ _ hm, rfl⟩
        rw [if_neg q3]
        by_cases q4 : R.round s u m = true
        · right; right; right; left
          rw [if_pos q4, if_neg (by decide)]
          exact ⟨q1, q2, by omega, q4, rfl, rfl⟩
        have q4' : R.round s u m = false := by simpa using q4
        rw [if_neg q4]
        by_cases q5 : (R.instrAt s u).b = 0
        · right; right; right; right; left
          rw [if_pos q5, if_neg (by decide)]
          exact ⟨q1, q2, by omega, q4', q5, rfl, rfl⟩
        · right; right; right; right; right
          rw [if_neg q5, if_neg (by decide)]
          have hc1 : R.actC s u = 1 := by
            rw [hc]
            unfold R.lockC
            rw [if_neg q1, if_neg q2, if_neg q3, if_neg q4, if_neg q5]
          have wt := p.self.1 hc1
          have ss := (R.settle_stay (R.actS s u) u).1
          refine ⟨q1, q2, by omega, q4', q5, rfl, rfl, ?_, ?_⟩
          · show (R.th (R.settle (R.actS s u)).T u).for_ = 1
            rw [ss.for_, wt.for_]
            unfold R.askFor
            rw [if_neg (by omega), if_pos h6]
          · show (R.th (R.settle (R.actS s u)).T u).of_ = (m : Int)
            rw [ss.of_, wt.of_]
            unfold R.askOf
            rw [if_pos (.inl h6)]
            exact hma
      · right; right; right; right; right; right; left
        refine ⟨hw, .inl h6, hma, ?_⟩
        split
        · rw [R.getD_set_ne _ _ _ _ (by omega)]
        · rfl
    rw [if_neg h6]
    by_cases h7 : (R.instrAt s u).op = 7
    · rw [if_pos h7]
      have ha := p.ins.mtx (.inr h7)
      have hc : R.actC s u = R.unlockC s u (R.instrAt s u).a.toNat := by
        rw [(R.actS_is s u (by omega) (by omega)).2]
        unfold R.doesC
        rw [if_neg (by omega), if_neg (by omega), if_pos h7]
      by_cases hma : (R.instrAt s u).a = (m : Int)
      · have hat : (R.instrAt s u).a.toNat = m := by omega
        rw [hc, hat]
        unfold R.unlockC R.unlockS
        by_cases ho : s.owner.getD m 0 = (u : Int)
        · right; right; left
          rw [if_pos ho, if_pos ho]
          refine ⟨hw, h7, hma, ho, ?_, rfl⟩
          rw [← heir_give a sn m]
          exact R.getD_set_self _ _ _ hm
        · right; right; right; left
          rw [if_neg ho, if_neg ho]
          exact ⟨hw, h7, hma, ho, rfl, rfl⟩
      · right; right; right; right; right; right; left
        refine ⟨hw, .inr h7, hma, ?_⟩
        unfold R.unlockS
        split
        · show (s.owner.set _ _).getD m 0 = _
          rw [R.getD_set_ne _ _ _ _ (by omega)]
        · rfl
    · right; right; right; right; right; right; right
      rw [if_neg h7]
      exact ⟨hw, h0, h6, h7, rfl⟩
end
end Go.Proofs.Ytbkfildnijjioab
