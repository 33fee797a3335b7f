import Derived.Test.YtbkfildnijjioabA20
import Derived.Test.YtbkfildnijjioabA23
import Derived.Test.YtbkfildnijjioabA22
/-
  Tokens: the law's own function.
-/
namespace Go.Proofs.Ytbkfildnijjioab
open Go.RowKit
theorem entry_set {s : RS} (i : RInv s) (x : R.Ext0 s) (n : Int) : (R.entry s n).set = s.set := by
  rcases moved_cases (d := ⟨s.set, 0, [], [], [], [], [], [], [], 0, false, 0, ⟨0, 0, 0⟩, 0, []⟩) i x n with ⟨e, _⟩ | ⟨_, e, _⟩ | ⟨u, _, p, e, _⟩
  · rw [e]
  · rw [e]; exact (R.tick_rest s).2.2.2.2.1
  · rw [e]
    have hol : s.owner.length ≤ 8 := by have := i.good.own; have := i.good.mfew; omega
    exact (like_actS s u hol).set
theorem new_set (S : SetD) : (R.new S).set = S := by
  show (R.settle (R.release (R.bare S))).set = S
  exact R.releaseTo_set (R.bare S) _
set_option maxRecDepth 100000 in
set_option maxHeartbeats 8000000 in
theorem lawTokens_any {PK : KP} (c : CAll PK) (cn : CNew PK (fun _ => True)) (tv mv sv qv av : Option Addr) (tc mc sc qc ac : Nat) (S : SetD) (l : List Int) (w : World) (hS : SetIn w.heap.size w tv mv sv qv S) (hF : Fits S) (hnil : (tv = none → tc = 0) ∧ (mv = none → mc = 0) ∧ (sv = none → sc = 0) ∧ (qv = none → qc = 0)) (hl : IntsIn w.heap.size w av l) (hll : l.length ≤ 9223372036854775807) :
    Calls Try.prog 8 #[.agg #[.int .i64 S.workers, .int .i64 S.start, .slice tv S.threads.length tc, .slice mv S.mutexes.length mc, .slice sv S.sems.length sc, .slice qv S.queues.length qc], .slice av l.length ac] w fun e w' =>
      e = .returned (.bool true) ∧ Below w.heap.size w w' := by
  obtain ⟨i3, hi3, hz30, hz31, hz32⟩ := info_parts Try.infoInt
  have HI3 := hid (And.intro hi3 (And.intro hz30 (And.intro hz31 hz32)))
  clear hi3 hz30 hz31 hz32
  have HS := hid hS
  have HF := hid hF
  have HN := hid hnil
  have HL := hid hl
  clear hS hF hnil hl
  go_enter Try.func8, Try.ntmps8
  by_cases hlong : l.length ≤ 1099511627776
  · have hlI : (l.length : Int) ≤ 1099511627776 := by omega
    go_wp2_with fail
    have hb0 : Below w.heap.size w (w.alloc (.cells #[.int .i64 S.workers, .int .i64 S.start, .slice tv S.threads.length tc, .slice mv S.mutexes.length mc, .slice sv S.sems.length sc, .slice qv S.queues.length qc] 27)) := (Below.refl _ _).alloc (Nat.le_refl _) _
    have X0 := Blk.new w #[.int .i64 S.workers, .int .i64 S.start, .slice tv S.threads.length tc, .slice mv S.mutexes.length mc, .slice sv S.sems.length sc, .slice qv S.queues.length qc] 27
    generalize w.alloc (.cells #[.int .i64 S.workers, .int .i64 S.start, .slice tv S.threads.length tc, .slice mv S.mutexes.length mc, .slice sv S.sems.length sc, .slice qv S.queues.length qc] 27) = w0 at hb0 X0 ⊢
    have HX0 := hid X0
    have HB0 := hid hb0
    have HS0 := hid (HS.out.later hb0)
    have HL0 := hid (HL.out.on hb0)
    have HXL := hid X0.lt
    clear hb0 X0
    refine (wBeginS_any c cn tv mv sv qv tc mc sc qc S w0 HS0.out HF.out HN.out).mono ?_
    rintro e w1 ⟨hb1, hcase⟩
    have HB1 := hid hb1
    clear hb1
    rcases hcase with ⟨_, rfl⟩ | ⟨herr, hnx, B, wb, kb, P, h, hB, rfl, ks⟩
    · go_wp2
      go_ret
      exact ⟨rfl, via HB0.out HB0.out.size HB1.out⟩
    · have K1 := hid ks
      have HBB := hid hB
      have hs4 : S.sems.length ≤ 4 := by have := (ok_sizes (s := R.new S) (by rw [new_set]; exact herr)).1; rw [new_set] at this; exact this
      have hcl : (R.new S).count.length = S.sems.length := by rw [tok_new]; simp
      have HCN := hid (tok_new (S := S))
      have HSN := hid (new_set S)
      clear ks hB
      go_wp2
      go_loopw [7, 8] (fun v i wr => ∃ k : Nat, k ≤ S.sems.length ∧ i = .int .i64 k ∧ KWS PK B wr wb kb P h (firstD S) (R.new S) ∧ wr.ownsRow B 3 1 v k (intCells ((R.new S).count.take k)) ∧ Apart wr wb P h B (fun b => v.ownBlock = some b) ∧ Below w0.heap.size w0 wr) (fun _ i _ => S.sems.length - (intOf i).toNat)
      case atStart => exact ⟨0, Nat.zero_le _, rfl, K1.out, World.ownsRow_nil _ _ _ _, (fun b hb => by cases hb), HB1.out⟩
      case round =>
        obtain ⟨k, hk, rfl, hks, hrow, hap, hbk⟩ := hrel
        have KK := hid hks
        have ROW := hid hrow
        have AP := hid hap
        have HBK := hid hbk
        have HX := HX0.out.only (Only.of_below (L := []) hbk) (by simp)
        have x4 := HX.cell 4
        simp at x4
        clear hks hrow hap hbk HX K1 HB1
        by_cases hkl : k < S.sems.length
        · have hkI : (k : Int) < (S.sems.length : Int) := by omega
          obtain ⟨bm, om, ham, hbm, z0, _⟩ := HS0.out.sems k hkl
          have z0 := (HBK.out.cell (p := ⟨bm, om + k * 2, none⟩) hbm).trans z0
          rw [ham] at x4
          have ET : Hid ((R.new S).count.take (k + 1) = (R.new S).count.take k ++ [S.sems[k].x]) := by
            refine hid ?_
            rw [List.take_succ_eq_append_getElem (by rw [hcl]; exact hkl)]
            simp [HCN.out]
          have HLT : Hid (((R.new S).count.take k).length = k) := hid (by rw [List.length_take, hcl]; omega)
          generalize S.sems[k].x = fx at *
          have hbz := KK.out.k.m.bsz
          clear ham
          go_wp2_with (at_builtin; refine wpList_append_src_at rfl (.tmp 40) (.tmp 47) 25 rfl B 3 i3 (.int .i64 0) 1 8 Try.underlying25 HI3.out.1 HI3.out.2.1 HI3.out.2.2.1 HI3.out.2.2.2 rfl (by decide) u7 k (intCells ((R.new S).count.take k)) rfl (ROW.out.alloc _) (some ⟨wr.heap.size, 0, none⟩) 1 1 [.int .i64 fx] rfl rfl (fun h => (by cases h)) (fun j u hj => ⟨_, rfl, (by rw [Addr.add_lit, Nat.zero_add, (Blk.new wr #[.int .i64 fx] 3).cell]; simpa using hj)⟩) (by intro u hu; simp at hu; subst hu; rfl) (by unfold maxLen; omega) (by omega) (by simp; omega) ?_; intro v5 w5 hown5 hg5 hat5; have O5 := hid hown5; have G5 := hid hg5; have A5 := hid hat5; clear hown5 hg5 hat5)
          go_roundw
          case rel =>
            have hbA : Below wr.heap.size wr (wr.alloc (.cells #[.int .i64 fx] 3)) := (Below.refl _ _).alloc (Nat.le_refl _) _
            have kA := KK.out.below c.fr hbA
            have apA := AP.out.below hbA.size
            have AQ2 : ∀ g, u7.ownBlock = some g → B ≤ g ∧ ¬ P g ∧ ¬ WB wb h g := fun g hg => ⟨(apA g hg).1, (apA g hg).2.2⟩
            obtain ⟨k5, hb5⟩ := kA.grown c.fr G5.out AQ2
            have r5 : w5.ownsRow B 3 1 v5 (k + 1) (intCells ((R.new S).count.take (k + 1))) := by
              rw [ET.out]
              simpa [intCells] using O5.out
            refine ⟨k + 1, by omega, by go_num, k5, r5, fun b hb => ?_, (HBK.out.trans (hbA.mono HBK.out.size)).trans (hb5.mono HBB.out)⟩
            have hlt := (ownsRow_block r5 hb).2.1
            rcases A5.out with e | e
            · have hb' : v5.ownBlock = some b := hb
              rw [e] at hb'
              have := AQ2 b hb'
              exact ⟨this.1, hlt, this.2⟩
            · have hb' : v5.ownBlock = some b := hb
              rw [e] at hb'
              have e2 := Option.some.inj hb'
              have := kA.fresh c.fr (g := b) (by omega)
              exact ⟨this.1, hlt, this.2⟩
          case measure => simp [intOf]; omega
        · have e : k = S.sems.length := by omega
          subst e
          have hr0 := ROW.out
          rw [List.take_of_length_le (by omega)] at hr0
          have ROW0 := hid hr0
          obtain ⟨an, cn7, rfl, hnn, hna⟩ := owns_cells hr0
          clear hr0 ROW
          obtain ⟨m, hm⟩ : ∃ x, Hid (S.sems.length = x) := ⟨_, hid rfl⟩
          rw [hm.out] at ROW0 AP hs4 hcl x4 ⊢
          by_cases hm0 : m = 0
          · have HM0 := hid hm0
            clear hm0
            go_wp2
            go_loopw [9] (fun i wr => ∃ (k : Nat) (s : RS) (d : WD) (P : Nat → Prop) (h : WH), k ≤ l.length ∧ i = .int .i64 k ∧ KWS PK B wr wb kb P h d s ∧ s.next ≤ 16 + 33 * k ∧ d.steps = k ∧ s.set = S ∧ wr.ownsRow B 3 1 (.slice an m cn7) m (intCells s.count) ∧ Apart wr wb P h B (fun b => (Value.ownBlock (.slice an m cn7)) = some b) ∧ Below w0.heap.size w0 wr) (fun i _ => l.length + 1 - (intOf i).toNat)
            case atStart => exact ⟨0, R.new S, firstD S, P, h, Nat.zero_le _, rfl, KK.out, by omega, rfl, HSN.out, ROW0.out, AP.out, HBK.out⟩
            case round =>
              obtain ⟨k, s, d, P, h, hk, rfl, hks, hnk, hst, hset, hrow, hap, hbk⟩ := hrel
              have KK := hid hks
              have HBK := hid hbk
              have HST := hid hst
              have HSET := hid hset
              have ROW := hid hrow
              have AP := hid hap
              clear hks hbk hst hset hrow hap ROW0
              have hkI : (k : Int) ≤ (l.length : Int) := by omega
              have hcnt : s.count.length = m := by have := KK.out.i.bnd.cs; rw [this, HSET.out]; exact hm.out
              have hth : R.things s 2 = (m : Int) := by unfold R.things; rw [if_neg (by decide), if_pos rfl, hcnt]
              have LC := hid (wLines_any c KK.out 2 m (by decide) (by rw [hth]; exact Int.le_refl _) (by omega))
              clear hth
              go_wp2_with fail
              refine LC.out.mono ?_
              rintro e w2 ⟨vl, vs, rfl, hll2, hb2⟩
              have LL2 := hid hll2
              have K2 := hid (KK.out.below c.fr hb2)
              have AP2 := hid (AP.out.below hb2.size)
              have ROW2 := hid (wrow_keep ROW.out hb2)
              have HB2 := hid (via HBK.out HBK.out.size hb2)
              have NLT : Hid (∀ b, (Value.ownBlock (.slice an m cn7)) = some b → b < wr.heap.size) := hid (fun b hb => (ownsRow_block ROW.out hb).2.1)
              obtain ⟨al, cl, hvl, hal0, hal1⟩ := owns_cells hll2.row
              rw [waitsTo_length] at hvl hal0
              subst hvl
              have hszw := HBK.out.size
              clear hb2 hll2 LC
              clear hal0 hal1
              go_wp2
              go_loopw [12] (fun i wr => ∃ j : Nat, j ≤ m ∧ i = .int .i64 j ∧ Below w2.heap.size w2 wr) (fun i _ => m - (intOf i).toNat)
              case atStart => exact ⟨0, Nat.zero_le _, rfl, Below.refl _ _⟩
              case round =>
                obtain ⟨j, hj, rfl, hbj⟩ := hrel
                have KJ := hid (K2.out.below c.fr hbj)
                have HBJ := hid hbj
                have ROWJ := hid (wrow_keep ROW2.out hbj)
                have LLJ := hid (LL2.out.below hbj)
                have APJ := hid (AP2.out.below hbj.size)
                have HB0J := hid (via HB2.out HB2.out.size hbj)
                have hszj := hbj.size
                clear hbj
                by_cases hjl : j < m
                · exact absurd hjl (by have := HM0.out; omega)
                · have e : m = j := by omega
                  subst e
                  by_cases hkl : k < l.length
                  · obtain ⟨ab, aoff, ha, hab, hcell⟩ := HL0.out k hkl
                    subst ha
                    have hcell' : wr.cell? ⟨ab, aoff + k, none⟩ = some (.int .i64 l[k]) := (HB0J.out.cell (p := ⟨ab, aoff + k, none⟩) hab).trans hcell
                    have hkl2 : (k : Int) < (l.length : Int) := by omega
                    have hkne : ((k : Int) == (l.length : Int)) = false := by rw [beq_eq_false_iff_ne]; omega
                    have hen := entry_next s l[k] KJ.out.i
                    have ESD := hid (stepD_steps d s l[k])
                    have ESET := hid (entry_set KJ.out.i KJ.out.x.toExt0 l[k])
                    obtain ⟨_, tk, wt, _, ax⟩ := c.aux KJ.out.k.pk
                    have TS := hid (tok_step (d := d) KJ.out.i KJ.out.x.toExt0 ax KJ.out.snc l[k])
                    have ELN := hid (entry_len KJ.out.i KJ.out.x.toExt0 l[k])
                    generalize l[k] = x at *
                    clear ax
                    have FM : FrameM (fun b => (Value.ownBlock (.slice an m cn7)) = some b ∨ LB (.slice al m cl) vs b) (fun w' => w'.ownsRow B 3 1 (.slice an m cn7) m (intCells s.count) ∧ LL B w' (.slice al m cl) (waitsTo s 2 m) vs) := fun u v m hs hz => ⟨frame_row u v m.1 (fun b hb => hs b (.inl hb)) hz, LL.frame u v m.2 (fun b hb => hs b (.inr hb)) hz⟩
                    have APL : Apart wr wb P h B (fun b => (Value.ownBlock (.slice an m cn7)) = some b ∨ LB (.slice al m cl) vs b) := by
                      rintro b (hb | hb)
                      · exact APJ.out b hb
                      · have h1 := LL2.out.ge b hb
                        have h2 := KK.out.fresh c.fr h1.1
                        exact ⟨h2.1, by omega, h2.2⟩
                    have ST := hid (wStepL_any c KJ.out FM APL ⟨ROWJ.out, LLJ.out.mono KK.out.k.m.bsz⟩ (by omega) (by rw [HST.out]; omega) (by rw [HST.out]; omega) x)
                    clear FM APL
                    go_wp2_with fail
                    refine ST.out.mono ?_
                    rintro e w4 ⟨rfl, ⟨P', h', k4, ap4, row4, ll4⟩, hb4⟩
                    have K4 := hid k4
                    have AP4 := hid ap4
                    have ROW4 := hid row4
                    have LL4 := hid ll4
                    have HB4 := hid (HB0J.out.trans (hb4.mono HBB.out))
                    have hfew := K4.out.i.good.few
                    have hcnt2 : (R.entry s x).count.length = m := by have := K4.out.i.bnd.cs; rw [this, ESET.out, HSET.out]; exact hm.out
                    have HD : Hid (∀ b, (Value.ownBlock (.slice an m cn7)) = some b → ¬ LB (.slice al m cl) vs b) := hid (fun b hb hl => by
                      have h1 := NLT.out b hb
                      have h2 := (LL2.out.ge b hl).1
                      omega)
                    clear k4 ap4 row4 ll4 hb4 hcell' ST
                    go_wp2
                    go_loopw [15] (fun i wr => ∃ n : Nat, n ≤ m ∧ i = .int .i64 n ∧ KWS PK B wr wb kb P' h' (stepD d s x) (R.entry s x) ∧ wr.ownsRow B 3 1 (.slice an m cn7) m (intCells (mixL s.count (R.entry s x).count n)) ∧ LL B wr (.slice al m cl) (waitsTo s 2 m) vs ∧ w4.heap.size ≤ wr.heap.size ∧ Below w0.heap.size w0 wr) (fun i _ => m - (intOf i).toNat)
                    case atStart => exact ⟨0, Nat.zero_le _, rfl, K4.out, by rw [mixL_zero]; exact ROW4.out, LL4.out, Nat.le_refl _, HB4.out⟩
                    case round =>
                      obtain ⟨n, hn, rfl, hks, hrow, hll5, hsz5, hb5⟩ := hrel
                      have K5 := hid hks
                      have ROW5 := hid hrow
                      have LL5 := hid hll5
                      have HB5 := hid hb5
                      clear hks hrow hll5 hb5
                      by_cases hnl : n < m
                      · exact absurd hnl (by have := HM0.out; omega)
                      · have e : m = n := by omega
                        subst e
                        have r5 := ROW5.out
                        rw [← hcnt, mixL_full (by omega)] at r5
                        rw [hcnt] at r5
                        have R5 := hid r5
                        have AP5 : Hid (Apart wr wb P' h' B (fun b => (Value.ownBlock (.slice an m cn7)) = some b)) := hid (fun b hb => by have := AP4.out b (.inl hb); exact ⟨this.1, by omega, this.2.2⟩)
                        clear r5
                        go_wp2
                        go_roundw
                        case rel => exact ⟨k + 1, R.entry s x, stepD d s x, P', h', by omega, by go_num, K5.out, by omega, by rw [ESD.out, HST.out]; omega, by rw [ESET.out]; exact HSET.out, R5.out, AP5.out, HB5.out⟩
                        case measure => simp [intOf]; omega
                  · have e : k = l.length := by omega
                    subst e
                    go_wp2
                    go_ret
                    exact ⟨rfl, via HB0.out HB0.out.size HB0J.out⟩
          · have HM0 := hid hm0
            clear hm0
            cases an with
            | none => exact absurd (hnn rfl).1 (by rw [hm.out]; exact HM0.out)
            | some ad =>
            obtain ⟨gn, hgn0, _, _, _, _⟩ := hna ad rfl
            subst hgn0
            go_wp2
            go_loopw [9] (fun i wr => ∃ (k : Nat) (s : RS) (d : WD) (P : Nat → Prop) (h : WH), k ≤ l.length ∧ i = .int .i64 k ∧ KWS PK B wr wb kb P h d s ∧ s.next ≤ 16 + 33 * k ∧ d.steps = k ∧ s.set = S ∧ wr.ownsRow B 3 1 (.slice (some ⟨gn, 0, none⟩) m cn7) m (intCells s.count) ∧ Apart wr wb P h B (fun b => (Value.ownBlock (.slice (some ⟨gn, 0, none⟩) m cn7)) = some b) ∧ Below w0.heap.size w0 wr) (fun i _ => l.length + 1 - (intOf i).toNat)
            case atStart => exact ⟨0, R.new S, firstD S, P, h, Nat.zero_le _, rfl, KK.out, by omega, rfl, HSN.out, ROW0.out, AP.out, HBK.out⟩
            case round =>
              obtain ⟨k, s, d, P, h, hk, rfl, hks, hnk, hst, hset, hrow, hap, hbk⟩ := hrel
              have KK := hid hks
              have HBK := hid hbk
              have HST := hid hst
              have HSET := hid hset
              have ROW := hid hrow
              have AP := hid hap
              clear hks hbk hst hset hrow hap ROW0
              have hkI : (k : Int) ≤ (l.length : Int) := by omega
              have hcnt : s.count.length = m := by have := KK.out.i.bnd.cs; rw [this, HSET.out]; exact hm.out
              have hth : R.things s 2 = (m : Int) := by unfold R.things; rw [if_neg (by decide), if_pos rfl, hcnt]
              have LC := hid (wLines_any c KK.out 2 m (by decide) (by rw [hth]; exact Int.le_refl _) (by omega))
              clear hth
              go_wp2_with fail
              refine LC.out.mono ?_
              rintro e w2 ⟨vl, vs, rfl, hll2, hb2⟩
              have LL2 := hid hll2
              have K2 := hid (KK.out.below c.fr hb2)
              have AP2 := hid (AP.out.below hb2.size)
              have ROW2 := hid (wrow_keep ROW.out hb2)
              have HB2 := hid (via HBK.out HBK.out.size hb2)
              have NLT : Hid (∀ b, (Value.ownBlock (.slice (some ⟨gn, 0, none⟩) m cn7)) = some b → b < wr.heap.size) := hid (fun b hb => (ownsRow_block ROW.out hb).2.1)
              obtain ⟨al, cl, hvl, hal0, hal1⟩ := owns_cells hll2.row
              rw [waitsTo_length] at hvl hal0
              subst hvl
              have hszw := HBK.out.size
              clear hb2 hll2 LC
              cases al with
              | none => exact absurd (hal0 rfl).1 HM0.out
              | some ad =>
              obtain ⟨gl, hgl0, _, _, _, _⟩ := hal1 ad rfl
              subst hgl0
              clear hal0 hal1
              go_wp2
              go_loopw [12] (fun i wr => ∃ j : Nat, j ≤ m ∧ i = .int .i64 j ∧ Below w2.heap.size w2 wr) (fun i _ => m - (intOf i).toNat)
              case atStart => exact ⟨0, Nat.zero_le _, rfl, Below.refl _ _⟩
              case round =>
                obtain ⟨j, hj, rfl, hbj⟩ := hrel
                have KJ := hid (K2.out.below c.fr hbj)
                have HBJ := hid hbj
                have ROWJ := hid (wrow_keep ROW2.out hbj)
                have LLJ := hid (LL2.out.below hbj)
                have APJ := hid (AP2.out.below hbj.size)
                have HB0J := hid (via HB2.out HB2.out.size hbj)
                have hszj := hbj.size
                clear hbj
                by_cases hjl : j < m
                · have hjI : (j : Int) < (m : Int) := by omega
                  have hjc : j < s.count.length := by omega
                  have y6 := KJ.out.k.m.blk.cell 6
                  simp [wCells] at y6
                  have C1 := hid (c.cnt P wr kb s KJ.out.k.pk (j : Int))
                  have ev : R.countV s (j : Int) = s.count.getD j 0 := by unfold R.countV; rw [if_pos (by omega)]; rfl
                  have ee : R.countE s (j : Int) = 0 := by unfold R.countE; rw [if_pos (by omega)]
                  rw [ev, ee] at C1
                  have cb := KJ.out.i.bnd.cb j hjc
                  have egd : s.count.getD j 0 = s.count[j] := by simp [List.getD, hjc]
                  rw [← egd] at cb
                  obtain ⟨_, tk, wt, _, ax⟩ := c.aux KJ.out.k.pk
                  have DRY := hid (tok_dry (d := d) KJ.out.x.toExt0 ax KJ.out.snc j)
                  have hsm : (s.set.sems.getD j R.pair0).y = (S.sems[j]'(by rw [hm.out]; exact hjl)).y := by rw [HSET.out]; simp [List.getD, hm.out, hjl]
                  rw [hsm] at cb
                  clear ev ee egd ax hsm
                  obtain ⟨cc, hcc⟩ : ∃ x, Hid (s.count.getD j 0 = x) := ⟨_, hid rfl⟩
                  rw [hcc.out] at C1 cb DRY
                  go_wp2_with fail
                  refine C1.out.mono ?_
                  rintro e w3 ⟨rfl, hb3⟩
                  have HB3 := hid (via HBJ.out HBJ.out.size hb3)
                  have ROW3 := hid (wrow_keep ROWJ.out hb3)
                  have LL3 := hid (LLJ.out.below hb3)
                  have HB03 := hid (via HB0J.out HB0J.out.size hb3)
                  clear hb3 C1 y6
                  have znj := wrow_get ROW3.out hcnt hjl
                  rw [hcc.out] at znj
                  have HX := HX0.out.only (Only.of_below (L := []) HB03.out) (by simp)
                  have x4 := HX.cell 4
                  simp at x4
                  rw [hm.out] at x4
                  obtain ⟨bm, om, ham, hbm, _, z1⟩ := HS0.out.sems j (by rw [hm.out]; exact hjl)
                  have z1 := (HB03.out.cell (p := ⟨bm, om + j * 2 + 1, none⟩) hbm).trans z1
                  rw [ham] at x4
                  generalize (S.sems[j]'(by rw [hm.out]; exact hjl)).y = my at *
                  obtain ⟨aj, cj, zlj⟩ := LL3.out.at j (by rw [waitsTo_length]; exact hjl)
                  rw [waitsTo_get s 2 m j hjl] at zlj
                  have hne : (cc != cc) = false := by simp
                  have g1 : decide (cc < 0) = false := by rw [decide_eq_false_iff_not]; omega
                  have g2 : decide (my < cc) = false := by rw [decide_eq_false_iff_not]; omega
                  obtain ⟨ln, hln⟩ : ∃ x, Hid ((R.waiting s 2 (j : Int)).length = x) := ⟨_, hid rfl⟩
                  rw [hln.out] at zlj DRY
                  clear HX ham
                  by_cases hpos : 0 < cc
                  · have hl0 := DRY.out hpos
                    subst hl0
                    go_wp2
                    go_roundw
                    case rel => exact ⟨j + 1, by omega, by go_num, HB3.out⟩
                    case measure => simp [intOf]; omega
                  · have hpos' : decide (0 < cc) = false := by simpa using hpos
                    clear hpos
                    go_wp2
                    go_roundw
                    case rel => exact ⟨j + 1, by omega, by go_num, HB3.out⟩
                    case measure => simp [intOf]; omega
                · have e : m = j := by omega
                  subst e
                  by_cases hkl : k < l.length
                  · obtain ⟨ab, aoff, ha, hab, hcell⟩ := HL0.out k hkl
                    subst ha
                    have hcell' : wr.cell? ⟨ab, aoff + k, none⟩ = some (.int .i64 l[k]) := (HB0J.out.cell (p := ⟨ab, aoff + k, none⟩) hab).trans hcell
                    have hkl2 : (k : Int) < (l.length : Int) := by omega
                    have hkne : ((k : Int) == (l.length : Int)) = false := by rw [beq_eq_false_iff_ne]; omega
                    have hen := entry_next s l[k] KJ.out.i
                    have ESD := hid (stepD_steps d s l[k])
                    have ESET := hid (entry_set KJ.out.i KJ.out.x.toExt0 l[k])
                    obtain ⟨_, tk, wt, _, ax⟩ := c.aux KJ.out.k.pk
                    have TS := hid (tok_step (d := d) KJ.out.i KJ.out.x.toExt0 ax KJ.out.snc l[k])
                    have ELN := hid (entry_len KJ.out.i KJ.out.x.toExt0 l[k])
                    generalize l[k] = x at *
                    clear ax
                    have FM : FrameM (fun b => (Value.ownBlock (.slice (some ⟨gn, 0, none⟩) m cn7)) = some b ∨ LB (.slice (some ⟨gl, 0, none⟩) m cl) vs b) (fun w' => w'.ownsRow B 3 1 (.slice (some ⟨gn, 0, none⟩) m cn7) m (intCells s.count) ∧ LL B w' (.slice (some ⟨gl, 0, none⟩) m cl) (waitsTo s 2 m) vs) := fun u v m hs hz => ⟨frame_row u v m.1 (fun b hb => hs b (.inl hb)) hz, LL.frame u v m.2 (fun b hb => hs b (.inr hb)) hz⟩
                    have APL : Apart wr wb P h B (fun b => (Value.ownBlock (.slice (some ⟨gn, 0, none⟩) m cn7)) = some b ∨ LB (.slice (some ⟨gl, 0, none⟩) m cl) vs b) := by
                      rintro b (hb | hb)
                      · exact APJ.out b hb
                      · have h1 := LL2.out.ge b hb
                        have h2 := KK.out.fresh c.fr h1.1
                        exact ⟨h2.1, by omega, h2.2⟩
                    have ST := hid (wStepL_any c KJ.out FM APL ⟨ROWJ.out, LLJ.out.mono KK.out.k.m.bsz⟩ (by omega) (by rw [HST.out]; omega) (by rw [HST.out]; omega) x)
                    clear FM APL
                    go_wp2_with fail
                    refine ST.out.mono ?_
                    rintro e w4 ⟨rfl, ⟨P', h', k4, ap4, row4, ll4⟩, hb4⟩
                    have K4 := hid k4
                    have AP4 := hid ap4
                    have ROW4 := hid row4
                    have LL4 := hid ll4
                    have HB4 := hid (HB0J.out.trans (hb4.mono HBB.out))
                    have hfew := K4.out.i.good.few
                    have hcnt2 : (R.entry s x).count.length = m := by have := K4.out.i.bnd.cs; rw [this, ESET.out, HSET.out]; exact hm.out
                    have HD : Hid (∀ b, (Value.ownBlock (.slice (some ⟨gn, 0, none⟩) m cn7)) = some b → ¬ LB (.slice (some ⟨gl, 0, none⟩) m cl) vs b) := hid (fun b hb hl => by
                      have h1 := NLT.out b hb
                      have h2 := (LL2.out.ge b hl).1
                      omega)
                    clear k4 ap4 row4 ll4 hb4 hcell' ST
                    go_wp2
                    go_loopw [15] (fun i wr => ∃ n : Nat, n ≤ m ∧ i = .int .i64 n ∧ KWS PK B wr wb kb P' h' (stepD d s x) (R.entry s x) ∧ wr.ownsRow B 3 1 (.slice (some ⟨gn, 0, none⟩) m cn7) m (intCells (mixL s.count (R.entry s x).count n)) ∧ LL B wr (.slice (some ⟨gl, 0, none⟩) m cl) (waitsTo s 2 m) vs ∧ w4.heap.size ≤ wr.heap.size ∧ Below w0.heap.size w0 wr) (fun i _ => m - (intOf i).toNat)
                    case atStart => exact ⟨0, Nat.zero_le _, rfl, K4.out, by rw [mixL_zero]; exact ROW4.out, LL4.out, Nat.le_refl _, HB4.out⟩
                    case round =>
                      obtain ⟨n, hn, rfl, hks, hrow, hll5, hsz5, hb5⟩ := hrel
                      have K5 := hid hks
                      have ROW5 := hid hrow
                      have LL5 := hid hll5
                      have HB5 := hid hb5
                      clear hks hrow hll5 hb5
                      by_cases hnl : n < m
                      · have hnI : (n : Int) < (m : Int) := by omega
                        have hnc : n < s.count.length := by omega
                        have hml : (mixL s.count (R.entry s x).count n).length = m := by rw [mixL_length (by omega) (by omega)]; exact hcnt
                        have zn := wrow_get ROW5.out hml hnl
                        have fn := ROW5.out.frozenAt n
                        have emg : (mixL s.count (R.entry s x).count n).getD n 0 = s.count.getD n 0 := by rw [List.getD_eq_getElem?_getD, mixL_get (by omega) hnc, ← List.getD_eq_getElem?_getD]
                        rw [emg] at zn
                        obtain ⟨aj, cj, zlj⟩ := LL5.out.at n (by rw [waitsTo_length]; exact hnl)
                        have hlj := LL5.out.at_row zlj
                        have egn := waitsTo_get s 2 m n hnl
                        rw [egn] at zlj hlj
                        have tp := TS.out n hnc
                        have cb := KJ.out.i.bnd.cb n hnc
                        have egd : s.count.getD n 0 = s.count[n] := by simp [List.getD, hnc]
                        rw [← egd] at cb
                        have os := ok_sem (s := s) KJ.out.i.ok n (by rw [HSET.out, hm.out]; exact hnl)
                        have EMS := hid (mixL_set (old := s.count) (new := (R.entry s x).count) (j := n) (by omega) hnc)
                        have enw : (R.entry s x).count[n]'(by omega) = (R.entry s x).count.getD n 0 := by simp [List.getD, show n < (R.entry s x).count.length by omega]
                        rw [enw] at EMS
                        have hset5 : (R.entry s x).set.sems.length = m := by rw [ESET.out, HSET.out]; exact hm.out
                        have esy : (s.set.sems.getD n R.pair0).y = ((R.entry s x).set.sems.getD n R.pair0).y := by rw [ESET.out]
                        have hwl := waitL_len s 2 (n : Int) KJ.out.i.good.few
                        have ewl : (R.waiting s 2 (n : Int)).length ≤ 17 := by
                          have e5 : R.waitL s 2 (n : Int) = R.waiting s 2 (n : Int) := by
                            unfold R.waitL
                            rw [if_neg]
                            unfold R.things
                            rw [if_neg (by decide), if_pos rfl, hcnt]
                            omega
                          rw [e5] at hwl
                          exact hwl
                        rw [esy, ← ELN.out] at tp
                        obtain ⟨L, hL⟩ : ∃ x, Hid (R.waiting s 2 (n : Int) = x) := ⟨_, hid rfl⟩
                        rw [hL.out] at tp hlj zlj ewl
                        obtain ⟨n1, hn1⟩ : ∃ y, Hid ((R.entry s x).count.getD n 0 = y) := ⟨_, hid rfl⟩
                        obtain ⟨n0, hn0⟩ : ∃ y, Hid (s.count.getD n 0 = y) := ⟨_, hid rfl⟩
                        rw [hn1.out, hn0.out] at tp
                        rw [hn1.out] at EMS
                        rw [hn0.out] at zn cb
                        have TK := hid (fun (wx : World) (kx : KWS PK B wx wb kb P' h' (stepD d s x) (R.entry s x)) (hx : wx.ownsRow B 3 1 (.slice aj L.length cj) L.length (intCells L)) => wTokens_any c kx n (by rw [hset5]; exact hnl) n0 n1 (by omega) (by omega) B aj cj L hx (by omega) tp)
                        have RL := hid hlj
                        have KD : Hid (KWS PK B wr.drew wb kb P' h' (stepD d s x) (R.entry s x)) := hid (K5.out.below c.fr (Below.refl _ _).drew)
                        have hgn := (ownsRow_block ROW5.out (g := gn) rfl).2.1
                        have hgl := (ownsRow_block LL5.out.row (g := gl) rfl).2.1
                        clear emg egn cb egd os enw hset5 esy hwl tp hlj
                        go_wp2_with fail
                        go_region_held3 (fun w' => w'.cell? ⟨gn, n, none⟩ = some (.int .i64 n0) ∧ w'.cell? ⟨gl, n, none⟩ = some (.slice aj L.length cj)) (go_keep)
                          (first
                            | (go_at_call 26; refine (TK.out _ KD.out RL.out).mono ?_; rintro e w6 ⟨rfl, hb6⟩; have k0 : w6.cell? ⟨gn, n, none⟩ = some (.int .i64 n0) := (hb6.cell (p := ⟨gn, n, none⟩) hgn).trans zn; have k1 : w6.cell? ⟨gl, n, none⟩ = some (.slice aj L.length cj) := (hb6.cell (p := ⟨gl, n, none⟩) hgl).trans zlj; have HB6 := hid hb6; clear hb6))
                        have hb6 : Below wr.heap.size wr w6 := via (Below.refl _ _).drew (Nat.le_refl _) HB6.out
                        have K6 := hid (K5.out.below c.fr hb6)
                        have ROW6 := hid (wrow_keep ROW5.out hb6)
                        have LL6 := hid (LL5.out.below hb6)
                        have HB06 := hid (via HB5.out HB5.out.size hb6)
                        have hsz6 := hb6.size
                        have f6 := ROW6.out.frozenAt n
                        have AN := hid (AP4.out gn (.inl rfl))
                        obtain ⟨k7, hb7⟩ := K6.out.put c.fr ⟨gn, n, none⟩ (.int .i64 n1) ⟨AN.out.1, AN.out.2.2⟩
                        have K7 := hid k7
                        have ROW7 := hid (wrow_set ROW6.out n n1)
                        have LL7 := hid (LL6.out.put (p := ⟨gn, n, none⟩) (.int .i64 n1) (HD.out gn rfl))
                        have HB07 := hid (HB06.out.trans (hb7.mono HBB.out))
                        rw [EMS.out] at ROW7
                        clear k7 hb7 hb6 zn zlj fn
                        go_wp2
                        go_roundw
                        case rel => exact ⟨n + 1, by omega, by go_num, K7.out, ROW7.out, LL7.out, by simp [World.setCell]; omega, HB07.out⟩
                        case measure => simp [intOf]; omega
                      · have e : m = n := by omega
                        subst e
                        have r5 := ROW5.out
                        rw [← hcnt, mixL_full (by omega)] at r5
                        rw [hcnt] at r5
                        have R5 := hid r5
                        have AP5 : Hid (Apart wr wb P' h' B (fun b => (Value.ownBlock (.slice (some ⟨gn, 0, none⟩) m cn7)) = some b)) := hid (fun b hb => by have := AP4.out b (.inl hb); exact ⟨this.1, by omega, this.2.2⟩)
                        clear r5
                        go_wp2
                        go_roundw
                        case rel => exact ⟨k + 1, R.entry s x, stepD d s x, P', h', by omega, by go_num, K5.out, by omega, by rw [ESD.out, HST.out]; omega, by rw [ESET.out]; exact HSET.out, R5.out, AP5.out, HB5.out⟩
                        case measure => simp [intOf]; omega
                  · have e : k = l.length := by omega
                    subst e
                    go_wp2
                    go_ret
                    exact ⟨rfl, via HB0.out HB0.out.size HB0J.out⟩
  · have hlI : (1099511627776 : Int) < (l.length : Int) := by omega
    go_wp2
    go_ret
    exact ⟨rfl, (Below.refl _ _).alloc (Nat.le_refl _) _⟩
end Go.Proofs.Ytbkfildnijjioab

/-
  Ceilings: the invariant over a step.
-/
namespace Go.Proofs.Ytbkfildnijjioab
namespace R
section
variable {s : RS}
theorem cj_tick {tk wt : List Nat} (a : Ln.Aux s tk wt) (i : RInv s) (x : Ext s) (J : CJ s) : CJ (tick s) := by
  have ok := R.RInv.linksOk i
  have ho : (tick s).owner = s.owner := (tick_rest s).1
  have hff : ∀ u, u < s.T.length → (R.th (tick s).T u).for_ = 0 ∨ (R.th (tick s).T u).for_ = (R.th s.T u).for_ := by
    intro u hu
    rcases tick_th a ok u hu with ⟨_, _, h⟩ | ⟨_, h⟩
    · exact .inl h.for_
    · exact .inr h.for_
  refine cj_less (X := fun _ => False) a i x J (tick_rest s).2.2.2.2.1 (tick_len s) (by rw [ho]) (fun u => ((cols_tick s).th u).1) (tkt_tick i) (fun _ h => h.elim) (fun u hu => ?_) (fun u hu => ?_) (fun m _ u e => by rw [ho] at e; exact e)
  · rcases hff u hu with h | h
    · rw [h]; decide
    · rw [h]; exact J.f1 u hu
  · have hu' : Owns s u := by
      obtain ⟨m, hm, e⟩ := hu
      rw [ho] at hm e
      exact ⟨m, hm, e⟩
    rcases hff u (owner_lt i hu') with h | h
    · exact h
    · rw [h]; exact J.f0 u hu'
theorem no_prio (J : CJ s) (t : Nat) : (instrAt s t).op ≠ 4 := by
  unfold instrAt
  by_cases ht : t < s.set.threads.length
  · have e : s.set.threads.getD t P3.none0 = s.set.threads[t] := by simp [List.getD, ht]
    rw [e]
    by_cases hj : (R.th s.T t).at_.toNat < (s.set.threads[t]).code.length
    · rw [List.getElem?_eq_getElem hj]
      exact J.noP t ht _ hj
    · rw [List.getElem?_eq_none (by omega)]
      decide
  · have e : s.set.threads.getD t P3.none0 = P3.none0 := by simp [List.getD, List.getElem?_eq_none (show s.set.threads.length ≤ t by omega)]
    rw [e]
    simp [P3.none0]
theorem give_none (J : CJ s) (m : Nat) : giveT s 1 (m : Int) < 0 := (unlockS_none J.f1 0 m).2.2
theorem cj_act {tk wt : List Nat} (a : Ln.Aux s tk wt) (i : RInv s) (x : Ext s) (J : CJ s) (t : Nat) (p : Picked s t) (hw : 0 ≤ (R.th s.T t).wkr) :
    ((instrAt s t).op = 6 → actC s t = 0 ∨ actC s t = 3 ∨ actC s t = 4) ∧
    ((((instrAt s t).op = 2 ∨ (actC s t = 1 ∧ (instrAt s t).op ≠ 6)) → ¬ Owns (settle (actS s t)) t) → CJ (settle (actS s t))) := by
  have h4 := no_prio J t
  have hlk : (instrAt s t).op = 6 → actC s t = 0 ∨ actC s t = 3 ∨ actC s t = 4 := by
    intro h6
    have hc : actC s t = lockC s t (instrAt s t).a.toNat (instrAt s t).b := by
      rw [(actS_is s t (by omega) (by omega)).2]
      unfold doesC
      rw [if_neg (by omega), if_pos h6]
    have ha := p.ins.mtx (.inl h6)
    have hml : (instrAt s t).a.toNat < s.owner.length := by have := i.good.own; omega
    rw [hc]
    exact cj_lock a i x J t p.ht hw _ hml _
  refine ⟨hlk, fun hsus => ?_⟩
  have eo : (settle (actS s t)).owner = (actS s t).owner := rfl
  have hol8 : s.owner.length ≤ 8 := by have := i.good.own; have := i.good.mfew; omega
  have hset : (settle (actS s t)).set = s.set := (like_actS s t hol8).set
  have hlen : (settle (actS s t)).T.length = s.T.length := (settleT_length _ _ _).trans p.cols.1
  have hsl := slp_of (slpQ_inv i)
  have hst : ∀ u, ∃ w, R.th (settle (actS s t)).T u = { R.th (actS s t).T u with wkr := w } := fun u => settle_eq (actS s t) u
  have hfs : ∀ u, (R.th (settle (actS s t)).T u).for_ = (R.th (actS s t).T u).for_ := fun u => by obtain ⟨w, e⟩ := hst u; rw [e]
  have hb : ∀ u, (R.th (settle (actS s t)).T u).base = (R.th s.T u).base := by
    intro u
    obtain ⟨w, e⟩ := hst u
    rw [e]
    have := (p.cols.2 u).1
    rw [if_neg (fun q => h4 q.1)] at this
    exact this
  have hfo : ∀ u, u ≠ t → (R.th (settle (actS s t)).T u).for_ = 0 ∨ (R.th (settle (actS s t)).T u).for_ = (R.th s.T u).for_ := by
    intro u hu
    rw [hfs]
    rcases p.moved.th u hu with ⟨h, _⟩ | ⟨_, h⟩
    · exact .inr h.for_
    · exact .inl h.for_
  have hf1 : ∀ u, u < s.T.length → (R.th (settle (actS s t)).T u).for_ ≠ 1 := by
    intro u hu
    by_cases e : u = t
    · subst e
      rw [hfs]
      by_cases hc : actC s u = 1
      · rw [(p.self.1 hc).for_]
        unfold askFor
        by_cases h6 : (instrAt s u).op = 6
        · have := hlk h6; omega
        · rw [if_neg h6]
          split
          · decide
          · split
            · decide
            · split <;> decide
      · rw [(p.self.2 hc).for_]; decide
    · rcases hfo u e with h | h
      · rw [h]; decide
      · rw [h]; exact J.f1 u hu
  by_cases h6 : (instrAt s t).op = 6 ∧ actC s t = 0
  · obtain ⟨h6, hc0⟩ := h6
    have hcl : lockC s t (instrAt s t).a.toNat (instrAt s t).b = 0 := by
      have hc : actC s t = lockC s t (instrAt s t).a.toNat (instrAt s t).b := by
        rw [(actS_is s t (by omega) (by omega)).2]
        unfold doesC
        rw [if_neg (by omega), if_pos h6]
      rw [← hc]; exact hc0
    have how : (actS s t).owner = s.owner.set (instrAt s t).a.toNat (t : Int) := by
      rw [actS_owner, if_neg (by omega), if_pos h6, (lockS_rest s t _ _).2.2, if_pos hcl]
    have hT : ∀ u, (R.th (actS s t).T u).tick = (R.th s.T u).tick ∧ (R.th (actS s t).T u).awake = (R.th s.T u).awake := by
      intro u
      have e1 : doesS s t (instrAt s t) = { s with owner := s.owner.set (instrAt s t).a.toNat (t : Int) } := by
        unfold doesS
        rw [if_neg (by omega), if_neg (by omega), if_neg (by omega), if_pos h6]
        unfold lockS
        rw [if_pos hcl]
      rw [(actS_is s t (by omega) (by omega)).1, e1]
      show (R.th ((s.T.modify t _).modify t _) u).tick = _ ∧ (R.th ((s.T.modify t _).modify t _) u).awake = _
      rw [Ln.th_modify, Ln.th_modify]
      split <;> split <;> exact ⟨rfl, rfl⟩
    refine cj_more a i x J t p.ht hw hset hlen (by rw [eo, how]; simp) hb (fun u => ?_) hf1 (fun u hu => ?_) (fun m hm u hne e => ?_)
    · obtain ⟨w, e⟩ := hst u
      rw [e]
      exact hT u
    · by_cases e : u = t
      · subst e
        rw [hfs, (p.self.2 (by omega)).for_]
      · have hu' : Owns s u := by
          obtain ⟨m, hm, e1⟩ := hu
          rw [eo, how] at hm e1
          rw [List.length_set] at hm
          by_cases e2 : m = (instrAt s t).a.toNat
          · rw [e2, getD_set_self _ _ _ (by rw [← e2]; exact hm)] at e1
            omega
          · rw [getD_set_ne _ _ _ _ (by omega)] at e1
            exact ⟨m, hm, e1⟩
        rcases hfo u e with h | h
        · exact h
        · rw [h]; exact J.f0 u hu'
    · rw [eo, how] at e
      by_cases e2 : m = (instrAt s t).a.toNat
      · rw [e2, getD_set_self _ _ _ (by rw [← e2]; exact hm)] at e
        omega
      · rw [getD_set_ne _ _ _ _ (by omega)] at e
        exact e
  · have ho : ∀ m, m < s.owner.length → ∀ u : Nat, (settle (actS s t)).owner.getD m 0 = (u : Int) → s.owner.getD m 0 = (u : Int) ∧ ((instrAt s t).op = 0 → u ≠ t) := by
      intro m hm u e
      rw [eo, actS_owner] at e
      have hg := give_none J m
      by_cases h0 : (instrAt s t).op = 0
      · rw [if_pos h0, (heirs s t p.f0 s.owner.length (Nat.le_refl _)).2.2.2 m hm] at e
        split at e
        · omega
        · rename_i q
          exact ⟨e, fun _ q2 => q (by rw [e, q2])⟩
      rw [if_neg h0] at e
      refine ⟨?_, fun q => absurd q h0⟩
      by_cases h6' : (instrAt s t).op = 6
      · have hcl : ¬ lockC s t (instrAt s t).a.toNat (instrAt s t).b = 0 := by
          have hc : actC s t = lockC s t (instrAt s t).a.toNat (instrAt s t).b := by
            rw [(actS_is s t (by omega) (by omega)).2]
            unfold doesC
            rw [if_neg (by omega), if_pos h6']
          rw [← hc]
          exact fun q => h6 ⟨h6', q⟩
        rw [if_pos h6', (lockS_rest s t _ _).2.2, if_neg hcl] at e
        exact e
      rw [if_neg h6'] at e
      by_cases h7 : (instrAt s t).op = 7
      · rw [if_pos h7] at e
        unfold unlockS at e
        split at e
        · have e : (s.owner.set (instrAt s t).a.toNat (giveT s 1 ((instrAt s t).a.toNat : Int))).getD m 0 = (u : Int) := e
          by_cases e2 : m = (instrAt s t).a.toNat
          · have hg2 := give_none J (instrAt s t).a.toNat
            rw [← e2] at e hg2
            rw [getD_set_self _ _ _ hm] at e
            omega
          · rw [getD_set_ne _ _ _ _ (by omega)] at e
            exact e
        · exact e
      · rw [if_neg h7] at e
        exact e
    have hXo : ((instrAt s t).op = 0 ∨ (instrAt s t).op = 2 ∨ actC s t = 1) → ¬ Owns (settle (actS s t)) t := by
      rintro (h | h | h)
      · rintro ⟨m, hm, e⟩
        have hm' : m < s.owner.length := by
          rw [eo, actS_owner, if_pos h, (heirs s t p.f0 s.owner.length (Nat.le_refl _)).2.1] at hm
          exact hm
        exact (ho m hm' t e).2 h rfl
      · exact hsus (.inl h)
      · exact hsus (.inr ⟨h, fun q => by have := hlk q; omega⟩)
    have hol : (settle (actS s t)).owner.length = s.owner.length := by
      rw [eo, actS_owner]
      split
      · exact (heirs s t p.f0 s.owner.length (Nat.le_refl _)).2.1
      · split
        · rw [(lockS_rest s t _ _).2.2]
          split
          · simp
          · rfl
        · split
          · unfold unlockS
            split
            · simp
            · rfl
          · rfl
    refine cj_less (X := fun u => u = t ∧ ((instrAt s t).op = 0 ∨ (instrAt s t).op = 2 ∨ actC s t = 1)) a i x J hset hlen hol hb (tkt_settle (tkt_actS hsl J.f1 t (fun h => ⟨rfl, h⟩))) ?_ hf1 (fun u hu => ?_) (fun m hm u e => (ho m hm u e).1)
    · rintro u ⟨rfl, h⟩
      exact ⟨hXo h, p.aw⟩
    · by_cases e : u = t
      · subst e
        rw [hfs]
        by_cases hc : actC s u = 1
        · exact absurd hu (hXo (.inr (.inr hc)))
        · exact (p.self.2 hc).for_
      · have hu' : Owns s u := by
          obtain ⟨m, hm, e1⟩ := hu
          rw [hol] at hm
          exact ⟨m, hm, (ho m hm u e1).1⟩
        rcases hfo u e with h | h
        · exact h
        · rw [h]; exact J.f0 u hu'
end
end R
end Go.Proofs.Ytbkfildnijjioab
