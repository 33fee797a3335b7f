import Derived.Test.YtbkfildnijjioabA24
import Derived.Test.YtbkfildnijjioabA25
import Derived.Test.YtbkfildnijjioabA21
import Derived.Test.YtbkfildnijjioabA15
import Derived.Test.YtbkfildnijjioabA12
/-
  Delivered: the law's own function.
-/
namespace Go.Proofs.Ytbkfildnijjioab
open Go.RowKit
section
variable {d : WD} {s : RS}
theorem got_release (v : RS) (k t : Nat) : (R.th (R.releaseTo v k).T t).got = (R.th v.T t).got := by
  induction k with
  | zero => rfl
  | succ k ih =>
    unfold R.releaseTo R.releaseOne
    split
    · split
      · refine ((R.keep_wake _ k).got t).trans ?_
        exact (got_modify (s := R.releaseTo v k) k t (f := fun x => { x with rel := R.numberAt (R.releaseTo v k) k 0 + 1 }) rfl (fun _ => rfl)).trans ih
      · exact (got_modify (s := R.releaseTo v k) k t (f := fun x => { x with rel := R.numberAt (R.releaseTo v k) k 0 + 1 }) rfl (fun _ => rfl)).trans ih
    · exact ih
theorem got_new (S : SetD) (t : Nat) : (viewD (R.new S) t).got = 0 := by
  show (R.th (R.settle (R.release (R.bare S))).T t).got = 0
  rw [(R.settle_stay _ t).2.2]
  refine (got_release (R.bare S) (R.bare S).T.length t).trans ?_
  by_cases ht : t < S.threads.length
  · simp [R.th, R.bare, List.getD, ht, R.rt0]
  · simp [R.th, R.bare, List.getD, ht, R.rt0]
theorem box_new (S : SetD) : (R.new S).box = List.replicate S.queues.length [] := by
  show (R.settle (R.release (R.bare S))).box = _
  refine (releaseTo_rest (R.bare S) (R.bare S).T.length).2.1.trans ?_
  show S.queues.map (fun _ => []) = _
  exact List.map_const' ..
theorem step_ia (i : RInv s) (x : R.Ext0 s) (n : Int) (h1 : (stepD d s n).who ≠ -1) (h2 : (stepD d s n).i.op = 10) : 0 ≤ (stepD d s n).i.a ∧ (stepD d s n).i.a < (s.box.length : Int) := by
  have e1 : (stepD d s n).who = (movedD d s n).who := rfl
  have e2 : (stepD d s n).i = (movedD d s n).i := rfl
  rcases moved_cases (d := d) i x n with ⟨_, em⟩ | ⟨_, _, em⟩ | ⟨u, _, p, _, em⟩
  · rw [e1, em] at h1
    exact absurd rfl h1
  · rw [e1, em] at h1
    exact absurd rfl h1
  · rw [e2, em, doesD_i] at h2 ⊢
    exact p.ins.que (.inl h2)
end
set_option maxRecDepth 100000 in
set_option maxHeartbeats 8000000 in
theorem lawDelivered_any {PK : KP} (c : CAll PK) (cn : CNew PK (fun _ => True)) (tv mv sv qv av : Option Addr) (tc mc sc qc ac : Nat) (S : SetD) (l : List Int) (w : World) (hS : SetIn w.heap.size w tv mv sv qv S) (hF : Fits S) (hnil : (tv = none → tc = 0) ∧ (mv = none → mc = 0) ∧ (sv = none → sc = 0) ∧ (qv = none → qc = 0)) (hl : IntsIn w.heap.size w av l) (hll : l.length ≤ 9223372036854775807) :
    Calls Try.prog 9 #[.agg #[.int .i64 S.workers, .int .i64 S.start, .slice tv S.threads.length tc, .slice mv S.mutexes.length mc, .slice sv S.sems.length sc, .slice qv S.queues.length qc], .slice av l.length ac] w fun e w' =>
      e = .returned (.bool true) ∧ Below w.heap.size w w' := by
  obtain ⟨i3, hi3, hz30, hz31, hz32⟩ := info_parts Try.infoInts
  have HI3 := hid (And.intro hi3 (And.intro hz30 (And.intro hz31 hz32)))
  clear hi3 hz30 hz31 hz32
  have HS := hid hS
  have HF := hid hF
  have HN := hid hnil
  have HL := hid hl
  clear hS hF hnil hl
  go_enter Try.func9, Try.ntmps9
  by_cases hlong : l.length ≤ 1099511627776
  · have hlI : (l.length : Int) ≤ 1099511627776 := by omega
    go_wp2_with fail
    have hb0 : Below w.heap.size w (w.alloc (.cells #[.int .i64 S.workers, .int .i64 S.start, .slice tv S.threads.length tc, .slice mv S.mutexes.length mc, .slice sv S.sems.length sc, .slice qv S.queues.length qc] 27)) := (Below.refl _ _).alloc (Nat.le_refl _) _
    have X0 := Blk.new w #[.int .i64 S.workers, .int .i64 S.start, .slice tv S.threads.length tc, .slice mv S.mutexes.length mc, .slice sv S.sems.length sc, .slice qv S.queues.length qc] 27
    generalize w.alloc (.cells #[.int .i64 S.workers, .int .i64 S.start, .slice tv S.threads.length tc, .slice mv S.mutexes.length mc, .slice sv S.sems.length sc, .slice qv S.queues.length qc] 27) = w0 at hb0 X0 ⊢
    have HX0 := hid X0
    have HB0 := hid hb0
    have HS0 := hid (HS.out.later hb0)
    have HL0 := hid (HL.out.on hb0)
    clear hb0 X0
    refine (wBeginS_any c cn tv mv sv qv tc mc sc qc S w0 HS0.out HF.out HN.out).mono ?_
    rintro e w1 ⟨hb1, hcase⟩
    have HB1 := hid hb1
    clear hb1
    rcases hcase with ⟨_, rfl⟩ | ⟨herr, hnx, B, wb, kb, P, h, hB, rfl, ks⟩
    · go_wp2
      go_ret
      exact ⟨rfl, via HB0.out HB0.out.size HB1.out⟩
    · have K1 := hid ks
      have HBB := hid hB
      have hs4 : S.queues.length ≤ 4 := by have := (ok_sizes (s := R.new S) (by rw [new_set]; exact herr)).2; rw [new_set] at this; exact this
      have HCN := hid (box_new S)
      have HSN := hid (new_set S)
      have HX := HX0.out.only (Only.of_below (L := []) HB1.out) (by simp)
      have x5 := HX.cell 5
      simp at x5
      clear ks hB HX
      obtain ⟨m, hm⟩ : ∃ x, Hid (S.queues.length = x) := ⟨_, hid rfl⟩
      rw [hm.out] at hs4 x5 HCN
      have hbz := K1.out.k.m.bsz
      go_upto_region 7 with (at_make; refine wpList_make_full _ rfl _ _ 37 rfl w1.heap.size 25 i3 (.slice none 0 0) 1 Try.underlying37 HI3.out.1 HI3.out.2.1 HI3.out.2.2.1 .i64 .i64 _ _ m rfl rfl rfl rfl (by rw [HI3.out.2.2.2]; omega) (by unfold maxLen; omega) (Nat.le_refl _) ?_; intro w2 hown2 hg2; have O2 := hid hown2; have G2 := hid hg2; clear hown2 hg2)
      have hb2 : Below w1.heap.size w1 w2 := (Below.refl _ _).grown G2.out (Nat.le_refl _) (by simp)
      have bx2 : BX B w2 (.slice (some ⟨w1.heap.size, 0, none⟩) m m) (R.new S).box (List.replicate m (none, 0)) := by
        rw [HCN.out]
        refine ⟨by simp, ?_, fun j hj => ?_⟩
        · have := O2.out
          have e : (madeCells (Value.slice none 0 0).cells (m * 1)).toList = boxV (List.replicate m []) (List.replicate m (none, 0)) := by
            rw [Nat.mul_one]
            show (madeCells #[Value.slice none 0 0] m).toList = _
            rw [toList_madeCells_one]
            apply List.ext_getElem
            · simp [boxV]
            · intro i h1 h2
              have hi : i < m := by simpa using h1
              simp [boxV, List.getD, hi]
          rw [e] at this
          rw [List.length_replicate]
          exact ownsRow_mono this hbz
        · have hj' : j < m := by simpa using hj
          have e1 : (List.replicate m ((none, 0) : Option Addr × Nat)).getD j (none, 0) = (none, 0) := by simp [List.getD, hj']
          have e2 : (List.replicate m ([] : List Int)).getD j [] = [] := by simp [List.getD, hj']
          rw [e1, e2]
          exact ⟨by simp, fun _ => rfl, fun a ha => (by cases ha)⟩
      have BX2 := hid bx2
      have K2 := hid (K1.out.below c.fr hb2)
      have HB2 := hid (via HB1.out HB1.out.size hb2)
      have AP2 : Hid (Apart w2 wb P h B (BB (.slice (some ⟨w1.heap.size, 0, none⟩) m m) (List.replicate m (none, 0)))) := by
        refine hid fun b hb => ?_
        have hge := (bx2.ge b hb).2
        rcases hb with hb | ⟨j, hj, hb⟩
        · have e : w1.heap.size = b := Option.some.inj hb
          have := K1.out.fresh c.fr (g := b) (by omega)
          exact ⟨this.1, hge, this.2⟩
        · exfalso
          have hj' : j < m := by simpa using hj
          have e1 : (List.replicate m ((none, 0) : Option Addr × Nat)).getD j (none, 0) = (none, 0) := by simp [List.getD, hj']
          rw [e1] at hb
          cases hb
      clear hb2 bx2 O2 G2 x5 K1 HB1
      generalize hgw : w1.heap.size = gw at *
      clear hgw
      have hfew := K2.out.i.good.few
      go_wp2
      go_loopw [8] (fun i wr => ∃ k : Nat, k ≤ (R.new S).T.length ∧ i = .int .i64 k ∧ wr = w2) (fun i _ => (R.new S).T.length - (intOf i).toNat)
      case atStart => exact ⟨0, Nat.zero_le _, rfl, rfl⟩
      case round =>
        obtain ⟨k, hk, rfl, hwr⟩ := hrel
        have hwr2 := hwr.symm
        subst hwr2
        clear hwr
        obtain ⟨gv, cv, cw, hgv, zv⟩ := K2.out.view
        by_cases hkl : k < (R.new S).T.length
        · have hkI : (k : Int) < ((R.new S).T.length : Int) := by omega
          have a5 := zv k hkl 5 (by decide)
          simp [vCells] at a5
          rw [got_new] at a5
          clear zv
          go_wp2
          go_roundw
          case rel => exact ⟨k + 1, by omega, by go_num, by first | rfl | trivial⟩
          case measure => simp [intOf]; omega
        · clear zv hgv
          go_wp2
          clear cw
          go_loopw [9] (fun i wr => ∃ (k : Nat) (s : RS) (d : WD) (P : Nat → Prop) (h : WH) (vs : List (Option Addr × Nat)), k ≤ l.length ∧ i = .int .i64 k ∧ KWS PK B wr wb kb P h d s ∧ s.next ≤ 16 + 33 * k ∧ d.steps = k ∧ s.set = S ∧ BX B wr (.slice (some ⟨gw, 0, none⟩) m m) s.box vs ∧ Apart wr wb P h B (BB (.slice (some ⟨gw, 0, none⟩) m m) vs) ∧ Below w0.heap.size w0 wr) (fun i _ => l.length + 1 - (intOf i).toNat)
          case atStart => exact ⟨0, R.new S, firstD S, P, h, _, Nat.zero_le _, rfl, K2.out, by omega, rfl, HSN.out, BX2.out, AP2.out, HB2.out⟩
          case round =>
            obtain ⟨k, s, d, P, h, vs, hk, rfl, hks, hnk, hst, hset, hbx, hap, hbk⟩ := hrel
            have KK := hid hks
            have HBK := hid hbk
            have HST := hid hst
            have HSET := hid hset
            have BXK := hid hbx
            have AP := hid hap
            clear hks hbk hst hset hbx hap BX2 K2 HB2 AP2
            have hkI : (k : Int) ≤ (l.length : Int) := by omega
            have hcnt : s.box.length = m := by have := KK.out.i.bnd.qs; rw [this, HSET.out]; exact hm.out
            have hth : R.things s 3 = (m : Int) := by unfold R.things; rw [if_neg (by decide), if_neg (by decide), if_pos rfl, hcnt]
            have LC := hid (wLines_any c KK.out 3 m (by decide) (by rw [hth]; exact Int.le_refl _) (by omega))
            clear hth
            go_wp2_with fail
            refine LC.out.mono ?_
            rintro e w2' ⟨vl, ws, rfl, hll2, hb2⟩
            have LL2 := hid hll2
            have K2 := hid (KK.out.below c.fr hb2)
            have AP2 := hid (AP.out.below hb2.size)
            have BX2 := hid (BXK.out.below hb2)
            have HB2 := hid (via HBK.out HBK.out.size hb2)
            have NLT : Hid (gw < wr.heap.size) := hid ((BXK.out.ge gw (.inl rfl)).2)
            obtain ⟨al, cl, hvl, hal0, hal1⟩ := owns_cells hll2.row
            rw [waitsTo_length] at hvl hal0
            subst hvl
            have hszw := HBK.out.size
            clear hb2 hll2 LC
            by_cases hm0 : m = 0
            · have HM0 := hid hm0
              clear hm0 hal0 hal1
              go_wp2_with fail
              refine (wBoxes_any c K2.out m hcnt B wr.heap.size (some ⟨gw, 0, none⟩) m vs BX2.out _ cl ws LL2.out).mono ?_
              rintro e w3 ⟨rfl, hb3⟩
              have KJ := hid (K2.out.below c.fr hb3)
              have BXJ := hid (BX2.out.below hb3)
              have LLJ := hid (LL2.out.below hb3)
              have APJ := hid (AP2.out.below hb3.size)
              have HB0J := hid (via HB2.out HB2.out.size hb3)
              have hszj := hb3.size
              clear hb3
              by_cases hkl : k < l.length
              · obtain ⟨ab, aoff, ha, hab, hcell⟩ := HL0.out k hkl
                subst ha
                have hcell' : w3.cell? ⟨ab, aoff + k, none⟩ = some (.int .i64 l[k]) := (HB0J.out.cell (p := ⟨ab, aoff + k, none⟩) hab).trans hcell
                have hkl2 : (k : Int) < (l.length : Int) := by omega
                have hkne : ((k : Int) == (l.length : Int)) = false := by rw [beq_eq_false_iff_ne]; omega
                have hen := entry_next s l[k] KJ.out.i
                have ESD := hid (stepD_steps d s l[k])
                have ESET := hid (entry_set KJ.out.i KJ.out.x.toExt0 l[k])
                obtain ⟨_, tk, wt, _, ax⟩ := c.aux KJ.out.k.pk
                have MS := hid (mail_step (d := d) KJ.out.i KJ.out.x.toExt0 ax KJ.out.snc l[k])
                have GT := hid (got_step (d := d) KJ.out.i KJ.out.x.toExt0 ax KJ.out.snc l[k])
                have SI := hid (step_ia (d := d) KJ.out.i KJ.out.x.toExt0 l[k])
                have WAS := hid (stepD_was KJ.out.wd l[k])
                have ELN := hid (entry_len KJ.out.i KJ.out.x.toExt0 l[k])
                generalize l[k] = x at *
                clear ax
                have FM : FrameM (fun b => BB (.slice (some ⟨gw, 0, none⟩) m m) vs b ∨ LB (.slice al m cl) ws b) (fun w' => BX B w' (.slice (some ⟨gw, 0, none⟩) m m) s.box vs ∧ LL B w' (.slice al m cl) (waitsTo s 3 m) ws) := fun u v m hs hz => ⟨BX.frame u v m.1 (fun b hb => hs b (.inl hb)) hz, LL.frame u v m.2 (fun b hb => hs b (.inr hb)) hz⟩
                have APL : Apart w3 wb P h B (fun b => BB (.slice (some ⟨gw, 0, none⟩) m m) vs b ∨ LB (.slice al m cl) ws b) := by
                  rintro b (hb | hb)
                  · exact APJ.out b hb
                  · have h1 := LL2.out.ge b hb
                    have h2 := KK.out.fresh c.fr h1.1
                    exact ⟨h2.1, by omega, h2.2⟩
                have ST := hid (wStepL_any c KJ.out FM APL ⟨BXJ.out, LLJ.out.mono KK.out.k.m.bsz⟩ (by omega) (by rw [HST.out]; omega) (by rw [HST.out]; omega) x)
                clear FM APL
                go_wp2_with fail
                refine ST.out.mono ?_
                rintro e w4 ⟨rfl, ⟨P', h', k4, ap4, bx4, ll4⟩, hb4⟩
                have K4 := hid k4
                have BX4 := hid bx4
                have LL4 := hid ll4
                have AP4 := hid (fun b (hb : BB (.slice (some ⟨gw, 0, none⟩) m m) vs b) => (show B ≤ b ∧ ¬ P' b ∧ ¬ WB wb h' b from ⟨(ap4 b (.inl hb)).1, (ap4 b (.inl hb)).2.2⟩))
                have HB4 := hid (HB0J.out.trans (hb4.mono HBB.out))
                have hfew := K4.out.i.good.few
                have hcnt2 : (R.entry s x).box.length = m := by have := K4.out.i.bnd.qs; rw [this, ESET.out, HSET.out]; exact hm.out
                have HD : Hid (¬ LB (.slice al m cl) ws gw) := hid (fun hl => by
                  have h1 := NLT.out
                  have h2 := (LL2.out.ge gw hl).1
                  omega)
                have hq5 : (R.entry s x).set.queues.length = m := by rw [ESET.out, HSET.out]; exact hm.out
                have EQ5 : Hid ((R.entry s x).set.queues = s.set.queues) := hid (by rw [ESET.out])
                clear k4 ap4 bx4 ll4 hb4 hcell' ST
                go_wp2
                go_loopw [12] (fun i wr => ∃ (n : Nat) (vs' : List (Option Addr × Nat)), n ≤ m ∧ i = .int .i64 n ∧ KWS PK B wr wb kb P' h' (stepD d s x) (R.entry s x) ∧ BX B wr (.slice (some ⟨gw, 0, none⟩) m m) (mixL s.box (R.entry s x).box n) vs' ∧ (∀ b, BB (.slice (some ⟨gw, 0, none⟩) m m) vs' b → B ≤ b ∧ ¬ P' b ∧ ¬ WB wb h' b) ∧ LL B wr (.slice al m cl) (waitsTo s 3 m) ws ∧ Below w0.heap.size w0 wr) (fun i _ => m - (intOf i).toNat)
                case atStart => exact ⟨0, vs, Nat.zero_le _, rfl, K4.out, by rw [mixL_zero]; exact BX4.out, AP4.out, LL4.out, HB4.out⟩
                case round =>
                  obtain ⟨n, vs', hn, rfl, hks, hbx5, hap5, hll5, hb5⟩ := hrel
                  have K5 := hid hks
                  have BX5 := hid hbx5
                  have AP5 := hid hap5
                  have LL5 := hid hll5
                  have HB5 := hid hb5
                  clear hks hbx5 hap5 hll5 hb5
                  by_cases hnl : n < m
                  · exact absurd hnl (by have := HM0.out; omega)
                  · have e : m = n := by omega
                    subst e
                    have bx5 := BX5.out
                    rw [← hcnt, mixL_full (by omega)] at bx5
                    rw [hcnt] at bx5
                    have B5 := hid bx5
                    clear bx5
                    have GC := hid (wGets_any c K5.out WAS.out ELN.out.symm B m _ cl ws LL5.out (fun h1 h2 => by have := SI.out h1 h2; rw [hcnt] at this; exact this) (fun t _ => GT.out t))
                    go_wp2_with fail
                    refine GC.out.mono ?_
                    rintro e w7 ⟨rfl, hb7⟩
                    have K7 := hid (K5.out.below c.fr hb7)
                    have B7 := hid (B5.out.below hb7)
                    have HB7 := hid (via HB5.out HB5.out.size hb7)
                    have AP7 : Hid (Apart w7 wb P' h' B (BB (.slice (some ⟨gw, 0, none⟩) m m) vs')) := hid (fun b hb => ⟨(AP5.out b hb).1, (B7.out.ge b hb).2, (AP5.out b hb).2⟩)
                    clear hb7 GC
                    go_wp2
                    go_roundw
                    case rel => exact ⟨k + 1, R.entry s x, stepD d s x, P', h', vs', by omega, by go_num, K7.out, by omega, by rw [ESD.out, HST.out]; omega, by rw [ESET.out]; exact HSET.out, B7.out, AP7.out, HB7.out⟩
                    case measure => simp [intOf]; omega
              · have e : k = l.length := by omega
                subst e
                go_wp2
                go_ret
                exact ⟨rfl, via HB0.out HB0.out.size HB0J.out⟩
            · have HM0 := hid hm0
              clear hm0
              cases al with
              | none => exact absurd (hal0 rfl).1 HM0.out
              | some ad =>
              obtain ⟨gl, hgl0, _, _, _, _⟩ := hal1 ad rfl
              subst hgl0
              clear hal0 hal1
              go_wp2_with fail
              refine (wBoxes_any c K2.out m hcnt B wr.heap.size (some ⟨gw, 0, none⟩) m vs BX2.out _ cl ws LL2.out).mono ?_
              rintro e w3 ⟨rfl, hb3⟩
              have KJ := hid (K2.out.below c.fr hb3)
              have BXJ := hid (BX2.out.below hb3)
              have LLJ := hid (LL2.out.below hb3)
              have APJ := hid (AP2.out.below hb3.size)
              have HB0J := hid (via HB2.out HB2.out.size hb3)
              have hszj := hb3.size
              clear hb3
              by_cases hkl : k < l.length
              · obtain ⟨ab, aoff, ha, hab, hcell⟩ := HL0.out k hkl
                subst ha
                have hcell' : w3.cell? ⟨ab, aoff + k, none⟩ = some (.int .i64 l[k]) := (HB0J.out.cell (p := ⟨ab, aoff + k, none⟩) hab).trans hcell
                have hkl2 : (k : Int) < (l.length : Int) := by omega
                have hkne : ((k : Int) == (l.length : Int)) = false := by rw [beq_eq_false_iff_ne]; omega
                have hen := entry_next s l[k] KJ.out.i
                have ESD := hid (stepD_steps d s l[k])
                have ESET := hid (entry_set KJ.out.i KJ.out.x.toExt0 l[k])
                obtain ⟨_, tk, wt, _, ax⟩ := c.aux KJ.out.k.pk
                have MS := hid (mail_step (d := d) KJ.out.i KJ.out.x.toExt0 ax KJ.out.snc l[k])
                have GT := hid (got_step (d := d) KJ.out.i KJ.out.x.toExt0 ax KJ.out.snc l[k])
                have SI := hid (step_ia (d := d) KJ.out.i KJ.out.x.toExt0 l[k])
                have WAS := hid (stepD_was KJ.out.wd l[k])
                have ELN := hid (entry_len KJ.out.i KJ.out.x.toExt0 l[k])
                generalize l[k] = x at *
                clear ax
                have FM : FrameM (fun b => BB (.slice (some ⟨gw, 0, none⟩) m m) vs b ∨ LB (.slice (some ⟨gl, 0, none⟩) m cl) ws b) (fun w' => BX B w' (.slice (some ⟨gw, 0, none⟩) m m) s.box vs ∧ LL B w' (.slice (some ⟨gl, 0, none⟩) m cl) (waitsTo s 3 m) ws) := fun u v m hs hz => ⟨BX.frame u v m.1 (fun b hb => hs b (.inl hb)) hz, LL.frame u v m.2 (fun b hb => hs b (.inr hb)) hz⟩
                have APL : Apart w3 wb P h B (fun b => BB (.slice (some ⟨gw, 0, none⟩) m m) vs b ∨ LB (.slice (some ⟨gl, 0, none⟩) m cl) ws b) := by
                  rintro b (hb | hb)
                  · exact APJ.out b hb
                  · have h1 := LL2.out.ge b hb
                    have h2 := KK.out.fresh c.fr h1.1
                    exact ⟨h2.1, by omega, h2.2⟩
                have ST := hid (wStepL_any c KJ.out FM APL ⟨BXJ.out, LLJ.out.mono KK.out.k.m.bsz⟩ (by omega) (by rw [HST.out]; omega) (by rw [HST.out]; omega) x)
                clear FM APL
                go_wp2_with fail
                refine ST.out.mono ?_
                rintro e w4 ⟨rfl, ⟨P', h', k4, ap4, bx4, ll4⟩, hb4⟩
                have K4 := hid k4
                have BX4 := hid bx4
                have LL4 := hid ll4
                have AP4 := hid (fun b (hb : BB (.slice (some ⟨gw, 0, none⟩) m m) vs b) => (show B ≤ b ∧ ¬ P' b ∧ ¬ WB wb h' b from ⟨(ap4 b (.inl hb)).1, (ap4 b (.inl hb)).2.2⟩))
                have HB4 := hid (HB0J.out.trans (hb4.mono HBB.out))
                have hfew := K4.out.i.good.few
                have hcnt2 : (R.entry s x).box.length = m := by have := K4.out.i.bnd.qs; rw [this, ESET.out, HSET.out]; exact hm.out
                have HD : Hid (¬ LB (.slice (some ⟨gl, 0, none⟩) m cl) ws gw) := hid (fun hl => by
                  have h1 := NLT.out
                  have h2 := (LL2.out.ge gw hl).1
                  omega)
                have hq5 : (R.entry s x).set.queues.length = m := by rw [ESET.out, HSET.out]; exact hm.out
                have EQ5 : Hid ((R.entry s x).set.queues = s.set.queues) := hid (by rw [ESET.out])
                clear k4 ap4 bx4 ll4 hb4 hcell' ST
                go_wp2
                go_loopw [12] (fun i wr => ∃ (n : Nat) (vs' : List (Option Addr × Nat)), n ≤ m ∧ i = .int .i64 n ∧ KWS PK B wr wb kb P' h' (stepD d s x) (R.entry s x) ∧ BX B wr (.slice (some ⟨gw, 0, none⟩) m m) (mixL s.box (R.entry s x).box n) vs' ∧ (∀ b, BB (.slice (some ⟨gw, 0, none⟩) m m) vs' b → B ≤ b ∧ ¬ P' b ∧ ¬ WB wb h' b) ∧ LL B wr (.slice (some ⟨gl, 0, none⟩) m cl) (waitsTo s 3 m) ws ∧ Below w0.heap.size w0 wr) (fun i _ => m - (intOf i).toNat)
                case atStart => exact ⟨0, vs, Nat.zero_le _, rfl, K4.out, by rw [mixL_zero]; exact BX4.out, AP4.out, LL4.out, HB4.out⟩
                case round =>
                  obtain ⟨n, vs', hn, rfl, hks, hbx5, hap5, hll5, hb5⟩ := hrel
                  have K5 := hid hks
                  have BX5 := hid hbx5
                  have AP5 := hid hap5
                  have LL5 := hid hll5
                  have HB5 := hid hb5
                  clear hks hbx5 hap5 hll5 hb5
                  by_cases hnl : n < m
                  · have hnI : (n : Int) < (m : Int) := by omega
                    have hnc : n < s.box.length := by omega
                    have hml : (mixL s.box (R.entry s x).box n).length = m := by rw [mixL_length (by omega) (by omega)]; exact hcnt
                    have zb := BX5.out.at n (by omega)
                    have ilb := BX5.out.each n (by omega)
                    have emg : (mixL s.box (R.entry s x).box n).getD n [] = s.box.getD n [] := by rw [List.getD_eq_getElem?_getD, mixL_get (by omega) hnc, ← List.getD_eq_getElem?_getD]
                    rw [emg] at zb ilb
                    obtain ⟨ax1, hax1⟩ : ∃ y, Hid ((vs'.getD n (none, 0)).1 = y) := ⟨_, hid rfl⟩
                    obtain ⟨cx1, hcx1⟩ : ∃ y, Hid ((vs'.getD n (none, 0)).2 = y) := ⟨_, hid rfl⟩
                    rw [hax1.out, hcx1.out] at zb ilb
                    have fb : wr.frozen? ⟨gw, n, none⟩ = false := by
                      have hrow := BX5.out.row
                      rw [hml] at hrow
                      exact hrow.frozenAt n
                    obtain ⟨aj, cj, zlj⟩ := LL5.out.at n (by rw [waitsTo_length]; exact hnl)
                    have hlj := LL5.out.at_row zlj
                    have egn := waitsTo_get s 3 m n hnl
                    rw [egn] at zlj hlj
                    have tp := MS.out n hnc
                    have qb := KJ.out.i.bnd.qb n hnc
                    have qk := ok_queue (s := s) KJ.out.i.ok n (by rw [← KJ.out.i.bnd.qs]; exact hnc)
                    have egd : s.box.getD n [] = s.box[n] := by simp [List.getD, hnc]
                    rw [← egd] at qb
                    have EMS := hid (mixL_set (old := s.box) (new := (R.entry s x).box) (j := n) (by omega) hnc)
                    have enw : (R.entry s x).box[n]'(by omega) = (R.entry s x).box.getD n [] := by simp [List.getD, show n < (R.entry s x).box.length by omega]
                    rw [enw] at EMS
                    have hwl := waitL_len s 3 (n : Int) KJ.out.i.good.few
                    have ewl : (R.waiting s 3 (n : Int)).length ≤ 17 := by
                      have e5 : R.waitL s 3 (n : Int) = R.waiting s 3 (n : Int) := by
                        unfold R.waitL
                        rw [if_neg]
                        unfold R.things
                        rw [if_neg (by decide), if_neg (by decide), if_pos rfl, hcnt]
                        omega
                      rw [e5] at hwl
                      exact hwl
                    rw [← EQ5.out, ← ELN.out] at tp
                    obtain ⟨L, hL⟩ : ∃ x, Hid (R.waiting s 3 (n : Int) = x) := ⟨_, hid rfl⟩
                    rw [hL.out] at tp hlj zlj ewl
                    obtain ⟨b1, hb1⟩ : ∃ y, Hid ((R.entry s x).box.getD n [] = y) := ⟨_, hid rfl⟩
                    obtain ⟨b0, hb0⟩ : ∃ y, Hid (s.box.getD n [] = y) := ⟨_, hid rfl⟩
                    rw [hb1.out, hb0.out] at tp
                    rw [hb1.out] at EMS
                    rw [hb0.out] at zb ilb qb
                    have MK := hid (fun (wx : World) (kx : KWS PK B wx wb kb P' h' (stepD d s x) (R.entry s x)) (hi : IL B wx ax1 cx1 b0) (hx : wx.ownsRow B 3 1 (.slice aj L.length cj) L.length (intCells L)) => wMail_any c kx n (by rw [hq5]; exact hnl) B kx.k.m.bsz ax1 cx1 b0 b1 hi (by omega) aj cj L hx (by omega) tp)
                    have RL := hid hlj
                    have IB := hid ilb
                    have KD : Hid (KWS PK B wr.drew wb kb P' h' (stepD d s x) (R.entry s x)) := hid (K5.out.below c.fr (Below.refl _ _).drew)
                    have ID : Hid (IL B wr.drew ax1 cx1 b0) := hid (ilb.below (Below.refl _ _).drew)
                    have hgn := (ownsRow_block BX5.out.row (g := gw) rfl).2.1
                    have hgl := (ownsRow_block LL5.out.row (g := gl) rfl).2.1
                    clear emg egn egd enw hwl tp hlj ilb
                    go_wp2_with fail
                    go_region_held3 (fun w' => w'.cell? ⟨gw, n, none⟩ = some (.slice ax1 b0.length cx1) ∧ w'.cell? ⟨gl, n, none⟩ = some (.slice aj L.length cj)) (go_keep)
                      (first
                        | (go_at_call 28; refine (MK.out _ KD.out ID.out RL.out).mono ?_; rintro e w6 ⟨ao6, ca6, rfl, il6, hbk6, hb6⟩; have k0 : w6.cell? ⟨gw, n, none⟩ = some (.slice ax1 b0.length cx1) := (hb6.cell (p := ⟨gw, n, none⟩) hgn).trans zb; have k1 : w6.cell? ⟨gl, n, none⟩ = some (.slice aj L.length cj) := (hb6.cell (p := ⟨gl, n, none⟩) hgl).trans zlj; have HB6 := hid hb6; have IL6 := hid il6; have HBK6 := hid hbk6; clear hb6 il6 hbk6))
                    have hb6 : Below wr.heap.size wr w6 := via (Below.refl _ _).drew (Nat.le_refl _) HB6.out
                    have K6 := hid (K5.out.below c.fr hb6)
                    have BX6 := BX5.out.below hb6
                    have LL6 := hid (LL5.out.below hb6)
                    have HB06 := hid (via HB5.out HB5.out.size hb6)
                    have hsz6 := hb6.size
                    have f6 : w6.frozen? ⟨gw, n, none⟩ = false := by
                      have hrow := BX6.row
                      rw [hml] at hrow
                      exact hrow.frozenAt n
                    have AN := hid (AP5.out gw (.inl rfl))
                    obtain ⟨k7, hb7⟩ := K6.out.put c.fr ⟨gw, n, none⟩ (.slice ao6 b1.length ca6) AN.out
                    have K7 := hid k7
                    have BX6' : BX B w6 (.slice (some ⟨gw, 0, none⟩) (mixL s.box (R.entry s x).box n).length m) (mixL s.box (R.entry s x).box n) vs' := by rw [hml]; exact BX6
                    have bx7 := BX6'.set n (by omega) b1 (ao6, ca6) IL6.out
                    rw [EMS.out, hml] at bx7
                    have BX7 := hid bx7
                    have LL7 := hid (LL6.out.put (p := ⟨gw, n, none⟩) (.slice ao6 b1.length ca6) HD.out)
                    have HB07 := hid (HB06.out.trans (hb7.mono HBB.out))
                    have AP7 : Hid (∀ b, BB (.slice (some ⟨gw, 0, none⟩) m m) (vs'.set n (ao6, ca6)) b → B ≤ b ∧ ¬ P' b ∧ ¬ WB wb h' b) := by
                      refine hid fun b hb => ?_
                      have hvl : vs'.length = m := by rw [BX5.out.len]; exact hml
                      rcases hb with hb | ⟨i, hi, hb⟩
                      · exact AP5.out b (.inl hb)
                      · rw [List.length_set] at hi
                        by_cases e : n = i
                        · subst e
                          have e1 : (vs'.set n (ao6, ca6)).getD n (none, 0) = (ao6, ca6) := by simp [List.getD, hi]
                          rw [e1] at hb
                          rcases HBK6.out b hb with h1 | h1
                          · refine AP5.out b (.inr ⟨n, hi, ?_⟩)
                            rw [hax1.out]
                            exact h1
                          · exact K5.out.fresh c.fr (show wr.heap.size ≤ b from h1)
                        · have e1 : (vs'.set n (ao6, ca6)).getD i (none, 0) = vs'.getD i (none, 0) := by simp [List.getD, e]
                          rw [e1] at hb
                          exact AP5.out b (.inr ⟨i, hi, hb⟩)
                    clear k7 hb7 hb6 zb zlj fb BX6 BX6' bx7
                    go_wp2
                    go_roundw
                    case rel => exact ⟨n + 1, vs'.set n (ao6, ca6), by omega, by go_num, K7.out, BX7.out, AP7.out, LL7.out, HB07.out⟩
                    case measure => simp [intOf]; omega
                  · have e : m = n := by omega
                    subst e
                    have bx5 := BX5.out
                    rw [← hcnt, mixL_full (by omega)] at bx5
                    rw [hcnt] at bx5
                    have B5 := hid bx5
                    clear bx5
                    have GC := hid (wGets_any c K5.out WAS.out ELN.out.symm B m _ cl ws LL5.out (fun h1 h2 => by have := SI.out h1 h2; rw [hcnt] at this; exact this) (fun t _ => GT.out t))
                    go_wp2_with fail
                    refine GC.out.mono ?_
                    rintro e w7 ⟨rfl, hb7⟩
                    have K7 := hid (K5.out.below c.fr hb7)
                    have B7 := hid (B5.out.below hb7)
                    have HB7 := hid (via HB5.out HB5.out.size hb7)
                    have AP7 : Hid (Apart w7 wb P' h' B (BB (.slice (some ⟨gw, 0, none⟩) m m) vs')) := hid (fun b hb => ⟨(AP5.out b hb).1, (B7.out.ge b hb).2, (AP5.out b hb).2⟩)
                    clear hb7 GC
                    go_wp2
                    go_roundw
                    case rel => exact ⟨k + 1, R.entry s x, stepD d s x, P', h', vs', by omega, by go_num, K7.out, by omega, by rw [ESD.out, HST.out]; omega, by rw [ESET.out]; exact HSET.out, B7.out, AP7.out, HB7.out⟩
                    case measure => simp [intOf]; omega
              · have e : k = l.length := by omega
                subst e
                go_wp2
                go_ret
                exact ⟨rfl, via HB0.out HB0.out.size HB0J.out⟩
  · have hlI : (1099511627776 : Int) < (l.length : Int) := by omega
    go_wp2
    go_ret
    exact ⟨rfl, (Below.refl _ _).alloc (Nat.le_refl _) _⟩
end Go.Proofs.Ytbkfildnijjioab

/-
  Delivered: the given statement out of the walk. (Written by wip/mkkeep.py.)
-/
namespace Go.Proofs.Ytbkfildnijjioab
open Go.ChangeShapes Go.WideShapes Go.ChangeAt Go.RowKit Go.Deep

set_option maxRecDepth 100000 in
theorem delivered_lifted {PK : KP} (c : CAll PK) (cn : CNew PK (fun _ => True)) (os : Os) (started : os.Started) (H : Type) (enc : TypeId × Value → H) :
    ReturnsInHanded {} Try.checked os 9 .any (Rows.deliveredSpec.pre6 enc Try.prog Try.f9 Rows.deliveredRow.domain false) (Rows.deliveredSpec.post enc Try.prog Try.f9 false true false false) := by
  refine returnsInHanded_of_change_sized (C := Try.checked) Try.own started (by kernel_rfl) Try.func9
    (ChangeSpec.witness6 (enc := enc) (C := Try.checked) false ⟨#[], #[.agg #[.int .i64 0, .int .i64 0, .slice none 0 0, .slice none 0 0, .slice none 0 0, .slice none 0 0], .slice none 0 0], []⟩ 8 (by kernel_rfl) (by kernel_rfl) (by kernel_rfl) (by kernel_rfl)) ?_
  intro W base args ds gs before hval0 hW _ hsz0 _
  have hval : ∀ (j : Nat) t v, Try.f9.params[j]? = some t → args[j]? = some v → Value.okWide Try.prog W .any base t v := hval0
  have hsz : (DataW.weightsEach Try.prog (Try.f9.params.toList ++ Rows.deliveredSpec.plain.varTypes Try.prog) (ds ++ gs)).all (· ≤ reachBytes) = true := hsz0
  have hW' := hW
  obtain ⟨p, q, hA0, hV, rfl, hfz, hnd⟩ := hW
  have hA : DataW.TrodAll enc Try.prog W 0 (fun _ => true) true Try.f9.params.toList args.toList ds p := hA0
  rw [Try.params9] at hA hval hsz
  obtain ⟨v0, v1, d0, d1, p0, p1, rfl, rfl, rfl, h0, h1⟩ := trodAll_two hA
  obtain ⟨rfl, rfl⟩ := trodVars_none hV
  clear hA0 hval0 hsz0
  have hlight : Light d0 27 := by
    intro n hn
    have := List.all_eq_true.1 hsz n (DataW.weights_mem_each (j := 0) rfl rfl n hn)
    simpa using this
  have hlight1 : Light d1 25 := by
    intro n hn
    have := List.all_eq_true.1 hsz n (DataW.weights_mem_each (j := 1) rfl rfl n hn)
    simpa using this
  obtain ⟨S, tv, mv, sv, qv, tc, mc, sc, qc, hv, hin, hfit, hnil⟩ := open_set (hval 0 27 v0 rfl rfl) h0 hlight
  subst hv
  obtain ⟨av, ac, l, hv, hil, hll⟩ := open_script (hval 1 25 v1 rfl rfl) h1 hlight1
  subst hv
  unfold reachBytes at hll
  simp only [List.append_nil] at hW'
  refine (lawDelivered_any c cn tv mv sv qv av tc mc sc qc ac S l W hin hfit hnil hil (by omega)).mono fun e W' ⟨he, hb⟩ => ?_
  subst he
  refine ⟨_, rfl, _, _, _, [], p0 ++ p1, [], hW', ?_, ?_, rfl, hb.frame _, fun h => by cases h⟩
  · exact trodAll_mk1 (shut_bool Try.underlying4 _)
  · exact trodAll_mk2 (Below.trod Try.laidOut (by kernel_rfl) (of_decide_eq_true (by kernel_rfl)) h0 hb (fun x hx => hW'.lt x (by simp; exact .inl hx))) (Below.trod Try.laidOut (by kernel_rfl) (of_decide_eq_true (by kernel_rfl)) h1 hb (fun x hx => hW'.lt x (by simp; exact .inr hx)))

theorem delivered_of {PK : KP} (c : CAll PK) (cn : CNew PK (fun _ => True)) : Rows.DeliveredSaid :=
  OpenClaim.holds_of_wide 9 Try.f9 rfl rfl rfl rfl rfl rfl rfl ⟨rfl, rfl, rfl, rfl, rfl⟩ rfl rfl rfl rfl rfl (by kernel_rfl) Try.func9 (by kernel_rfl)
    (of_decide_eq_true (by kernel_rfl)) (by unfold Func.isWrapper; first | (rw [if_pos (by decide +kernel)]; kernel_rfl) | (rw [if_neg (by decide +kernel)]; exact ⟨rfl, rfl⟩))
    (fun os started H enc _ => delivered_lifted c cn os started H enc)

end Go.Proofs.Ytbkfildnijjioab

/-
  Delivered, of this program.
-/
namespace Go.Proofs.Ytbkfildnijjioab

theorem delivered_holds : Rows.DeliveredSaid := delivered_of cAll cNew

end Go.Proofs.Ytbkfildnijjioab
