import Derived.Test.YtbkfildnijjioabA21
import Derived.Test.YtbkfildnijjioabA22
import Derived.BigQuiet
import Derived.Test.YtbkfildnijjioabA24
import Derived.Test.YtbkfildnijjioabA15
import Derived.Test.YtbkfildnijjioabA12
/-
  Walks over package donatekeep: suspends, holds.
-/
namespace Go.Proofs.Ytbkfildnijjioab
open Go.RowKit
/-- The mover gives its place away: it yields, or begins to wait for something that is no mutex. -/
def sus (d : WD) : Bool := if d.who = -1 then false else if d.i.op = 2 then true else if d.code = 1 then (if d.i.op = 6 then false else true) else false
section
variable {PK : KP} {B : Nat} {w : World} {wb kb : Nat} {P : Nat → Prop} {h : WH} {d : WD} {s : RS}
set_option maxRecDepth 100000 in
set_option maxHeartbeats 4000000 in
theorem wSuspends_any (k : KWS PK B w wb kb P h d s) :
    Calls Try.prog 22 #[.pointer (some ⟨wb, 0, none⟩)] w fun e w' => e = .returned (.bool (sus d)) ∧ w' = w := by
  have y17 := k.k.m.blk.cell 17
  have y18 := k.k.m.blk.cell 18
  have y21 := k.k.m.blk.cell 21
  simp [wCells] at y17 y18 y21
  obtain ⟨b, hb⟩ : ∃ y, Hid (sus d = y) := ⟨_, hid rfl⟩
  rw [hb.out]
  have hc : (d.who = -1 ∧ b = false) ∨ ((d.who == -1) = false ∧ d.i.op = 2 ∧ b = true) ∨ ((d.who == -1) = false ∧ (d.i.op == 2) = false ∧ d.code = 1 ∧ d.i.op = 6 ∧ b = false) ∨ ((d.who == -1) = false ∧ (d.i.op == 2) = false ∧ d.code = 1 ∧ (d.i.op != 6) = true ∧ b = true) ∨ ((d.who == -1) = false ∧ (d.i.op == 2) = false ∧ (d.code == 1) = false ∧ b = false) := by
    have := hb.out
    unfold sus at this
    by_cases a1 : d.who = -1
    · rw [if_pos a1] at this; exact .inl ⟨a1, this.symm⟩
    rw [if_neg a1] at this
    have a1' : (d.who == -1) = false := by rw [beq_eq_false_iff_ne]; exact a1
    by_cases a2 : d.i.op = 2
    · rw [if_pos a2] at this; exact .inr (.inl ⟨a1', a2, this.symm⟩)
    rw [if_neg a2] at this
    have a2' : (d.i.op == 2) = false := by rw [beq_eq_false_iff_ne]; exact a2
    by_cases a3 : d.code = 1
    · rw [if_pos a3] at this
      by_cases a4 : d.i.op = 6
      · rw [if_pos a4] at this; exact .inr (.inr (.inl ⟨a1', a2', a3, a4, this.symm⟩))
      · rw [if_neg a4] at this
        exact .inr (.inr (.inr (.inl ⟨a1', a2', a3, by rw [bne_iff_ne]; exact a4, this.symm⟩)))
    · rw [if_neg a3] at this
      exact .inr (.inr (.inr (.inr ⟨a1', a2', by rw [beq_eq_false_iff_ne]; exact a3, this.symm⟩)))
  clear hb k
  generalize d.who = who at *
  generalize d.i.op = io at *
  generalize d.code = code at *
  go_enter Try.func22, Try.ntmps22
  rcases hc with ⟨rfl, rfl⟩ | ⟨q1, rfl, rfl⟩ | ⟨q1, q2, rfl, rfl, rfl⟩ | ⟨q1, q2, rfl, q3, rfl⟩ | ⟨q1, q2, q3, rfl⟩
  all_goals
    go_wp2
    go_ret
    exact ⟨rfl, rfl⟩
set_option maxRecDepth 100000 in
set_option maxHeartbeats 4000000 in
theorem wHolds_any (c : CAll PK) (k : KWS PK B w wb kb P h d s) (t : Int) :
    Calls Try.prog 23 #[.pointer (some ⟨wb, 0, none⟩), .int .i64 t] w fun e w' => ∃ b : Bool, e = .returned (.bool b) ∧ (b = false → ∀ m, m < s.owner.length → s.owner.getD m 0 ≠ t) ∧ Below w.heap.size w w' := by
  have hol : s.owner.length = s.set.mutexes.length := k.i.good.own
  have hm8 : s.set.mutexes.length ≤ 8 := k.i.good.mfew
  have K := hid k
  have ES0 := hid k.wd.co.set
  have HB0 := hid (Below.refl w.heap.size w)
  obtain ⟨M, hM⟩ : ∃ x, Hid (s.owner.length = x) := ⟨_, hid rfl⟩
  have HMM : Hid (s.set.mutexes.length = M) := hid (by rw [← hol]; exact hM.out)
  rw [HMM.out] at hm8
  clear k hol
  go_enter Try.func23, Try.ntmps23
  go_wp2
  go_loopw [5] (fun i wr => ∃ j : Nat, j ≤ M ∧ i = .int .i64 j ∧ (∀ m, m < j → s.owner.getD m 0 ≠ t) ∧ Below w.heap.size w wr) (fun i _ => M - (intOf i).toNat)
  case atStart => exact ⟨0, Nat.zero_le _, rfl, fun m hm => absurd hm (by omega), HB0.out⟩
  case round =>
    obtain ⟨j, hj, rfl, hno, hb⟩ := hrel
    have HB := hid hb
    have NO := hid hno
    have KJ := hid (K.out.below c.fr hb)
    clear hb hno
    have y3 := KJ.out.k.m.blk.cell 3
    have y6 := KJ.out.k.m.blk.cell 6
    simp [wCells] at y3 y6
    rw [ES0.out, HMM.out] at y3
    by_cases hjl : j < M
    · have hjI : (j : Int) < (M : Int) := by omega
      have hjo : j < s.owner.length := by rw [hM.out]; exact hjl
      have C1 := hid (c.own P wr kb s KJ.out.k.pk (j : Int))
      have ev : R.ownerV s (j : Int) = s.owner.getD j 0 := by unfold R.ownerV; rw [if_pos (by omega)]; rfl
      have ee : R.ownerE s (j : Int) = 0 := by unfold R.ownerE; rw [if_pos (by omega)]
      rw [ev, ee] at C1
      clear ev ee
      obtain ⟨o, hoo⟩ : ∃ y, Hid (s.owner.getD j 0 = y) := ⟨_, hid rfl⟩
      rw [hoo.out] at C1
      go_wp2_with fail
      refine C1.out.mono ?_
      rintro e w1 ⟨rfl, hb1⟩
      have HB1 := hid (via HB.out HB.out.size hb1)
      clear hb1 C1 y3 y6
      by_cases q : o = t
      · have q1 : (o == t) = true := by simpa using q
        clear q hoo
        go_wp2
        go_ret
        exact ⟨true, rfl, fun e => (by cases e), HB1.out⟩
      · have q1 : (o == t) = false := by simpa using q
        have NO2 : Hid (∀ m, m < j + 1 → s.owner.getD m 0 ≠ t) := hid (fun m hm => by
          by_cases e : m = j
          · subst e; rw [hoo.out]; exact q
          · exact NO.out m (by omega))
        clear q hoo
        go_wp2
        go_roundw
        case rel => exact ⟨j + 1, by omega, by go_num, NO2.out, HB1.out⟩
        case measure => simp [intOf]; omega
    · have e : j = M := by omega
      subst e
      go_wp2
      go_ret
      exact ⟨false, rfl, fun _ m hm => NO.out m (by rw [← hM.out]; exact hm), HB.out⟩
set_option maxRecDepth 100000 in
set_option maxHeartbeats 4000000 in
theorem tops_any (tv mv sv qv : Option Addr) (tc mc sc qc : Nat) (S : SetD) (w : World) (hS : SetIn w.heap.size w tv mv sv qv S) (ht : S.threads.length ≤ 16) (hm : S.mutexes.length ≤ 8) (hcl : ∀ i (hi : i < S.threads.length), (S.threads[i]).code.length ≤ 1000000) :
    Calls Try.prog 21 #[.agg #[.int .i64 S.workers, .int .i64 S.start, .slice tv S.threads.length tc, .slice mv S.mutexes.length mc, .slice sv S.sems.length sc, .slice qv S.queues.length qc]] w fun e w' => ∃ b : Bool, e = .returned (.bool b) ∧ (b = true → S.workers = 1 ∧ (∀ i (hi : i < S.mutexes.length), (S.mutexes[i]).x = 1) ∧ ∀ i (hi : i < S.threads.length) j (hj : j < (S.threads[i]).code.length), ((S.threads[i]).code[j]).op ≠ 4) ∧ Below w.heap.size w w' := by
  have HS := hid hS
  have HCL := hid hcl
  clear hS hcl
  go_enter Try.func21, Try.ntmps21
  go_upto_region 1 with fail
  have hb0 : Below w.heap.size w (w.alloc (.cells #[.int .i64 S.workers, .int .i64 S.start, .slice tv S.threads.length tc, .slice mv S.mutexes.length mc, .slice sv S.sems.length sc, .slice qv S.queues.length qc] 27)) := (Below.refl _ _).alloc (Nat.le_refl _) _
  have X0 := Blk.new w #[.int .i64 S.workers, .int .i64 S.start, .slice tv S.threads.length tc, .slice mv S.mutexes.length mc, .slice sv S.sems.length sc, .slice qv S.queues.length qc] 27
  generalize w.alloc (.cells #[.int .i64 S.workers, .int .i64 S.start, .slice tv S.threads.length tc, .slice mv S.mutexes.length mc, .slice sv S.sems.length sc, .slice qv S.queues.length qc] 27) = w0 at hb0 X0 ⊢
  have HB0 := hid hb0
  have HS0 := hid (HS.out.later hb0)
  have x0 := X0.cell 0
  have x2 := X0.cell 2
  have x3 := X0.cell 3
  simp at x0 x2 x3
  clear hb0 X0 HS
  by_cases hw1 : S.workers = 1
  · have hwk : (S.workers != 1) = false := by simpa using hw1
    have HW1 := hid hw1
    clear hw1
    go_wp2
    go_loopw [3] (fun i wr => ∃ j : Nat, j ≤ S.mutexes.length ∧ i = .int .i64 j ∧ (∀ m (hm : m < S.mutexes.length), m < j → (S.mutexes[m]).x = 1) ∧ wr = w0) (fun i _ => S.mutexes.length - (intOf i).toNat)
    case atStart => exact ⟨0, Nat.zero_le _, rfl, fun m _ hm => absurd hm (by omega), rfl⟩
    case round =>
      obtain ⟨j, hj, rfl, hno, rfl⟩ := hrel
      have NO := hid hno
      clear hno
      by_cases hjl : j < S.mutexes.length
      · have hjI : (j : Int) < (S.mutexes.length : Int) := by omega
        obtain ⟨bm, om, ham, hbm, z0, _⟩ := HS0.out.mutexes j hjl
        rw [ham] at x3
        by_cases q : (S.mutexes[j]).x = 1
        · have NO2 : Hid (∀ m (hm : m < S.mutexes.length), m < j + 1 → (S.mutexes[m]).x = 1) := hid (fun m hm h1 => by
            by_cases e : m = j
            · subst e; exact q
            · exact NO.out m hm (by omega))
          rw [q] at z0
          clear q ham
          go_wp2
          go_roundw
          case rel => exact ⟨j + 1, by omega, by go_num, NO2.out, by first | rfl | trivial⟩
          case measure => simp [intOf]; omega
        · have q1 : ((S.mutexes[j]).x != 1) = true := by rw [bne_iff_ne]; exact q
          generalize (S.mutexes[j]).x = mx at *
          clear q ham
          go_wp2
          go_ret
          exact ⟨false, rfl, fun e => (by cases e), HB0.out⟩
      · have HMU : Hid (∀ m (hm : m < S.mutexes.length), (S.mutexes[m]).x = 1) := hid (fun m hm => NO.out m hm (by omega))
        have hjI : decide ((j : Int) < (S.mutexes.length : Int)) = false := by rw [decide_eq_false_iff_not]; omega
        clear NO
        go_wp2
        go_loopw [4] (fun i w1 => ∃ j : Nat, j ≤ S.threads.length ∧ i = .int .i64 j ∧ (∀ t (ht : t < S.threads.length), t < j → ∀ n (hn : n < (S.threads[t]).code.length), ((S.threads[t]).code[n]).op ≠ 4) ∧ w1 = wr) (fun i _ => S.threads.length - (intOf i).toNat)
        case atStart => exact ⟨0, Nat.zero_le _, rfl, fun m _ hm => absurd hm (by omega), by first | rfl | trivial⟩
        case round =>
          obtain ⟨j, hj, rfl, hno, hw1⟩ := hrel
          subst hw1
          have NT := hid hno
          clear hno hjI
          by_cases hjl : j < S.threads.length
          · have hjI : (j : Int) < (S.threads.length : Int) := by omega
            obtain ⟨b, o, cv, cc, hta, hbb, _, _, _, _, z4, hin, hnil⟩ := HS0.out.threads j hjl
            have hcx := HCL.out j hjl
            have IN := hid hin
            rw [hta] at x2
            obtain ⟨cl, hcl⟩ : ∃ x, Hid ((S.threads[j]).code.length = x) := ⟨_, hid rfl⟩
            rw [hcl.out] at z4 hcx
            clear hta hin
            rcases cv with _ | ⟨bc, oc, pc⟩
            · have HC0 : Hid (cl = 0) := hid (by
                rcases Nat.eq_zero_or_pos cl with h0 | h0
                · exact h0
                · obtain ⟨_, _, e, _⟩ := IN.out 0 (by rw [hcl.out]; exact h0)
                  cases e)
              go_wp2
              go_loopw [6] (fun i w2 => ∃ n : Nat, n ≤ cl ∧ i = .int .i64 n ∧ (∀ m (hm : m < (S.threads[j]).code.length), m < n → ((S.threads[j]).code[m]).op ≠ 4) ∧ w2 = wr) (fun i _ => cl - (intOf i).toNat)
              case atStart => exact ⟨0, Nat.zero_le _, rfl, fun m _ hm => absurd hm (by omega), by first | rfl | trivial⟩
              case round =>
                obtain ⟨n, hn, rfl, hno2, hw2⟩ := hrel
                have NC := hid hno2
                have hw2' := hw2
                subst hw2'
                clear hno2
                by_cases hnl : n < cl
                · exact absurd hnl (by have := HC0.out; omega)
                · have hnI : decide ((n : Int) < (cl : Int)) = false := by rw [decide_eq_false_iff_not]; omega
                  have NT2 : Hid (∀ t (ht : t < S.threads.length), t < j + 1 → ∀ n (hn : n < (S.threads[t]).code.length), ((S.threads[t]).code[n]).op ≠ 4) := hid (fun t ht h1 => by
                    by_cases e : t = j
                    · subst e; intro m hm; exact NC.out m hm (by have := hcl.out; omega)
                    · exact NT.out t ht (by omega))
                  clear NC
                  go_wp2
                  go_roundw
                  case rel => exact ⟨j + 1, by omega, by go_num, NT2.out, by first | rfl | trivial⟩
                  case measure => simp [intOf]; omega
            · cases pc with
              | some p => 
                have HC0 : Hid (cl = 0) := hid (by
                  rcases Nat.eq_zero_or_pos cl with h0 | h0
                  · exact h0
                  · obtain ⟨_, _, e, _⟩ := IN.out 0 (by rw [hcl.out]; exact h0)
                    cases e)
                go_wp2
                go_loopw [6] (fun i w2 => ∃ n : Nat, n ≤ cl ∧ i = .int .i64 n ∧ (∀ m (hm : m < (S.threads[j]).code.length), m < n → ((S.threads[j]).code[m]).op ≠ 4) ∧ w2 = wr) (fun i _ => cl - (intOf i).toNat)
                case atStart => exact ⟨0, Nat.zero_le _, rfl, fun m _ hm => absurd hm (by omega), by first | rfl | trivial⟩
                case round =>
                  obtain ⟨n, hn, rfl, hno2, hw2⟩ := hrel
                  have NC := hid hno2
                  have hw2' := hw2
                  subst hw2'
                  clear hno2
                  by_cases hnl : n < cl
                  · exact absurd hnl (by have := HC0.out; omega)
                  · have hnI : decide ((n : Int) < (cl : Int)) = false := by rw [decide_eq_false_iff_not]; omega
                    have NT2 : Hid (∀ t (ht : t < S.threads.length), t < j + 1 → ∀ n (hn : n < (S.threads[t]).code.length), ((S.threads[t]).code[n]).op ≠ 4) := hid (fun t ht h1 => by
                      by_cases e : t = j
                      · subst e; intro m hm; exact NC.out m hm (by have := hcl.out; omega)
                      · exact NT.out t ht (by omega))
                    clear NC
                    go_wp2
                    go_roundw
                    case rel => exact ⟨j + 1, by omega, by go_num, NT2.out, by first | rfl | trivial⟩
                    case measure => simp [intOf]; omega
              | none =>
                go_wp2
                go_loopw [6] (fun i w2 => ∃ n : Nat, n ≤ cl ∧ i = .int .i64 n ∧ (∀ m (hm : m < (S.threads[j]).code.length), m < n → ((S.threads[j]).code[m]).op ≠ 4) ∧ w2 = wr) (fun i _ => cl - (intOf i).toNat)
                case atStart => exact ⟨0, Nat.zero_le _, rfl, fun m _ hm => absurd hm (by omega), by first | rfl | trivial⟩
                case round =>
                  obtain ⟨n, hn, rfl, hno2, hw2⟩ := hrel
                  have NC := hid hno2
                  have hw2' := hw2
                  subst hw2'
                  clear hno2
                  by_cases hnl : n < cl
                  · have hnI : (n : Int) < (cl : Int) := by omega
                    have hnc : n < (S.threads[j]).code.length := by rw [hcl.out]; exact hnl
                    obtain ⟨b2, o2, e2, _, k0, _⟩ := IN.out n hnc
                    simp at e2
                    obtain ⟨e3, e4⟩ := e2
                    rw [← e3, ← e4] at k0
                    clear e3 e4
                    by_cases q : ((S.threads[j]).code[n]).op = 4
                    · rw [q] at k0
                      clear q
                      go_wp2
                      go_ret
                      first | exact ⟨false, rfl, fun e => (by cases e), HB0.out⟩ | exact .inl ⟨rfl, HB0.out⟩
                    · have q1 : (((S.threads[j]).code[n]).op == 4) = false := by rw [beq_eq_false_iff_ne]; exact q
                      have NC2 : Hid (∀ m (hm : m < (S.threads[j]).code.length), m < n + 1 → ((S.threads[j]).code[m]).op ≠ 4) := hid (fun m hm h1 => by
                        by_cases e : m = n
                        · subst e; exact q
                        · exact NC.out m hm (by omega))
                      generalize ((S.threads[j]).code[n]).op = op at *
                      clear q
                      go_wp2
                      go_roundw
                      case rel => exact ⟨n + 1, by omega, by go_num, NC2.out, by first | rfl | trivial⟩
                      case measure => simp [intOf]; omega
                  · have hnI : decide ((n : Int) < (cl : Int)) = false := by rw [decide_eq_false_iff_not]; omega
                    have NT2 : Hid (∀ t (ht : t < S.threads.length), t < j + 1 → ∀ n (hn : n < (S.threads[t]).code.length), ((S.threads[t]).code[n]).op ≠ 4) := hid (fun t ht h1 => by
                      by_cases e : t = j
                      · subst e; intro m hm; exact NC.out m hm (by have := hcl.out; omega)
                      · exact NT.out t ht (by omega))
                    clear NC
                    go_wp2
                    go_roundw
                    case rel => exact ⟨j + 1, by omega, by go_num, NT2.out, by first | rfl | trivial⟩
                    case measure => simp [intOf]; omega
          · have hjI : decide ((j : Int) < (S.threads.length : Int)) = false := by rw [decide_eq_false_iff_not]; omega
            go_wp2
            go_ret
            exact ⟨true, rfl, fun _ => ⟨HW1.out, HMU.out, fun t ht n hn => NT.out t ht (by omega) n hn⟩, HB0.out⟩
  · have hwk : (S.workers != 1) = true := by simpa using hw1
    clear hw1
    go_wp2
    go_ret
    exact ⟨false, rfl, fun e => (by cases e), HB0.out⟩
end
end Go.Proofs.Ytbkfildnijjioab

/-
  Ceilings: the law's own function.
-/
namespace Go.Proofs.Ytbkfildnijjioab
open Go.RowKit
theorem cj_new {S : SetD} (h : S.workers = 1 ∧ (∀ i (hi : i < S.mutexes.length), (S.mutexes[i]).x = 1) ∧ ∀ i (hi : i < S.threads.length) j (hj : j < (S.threads[i]).code.length), ((S.threads[i]).code[j]).op ≠ 4) (hol : (R.new S).owner.length = (R.new S).set.mutexes.length) : R.CJ (R.new S) := by
  obtain ⟨h1, h2, h3⟩ := h
  have hs := new_set S
  have no : ∀ u, ¬ R.Owns (R.new S) u := by
    rintro u ⟨m, hm, e⟩
    rw [chains_new S m hm] at e
    omega
  refine ⟨by rw [hs]; exact h1, fun m hm => ?_, by rw [hs]; exact h3, fun u hu => absurd hu (no u), fun u hu => ?_, fun u t hu => absurd hu (no u), fun u t hu => absurd hu (no u)⟩
  · rw [hol, hs] at hm
    rw [hs]
    have e : S.mutexes.getD m R.pair0 = S.mutexes[m] := by simp [List.getD, hm]
    rw [e]
    exact h2 m hm
  · have e1 := (R.settle_stay (R.release (R.bare S)) u).1.for_
    have e2 := (R.releaseTo_stay (R.bare S) (R.bare S).T.length u).1.for_
    have e3 : (R.th (R.new S).T u).for_ = (R.th (R.bare S).T u).for_ := e1.trans e2
    rw [e3]
    have e4 : (R.th (R.bare S).T u).for_ = 0 := by
      unfold R.th
      by_cases q : u < (R.bare S).T.length
      · have q' : u < S.threads.length := by simpa [R.bare] using q
        simp [R.bare, List.getD, q', R.rt0]
      · have q' : S.threads.length ≤ u := by simpa [R.bare] using q
        simp [R.bare, List.getD, q', R.rt0]
    rw [e4]
    decide
theorem cj_step {d : WD} {s : RS} {tk wt : List Nat} (a : Ln.Aux s tk wt) (i : RInv s) (x : R.Ext s) (J : R.CJ s) (n : Int) :
    ((stepD d s n).who = -1 ∨ ((stepD d s n).who ≠ -1 ∧ (stepD d s n).i.op ≠ 6) ∨ ((stepD d s n).who ≠ -1 ∧ (stepD d s n).i.op = 6 ∧ ((stepD d s n).code = 0 ∨ (stepD d s n).code = 3 ∨ (stepD d s n).code = 4))) ∧
    ((sus (stepD d s n) = true → ∀ m, m < (R.entry s n).owner.length → (R.entry s n).owner.getD m 0 ≠ (stepD d s n).who) → R.CJ (R.entry s n)) := by
  have e1 : (stepD d s n).who = (movedD d s n).who := rfl
  have e2 : (stepD d s n).i = (movedD d s n).i := rfl
  have e3 : (stepD d s n).code = (movedD d s n).code := rfl
  have es : sus (stepD d s n) = sus (movedD d s n) := rfl
  rcases moved_cases (d := d) i x.toExt0 n with ⟨e, em⟩ | ⟨_, e, em⟩ | ⟨u, hon, p, e, em⟩
  · rw [e1, em, e]
    exact ⟨.inl rfl, fun _ => J⟩
  · rw [e1, em, e]
    exact ⟨.inl rfl, fun _ => R.cj_tick a i x J⟩
  · have hsp := R.on_spec s.T n (by rw [hon]; omega)
    have ht : (R.on s.T n).toNat = u := by rw [hon]; simp
    rw [ht] at hsp
    have hn0 : 0 ≤ n := by
      apply Classical.byContradiction
      intro hc
      have hm : (movedD d s n).who = -1 := by
        unfold movedD
        by_cases q : n = -1
        · rw [if_pos q]; unfold tickD; split <;> rfl
        · rw [if_neg q]; unfold pickD; rw [if_pos (.inl (by omega))]; rfl
      rw [em, doesD_who] at hm
      omega
    have hw : 0 ≤ (R.th s.T u).wkr := by rw [hsp]; exact hn0
    obtain ⟨k1, k2⟩ := R.cj_act a i x J u p hw
    rw [es, e1, e2, e3, em, doesD_who, doesD_i, doesD_code, e]
    refine ⟨?_, fun h => k2 fun hs => ?_⟩
    · right
      by_cases h6 : (R.instrAt s u).op = 6
      · exact .inr ⟨by omega, h6, k1 h6⟩
      · exact .inl ⟨by omega, h6⟩
    · rintro ⟨m, hm, eo⟩
      refine h ?_ m hm eo
      unfold sus
      rw [doesD_who, doesD_i, doesD_code, if_neg (by omega)]
      rcases hs with hs | ⟨hs, hs6⟩
      · rw [if_pos hs]
      · by_cases q : (R.instrAt s u).op = 2
        · rw [if_pos q]
        · rw [if_neg q, if_pos hs, if_neg hs6]
set_option maxRecDepth 100000 in
set_option maxHeartbeats 8000000 in
theorem lawCeilings_any {PK : KP} (c : CAll PK) (cn : CNew PK (fun _ => True)) (tv mv sv qv av : Option Addr) (tc mc sc qc ac : Nat) (S : SetD) (l : List Int) (w : World) (hS : SetIn w.heap.size w tv mv sv qv S) (hF : Fits S) (hnil : (tv = none → tc = 0) ∧ (mv = none → mc = 0) ∧ (sv = none → sc = 0) ∧ (qv = none → qc = 0)) (hl : IntsIn w.heap.size w av l) (hll : l.length ≤ 9223372036854775807) :
    Calls Try.prog 7 #[.agg #[.int .i64 S.workers, .int .i64 S.start, .slice tv S.threads.length tc, .slice mv S.mutexes.length mc, .slice sv S.sems.length sc, .slice qv S.queues.length qc], .slice av l.length ac] w fun e w' =>
      e = .returned (.bool true) ∧ Below w.heap.size w w' := by
  have HS := hid hS
  have HF := hid hF
  have HN := hid hnil
  have HL := hid hl
  clear hS hF hnil hl
  go_enter Try.func7, Try.ntmps7
  by_cases hlong : l.length ≤ 1099511627776
  · have hlI : (l.length : Int) ≤ 1099511627776 := by omega
    go_wp2_with fail
    have hb0 : Below w.heap.size w (w.alloc (.cells #[.int .i64 S.workers, .int .i64 S.start, .slice tv S.threads.length tc, .slice mv S.mutexes.length mc, .slice sv S.sems.length sc, .slice qv S.queues.length qc] 27)) := (Below.refl _ _).alloc (Nat.le_refl _) _
    have X0 := Blk.new w #[.int .i64 S.workers, .int .i64 S.start, .slice tv S.threads.length tc, .slice mv S.mutexes.length mc, .slice sv S.sems.length sc, .slice qv S.queues.length qc] 27
    generalize w.alloc (.cells #[.int .i64 S.workers, .int .i64 S.start, .slice tv S.threads.length tc, .slice mv S.mutexes.length mc, .slice sv S.sems.length sc, .slice qv S.queues.length qc] 27) = w0 at hb0 X0 ⊢
    have HX0 := hid X0
    have HB0 := hid hb0
    have HS0 := hid (HS.out.later hb0)
    have HL0 := hid (HL.out.on hb0)
    clear hb0 X0
    refine (wBeginS_any c cn tv mv sv qv tc mc sc qc S w0 HS0.out HF.out HN.out).mono ?_
    rintro e w1 ⟨hb1, hcase⟩
    have HB1 := hid hb1
    clear hb1
    rcases hcase with ⟨_, rfl⟩ | ⟨herr, hnx, B, wb, kb, P, h, hB, rfl, ks⟩
    · go_wp2
      go_ret
      exact ⟨rfl, via HB0.out HB0.out.size HB1.out⟩
    · have K1 := hid ks
      have HBB := hid hB
      have HSN := hid (new_set S)
      have HS1 := hid (HS0.out.later HB1.out)
      have HX1 := hid (HX0.out.only (Only.of_below (L := []) HB1.out) (by simp))
      have hth : S.threads.length ≤ 16 := by have := ks.i.good.few; have := ks.i.good.len; rw [new_set] at this; omega
      have hmu : S.mutexes.length ≤ 8 := by have := ks.i.good.mfew; rw [new_set] at this; exact this
      have CN := hid (fun hh => cj_new hh ks.i.good.own)
      have hcl : ∀ i (hi : i < S.threads.length), (S.threads[i]).code.length ≤ 1000000 := by
        have hh := ks.i.toRMid.code.code
        rw [new_set S] at hh
        intro i hi
        have := (hh i hi).1
        omega
      have TP := hid (tops_any tv mv sv qv tc mc sc qc S w1 HS1.out hth hmu hcl)
      have x0 := HX1.out.cell 0
      have x1 := HX1.out.cell 1
      have x2 := HX1.out.cell 2
      have x3 := HX1.out.cell 3
      have x4 := HX1.out.cell 4
      have x5 := HX1.out.cell 5
      simp at x0 x1 x2 x3 x4 x5
      clear ks hB hcl
      go_wp2_with fail
      refine TP.out.mono ?_
      rintro e w2 ⟨tb, rfl, htb, hb2⟩
      have K2 := hid (K1.out.below c.fr hb2)
      have HB2 := hid (via HB1.out HB1.out.size hb2)
      have HTB := hid htb
      clear hb2 htb K1 TP x0 x1 x2 x3 x4 x5
      cases tb with
      | false =>
        go_wp2
        go_ret
        exact ⟨rfl, via HB0.out HB0.out.size HB2.out⟩
      | true =>
        have J0 := hid (CN.out (HTB.out rfl))
        clear HTB CN
        go_wp2
        go_loopw [8] (fun i wr => ∃ (k : Nat) (s : RS) (d : WD) (P : Nat → Prop) (h : WH), k ≤ l.length ∧ i = .int .i64 k ∧ KWS PK B wr wb kb P h d s ∧ s.next ≤ 16 + 33 * k ∧ d.steps = k ∧ R.CJ s ∧ Below w0.heap.size w0 wr) (fun i _ => l.length + 1 - (intOf i).toNat)
        case atStart => exact ⟨0, R.new S, firstD S, P, h, Nat.zero_le _, rfl, K2.out, by omega, rfl, J0.out, HB2.out⟩
        case round =>
          obtain ⟨k, s, d, P, h, hk, rfl, hks, hnk, hst, hj, hbk⟩ := hrel
          have KK := hid hks
          have HBK := hid hbk
          have HST := hid hst
          have JJ := hid hj
          clear hks hbk hst hj
          by_cases hkl : k < l.length
          · obtain ⟨ab, aoff, ha, hab, hcell⟩ := HL0.out k hkl
            subst ha
            have hcell' : wr.cell? ⟨ab, aoff + k, none⟩ = some (.int .i64 l[k]) := (HBK.out.cell (p := ⟨ab, aoff + k, none⟩) hab).trans hcell
            have hkl2 : (k : Int) < (l.length : Int) := by omega
            have hen := entry_next s l[k] KK.out.i
            have ESD := hid (stepD_steps d s l[k])
            obtain ⟨_, tk, wt, _, ax⟩ := c.aux KK.out.k.pk
            have CS := hid (cj_step (d := d) ax KK.out.i KK.out.x JJ.out l[k])
            clear ax hcell
            generalize l[k] = x at *
            have ST := hid (wStepS_any c KK.out (by omega) (by rw [HST.out]; omega) (by rw [HST.out]; omega) x)
            go_wp2_with fail
            refine ST.out.mono ?_
            rintro e w4 ⟨rfl, ⟨P', h', k4⟩, hb4⟩
            have K4 := hid k4
            have HB4 := hid (HBK.out.trans (hb4.mono HBB.out))
            clear k4 hb4 hcell' ST KK HBK
            have y17 := K4.out.k.m.blk.cell 17
            have y18 := K4.out.k.m.blk.cell 18
            have y21 := K4.out.k.m.blk.cell 21
            simp [wCells] at y17 y18 y21
            have SU := hid (wSuspends_any K4.out)
            have HO := hid (wHolds_any c K4.out (stepD d s x).who)
            obtain ⟨hsafe, hkeep⟩ := CS.out
            have KEEP := hid hkeep
            clear hkeep CS
            obtain ⟨sb, hsb⟩ : ∃ y, Hid (sus (stepD d s x) = y) := ⟨_, hid rfl⟩
            rw [hsb.out] at SU KEEP
            generalize (stepD d s x).who = who at *
            generalize (stepD d s x).i.op = io at *
            generalize (stepD d s x).code = co at *
            have hsafe' : who = -1 ∨ ((who != -1) = true ∧ (io == 6) = false) ∨ ((who != -1) = true ∧ io = 6 ∧ (co = 0 ∨ co = 3 ∨ co = 4)) := by
              rcases hsafe with h | ⟨h, h2⟩ | ⟨h, h2⟩
              · exact .inl h
              · exact .inr (.inl ⟨by rw [bne_iff_ne]; exact h, by rw [beq_eq_false_iff_ne]; exact h2⟩)
              · exact .inr (.inr ⟨by rw [bne_iff_ne]; exact h, h2⟩)
            clear hsafe
            rcases hsafe' with q1 | ⟨q1, q2⟩ | ⟨q1, q2, q3 | q3 | q3⟩
            case' inl => rw [q1] at y17 HO KEEP; clear q1
            case' inr.inr.inl => rw [q2] at y18; rw [q3] at y21; clear q2 q3
            case' inr.inr.inr.inl => rw [q2] at y18; rw [q3] at y21; clear q2 q3
            case' inr.inr.inr.inr => rw [q2] at y18; rw [q3] at y21; clear q2 q3
            all_goals
              go_wp2_with fail
              refine SU.out.mono ?_
              rintro e w5 ⟨rfl, hw5⟩
              have hw5' := hw5.symm
              subst hw5'
              clear hw5 SU y18 y21
              rcases sb with _ | _
              · have J5 := hid (KEEP.out (fun e => (by cases e)))
                clear KEEP HO
                go_wp2
                go_roundw
                case rel => exact ⟨k + 1, R.entry s x, stepD d s x, P', h', by omega, by go_num, K4.out, by omega, by rw [ESD.out, HST.out]; omega, J5.out, HB4.out⟩
                case measure => simp [intOf]; omega
              · go_wp2_with fail
                refine HO.out.mono ?_
                rintro e w6 ⟨b, rfl, hno, hb6⟩
                have K6 := hid (K4.out.below c.fr hb6)
                have HB6 := hid (via HB4.out HB4.out.size hb6)
                have NO := hid hno
                clear hb6 hno K4 HB4 HO y17
                rcases b with _ | _
                · have J5 := hid (KEEP.out (fun _ => NO.out rfl))
                  clear KEEP NO
                  go_wp2
                  go_roundw
                  case rel => exact ⟨k + 1, R.entry s x, stepD d s x, P', h', by omega, by go_num, K6.out, by omega, by rw [ESD.out, HST.out]; omega, J5.out, HB6.out⟩
                  case measure => simp [intOf]; omega
                · clear KEEP NO
                  go_wp2
                  go_ret
                  exact ⟨rfl, via HB0.out HB0.out.size HB6.out⟩
          · have e : k = l.length := by omega
            subst e
            go_wp2
            go_ret
            exact ⟨rfl, via HB0.out HB0.out.size HBK.out⟩
  · have hlI : (1099511627776 : Int) < (l.length : Int) := by omega
    go_wp2
    go_ret
    exact ⟨rfl, (Below.refl _ _).alloc (Nat.le_refl _) _⟩
end Go.Proofs.Ytbkfildnijjioab

/-
  Ceilings: the given statement out of the walk. (Written by wip/mkkeep.py.)
-/
namespace Go.Proofs.Ytbkfildnijjioab
open Go.ChangeShapes Go.WideShapes Go.ChangeAt Go.RowKit Go.Deep

set_option maxRecDepth 100000 in
theorem ceilings_lifted {PK : KP} (c : CAll PK) (cn : CNew PK (fun _ => True)) (os : Os) (started : os.Started) (H : Type) (enc : TypeId × Value → H) :
    ReturnsInHanded {} Try.checked os 7 .any (Rows.ceilingsSpec.pre6 enc Try.prog Try.f7 Rows.ceilingsRow.domain false) (Rows.ceilingsSpec.post enc Try.prog Try.f7 false true false false) := by
  refine returnsInHanded_of_change_sized (C := Try.checked) Try.own started (by kernel_rfl) Try.func7
    (ChangeSpec.witness6 (enc := enc) (C := Try.checked) false ⟨#[], #[.agg #[.int .i64 0, .int .i64 0, .slice none 0 0, .slice none 0 0, .slice none 0 0, .slice none 0 0], .slice none 0 0], []⟩ 8 (by kernel_rfl) (by kernel_rfl) (by kernel_rfl) (by kernel_rfl)) ?_
  intro W base args ds gs before hval0 hW _ hsz0 _
  have hval : ∀ (j : Nat) t v, Try.f7.params[j]? = some t → args[j]? = some v → Value.okWide Try.prog W .any base t v := hval0
  have hsz : (DataW.weightsEach Try.prog (Try.f7.params.toList ++ Rows.ceilingsSpec.plain.varTypes Try.prog) (ds ++ gs)).all (· ≤ reachBytes) = true := hsz0
  have hW' := hW
  obtain ⟨p, q, hA0, hV, rfl, hfz, hnd⟩ := hW
  have hA : DataW.TrodAll enc Try.prog W 0 (fun _ => true) true Try.f7.params.toList args.toList ds p := hA0
  rw [Try.params7] at hA hval hsz
  obtain ⟨v0, v1, d0, d1, p0, p1, rfl, rfl, rfl, h0, h1⟩ := trodAll_two hA
  obtain ⟨rfl, rfl⟩ := trodVars_none hV
  clear hA0 hval0 hsz0
  have hlight : Light d0 27 := by
    intro n hn
    have := List.all_eq_true.1 hsz n (DataW.weights_mem_each (j := 0) rfl rfl n hn)
    simpa using this
  have hlight1 : Light d1 25 := by
    intro n hn
    have := List.all_eq_true.1 hsz n (DataW.weights_mem_each (j := 1) rfl rfl n hn)
    simpa using this
  obtain ⟨S, tv, mv, sv, qv, tc, mc, sc, qc, hv, hin, hfit, hnil⟩ := open_set (hval 0 27 v0 rfl rfl) h0 hlight
  subst hv
  obtain ⟨av, ac, l, hv, hil, hll⟩ := open_script (hval 1 25 v1 rfl rfl) h1 hlight1
  subst hv
  unfold reachBytes at hll
  simp only [List.append_nil] at hW'
  refine (lawCeilings_any c cn tv mv sv qv av tc mc sc qc ac S l W hin hfit hnil hil (by omega)).mono fun e W' ⟨he, hb⟩ => ?_
  subst he
  refine ⟨_, rfl, _, _, _, [], p0 ++ p1, [], hW', ?_, ?_, rfl, hb.frame _, fun h => by cases h⟩
  · exact trodAll_mk1 (shut_bool Try.underlying4 _)
  · exact trodAll_mk2 (Below.trod Try.laidOut (by kernel_rfl) (of_decide_eq_true (by kernel_rfl)) h0 hb (fun x hx => hW'.lt x (by simp; exact .inl hx))) (Below.trod Try.laidOut (by kernel_rfl) (of_decide_eq_true (by kernel_rfl)) h1 hb (fun x hx => hW'.lt x (by simp; exact .inr hx)))

theorem ceilings_of {PK : KP} (c : CAll PK) (cn : CNew PK (fun _ => True)) : Rows.CeilingsSaid :=
  OpenClaim.holds_of_wide 7 Try.f7 rfl rfl rfl rfl rfl rfl rfl ⟨rfl, rfl, rfl, rfl, rfl⟩ rfl rfl rfl rfl rfl (by kernel_rfl) Try.func7 (by kernel_rfl)
    (of_decide_eq_true (by kernel_rfl)) (by unfold Func.isWrapper; first | (rw [if_pos (by decide +kernel)]; kernel_rfl) | (rw [if_neg (by decide +kernel)]; exact ⟨rfl, rfl⟩))
    (fun os started H enc _ => ceilings_lifted c cn os started H enc)

end Go.Proofs.Ytbkfildnijjioab

/-
  Ceilings, of this program.
-/
namespace Go.Proofs.Ytbkfildnijjioab

theorem ceilings_holds : Rows.CeilingsSaid := ceilings_of cAll cNew

end Go.Proofs.Ytbkfildnijjioab
