import Derived.Test.YtbkfildnijjioabA19
import Derived.Test.YtbkfildnijjioabA12
import Derived.Deep.RegionHeld3
import Derived.Test.YtbkfildnijjioabA09
import Derived.Test.YtbkfildnijjioabA02
import Derived.Deep.DeepCutAuto
import Derived.Test.YtbkfildnijjioabA17
import Derived.Deep.RegionLaw
/-
  Walks: donateref.Check: the document's answer to P3 is the plain one.
-/
namespace Go.Proofs.Ytbkfildnijjioab
open Go.RowKit

namespace P3
theorem e_size {S : SetD} (h : sizesB S = false) : err S = 1 ∧ place S = 0 := by simp [err, place, h]
theorem e_table {S : SetD} (h : sizesB S = true) (ht : (terr S != 0) = true) : err S = terr S ∧ place S = tplace S := by
  rw [bne_iff_ne] at ht
  unfold terr at ht
  unfold err place terr tplace
  by_cases a : badOr mutexP S.mutexes = -1 <;> by_cases b : badOr semP S.sems = -1 <;> by_cases c : badOr queueB S.queues = -1 <;> simp_all
theorem t_none {S : SetD} (ht : (terr S != 0) = false) : badOr mutexP S.mutexes = -1 ∧ badOr semP S.sems = -1 ∧ badOr queueB S.queues = -1 := by
  rw [bne_eq_false_iff_eq] at ht
  unfold terr at ht
  by_cases a : badOr mutexP S.mutexes = -1 <;> by_cases b : badOr semP S.sems = -1 <;> by_cases c : badOr queueB S.queues = -1 <;> simp_all
theorem e_thread {S : SetD} {k : Nat} (h : sizesB S = true) (ht : (terr S != 0) = false) (hk : badOr threadP S.threads = k) : err S = 5 ∧ place S = k := by
  obtain ⟨a, b, c⟩ := t_none ht
  have e : (k : Int) ≠ -1 := by omega
  simp [err, place, h, a, b, c, hk, e]
theorem e_code {S : SetD} {n : Int} (h : sizesB S = true) (ht : (terr S != 0) = false) (hk : badOr threadP S.threads = -1) (hn : badCode S = n) (h0 : 0 ≤ n) : err S = 6 ∧ place S = n := by
  obtain ⟨a, b, c⟩ := t_none ht
  have e : n ≠ -1 := by omega
  simp [err, place, h, a, b, c, hk, hn, e]
theorem e_ok {S : SetD} (h : sizesB S = true) (ht : (terr S != 0) = false) (hk : badOr threadP S.threads = -1) (hn : badCode S = -1) : err S = 0 ∧ place S = 0 := by
  obtain ⟨a, b, c⟩ := t_none ht
  simp [err, place, h, a, b, c, hk, hn]
end P3

set_option maxHeartbeats 1000000 in
theorem rCheck_any (tv mv sv qv : Option Addr) (tc mc sc qc : Nat) (S : SetD) (w : World) (hS : SetIn w.heap.size w tv mv sv qv S) :
    Calls Try.prog 30 #[.agg #[.int .i64 S.workers, .int .i64 S.start, .slice tv S.threads.length tc, .slice mv S.mutexes.length mc, .slice sv S.sems.length sc, .slice qv S.queues.length qc]] w fun e w' =>
      e = .returned (.tuple #[.int .i64 (P3.err S), .int .i64 (P3.place S)]) ∧ Below w.heap.size w w' := by
  have HS : Hid (SetIn w.heap.size w tv mv sv qv S) := hS
  clear hS
  go_enter Try.func30, Try.ntmps30
  go_wp2_with fail
  generalize hw0 : w.alloc (.cells #[.int .i64 S.workers, .int .i64 S.start, .slice tv S.threads.length tc, .slice mv S.mutexes.length mc, .slice sv S.sems.length sc, .slice qv S.queues.length qc] 27) = w0
  have hs0 : w.heap.size < w0.heap.size := by rw [← hw0]; simp
  have b0 : w0.cell? ⟨w.heap.size, 0, none⟩ = some (.int .i64 S.workers) := by rw [← hw0]; simp
  have b1 : w0.cell? ⟨w.heap.size, 1, none⟩ = some (.int .i64 S.start) := by rw [← hw0]; simp
  have b2 : w0.cell? ⟨w.heap.size, 2, none⟩ = some (.slice tv S.threads.length tc) := by rw [← hw0]; simp
  have b3 : w0.cell? ⟨w.heap.size, 3, none⟩ = some (.slice mv S.mutexes.length mc) := by rw [← hw0]; simp
  have b4 : w0.cell? ⟨w.heap.size, 4, none⟩ = some (.slice sv S.sems.length sc) := by rw [← hw0]; simp
  have b5 : w0.cell? ⟨w.heap.size, 5, none⟩ = some (.slice qv S.queues.length qc) := by rw [← hw0]; simp
  have hb0 : Below w.heap.size w w0 := by rw [← hw0]; exact (Below.refl _ _).alloc (Nat.le_refl _) _
  clear hw0
  have HS0 : Hid (SetIn w.heap.size w0 tv mv sv qv S) := HS.out.stays hb0
  clear HS
  refine (rSizes_any _ _ _ _ _ _ _ _ S _).mono ?_
  rintro e w1 ⟨rfl, hb1⟩
  cases hz : P3.sizesB S
  · go_wp2_with fail
    go_ret2
    exact ⟨ret_two (P3.e_size hz), via hb0 (by omega) hb1⟩
  · obtain ⟨n1, n2, n3, n4⟩ := sizes_of hz
    have HZ : Hid (P3.sizesB S = true) := hz
    clear hz
    obtain ⟨hc1, hf1⟩ := bcell hb1
    have k1 := hb1.size
    go_wp2_with fail
    refine (rTables_any _ _ _ _ _ _ _ _ S _ ((HS0.out.stays (hb1.mono (Nat.le_of_lt hs0))).mono (by omega)) n2 n3 n4).mono ?_
    rintro e w2 ⟨rfl, hb2⟩
    have hB2 := via hb1 k1 hb2
    have k2 := hB2.size
    clear hc1 hf1
    cases ht : (P3.terr S != 0)
    · have HT : Hid ((P3.terr S != 0) = false) := ht
      go_wp2
      clear ht
      go_loopw [7] (fun i wr => ∃ k : Nat, k ≤ S.threads.length ∧ i = .int .i64 k ∧ P3.GoodTo P3.threadP S.threads k ∧ Below w0.heap.size w0 wr) (fun i _ => S.threads.length - (intOf i).toNat)
      case atStart => exact ⟨0, Nat.zero_le _, rfl, P3.GoodTo.zero _ _, hB2⟩
      case round =>
        obtain ⟨k, hk, rfl, hall, hb⟩ := hrel
        have hsz := hb.size
        have q1 : w.heap.size < wr.heap.size := by omega
        have c2 := (hb.cell (p := ⟨w.heap.size, 2, none⟩) hs0).trans b2
        by_cases hlt : k < S.threads.length
        · obtain ⟨b, o, cv, cc, rfl, hbb, x0, x1, x2, x3, x4, _⟩ := HS0.out.threads k hlt
          have x0' := (hb.cell (p := ⟨b, o + k * 5, none⟩) (by show b < _; omega)).trans x0
          have x1' := (hb.cell (p := ⟨b, o + k * 5 + 1, none⟩) (by show b < _; omega)).trans x1
          have x2' := (hb.cell (p := ⟨b, o + k * 5 + 2, none⟩) (by show b < _; omega)).trans x2
          have x3' := (hb.cell (p := ⟨b, o + k * 5 + 3, none⟩) (by show b < _; omega)).trans x3
          have x4' := (hb.cell (p := ⟨b, o + k * 5 + 4, none⟩) (by show b < _; omega)).trans x4
          clear x0 x1 x2 x3 x4
          go_wp2_with (go_at_call 46; refine (rThreadFits_any _ _ _ _ _ _ _ _).mono ?_; rintro e w3 ⟨rfl, hb3⟩)
          · go_ret2
            refine ⟨ret_two (P3.e_thread HZ.out HT.out (hall.at hlt ?_)), via hb0 (by omega) (via hb hsz hb3)⟩
            simpa [P3.threadP] using ‹(!P3.threadB _ _ _ _ _) = true›
          · go_roundw
            case rel =>
              refine ⟨k + 1, by omega, by go_num, hall.step hlt ?_, via hb hsz hb3⟩
              simpa [P3.threadP] using ‹(!P3.threadB _ _ _ _ _) = false›
            case measure => simp [intOf]; omega
        · have HM : Hid (P3.badOr P3.threadP S.threads = -1) := hall.none hlt
          clear hall
          have H5 : Hid (∀ j (_ : j < S.threads.length), (S.threads[j].code.length : Int) ≤ 32) := codes_of HM.out
          go_wp2
          clear c2
          go_loopw [8] (fun i wr => ∃ k : Nat, k ≤ S.threads.length ∧ i = .int .i64 k ∧ CodesTo S k ∧ Below w0.heap.size w0 wr) (fun i _ => S.threads.length - (intOf i).toNat)
          case atStart => exact ⟨0, Nat.zero_le _, rfl, fun j h => absurd h (Nat.not_lt_zero _), hb⟩
          case round =>
            clear hb hsz q1 hlt hk
            obtain ⟨k, hk, rfl, hall, hb⟩ := hrel
            have hsz := hb.size
            have q1 : w.heap.size < wr.heap.size := by omega
            have c2 := (hb.cell (p := ⟨w.heap.size, 2, none⟩) hs0).trans b2
            have HB : Hid (CodesTo S k) := hall
            clear hall
            by_cases hlt : k < S.threads.length
            · obtain ⟨b, o, cv, cc, rfl, hbb, x0, x1, x2, x3, x4, hcode, _⟩ := HS0.out.threads k hlt
              have x4' := (hb.cell (p := ⟨b, o + k * 5 + 4, none⟩) (by show b < _; omega)).trans x4
              have hlen := H5.out k hlt
              have HC : Hid (InstrsIn w.heap.size w0 cv S.threads[k].code) := hcode
              clear x0 x1 x2 x3 x4 hcode
              go_wp2
              clear c2 x4'
              go_loopw [10] (fun i wr => ∃ m : Nat, m ≤ S.threads[k].code.length ∧ i = .int .i64 m ∧ CodeTo S S.threads[k].code m ∧ Below w0.heap.size w0 wr) (fun i _ => S.threads[k].code.length - (intOf i).toNat)
              case atStart => exact ⟨0, Nat.zero_le _, rfl, fun j h => absurd h (Nat.not_lt_zero _), hb⟩
              case round =>
                clear hb hsz q1
                obtain ⟨m, hm, rfl, hall, hb⟩ := hrel
                have hsz := hb.size
                have q1 : w.heap.size < wr.heap.size := by omega
                have HA : Hid (CodeTo S S.threads[k].code m) := hall
                clear hall
                by_cases hlt2 : m < S.threads[k].code.length
                · obtain ⟨b', o', rfl, hbb', x0, x1, x2⟩ := HC.out m hlt2
                  have y0 := (hb.cell (p := ⟨b', o' + m * 3, none⟩) (by show b' < _; omega)).trans x0
                  have y1 := (hb.cell (p := ⟨b', o' + m * 3 + 1, none⟩) (by show b' < _; omega)).trans x1
                  have y2 := (hb.cell (p := ⟨b', o' + m * 3 + 2, none⟩) (by show b' < _; omega)).trans x2
                  have f0 := (hb.cell (p := ⟨w.heap.size, 0, none⟩) hs0).trans b0
                  have f1 := (hb.cell (p := ⟨w.heap.size, 1, none⟩) hs0).trans b1
                  have f2 := (hb.cell (p := ⟨w.heap.size, 2, none⟩) hs0).trans b2
                  have f3 := (hb.cell (p := ⟨w.heap.size, 3, none⟩) hs0).trans b3
                  have f4 := (hb.cell (p := ⟨w.heap.size, 4, none⟩) hs0).trans b4
                  have f5 := (hb.cell (p := ⟨w.heap.size, 5, none⟩) hs0).trans b5
                  clear x0 x1 x2 b0 b1 b2 b3 b4 b5
                  have hmi : (m : Int) < (S.threads[k].code.length : Int) := by omega
                  go_wp2_with fail
                  go_region_held3 (fun w' => w'.cell? ⟨w.heap.size, 0, none⟩ = some (.int .i64 S.workers) ∧ w'.cell? ⟨w.heap.size, 1, none⟩ = some (.int .i64 S.start) ∧ w'.cell? ⟨w.heap.size, 2, none⟩ = some (.slice (some ⟨b, o, none⟩) S.threads.length tc) ∧ w'.cell? ⟨w.heap.size, 3, none⟩ = some (.slice mv S.mutexes.length mc) ∧ w'.cell? ⟨w.heap.size, 4, none⟩ = some (.slice sv S.sems.length sc) ∧ w'.cell? ⟨w.heap.size, 5, none⟩ = some (.slice qv S.queues.length qc) ∧ w'.cell? ⟨b', o' + m * 3, none⟩ = some (.int .i64 S.threads[k].code[m].op) ∧ w'.cell? ⟨b', o' + m * 3 + 1, none⟩ = some (.int .i64 S.threads[k].code[m].a) ∧ w'.cell? ⟨b', o' + m * 3 + 2, none⟩ = some (.int .i64 S.threads[k].code[m].b)) (simp [*])
                    (first
                      | (go_at_call 47; refine (rInstrFits_any _ _ _ _ _ _ _ _ _ _ _ _ _ _ _ _ _ _ _ n1 n2 n3 n4).mono ?_; rintro e w3 ⟨rfl, hb3⟩; have d0 := cell_later hb3 f0; have d1 := cell_later hb3 f1; have d2 := cell_later hb3 f2; have d3 := cell_later hb3 f3; have d4 := cell_later hb3 f4; have d5 := cell_later hb3 f5; have e0 := cell_later hb3 y0; have e1 := cell_later hb3 y1; have e2 := cell_later hb3 y2))
                  go_wp2
                  · go_ret2
                    refine ⟨ret_two (P3.e_code HZ.out HT.out HM.out (badCode_at HB.out hlt HA.out hlt2 ?_) (by omega)), via hb0 (by omega) (via hb.drew hsz hb3)⟩
                    simpa [P3.instrP] using ‹(!P3.instrB _ _ _ _ _ _ _ _) = true›
                  · go_roundw
                    case rel =>
                      refine ⟨m + 1, by omega, by go_num, ?_, via hb.drew hsz hb3⟩
                      intro j h h'
                      rcases Nat.lt_succ_iff_lt_or_eq.1 h with h1 | rfl
                      · exact HA.out j h1 h'
                      · simpa [P3.instrP] using ‹(!P3.instrB _ _ _ _ _ _ _ _) = false›
                    case measure => simp [intOf]; omega
                · have hmm : m = S.threads[k].code.length := by omega
                  have HA' : Hid (CodeTo S S.threads[k].code S.threads[k].code.length) := hmm ▸ HA.out
                  clear hmm
                  go_wp2
                  go_roundw
                  case rel => exact ⟨k + 1, by omega, by go_num, HB.out.step hlt HA'.out, hb⟩
                  case measure => simp [intOf]; omega
            · go_wp2
              go_ret2
              have e : k = S.threads.length := by omega
              subst e
              exact ⟨ret_two (P3.e_ok HZ.out HT.out HM.out (badCode_none HB.out)), via hb0 (by omega) hb⟩
    · have HT : Hid ((P3.terr S != 0) = true) := ht
      go_wp2
      go_ret2
      exact ⟨ret_two (P3.e_table HZ.out HT.out), via hb0 (by omega) hB2⟩

end Go.Proofs.Ytbkfildnijjioab

/-
  Walks: donateref.Copy: the same set in lists of its own.
-/
namespace Go.Proofs.Ytbkfildnijjioab
open Go.RowKit
set_option maxHeartbeats 1000000 in
theorem copy_any (tv mv sv qv : Option Addr) (tc mc sc qc : Nat) (S : SetD) (w : World) (hS : SetIn w.heap.size w tv mv sv qv S) (hF : Fits S) (hnil : (tv = none → tc = 0) ∧ (mv = none → mc = 0) ∧ (sv = none → sc = 0) ∧ (qv = none → qc = 0)) :
    Calls Try.prog 31 #[.agg #[.int .i64 S.workers, .int .i64 S.start, .slice tv S.threads.length tc, .slice mv S.mutexes.length mc, .slice sv S.sems.length sc, .slice qv S.queues.length qc]] w fun e w' =>
      ∃ tv' mv' sv' qv' tc' mc' sc' qc', e = .returned (.agg #[.int .i64 S.workers, .int .i64 S.start, .slice tv' S.threads.length tc', .slice mv' S.mutexes.length mc', .slice sv' S.sems.length sc', .slice qv' S.queues.length qc']) ∧
        SetF (fun b => w.heap.size ≤ b ∧ b < w'.heap.size) w' tv' mv' sv' qv' S ∧ ((tv' = none → tc' = 0) ∧ (mv' = none → mc' = 0) ∧ (sv' = none → sc' = 0) ∧ (qv' = none → qc' = 0)) ∧ Below w.heap.size w w' := by
  have HS : Hid (SetIn w.heap.size w tv mv sv qv S) := hS
  obtain ⟨ht0, hm0, hs0, hq0⟩ := hnil
  have HN1 : Hid (tv = none → tc = 0) := ht0
  have HN2 : Hid (mv = none → mc = 0) := hm0
  have HN3 : Hid (sv = none → sc = 0) := hs0
  have HN4 : Hid (qv = none → qc = 0) := hq0
  have HF : Hid (Fits S) := hF
  clear hS ht0 hm0 hs0 hq0 hF
  obtain ⟨i1, hi1, hz10, hz11, hz12⟩ := info_parts Try.infoMutex
  obtain ⟨i2, hi2, hz20, hz21, hz22⟩ := info_parts Try.infoSem
  obtain ⟨i3, hi3, hz30, hz31, hz32⟩ := info_parts Try.infoInt
  have HI1 : Hid (Try.prog.info? 77 = some i1 ∧ i1.zero = some (.agg #[.int .i64 0, .int .i64 0]) ∧ i1.size = 2 ∧ i1.bytes = 16) := ⟨hi1, hz10, hz11, hz12⟩
  have HI2 : Hid (Try.prog.info? 56 = some i2 ∧ i2.zero = some (.agg #[.int .i64 0, .int .i64 0]) ∧ i2.size = 2 ∧ i2.bytes = 16) := ⟨hi2, hz20, hz21, hz22⟩
  have HI3 : Hid (Try.prog.info? 3 = some i3 ∧ i3.zero = some (.int .i64 0) ∧ i3.size = 1 ∧ i3.bytes = 8) := ⟨hi3, hz30, hz31, hz32⟩
  clear hi1 hz10 hz11 hz12 hi2 hz20 hz21 hz22 hi3 hz30 hz31 hz32
  go_enter Try.func31, Try.ntmps31
  go_upto_region 2 with fail
  have hM0 := CM.start w S (.slice tv S.threads.length tc) (.slice mv S.mutexes.length mc) (.slice sv S.sems.length sc) (.slice qv S.queues.length qc)
  generalize ((w.alloc (.cells #[.int .i64 S.workers, .int .i64 S.start, .slice tv S.threads.length tc, .slice mv S.mutexes.length mc, .slice sv S.sems.length sc, .slice qv S.queues.length qc] 27)).alloc (.cells #[.int .i64 0, .int .i64 0, .slice none 0 0, .slice none 0 0, .slice none 0 0, .slice none 0 0] 27)).alloc (.cells #[.int .i64 S.workers, .int .i64 S.start, .slice none 0 0, .slice none 0 0, .slice none 0 0, .slice none 0 0] 27) = w0 at hM0 ⊢
  have M0 : Hid (CM w S (.slice tv S.threads.length tc) (.slice mv S.mutexes.length mc) (.slice sv S.sems.length sc) (.slice qv S.queues.length qc) w0 (.slice none 0 0) (.slice none 0 0) (.slice none 0 0) (.slice none 0 0)) := hM0
  clear hM0
  have x3 := M0.out.x.cell 3
  have c3 := M0.out.c.cell 3
  simp at x3 c3
  go_upto_region 3 with (at_builtin; refine wpList_append_src rfl (.tmp 13) (.tmp 15) 23 rfl (w.heap.size + 3) 77 i1 (.agg #[.int .i64 0, .int .i64 0]) 2 16 Try.underlying23 HI1.out.1 HI1.out.2.1 HI1.out.2.2.1 HI1.out.2.2.2 rfl (by decide) (.slice none 0 0) 0 [] rfl (World.ownsRow_nil _ _ _ _) mv S.mutexes.length mc (pairCells S.mutexes) rfl (pairCells_length _) HN2.out (HS.out.stays M0.out.below).mutexes.src (pairCells_one _) (by have := HF.out.mutexes; unfold maxLen; omega) (by have := HF.out.mutexes; omega) M0.out.size ?_; intro v1 w1 hown1 hg1; simp only [Nat.zero_add, List.nil_append] at hown1; obtain ⟨mv', mc', rfl, hnm, hpm, ham⟩ := PairsIn.of_owns hown1; have M1 : Hid (CM w S (.slice tv S.threads.length tc) (.slice mv S.mutexes.length mc) (.slice sv S.sems.length sc) (.slice qv S.queues.length qc) w1 (.slice none 0 0) (.slice none 0 0) (.slice none 0 0) (.slice none 0 0)) := M0.out.grown hg1 (by simp [Value.ownBlock]); have NM := hid hnm; clear hnm; have z1 := M1.out.c.frozen 3; have y1 := M1.out.c.cell 3; simp at y1; have HA1 : Hid (NewAt (w.heap.size + 3) w1.heap.size mv') := ham; have HP1 : Hid (PairsIn w1.heap.size w1 mv' S.mutexes) := hpm; have G1 : Hid (w0.grownBy w1 none) := hg1; clear hown1 hg1 ham hpm)
  clear x3 c3 z1 y1 M0
  have hM2 := M1.out.set3 (.slice mv' S.mutexes.length mc')
  have hP := HP1.out.keep HA1.out (setCell_same w1 ⟨w.heap.size + 1 + 1, 3, none⟩ (.slice mv' S.mutexes.length mc') _ _ (by show w.heap.size + 1 + 1 < _; omega)) (Nat.le_of_eq (setCell_size _ _ _).symm)
  have hA := HA1.out
  rw [← setCell_size w1 ⟨w.heap.size + 1 + 1, 3, none⟩ (.slice mv' S.mutexes.length mc')] at hA
  clear M1 HA1 HP1 G1 
  generalize w1.setCell ⟨w.heap.size + 1 + 1, 3, none⟩ (.slice mv' S.mutexes.length mc') = w2 at hM2 hP hA ⊢
  have M2 : Hid (CM w S (.slice tv S.threads.length tc) (.slice mv S.mutexes.length mc) (.slice sv S.sems.length sc) (.slice qv S.queues.length qc) w2 (.slice none 0 0) (.slice mv' S.mutexes.length mc') (.slice none 0 0) (.slice none 0 0)) := hM2
  have P2mv : Hid (PairsIn w2.heap.size w2 mv' S.mutexes) := hP
  have A2mv : Hid (NewAt (w.heap.size + 3) w2.heap.size mv') := hA
  clear hM2 hP hA
  have x4 := M2.out.x.cell 4
  have c4 := M2.out.c.cell 4
  simp at x4 c4
  go_upto_region 4 with (at_builtin; refine wpList_append_src rfl (.tmp 19) (.tmp 21) 24 rfl (w.heap.size + 3) 56 i2 (.agg #[.int .i64 0, .int .i64 0]) 2 16 Try.underlying24 HI2.out.1 HI2.out.2.1 HI2.out.2.2.1 HI2.out.2.2.2 rfl (by decide) (.slice none 0 0) 0 [] rfl (World.ownsRow_nil _ _ _ _) sv S.sems.length sc (pairCells S.sems) rfl (pairCells_length _) HN3.out (HS.out.stays M2.out.below).sems.src (pairCells_one _) (by have := HF.out.sems; unfold maxLen; omega) (by have := HF.out.sems; omega) M2.out.size ?_; intro v1 w3 hown1 hg1; simp only [Nat.zero_add, List.nil_append] at hown1; obtain ⟨sv', sc', rfl, hnm, hpm, ham⟩ := PairsIn.of_owns hown1; have M3 : Hid (CM w S (.slice tv S.threads.length tc) (.slice mv S.mutexes.length mc) (.slice sv S.sems.length sc) (.slice qv S.queues.length qc) w3 (.slice none 0 0) (.slice mv' S.mutexes.length mc') (.slice none 0 0) (.slice none 0 0)) := M2.out.grown hg1 (by simp [Value.ownBlock]); have NS := hid hnm; clear hnm; have z1 := M3.out.c.frozen 4; have y1 := M3.out.c.cell 4; simp at y1; have HA1 : Hid (NewAt (w.heap.size + 3) w3.heap.size sv') := ham; have HP1 : Hid (PairsIn w3.heap.size w3 sv' S.sems) := hpm; have G3 : Hid (w2.grownBy w3 none) := hg1; clear hown1 hg1 ham hpm)
  clear x4 c4 z1 y1 M2
  have hM4 := M3.out.set4 (.slice sv' S.sems.length sc')
  have hP := HP1.out.keep HA1.out (setCell_same w3 ⟨w.heap.size + 1 + 1, 4, none⟩ (.slice sv' S.sems.length sc') _ _ (by show w.heap.size + 1 + 1 < _; omega)) (Nat.le_of_eq (setCell_size _ _ _).symm)
  have hA := HA1.out
  rw [← setCell_size w3 ⟨w.heap.size + 1 + 1, 4, none⟩ (.slice sv' S.sems.length sc')] at hA
  have hP0 := (P2mv.out.keep A2mv.out (grown_same G3.out _ _ (Nat.le_refl _) (by simp)) G3.out.size).keep (A2mv.out.mono G3.out.size) (setCell_same w3 ⟨w.heap.size + 1 + 1, 4, none⟩ (.slice sv' S.sems.length sc') _ _ (by show w.heap.size + 1 + 1 < _; omega)) (Nat.le_of_eq (setCell_size _ _ _).symm)
  have hA0 := A2mv.out.mono G3.out.size
  rw [← setCell_size w3 ⟨w.heap.size + 1 + 1, 4, none⟩ (.slice sv' S.sems.length sc')] at hA0
  clear M3 HA1 HP1 G3 P2mv A2mv
  generalize w3.setCell ⟨w.heap.size + 1 + 1, 4, none⟩ (.slice sv' S.sems.length sc') = w4 at hM4 hP hA hP0 hA0 ⊢
  have M4 : Hid (CM w S (.slice tv S.threads.length tc) (.slice mv S.mutexes.length mc) (.slice sv S.sems.length sc) (.slice qv S.queues.length qc) w4 (.slice none 0 0) (.slice mv' S.mutexes.length mc') (.slice sv' S.sems.length sc') (.slice none 0 0)) := hM4
  have P4sv : Hid (PairsIn w4.heap.size w4 sv' S.sems) := hP
  have A4sv : Hid (NewAt (w.heap.size + 3) w4.heap.size sv') := hA
  have P4mv : Hid (PairsIn w4.heap.size w4 mv' S.mutexes) := hP0
  have A4mv : Hid (NewAt (w.heap.size + 3) w4.heap.size mv') := hA0
  clear hM4 hP hA hP0 hA0
  have x5 := M4.out.x.cell 5
  have c5 := M4.out.c.cell 5
  simp at x5 c5
  go_upto_region 5 with (at_builtin; refine wpList_append_src rfl (.tmp 25) (.tmp 27) 25 rfl (w.heap.size + 3) 3 i3 (.int .i64 0) 1 8 Try.underlying25 HI3.out.1 HI3.out.2.1 HI3.out.2.2.1 HI3.out.2.2.2 rfl (by decide) (.slice none 0 0) 0 [] rfl (World.ownsRow_nil _ _ _ _) qv S.queues.length qc (intCells S.queues) rfl (intCells_length _) HN4.out (HS.out.stays M4.out.below).queues.src (intCells_one _) (by have := HF.out.queues; unfold maxLen; omega) (by have := HF.out.queues; omega) M4.out.size ?_; intro v1 w5 hown1 hg1; simp only [Nat.zero_add, List.nil_append] at hown1; obtain ⟨qv', qc', rfl, hnm, hpm, ham⟩ := IntsIn.of_owns hown1; have M5 : Hid (CM w S (.slice tv S.threads.length tc) (.slice mv S.mutexes.length mc) (.slice sv S.sems.length sc) (.slice qv S.queues.length qc) w5 (.slice none 0 0) (.slice mv' S.mutexes.length mc') (.slice sv' S.sems.length sc') (.slice none 0 0)) := M4.out.grown hg1 (by simp [Value.ownBlock]); have NQ := hid hnm; clear hnm; have z1 := M5.out.c.frozen 5; have y1 := M5.out.c.cell 5; simp at y1; have HA1 : Hid (NewAt (w.heap.size + 3) w5.heap.size qv') := ham; have HP1 : Hid (IntsIn w5.heap.size w5 qv' S.queues) := hpm; have G5 : Hid (w4.grownBy w5 none) := hg1; clear hown1 hg1 ham hpm)
  clear x5 c5 z1 y1 M4
  have hM6 := M5.out.set5 (.slice qv' S.queues.length qc')
  have hP := HP1.out.keep HA1.out (setCell_same w5 ⟨w.heap.size + 1 + 1, 5, none⟩ (.slice qv' S.queues.length qc') _ _ (by show w.heap.size + 1 + 1 < _; omega)) (Nat.le_of_eq (setCell_size _ _ _).symm)
  have hA := HA1.out
  rw [← setCell_size w5 ⟨w.heap.size + 1 + 1, 5, none⟩ (.slice qv' S.queues.length qc')] at hA
  have hP0 := (P4mv.out.keep A4mv.out (grown_same G5.out _ _ (Nat.le_refl _) (by simp)) G5.out.size).keep (A4mv.out.mono G5.out.size) (setCell_same w5 ⟨w.heap.size + 1 + 1, 5, none⟩ (.slice qv' S.queues.length qc') _ _ (by show w.heap.size + 1 + 1 < _; omega)) (Nat.le_of_eq (setCell_size _ _ _).symm)
  have hA0 := A4mv.out.mono G5.out.size
  rw [← setCell_size w5 ⟨w.heap.size + 1 + 1, 5, none⟩ (.slice qv' S.queues.length qc')] at hA0
  have hP1 := (P4sv.out.keep A4sv.out (grown_same G5.out _ _ (Nat.le_refl _) (by simp)) G5.out.size).keep (A4sv.out.mono G5.out.size) (setCell_same w5 ⟨w.heap.size + 1 + 1, 5, none⟩ (.slice qv' S.queues.length qc') _ _ (by show w.heap.size + 1 + 1 < _; omega)) (Nat.le_of_eq (setCell_size _ _ _).symm)
  have hA1 := A4sv.out.mono G5.out.size
  rw [← setCell_size w5 ⟨w.heap.size + 1 + 1, 5, none⟩ (.slice qv' S.queues.length qc')] at hA1
  clear M5 HA1 HP1 G5 P4mv A4mv P4sv A4sv
  generalize w5.setCell ⟨w.heap.size + 1 + 1, 5, none⟩ (.slice qv' S.queues.length qc') = w6 at hM6 hP hA hP0 hA0 hP1 hA1 ⊢
  have M6 : Hid (CM w S (.slice tv S.threads.length tc) (.slice mv S.mutexes.length mc) (.slice sv S.sems.length sc) (.slice qv S.queues.length qc) w6 (.slice none 0 0) (.slice mv' S.mutexes.length mc') (.slice sv' S.sems.length sc') (.slice qv' S.queues.length qc')) := hM6
  have P6qv : Hid (IntsIn w6.heap.size w6 qv' S.queues) := hP
  have A6qv : Hid (NewAt (w.heap.size + 3) w6.heap.size qv') := hA
  have P6mv : Hid (PairsIn w6.heap.size w6 mv' S.mutexes) := hP0
  have A6mv : Hid (NewAt (w.heap.size + 3) w6.heap.size mv') := hA0
  have P6sv : Hid (PairsIn w6.heap.size w6 sv' S.sems) := hP1
  have A6sv : Hid (NewAt (w.heap.size + 3) w6.heap.size sv') := hA1
  clear hM6 hP hA hP0 hA0 hP1 hA1
  have hM6 := M6.out
  have hlow : w.heap.size + 3 ≤ w6.heap.size := hM6.size
  clear HN2 HN3 HN4 HI1 HI2 HI3
  obtain ⟨i4, hi4, hz40, hz41, hz42⟩ := info_parts Try.infoInstr
  obtain ⟨i5, hi5, hz50, hz51, hz52⟩ := info_parts Try.infoThread
  have HI4 : Hid (Try.prog.info? 46 = some i4 ∧ i4.zero = some (.agg #[.int .i64 0, .int .i64 0, .int .i64 0]) ∧ i4.size = 3 ∧ i4.bytes = 24) := ⟨hi4, hz40, hz41, hz42⟩
  have HI5 : Hid (Try.prog.info? 75 = some i5 ∧ i5.zero = some (.agg #[.int .i64 0, .int .i64 0, .int .i64 0, .int .i64 0, .slice none 0 0]) ∧ i5.size = 5 ∧ i5.bytes = 56) := ⟨hi5, hz50, hz51, hz52⟩
  clear hi4 hz40 hz41 hz42 hi5 hz50 hz51 hz52 hM6
  go_wp2
  go_loopw [4] (fun i wr => ∃ (k : Nat) (vt : Value) (cs : Nat → Value), k ≤ S.threads.length ∧ i = .int .i64 k ∧ CM w S (.slice tv S.threads.length tc) (.slice mv S.mutexes.length mc) (.slice sv S.sems.length sc) (.slice qv S.queues.length qc) wr vt (.slice mv' S.mutexes.length mc') (.slice sv' S.sems.length sc') (.slice qv' S.queues.length qc') ∧ But w6.heap.size (w.heap.size + 1 + 1) w6 wr ∧ ThRows w6.heap.size wr vt S.threads k cs) (fun i _ => S.threads.length - (intOf i).toNat)
  case atStart => exact ⟨0, _, fun _ => .slice none 0 0, Nat.zero_le _, rfl, M6.out, But.refl _ _ _, ThRows.zero _ _ _ _⟩
  case round =>
    obtain ⟨k, vt, cs, hk, rfl, hM, hB, hR⟩ := hrel
    have M : Hid (CM w S (.slice tv S.threads.length tc) (.slice mv S.mutexes.length mc) (.slice sv S.sems.length sc) (.slice qv S.queues.length qc) wr vt (.slice mv' S.mutexes.length mc') (.slice sv' S.sems.length sc') (.slice qv' S.queues.length qc')) := hM
    have BB : Hid (But w6.heap.size (w.heap.size + 1 + 1) w6 wr) := hB
    have RR : Hid (ThRows w6.heap.size wr vt S.threads k cs) := hR
    clear hM hB hR
    have x2 := M.out.x.cell 2
    simp at x2
    have q0 : w.heap.size + 3 ≤ wr.heap.size := M.out.size
    have q1 : w.heap.size < wr.heap.size := by omega
    have q2 : w6.heap.size ≤ wr.heap.size := BB.out.size
    by_cases hlt : k < S.threads.length
    · obtain ⟨b, o, cv, cc, rfl, hbb, c0, c1, c2, c3, c4, hcode, hcn⟩ := HS.out.threads k hlt
      have c0' := (M.out.below.cell (p := ⟨b, o + k * 5, none⟩) hbb).trans c0
      have c1' := (M.out.below.cell (p := ⟨b, o + k * 5 + 1, none⟩) hbb).trans c1
      have c2' := (M.out.below.cell (p := ⟨b, o + k * 5 + 2, none⟩) hbb).trans c2
      have c3' := (M.out.below.cell (p := ⟨b, o + k * 5 + 3, none⟩) hbb).trans c3
      have c4' := (M.out.below.cell (p := ⟨b, o + k * 5 + 4, none⟩) hbb).trans c4
      have HC : Hid (InstrsIn w.heap.size w cv S.threads[k].code) := hcode
      have HCN : Hid (cv = none → cc = 0) := hcn
      have hfit := HF.out.codes k hlt
      clear c0 c1 c2 c3 c4 hcode hcn
      go_upto_region 11 with (at_builtin; refine wpList_append_src rfl (.tmp 42) (.tmp 44) 73 rfl (wr.heap.size + 1) 46 i4 (.agg #[.int .i64 0, .int .i64 0, .int .i64 0]) 3 24 Try.underlying73 HI4.out.1 HI4.out.2.1 HI4.out.2.2.1 HI4.out.2.2.2 rfl (by decide) (.slice none 0 0) 0 [] rfl (World.ownsRow_nil _ _ _ _) cv S.threads[k].code.length cc (instrCells S.threads[k].code) rfl (instrCells_length _) HCN.out (HC.out.stays (M.out.below.alloc (by omega) _)).src (instrCells_one _) (by unfold maxLen; omega) (by omega) (by simp) ?_; intro v4 w7 hown4 hg4; simp only [Nat.zero_add, List.nil_append] at hown4; obtain ⟨cv', cc', rfl, _, _⟩ := owns_cells hown4; have M7 := hid ((M.out.alloc _).grown hg4 (by simp [Value.ownBlock])); have T7 := hid ((Blk.new wr #[.int .i64 S.threads[k].base, .int .i64 S.threads[k].offset, .int .i64 S.threads[k].period, .int .i64 S.threads[k].deadline, .slice cv S.threads[k].code.length cc] 75).grown hg4 (by simp [Value.ownBlock])); have O7 := hid hown4; have G7 := hid hg4; have z4 := T7.out.frozen 4; have y4 := T7.out.cell 4; simp at y4; clear hown4 hg4)
      clear x2 c0' c1' c2' c3' c4'
      go_upto_region 12 with fail
      clear z4 y4
      have hM8 := M7.out.other (p := ⟨wr.heap.size, 4, none⟩) (by show w.heap.size + 3 ≤ wr.heap.size; omega) (.slice cv' S.threads[k].code.length cc')
      have hT8 : Blk (w7.setCell ⟨wr.heap.size, 4, none⟩ (.slice cv' S.threads[k].code.length cc')) wr.heap.size #[.int .i64 S.threads[k].base, .int .i64 S.threads[k].offset, .int .i64 S.threads[k].period, .int .i64 S.threads[k].deadline, .slice cv' S.threads[k].code.length cc'] 75 := by simpa using T7.out.set 4 (.slice cv' S.threads[k].code.length cc')
      have same8 : ∀ g, g < wr.heap.size → (w7.setCell ⟨wr.heap.size, 4, none⟩ (.slice cv' S.threads[k].code.length cc')).heap[g]? = wr.heap[g]? := by
        intro g hg
        rw [Below.heap_setCell _ _ _ _ (show g ≠ wr.heap.size by omega), G7.out.block g (by simp; omega) (by simp [Value.ownBlock]), Below.heap_alloc _ _ _ hg]
      have hR8 := RR.out.same (fun g _ hg => same8 g hg)
      have hO8 : (w7.setCell ⟨wr.heap.size, 4, none⟩ (.slice cv' S.threads[k].code.length cc')).ownsRow w6.heap.size 46 3 (.slice cv' S.threads[k].code.length cc') S.threads[k].code.length (instrCells S.threads[k].code) := by
        refine ownsRow_mono (ownsRow_same O7.out fun g hg => ?_) (show w6.heap.size ≤ wr.heap.size + 1 by omega)
        have := ownsRow_block O7.out hg
        exact Below.heap_setCell _ _ _ _ (show g ≠ wr.heap.size by omega)
      have hB8 : But w6.heap.size (w.heap.size + 1 + 1) w6 (w7.setCell ⟨wr.heap.size, 4, none⟩ (.slice cv' S.threads[k].code.length cc')) :=
        ((BB.out.alloc q2 _).grown G7.out (by simp; omega) (by simp [Value.ownBlock])).setCell (Or.inr (show w6.heap.size ≤ wr.heap.size from q2)) _
      have hs8 : wr.heap.size < (w7.setCell ⟨wr.heap.size, 4, none⟩ (.slice cv' S.threads[k].code.length cc')).heap.size := hT8.lt
      clear M7 T7 O7 G7 same8
      generalize w7.setCell ⟨wr.heap.size, 4, none⟩ (.slice cv' S.threads[k].code.length cc') = w8 at hM8 hT8 hR8 hO8 hB8 hs8 ⊢
      have M8 := hid hM8
      have R8 := hid hR8
      have O8 := hid hO8
      have B8 := hid hB8
      have m2 := hM8.c.cell 2
      have t0 := hT8.cell 0
      have t1 := hT8.cell 1
      have t2 := hT8.cell 2
      have t3 := hT8.cell 3
      have t4 := hT8.cell 4
      simp at m2 t0 t1 t2 t3 t4
      have q8 : w6.heap.size ≤ w8.heap.size := hB8.size
      have q9 : w.heap.size + 1 + 1 < w8.heap.size := by omega
      clear hM8 hT8 hR8 hO8 hB8
      have hn := HF.out.threads
      go_wp2_with (at_builtin; refine wpList_append_src rfl (.tmp 49) (.tmp 51) 22 rfl w6.heap.size 75 i5 (.agg #[.int .i64 0, .int .i64 0, .int .i64 0, .int .i64 0, .slice none 0 0]) 5 56 Try.underlying22 HI5.out.1 HI5.out.2.1 HI5.out.2.2.1 HI5.out.2.2.2 rfl (by decide) vt k (thCells S.threads cs k) rfl (R8.out.1.alloc _) (some ⟨w8.heap.size, 0, none⟩) 1 1 [.int .i64 S.threads[k].base, .int .i64 S.threads[k].offset, .int .i64 S.threads[k].period, .int .i64 S.threads[k].deadline, .slice cv' S.threads[k].code.length cc'] rfl rfl (fun h => (by cases h)) (fun j u hj => ⟨_, rfl, (by rw [Addr.add_lit, Nat.zero_add, (Blk.new w8 #[.int .i64 S.threads[k].base, .int .i64 S.threads[k].offset, .int .i64 S.threads[k].period, .int .i64 S.threads[k].deadline, .slice cv' S.threads[k].code.length cc'] 75).cell]; simpa using hj)⟩) (by intro u hu; simp at hu; rcases hu with rfl | rfl | rfl | rfl | rfl <;> rfl) (by unfold maxLen; omega) (by omega) (by simp; omega) ?_; intro v5 w10 hown5 hg5; obtain ⟨tv5, tc5, rfl, _, _⟩ := owns_cells hown5; have M10 := hid ((M8.out.alloc _).grown hg5 (fun g hg => (by have := ownsRow_block R8.out.1 hg; omega))); have z10 := M10.out.c.frozen 2; have y10 := M10.out.c.cell 2; simp at y10; have O10 := hid hown5; have G10 := hid hg5; clear hown5 hg5)
      obtain ⟨cs', hR10⟩ := ThRows.step (ThRows.same R8.out (fun g _ hg => Below.heap_alloc _ _ _ hg)) hlt (O8.out.alloc _) G10.out O10.out
      have hB10 : But w6.heap.size (w.heap.size + 1 + 1) w6 w10 := (B8.out.alloc q8 _).grown G10.out (by simp; omega) (fun g hg => (ownsRow_block R8.out.1 hg).1)
      go_roundw
      case rel => exact ⟨k + 1, _, cs', by omega, by go_num, M10.out.set2 _, hB10.setCell (Or.inl rfl) _, hR10.same (setCell_same _ _ _ _ _ (by show w.heap.size + 1 + 1 < _; omega))⟩
      case measure => simp [intOf]; omega
    · have e : k = S.threads.length := by omega
      subst e
      obtain ⟨tv', tc', rfl, htn, htin⟩ := ThreadsF.of_rows_later RR.out
      have NT := hid htn
      clear htn
      have HT := hid htin
      have m0 := M.out.c.cell 0
      have m1 := M.out.c.cell 1
      have m2 := M.out.c.cell 2
      have m3 := M.out.c.cell 3
      have m4 := M.out.c.cell 4
      have m5 := M.out.c.cell 5
      have r0 := M.out.r.cell 0
      have r1 := M.out.r.cell 1
      have r2 := M.out.r.cell 2
      have r3 := M.out.r.cell 3
      have r4 := M.out.r.cell 4
      have r5 := M.out.r.cell 5
      simp at m0 m1 m2 m3 m4 m5 r0 r1 r2 r3 r4 r5
      have f0 := M.out.r.frozen 0
      have f1 := M.out.r.frozen 1
      have f2 := M.out.r.frozen 2
      have f3 := M.out.r.frozen 3
      have f4 := M.out.r.frozen 4
      have f5 := M.out.r.frozen 5
      have q3 : w.heap.size + 1 < wr.heap.size := by omega
      clear htin
      go_wp2
      have same : ∀ g, w.heap.size + 3 ≤ g → g < w6.heap.size → wr.heap[g]? = w6.heap[g]? := fun g h1 h2 => BB.out.block g h2 (by omega)
      have up : ∀ b, w.heap.size + 3 ≤ b ∧ b < w6.heap.size → w.heap.size ≤ b ∧ b < ((((((wr.setCell ⟨w.heap.size + 1, 0, none⟩ (.int .i64 S.workers)).setCell ⟨w.heap.size + 1, 1, none⟩ (.int .i64 S.start)).setCell ⟨w.heap.size + 1, 2, none⟩ (.slice tv' S.threads.length tc')).setCell ⟨w.heap.size + 1, 3, none⟩ (.slice mv' S.mutexes.length mc')).setCell ⟨w.heap.size + 1, 4, none⟩ (.slice sv' S.sems.length sc')).setCell ⟨w.heap.size + 1, 5, none⟩ (.slice qv' S.queues.length qc')).heap.size := by
        intro b hb
        rw [six_size]
        omega
      refine bodyPost_ret (v := .agg #[.int .i64 S.workers, .int .i64 S.start, .slice tv' S.threads.length tc', .slice mv' S.mutexes.length mc', .slice sv' S.sems.length sc', .slice qv' S.queues.length qc']) ?_ rfl ⟨tv', mv', sv', qv', tc', mc', sc', qc', rfl, ⟨?_, ?_, ?_, ?_⟩, ⟨NT.out, NM.out, NS.out, NQ.out⟩, six_below M.out.below _ (by omega) _ _ _ _ _ _⟩
      · simp [results, Try.results31, go_sem, r0, r1, r2, r3, r4, r5]
      · exact (HT.out _ (fun g h1 h2 => six_same _ _ _ _ _ _ _ _ _ (by omega))).mono (fun b hb => ⟨by omega, hb.2⟩)
      · exact ((P6mv.out.newF A6mv.out).same (fun b hb => (six_same _ _ _ _ _ _ _ _ _ (by omega)).trans (same b hb.1 hb.2))).mono up
      · exact ((P6sv.out.newF A6sv.out).same (fun b hb => (six_same _ _ _ _ _ _ _ _ _ (by omega)).trans (same b hb.1 hb.2))).mono up
      · exact ((P6qv.out.newF A6qv.out).same (fun b hb => (six_same _ _ _ _ _ _ _ _ _ (by omega)).trans (same b hb.1 hb.2))).mono up
end Go.Proofs.Ytbkfildnijjioab

/-
  Walks over package donatekeep: begin.
-/
namespace Go.Proofs.Ytbkfildnijjioab
open Go.RowKit
def beginD (S : SetD) (n : Nat) : WD := ⟨S, S.start, (S.threads.map ThreadD.base).take n, List.replicate n 0, List.replicate n 0, List.replicate n 0, [], [], [], 0, false, -1, ⟨0, 0, 0⟩, 0, []⟩
def firstD (S : SetD) : WD := seenD (beginD S S.threads.length) (R.new S)
theorem Cols_new (S : SetD) : R.Cols (R.bare S) (R.new S) := (R.cols_releaseTo (R.bare S) _).trans (R.cols_settle _)
theorem first_wd (S : SetD) : Wd (firstD S) (R.new S) ∧ Coh (beginD S S.threads.length) (R.new S) := by
  have k := Cols_new S
  have e1 : (R.new S).set = S := R.releaseTo_set (R.bare S) _
  have e2 : (R.new S).now = S.start := R.releaseTo_now (R.bare S) _
  have hl : (R.new S).T.length = S.threads.length := k.len.trans (by simp [R.bare])
  have hb : (R.new S).T.map RT.base = (beginD S S.threads.length).base := by
    rw [col_same _ _ _ k.len fun u _ => (k.th u).1]
    show _ = (S.threads.map ThreadD.base).take S.threads.length
    rw [List.take_of_length_le (by simp)]
    simp [R.bare, R.rt0, Function.comp_def]
  have ha : (R.new S).T.map RT.at_ = (beginD S S.threads.length).at_ := by
    rw [col_same _ _ _ k.len fun u _ => (k.th u).2.1]
    show _ = List.replicate S.threads.length 0
    apply List.ext_getElem <;> simp [R.bare, R.rt0]
  have he : (R.new S).T.map RT.ended = (beginD S S.threads.length).ended := by
    rw [col_same _ _ _ k.len fun u _ => (k.th u).2.2]
    show _ = List.replicate S.threads.length 0
    apply List.ext_getElem <;> simp [R.bare, R.rt0]
  have co : Coh (beginD S S.threads.length) (R.new S) := ⟨e1.symm, e2.symm, hb.symm, ha.symm, he.symm⟩
  refine ⟨⟨⟨co.set, co.now, co.base, co.at_, co.ended⟩, rfl, rfl, ?_⟩, co⟩
  show (List.replicate S.threads.length (0 : Int)).length = _
  rw [List.length_replicate, hl]
theorem apt_nil (v : Value) : AptV (.slice none 0 0) v := fun g hg => by cases hg
section
variable {PK : KP}
set_option maxRecDepth 100000 in
set_option maxHeartbeats 8000000 in
theorem wBegin_any (c : CAll PK) (cn : CNew PK (fun _ => True)) (tv mv sv qv : Option Addr) (tc mc sc qc : Nat) (S : SetD) (w : World) (hS : SetIn w.heap.size w tv mv sv qv S) (hF : Fits S) (hnil : (tv = none → tc = 0) ∧ (mv = none → mc = 0) ∧ (sv = none → sc = 0) ∧ (qv = none → qc = 0)) :
    Calls Try.prog 10 #[.agg #[.int .i64 S.workers, .int .i64 S.start, .slice tv S.threads.length tc, .slice mv S.mutexes.length mc, .slice sv S.sems.length sc, .slice qv S.queues.length qc]] w fun e w' =>
      Below w.heap.size w w' ∧ ((P3.err S ≠ 0 ∧ e = .returned (.tuple #[.pointer none, .bool true])) ∨
        (P3.err S = 0 ∧ ∃ B wb kb P h, w.heap.size ≤ B ∧ e = .returned (.tuple #[.pointer (some ⟨wb, 0, none⟩), .bool true]) ∧ KW PK B w' wb kb P h (firstD S) (R.new S))) := by
  have HS := hid hS
  have HF := hid hF
  have HN := hid hnil
  clear hS hF hnil
  obtain ⟨i3, hi3, hz30, hz31, hz32⟩ := info_parts Try.infoInt
  have HI3 := hid (And.intro hi3 (And.intro hz30 (And.intro hz31 hz32)))
  clear hi3 hz30 hz31 hz32
  go_enter Try.func10, Try.ntmps10
  go_wp2_with fail
  have hb0 : Below w.heap.size w (w.alloc (.cells #[.int .i64 S.workers, .int .i64 S.start, .slice tv S.threads.length tc, .slice mv S.mutexes.length mc, .slice sv S.sems.length sc, .slice qv S.queues.length qc] 27)) := (Below.refl _ _).alloc (Nat.le_refl _) _
  have X0 := Blk.new w #[.int .i64 S.workers, .int .i64 S.start, .slice tv S.threads.length tc, .slice mv S.mutexes.length mc, .slice sv S.sems.length sc, .slice qv S.queues.length qc] 27
  have hz0 : (w.alloc (.cells #[.int .i64 S.workers, .int .i64 S.start, .slice tv S.threads.length tc, .slice mv S.mutexes.length mc, .slice sv S.sems.length sc, .slice qv S.queues.length qc] 27)).heap.size = w.heap.size + 1 := by simp
  generalize w.alloc (.cells #[.int .i64 S.workers, .int .i64 S.start, .slice tv S.threads.length tc, .slice mv S.mutexes.length mc, .slice sv S.sems.length sc, .slice qv S.queues.length qc] 27) = w0 at hb0 X0 hz0 ⊢
  have HX0 := hid X0
  have HB0 := hid hb0
  have HS0 := hid (HS.out.later hb0)
  clear X0 hb0 HS
  refine (rCheck_any tv mv sv qv tc mc sc qc S w0 HS0.out).mono ?_
  rintro e w1 ⟨rfl, hb1⟩
  have HB1 := hid hb1
  have x1 := (HX0.out.only (Only.of_below (L := []) hb1) (by simp))
  have HX1 := hid x1
  have hz1 := hb1.size
  clear hb1 x1
  have x0 := HX1.out.cell 0
  have x1 := HX1.out.cell 1
  have x2 := HX1.out.cell 2
  have x3 := HX1.out.cell 3
  have x4 := HX1.out.cell 4
  have x5 := HX1.out.cell 5
  simp at x0 x1 x2 x3 x4 x5
  go_wp2_with fail
  refine (copy_any tv mv sv qv tc mc sc qc S w1 (HS0.out.later HB1.out) HF.out HN.out).mono ?_
  rintro e w2 ⟨tv', mv', sv', qv', tc', mc', sc', qc', rfl, hS2, hnil2, hb2⟩
  have HS2 := hid (hS2.toIn (B := w2.heap.size) (fun b hb => hb.2))
  have HN2 := hid hnil2
  have HB2 := hid (via HB1.out HB1.out.size hb2)
  have hz2 := hb2.size
  clear hS2 hnil2 hb2 x0 x1 x2 x3 x4 x5 HX1
  go_upto_region 3 with fail
  have hbA : Below w2.heap.size w2 (w2.alloc (.cells #[.int .i64 S.workers, .int .i64 S.start, .slice tv' S.threads.length tc', .slice mv' S.mutexes.length mc', .slice sv' S.sems.length sc', .slice qv' S.queues.length qc'] 27)) := (Below.refl _ _).alloc (Nat.le_refl _) _
  have YA := Blk.new w2 #[.int .i64 S.workers, .int .i64 S.start, .slice tv' S.threads.length tc', .slice mv' S.mutexes.length mc', .slice sv' S.sems.length sc', .slice qv' S.queues.length qc'] 27
  generalize w2.alloc (.cells #[.int .i64 S.workers, .int .i64 S.start, .slice tv' S.threads.length tc', .slice mv' S.mutexes.length mc', .slice sv' S.sems.length sc', .slice qv' S.queues.length qc'] 27) = wA at hbA YA ⊢
  have HBA := hid (via HB2.out HB2.out.size hbA)
  have HSA := hid (HS2.out.later hbA)
  have hzA := hbA.size
  have y0 := YA.cell 0
  have y1 := YA.cell 1
  have y2 := YA.cell 2
  have y3 := YA.cell 3
  have y4 := YA.cell 4
  have y5 := YA.cell 5
  simp at y0 y1 y2 y3 y4 y5
  clear YA hbA HS2 HB2
  go_wp2_with fail
  refine (cn tv' mv' sv' qv' tc' mc' sc' qc' S wA HSA.out HF.out HN2.out trivial).mono ?_
  rintro e w3 ⟨hb3, hcase⟩
  have HB3 := hid (via HBA.out HBA.out.size hb3)
  have hz3 := hb3.size
  have HX3 := hid (HX0.out.only (Only.of_below (L := []) HB3.out) (by simp))
  have HBW := hid (via HB0.out HB0.out.size HB3.out)
  clear hb3 y0 y1 y2 y3 y4 y5 HSA HBA
  have x0 := HX3.out.cell 0
  have x1 := HX3.out.cell 1
  have x2 := HX3.out.cell 2
  have x3 := HX3.out.cell 3
  have x4 := HX3.out.cell 4
  have x5 := HX3.out.cell 5
  simp at x0 x1 x2 x3 x4 x5
  rcases hcase with ⟨herr, rfl⟩ | ⟨herr, kb, P, rfl, hpk, hP⟩
  · have hne : (P3.err S != 0) = true := by simpa using herr
    have heq : (P3.err S != P3.err S) = false := by simp
    have HERR := hid herr
    go_wp2
    go_ret2
    exact ⟨HBW.out, .inl ⟨HERR.out, rfl⟩⟩
  · have HERR := hid herr
    rw [herr]
    have PKH := hid hpk
    have HP := hid hP
    have hT : S.threads.length ≤ 16 := by
      have hz := (ok_parts herr).1
      unfold P3.sizesB at hz
      rw [decide_eq_true_iff] at hz
      omega
    clear hpk hP herr
    go_upto_region 9 with fail
    have hbW : Below w3.heap.size w3 (w3.alloc (.cells #[.int .i64 S.workers, .int .i64 S.start, .slice tv S.threads.length tc, .slice mv S.mutexes.length mc, .slice sv S.sems.length sc, .slice qv S.queues.length qc, .pointer (some ⟨kb, 0, none⟩), .int .i64 S.start, .slice none 0 0, .slice none 0 0, .slice none 0 0, .slice none 0 0, .slice none 0 0, .slice none 0 0, .slice none 0 0, .int .i64 0, .bool false, .int .i64 (-1), .int .i64 0, .int .i64 0, .int .i64 0, .int .i64 0, .slice none 0 0] 49)) := (Below.refl _ _).alloc (Nat.le_refl _) _
    have bW := Blk.new w3 #[.int .i64 S.workers, .int .i64 S.start, .slice tv S.threads.length tc, .slice mv S.mutexes.length mc, .slice sv S.sems.length sc, .slice qv S.queues.length qc, .pointer (some ⟨kb, 0, none⟩), .int .i64 S.start, .slice none 0 0, .slice none 0 0, .slice none 0 0, .slice none 0 0, .slice none 0 0, .slice none 0 0, .slice none 0 0, .int .i64 0, .bool false, .int .i64 (-1), .int .i64 0, .int .i64 0, .int .i64 0, .int .i64 0, .slice none 0 0] 49
    generalize w3.alloc (.cells #[.int .i64 S.workers, .int .i64 S.start, .slice tv S.threads.length tc, .slice mv S.mutexes.length mc, .slice sv S.sems.length sc, .slice qv S.queues.length qc, .pointer (some ⟨kb, 0, none⟩), .int .i64 S.start, .slice none 0 0, .slice none 0 0, .slice none 0 0, .slice none 0 0, .slice none 0 0, .slice none 0 0, .slice none 0 0, .int .i64 0, .bool false, .int .i64 (-1), .int .i64 0, .int .i64 0, .int .i64 0, .int .i64 0, .slice none 0 0] 49) = w4 at hbW bW ⊢
    have kw : KW PK w0.heap.size w4 w3.heap.size kb P ⟨tv, mv, sv, qv, tc, mc, sc, qc, .slice none 0 0, .slice none 0 0, .slice none 0 0, .slice none 0 0, .slice none 0 0, .slice none 0 0, .slice none 0 0, .slice none 0 0⟩ (beginD S 0) (R.new S) := by
      refine ⟨⟨bW, ((HS0.out.stays HB3.out).stays (hbW.mono (by omega))), World.ownsRow_nil _ _ _ _, World.ownsRow_nil _ _ _ _, World.ownsRow_nil _ _ _ _, World.ownsRow_nil _ _ _ _, World.ownsRow_nil _ _ _ _, World.ownsRow_nil _ _ _ _, World.ownsRow_nil _ _ _ _, World.ownsRow_nil _ _ _ _, ⟨apt_nil _, apt_nil _, apt_nil _, apt_nil _, apt_nil _, apt_nil _, apt_nil _, apt_nil _, apt_nil _, apt_nil _⟩, by omega⟩, c.fr.below PKH.out hbW, fun b hb => ?_, fun b hb hw => ?_⟩
      · have := HP.out b hb
        omega
      · have := c.fr.lt PKH.out b hb
        rcases hw with e | e | e | e | e | e | e | e | e
        · omega
        all_goals cases e
    have KW0 := hid kw
    have HB4 := hid (HB3.out.trans (hbW.mono (by omega)))
    have hz4 := hbW.size
    clear kw bW hbW x0 x1 x2 x3 x4 x5 PKH
    go_wp2
    go_loopw [10] (fun i wr => ∃ (n : Nat) (h : WH), n ≤ S.threads.length ∧ i = .int .i64 n ∧ KW PK w0.heap.size wr w3.heap.size kb P h (beginD S n) (R.new S) ∧ Below w0.heap.size w0 wr) (fun i _ => S.threads.length - (intOf i).toNat)
    case atStart => exact ⟨0, _, Nat.zero_le _, rfl, KW0.out, HB4.out⟩
    case round =>
      obtain ⟨n, h, hn, rfl, hkw, hbr⟩ := hrel
      have K := hid hkw
      have HB := hid hbr
      have hzr := hbr.size
      have HX := hid (HX0.out.only (Only.of_below (L := []) hbr) (by simp))
      have x2 := HX.out.cell 2
      simp at x2
      clear hkw hbr
      by_cases hlt : n < S.threads.length
      · obtain ⟨b, o, cv, cc, hta, hbb, a0, _⟩ := HS0.out.threads n hlt
        have a0 := (HB.out.cell (p := ⟨b, o + n * 5, none⟩) hbb).trans a0
        rw [hta] at x2
        have c8 := K.out.m.blk.cell 8
        have f8 := K.out.m.blk.frozen 8
        simp [wCells] at c8
        have hltI : (n : Int) < (S.threads.length : Int) := by omega
        have RB := hid K.out.m.base
        have LB : Hid ((beginD S n).base.length = n) := hid (by simp [beginD]; omega)
        have EB : Hid ((beginD S (n + 1)).base = (beginD S n).base ++ [S.threads[n].base]) := hid (take_map_succ ThreadD.base S.threads n hlt)
        have hwl := K.out.m.blk.lt
        have HNE := hid (K.out.m.wb_ne RB.out (by decide))
        generalize S.threads[n].base = bn at *
        go_wp2_with fail
        go_region_law (refine step_append_own_at rfl (.tmp 53) (.tmp 60) 25 rfl w0.heap.size 3 i3 (.int .i64 0) 1 8 Try.underlying25 HI3.out.1 HI3.out.2.1 HI3.out.2.2.1 HI3.out.2.2.2 rfl (by decide) h.vB (beginD S n).base.length (intCells (beginD S n).base) (by simp [Act.eval]) (RB.out.drew.alloc _) ⟨wr.heap.size, 0, none⟩ 1 1 [.int .i64 bn] (by simp [Act.eval]) rfl (fun j u hj => (by rw [Addr.add_lit, Nat.zero_add]; exact ((Blk.new wr.drew #[.int .i64 bn] 3).cell j).trans (by simpa using hj))) (by intro u hu; simp at hu; subst hu; rfl) (by have := LB.out; unfold maxLen; omega) (by have := LB.out; omega) (by simp; omega) ?_; intro v' w5 hown5 hg5 hat5; obtain ⟨tv5, tc5, rfl, _, _⟩ := owns_cells hown5; have z5 : w5.frozen? ⟨w3.heap.size, 8, none⟩ = false := (by rw [World.frozen?_of_block (hg5.block w3.heap.size (by simp; omega) (fun e => HNE.out e.symm))]; exact ((K.out.m.blk.only (Only.of_below (L := []) ((Below.refl wr.heap.size wr).drew.alloc (Nat.le_refl _) (.cells #[.int .i64 bn] 3))) (by simp)).frozen 8)); have y5 : w5.cell? ⟨w3.heap.size, 8, none⟩ = some h.vB := (by rw [World.cell?_of_block (hg5.block w3.heap.size (by simp; omega) (fun e => HNE.out e.symm))]; exact ((K.out.m.blk.only (Only.of_below (L := []) ((Below.refl wr.heap.size wr).drew.alloc (Nat.le_refl _) (.cells #[.int .i64 bn] 3))) (by simp)).cell 8).trans (by simp [wCells])); have O5 := hid hown5; have G5 := hid hg5; have A5 := hid hat5; clear hown5 hg5 hat5)
        all_goals
          go_upto_region 13 with fail
          have hbA : Below wr.heap.size wr (wr.drew.alloc (.cells #[.int .i64 bn] 3)) := (Below.refl _ _).drew.alloc (Nat.le_refl _) _
          obtain ⟨h1, k1, hb1⟩ := K.out.growBase c.fr hbA G5.out (l := (beginD S n).base ++ [bn]) (by rw [List.length_append]; simpa [intCells] using O5.out) A5.out
          have K1 := hid k1
          have HB1 := hid (HB.out.trans hb1)
          clear k1 hb1 hbA z5 y5 O5 G5 A5 c8 f8 x2 a0
          generalize w5.setCell ⟨w3.heap.size, 8, none⟩ (.slice tv5 _ tc5) = w6 at K1 HB1 ⊢

          have c9 := K1.out.m.blk.cell 9
          have f9 := K1.out.m.blk.frozen 9
          simp [wCells] at c9
          have R9 := hid K1.out.m.at_
          have N9 := hid (K1.out.m.wb_ne R9.out (by decide))
          have hw9 := K1.out.m.blk.lt
          have hz9 := K1.out.m.bsz
          have L9 : Hid ((beginD S n).at_.length = n) := hid (by simp [beginD])
          go_upto_region 14 with (at_builtin; refine wpList_append_src_at rfl (.tmp 68) (.tmp 69) 25 rfl w0.heap.size 3 i3 (.int .i64 0) 1 8 Try.underlying25 HI3.out.1 HI3.out.2.1 HI3.out.2.2.1 HI3.out.2.2.2 rfl (by decide) h1.vA (beginD S n).at_.length (intCells (beginD S n).at_) rfl (R9.out.alloc _) (some ⟨w6.heap.size, 0, none⟩) 1 1 [.int .i64 0] rfl rfl (fun h => (by cases h)) (fun j u hj => ⟨_, rfl, (by rw [Addr.add_lit, Nat.zero_add, (Blk.new w6 #[.int .i64 0] 3).cell]; simpa using hj)⟩) (by intro u hu; simp at hu; subst hu; rfl) (by have := L9.out; unfold maxLen; omega) (by have := L9.out; omega) (by simp; omega) ?_; intro v9 u9 ho9 hg9 ha9; obtain ⟨tv9, tc9, rfl, _, _⟩ := owns_cells ho9; have zz9 : u9.frozen? ⟨w3.heap.size, 9, none⟩ = false := (by rw [World.frozen?_of_block (hg9.block w3.heap.size (by simp; omega) (fun e => N9.out e.symm))]; exact ((K1.out.m.blk.alloc (.cells #[.int .i64 0] 3)).frozen 9)); have yy9 : u9.cell? ⟨w3.heap.size, 9, none⟩ = some h1.vA := (by rw [World.cell?_of_block (hg9.block w3.heap.size (by simp; omega) (fun e => N9.out e.symm))]; exact ((K1.out.m.blk.alloc (.cells #[.int .i64 0] 3)).cell 9).trans (by simp [wCells])); have O9 := hid ho9; have G9 := hid hg9; have A9 := hid ha9; clear ho9 hg9 ha9)
          obtain ⟨h2, k2, hb2⟩ := K1.out.growAt c.fr ((Below.refl _ _).alloc (Nat.le_refl _) _) G9.out (l := (beginD S n).at_ ++ [0]) (by rw [List.length_append]; simpa [intCells] using O9.out) A9.out
          have K2 := hid k2
          have HB2 := hid (HB1.out.trans hb2)
          clear k2 hb2 c9 f9 R9 N9 O9 G9 A9 zz9 yy9 K1 HB1
          generalize u9.setCell ⟨w3.heap.size, 9, none⟩ (.slice tv9 _ tc9) = w7 at K2 HB2 ⊢

          have c10 := K2.out.m.blk.cell 10
          have f10 := K2.out.m.blk.frozen 10
          simp [wCells] at c10
          have R10 := hid K2.out.m.ended
          have N10 := hid (K2.out.m.wb_ne R10.out (by decide))
          have hw10 := K2.out.m.blk.lt
          have hz10 := K2.out.m.bsz
          have L10 : Hid ((beginD S n).ended.length = n) := hid (by simp [beginD])
          go_upto_region 15 with (at_builtin; refine wpList_append_src_at rfl (.tmp 77) (.tmp 78) 25 rfl w0.heap.size 3 i3 (.int .i64 0) 1 8 Try.underlying25 HI3.out.1 HI3.out.2.1 HI3.out.2.2.1 HI3.out.2.2.2 rfl (by decide) h2.vE (beginD S n).ended.length (intCells (beginD S n).ended) rfl (R10.out.alloc _) (some ⟨w7.heap.size, 0, none⟩) 1 1 [.int .i64 0] rfl rfl (fun h => (by cases h)) (fun j u hj => ⟨_, rfl, (by rw [Addr.add_lit, Nat.zero_add, (Blk.new w7 #[.int .i64 0] 3).cell]; simpa using hj)⟩) (by intro u hu; simp at hu; subst hu; rfl) (by have := L10.out; unfold maxLen; omega) (by have := L10.out; omega) (by simp; omega) ?_; intro v10 u10 ho10 hg10 ha10; obtain ⟨tv10, tc10, rfl, _, _⟩ := owns_cells ho10; have zz10 : u10.frozen? ⟨w3.heap.size, 10, none⟩ = false := (by rw [World.frozen?_of_block (hg10.block w3.heap.size (by simp; omega) (fun e => N10.out e.symm))]; exact ((K2.out.m.blk.alloc (.cells #[.int .i64 0] 3)).frozen 10)); have yy10 : u10.cell? ⟨w3.heap.size, 10, none⟩ = some h2.vE := (by rw [World.cell?_of_block (hg10.block w3.heap.size (by simp; omega) (fun e => N10.out e.symm))]; exact ((K2.out.m.blk.alloc (.cells #[.int .i64 0] 3)).cell 10).trans (by simp [wCells])); have O10 := hid ho10; have G10 := hid hg10; have A10 := hid ha10; clear ho10 hg10 ha10)
          obtain ⟨h3, k3, hb3⟩ := K2.out.growEnded c.fr ((Below.refl _ _).alloc (Nat.le_refl _) _) G10.out (l := (beginD S n).ended ++ [0]) (by rw [List.length_append]; simpa [intCells] using O10.out) A10.out
          have K3 := hid k3
          have HB3 := hid (HB2.out.trans hb3)
          clear k3 hb3 c10 f10 R10 N10 O10 G10 A10 zz10 yy10 K2 HB2
          generalize u10.setCell ⟨w3.heap.size, 10, none⟩ (.slice tv10 _ tc10) = w8 at K3 HB3 ⊢

          have c11 := K3.out.m.blk.cell 11
          have f11 := K3.out.m.blk.frozen 11
          simp [wCells] at c11
          have R11 := hid K3.out.m.since
          have N11 := hid (K3.out.m.wb_ne R11.out (by decide))
          have hw11 := K3.out.m.blk.lt
          have hz11 := K3.out.m.bsz
          have L11 : Hid ((beginD S n).since.length = n) := hid (by simp [beginD])
          go_wp2_with (at_builtin; refine wpList_append_src_at rfl (.tmp 86) (.tmp 87) 25 rfl w0.heap.size 3 i3 (.int .i64 0) 1 8 Try.underlying25 HI3.out.1 HI3.out.2.1 HI3.out.2.2.1 HI3.out.2.2.2 rfl (by decide) h3.vS (beginD S n).since.length (intCells (beginD S n).since) rfl (R11.out.alloc _) (some ⟨w8.heap.size, 0, none⟩) 1 1 [.int .i64 0] rfl rfl (fun h => (by cases h)) (fun j u hj => ⟨_, rfl, (by rw [Addr.add_lit, Nat.zero_add, (Blk.new w8 #[.int .i64 0] 3).cell]; simpa using hj)⟩) (by intro u hu; simp at hu; subst hu; rfl) (by have := L11.out; unfold maxLen; omega) (by have := L11.out; omega) (by simp; omega) ?_; intro v11 u11 ho11 hg11 ha11; obtain ⟨tv11, tc11, rfl, _, _⟩ := owns_cells ho11; have zz11 : u11.frozen? ⟨w3.heap.size, 11, none⟩ = false := (by rw [World.frozen?_of_block (hg11.block w3.heap.size (by simp; omega) (fun e => N11.out e.symm))]; exact ((K3.out.m.blk.alloc (.cells #[.int .i64 0] 3)).frozen 11)); have yy11 : u11.cell? ⟨w3.heap.size, 11, none⟩ = some h3.vS := (by rw [World.cell?_of_block (hg11.block w3.heap.size (by simp; omega) (fun e => N11.out e.symm))]; exact ((K3.out.m.blk.alloc (.cells #[.int .i64 0] 3)).cell 11).trans (by simp [wCells])); have O11 := hid ho11; have G11 := hid hg11; have A11 := hid ha11; clear ho11 hg11 ha11)
          obtain ⟨h4, k4, hb4⟩ := K3.out.growSince c.fr ((Below.refl _ _).alloc (Nat.le_refl _) _) G11.out (l := (beginD S n).since ++ [0]) (by rw [List.length_append]; simpa [intCells] using O11.out) A11.out
          have K4 := hid k4
          have HB4' := hid (HB3.out.trans hb4)
          clear k4 hb4 c11 f11 R11 N11 O11 G11 A11 zz11 yy11 K3 HB3
          have EF : Hid (beginD S (n + 1) = { beginD S n with base := (beginD S n).base ++ [bn], at_ := (beginD S n).at_ ++ [0], ended := (beginD S n).ended ++ [0], since := (beginD S n).since ++ [0] }) := by
            have e1 := EB.out
            have e2 : List.replicate (n + 1) (0 : Int) = List.replicate n 0 ++ [0] := List.replicate_succ'
            unfold beginD at e1 ⊢
            simp only at e1 ⊢
            rw [e1, e2]
            exact hid rfl
          go_roundw
          case rel => exact ⟨n + 1, by omega, by omega, ⟨h4, by rw [← hz0, EF.out]; exact K4.out⟩, by rw [← hz0]; exact HB4'.out⟩
          case measure => simp [intOf]; omega
      · have e : n = S.threads.length := by omega
        subst e
        go_wp2_with fail
        refine (wLook_any c K.out (first_wd S).2).mono ?_
        rintro e w6 ⟨rfl, h1, k1, hb1⟩
        have K1 := hid k1
        have hbz := K.out.m.bsz
        have HBZ := hid (via HB0.out HB0.out.size (HB.out.trans hb1))
        clear k1 hb1
        go_wp2
        go_ret2
        exact ⟨HBZ.out, .inr ⟨HERR.out, w0.heap.size, w3.heap.size, kb, P, h1, by omega, rfl, K1.out⟩⟩
end
end Go.Proofs.Ytbkfildnijjioab

/-
  Package donatekeep: begin and step, with all that holds behind them.
-/
namespace Go.Proofs.Ytbkfildnijjioab
open Go.RowKit
section
variable {PK : KP} {B : Nat} {w : World} {wb kb : Nat} {P : Nat → Prop} {h : WH} {d : WD} {s : RS}
theorem KWS.step (c : CAll PK) (k : KWS PK B w wb kb P h d s) (n : Int) {w' : World} {P' : Nat → Prop} {h' : WH} (k' : KW PK B w' wb kb P' h' (stepD d s n) (R.entry s n)) : KWS PK B w' wb kb P' h' (stepD d s n) (R.entry s n) := by
  obtain ⟨_, tk, wt, _, a⟩ := c.aux k.k.pk
  have i' := c.inv k'.pk
  exact ⟨k', k.wd.step k.i n, i', k.x.entry k.i a n i', k.snc.step k.wd k.i k.x.toExt0 a n⟩
theorem KWS.first (c : CAll PK) {S : SetD} (h0 : P3.err S = 0) {B : Nat} {w' : World} {wb kb : Nat} {P : Nat → Prop} {h : WH} (k : KW PK B w' wb kb P h (firstD S) (R.new S)) : KWS PK B w' wb kb P h (firstD S) (R.new S) := by
  refine ⟨k, (first_wd S).1, c.inv k.pk, R.ext_new h0, ?_⟩
  have f0 : ∀ u, u < (R.new S).T.length → (R.th (R.new S).T u).for_ = 0 := by
    intro u hu
    have e1 := (R.settle_stay (R.release (R.bare S)) u).1
    have e2 := (R.releaseTo_stay (R.bare S) (R.bare S).T.length u).1
    have hl : u < S.threads.length := by
      have : (R.new S).T.length = S.threads.length := by
        have := (Cols_new S).len
        rw [this]
        simp [R.bare]
      omega
    have e3 : R.th (R.new S).T u = R.th (R.settle (R.release (R.bare S))).T u := rfl
    have e4 : R.th (R.release (R.bare S)).T u = R.th (R.releaseTo (R.bare S) (R.bare S).T.length).T u := rfl
    rw [e3, e1.for_, e4, e2.for_]
    simp [R.th, R.bare, List.getD, hl, R.rt0]
  exact ⟨fun t ht hf => absurd (f0 t ht) hf, fun a b ha _ hf _ _ => absurd (f0 a ha) hf⟩
theorem wStepS_any (c : CAll PK) (k : KWS PK B w wb kb P h d s) (hnx : s.next ≤ 4611686018427386000) (hs0 : 0 ≤ d.steps) (hs1 : d.steps ≤ 2199023255552) (n : Int) :
    Calls Try.prog 12 #[.pointer (some ⟨wb, 0, none⟩), .int .i64 n] w fun e w' => e = .returned (.bool true) ∧ (∃ P' h', KWS PK B w' wb kb P' h' (stepD d s n) (R.entry s n)) ∧ Below B w w' := by
  refine (wStep_any c k.k k.wd hnx hs0 hs1 n).mono ?_
  rintro e w' ⟨rfl, ⟨P', h', k'⟩, hb⟩
  exact ⟨rfl, ⟨P', h', k.step c n k'⟩, hb⟩
theorem wBeginS_any (c : CAll PK) (cn : CNew PK (fun _ => True)) (tv mv sv qv : Option Addr) (tc mc sc qc : Nat) (S : SetD) (w : World) (hS : SetIn w.heap.size w tv mv sv qv S) (hF : Fits S) (hnil : (tv = none → tc = 0) ∧ (mv = none → mc = 0) ∧ (sv = none → sc = 0) ∧ (qv = none → qc = 0)) :
    Calls Try.prog 10 #[.agg #[.int .i64 S.workers, .int .i64 S.start, .slice tv S.threads.length tc, .slice mv S.mutexes.length mc, .slice sv S.sems.length sc, .slice qv S.queues.length qc]] w fun e w' =>
      Below w.heap.size w w' ∧ ((P3.err S ≠ 0 ∧ e = .returned (.tuple #[.pointer none, .bool true])) ∨
        (P3.err S = 0 ∧ (R.new S).next ≤ 16 ∧ ∃ B wb kb P h, w.heap.size ≤ B ∧ e = .returned (.tuple #[.pointer (some ⟨wb, 0, none⟩), .bool true]) ∧ KWS PK B w' wb kb P h (firstD S) (R.new S))) := by
  refine (wBegin_any c cn tv mv sv qv tc mc sc qc S w hS hF hnil).mono ?_
  rintro e w' ⟨hb, h1 | ⟨h1, B, wb, kb, P, h, h2, rfl, h3⟩⟩
  · exact ⟨hb, .inl h1⟩
  · refine ⟨hb, .inr ⟨h1, new_next S ?_, B, wb, kb, P, h, h2, rfl, KWS.first c h1 h3⟩⟩
    have hz := (ok_parts h1).1
    unfold P3.sizesB at hz
    rw [decide_eq_true_iff] at hz
    omega
end
end Go.Proofs.Ytbkfildnijjioab
