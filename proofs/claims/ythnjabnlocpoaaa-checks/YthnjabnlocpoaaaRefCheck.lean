/-
  Walks: donateref.Check: the document's answer to P3 is the plain one.
-/
import Derived.Test.YthnjabnlocpoaaaRefTables
import Derived.Test.YthnjabnlocpoaaaCheckP
import Derived.Deep.RegionHeld3
namespace Go.Proofs.Ythnjabnlocpoaaa
open Go.RowKit

namespace P3
theorem e_size {S : SetD} (h : sizesB S = false) : err S = 1 ∧ place S = 0 := by simp [err, place, h]
theorem e_table {S : SetD} (h : sizesB S = true) (ht : (terr S != 0) = true) : err S = terr S ∧ place S = tplace S := by
  rw [bne_iff_ne] at ht
  unfold terr at ht
  unfold err place terr tplace
  by_cases a : badOr mutexP S.mutexes = -1 <;> by_cases b : badOr semP S.sems = -1 <;> by_cases c : badOr queueB S.queues = -1 <;> simp_all
theorem t_none {S : SetD} (ht : (terr S != 0) = false) : badOr mutexP S.mutexes = -1 ∧ badOr semP S.sems = -1 ∧ badOr queueB S.queues = -1 := by
  rw [bne_eq_false_iff_eq] at ht
  unfold terr at ht
  by_cases a : badOr mutexP S.mutexes = -1 <;> by_cases b : badOr semP S.sems = -1 <;> by_cases c : badOr queueB S.queues = -1 <;> simp_all
theorem e_thread {S : SetD} {k : Nat} (h : sizesB S = true) (ht : (terr S != 0) = false) (hk : badOr threadP S.threads = k) : err S = 5 ∧ place S = k := by
  obtain ⟨a, b, c⟩ := t_none ht
  have e : (k : Int) ≠ -1 := by omega
  simp [err, place, h, a, b, c, hk, e]
theorem e_code {S : SetD} {n : Int} (h : sizesB S = true) (ht : (terr S != 0) = false) (hk : badOr threadP S.threads = -1) (hn : badCode S = n) (h0 : 0 ≤ n) : err S = 6 ∧ place S = n := by
  obtain ⟨a, b, c⟩ := t_none ht
  have e : n ≠ -1 := by omega
  simp [err, place, h, a, b, c, hk, hn, e]
theorem e_ok {S : SetD} (h : sizesB S = true) (ht : (terr S != 0) = false) (hk : badOr threadP S.threads = -1) (hn : badCode S = -1) : err S = 0 ∧ place S = 0 := by
  obtain ⟨a, b, c⟩ := t_none ht
  simp [err, place, h, a, b, c, hk, hn]
end P3

set_option maxHeartbeats 1000000 in
theorem rCheck_any (tv mv sv qv : Option Addr) (tc mc sc qc : Nat) (S : SetD) (w : World) (hS : SetIn w.heap.size w tv mv sv qv S) :
    Calls Try.prog 7 #[.agg #[.int .i64 S.workers, .int .i64 S.start, .slice tv S.threads.length tc, .slice mv S.mutexes.length mc, .slice sv S.sems.length sc, .slice qv S.queues.length qc]] w fun e w' =>
      e = .returned (.tuple #[.int .i64 (P3.err S), .int .i64 (P3.place S)]) ∧ Below w.heap.size w w' := by
  have HS : Hid (SetIn w.heap.size w tv mv sv qv S) := hS
  clear hS
  go_enter Try.func7, Try.ntmps7
  go_wp2_with fail
  generalize hw0 : w.alloc (.cells #[.int .i64 S.workers, .int .i64 S.start, .slice tv S.threads.length tc, .slice mv S.mutexes.length mc, .slice sv S.sems.length sc, .slice qv S.queues.length qc] 27) = w0
  have hs0 : w.heap.size < w0.heap.size := by rw [← hw0]; simp
  have b0 : w0.cell? ⟨w.heap.size, 0, none⟩ = some (.int .i64 S.workers) := by rw [← hw0]; simp
  have b1 : w0.cell? ⟨w.heap.size, 1, none⟩ = some (.int .i64 S.start) := by rw [← hw0]; simp
  have b2 : w0.cell? ⟨w.heap.size, 2, none⟩ = some (.slice tv S.threads.length tc) := by rw [← hw0]; simp
  have b3 : w0.cell? ⟨w.heap.size, 3, none⟩ = some (.slice mv S.mutexes.length mc) := by rw [← hw0]; simp
  have b4 : w0.cell? ⟨w.heap.size, 4, none⟩ = some (.slice sv S.sems.length sc) := by rw [← hw0]; simp
  have b5 : w0.cell? ⟨w.heap.size, 5, none⟩ = some (.slice qv S.queues.length qc) := by rw [← hw0]; simp
  have hb0 : Below w.heap.size w w0 := by rw [← hw0]; exact (Below.refl _ _).alloc (Nat.le_refl _) _
  clear hw0
  have HS0 : Hid (SetIn w.heap.size w0 tv mv sv qv S) := HS.out.stays hb0
  clear HS
  refine (rSizes_any _ _ _ _ _ _ _ _ S _).mono ?_
  rintro e w1 ⟨rfl, hb1⟩
  cases hz : P3.sizesB S
  · go_wp2_with fail
    go_ret2
    exact ⟨ret_two (P3.e_size hz), via hb0 (by omega) hb1⟩
  · obtain ⟨n1, n2, n3, n4⟩ := sizes_of hz
    have HZ : Hid (P3.sizesB S = true) := hz
    clear hz
    obtain ⟨hc1, hf1⟩ := bcell hb1
    have k1 := hb1.size
    go_wp2_with fail
    refine (rTables_any _ _ _ _ _ _ _ _ S _ ((HS0.out.stays (hb1.mono (Nat.le_of_lt hs0))).mono (by omega)) n2 n3 n4).mono ?_
    rintro e w2 ⟨rfl, hb2⟩
    have hB2 := via hb1 k1 hb2
    have k2 := hB2.size
    clear hc1 hf1
    cases ht : (P3.terr S != 0)
    · have HT : Hid ((P3.terr S != 0) = false) := ht
      go_wp2
      clear ht
      go_loopw [7] (fun i wr => ∃ k : Nat, k ≤ S.threads.length ∧ i = .int .i64 k ∧ P3.GoodTo P3.threadP S.threads k ∧ Below w0.heap.size w0 wr) (fun i _ => S.threads.length - (intOf i).toNat)
      case atStart => exact ⟨0, Nat.zero_le _, rfl, P3.GoodTo.zero _ _, hB2⟩
      case round =>
        obtain ⟨k, hk, rfl, hall, hb⟩ := hrel
        have hsz := hb.size
        have q1 : w.heap.size < wr.heap.size := by omega
        have c2 := (hb.cell (p := ⟨w.heap.size, 2, none⟩) hs0).trans b2
        by_cases hlt : k < S.threads.length
        · obtain ⟨b, o, cv, cc, rfl, hbb, x0, x1, x2, x3, x4, _⟩ := HS0.out.threads k hlt
          have x0' := (hb.cell (p := ⟨b, o + k * 5, none⟩) (by show b < _; omega)).trans x0
          have x1' := (hb.cell (p := ⟨b, o + k * 5 + 1, none⟩) (by show b < _; omega)).trans x1
          have x2' := (hb.cell (p := ⟨b, o + k * 5 + 2, none⟩) (by show b < _; omega)).trans x2
          have x3' := (hb.cell (p := ⟨b, o + k * 5 + 3, none⟩) (by show b < _; omega)).trans x3
          have x4' := (hb.cell (p := ⟨b, o + k * 5 + 4, none⟩) (by show b < _; omega)).trans x4
          clear x0 x1 x2 x3 x4
          go_wp2_with (go_at_call 14; refine (rThreadFits_any _ _ _ _ _ _ _ _).mono ?_; rintro e w3 ⟨rfl, hb3⟩)
          · go_ret2
            refine ⟨ret_two (P3.e_thread HZ.out HT.out (hall.at hlt ?_)), via hb0 (by omega) (via hb hsz hb3)⟩
            simpa [P3.threadP] using ‹(!P3.threadB _ _ _ _ _) = true›
          · go_roundw
            case rel =>
              refine ⟨k + 1, by omega, by go_num, hall.step hlt ?_, via hb hsz hb3⟩
              simpa [P3.threadP] using ‹(!P3.threadB _ _ _ _ _) = false›
            case measure => simp [intOf]; omega
        · have HM : Hid (P3.badOr P3.threadP S.threads = -1) := hall.none hlt
          clear hall
          have H5 : Hid (∀ j (_ : j < S.threads.length), (S.threads[j].code.length : Int) ≤ 32) := codes_of HM.out
          go_wp2
          clear c2
          go_loopw [8] (fun i wr => ∃ k : Nat, k ≤ S.threads.length ∧ i = .int .i64 k ∧ CodesTo S k ∧ Below w0.heap.size w0 wr) (fun i _ => S.threads.length - (intOf i).toNat)
          case atStart => exact ⟨0, Nat.zero_le _, rfl, fun j h => absurd h (Nat.not_lt_zero _), hb⟩
          case round =>
            clear hb hsz q1 hlt hk
            obtain ⟨k, hk, rfl, hall, hb⟩ := hrel
            have hsz := hb.size
            have q1 : w.heap.size < wr.heap.size := by omega
            have c2 := (hb.cell (p := ⟨w.heap.size, 2, none⟩) hs0).trans b2
            have HB : Hid (CodesTo S k) := hall
            clear hall
            by_cases hlt : k < S.threads.length
            · obtain ⟨b, o, cv, cc, rfl, hbb, x0, x1, x2, x3, x4, hcode, _⟩ := HS0.out.threads k hlt
              have x4' := (hb.cell (p := ⟨b, o + k * 5 + 4, none⟩) (by show b < _; omega)).trans x4
              have hlen := H5.out k hlt
              have HC : Hid (InstrsIn w.heap.size w0 cv S.threads[k].code) := hcode
              clear x0 x1 x2 x3 x4 hcode
              go_wp2
              clear c2 x4'
              go_loopw [10] (fun i wr => ∃ m : Nat, m ≤ S.threads[k].code.length ∧ i = .int .i64 m ∧ CodeTo S S.threads[k].code m ∧ Below w0.heap.size w0 wr) (fun i _ => S.threads[k].code.length - (intOf i).toNat)
              case atStart => exact ⟨0, Nat.zero_le _, rfl, fun j h => absurd h (Nat.not_lt_zero _), hb⟩
              case round =>
                clear hb hsz q1
                obtain ⟨m, hm, rfl, hall, hb⟩ := hrel
                have hsz := hb.size
                have q1 : w.heap.size < wr.heap.size := by omega
                have HA : Hid (CodeTo S S.threads[k].code m) := hall
                clear hall
                by_cases hlt2 : m < S.threads[k].code.length
                · obtain ⟨b', o', rfl, hbb', x0, x1, x2⟩ := HC.out m hlt2
                  have y0 := (hb.cell (p := ⟨b', o' + m * 3, none⟩) (by show b' < _; omega)).trans x0
                  have y1 := (hb.cell (p := ⟨b', o' + m * 3 + 1, none⟩) (by show b' < _; omega)).trans x1
                  have y2 := (hb.cell (p := ⟨b', o' + m * 3 + 2, none⟩) (by show b' < _; omega)).trans x2
                  have f0 := (hb.cell (p := ⟨w.heap.size, 0, none⟩) hs0).trans b0
                  have f1 := (hb.cell (p := ⟨w.heap.size, 1, none⟩) hs0).trans b1
                  have f2 := (hb.cell (p := ⟨w.heap.size, 2, none⟩) hs0).trans b2
                  have f3 := (hb.cell (p := ⟨w.heap.size, 3, none⟩) hs0).trans b3
                  have f4 := (hb.cell (p := ⟨w.heap.size, 4, none⟩) hs0).trans b4
                  have f5 := (hb.cell (p := ⟨w.heap.size, 5, none⟩) hs0).trans b5
                  clear x0 x1 x2 b0 b1 b2 b3 b4 b5
                  have hmi : (m : Int) < (S.threads[k].code.length : Int) := by omega
                  go_wp2_with fail
                  go_region_held3 (fun w' => w'.cell? ⟨w.heap.size, 0, none⟩ = some (.int .i64 S.workers) ∧ w'.cell? ⟨w.heap.size, 1, none⟩ = some (.int .i64 S.start) ∧ w'.cell? ⟨w.heap.size, 2, none⟩ = some (.slice (some ⟨b, o, none⟩) S.threads.length tc) ∧ w'.cell? ⟨w.heap.size, 3, none⟩ = some (.slice mv S.mutexes.length mc) ∧ w'.cell? ⟨w.heap.size, 4, none⟩ = some (.slice sv S.sems.length sc) ∧ w'.cell? ⟨w.heap.size, 5, none⟩ = some (.slice qv S.queues.length qc) ∧ w'.cell? ⟨b', o' + m * 3, none⟩ = some (.int .i64 S.threads[k].code[m].op) ∧ w'.cell? ⟨b', o' + m * 3 + 1, none⟩ = some (.int .i64 S.threads[k].code[m].a) ∧ w'.cell? ⟨b', o' + m * 3 + 2, none⟩ = some (.int .i64 S.threads[k].code[m].b)) (simp [*])
                    (first
                      | (go_at_call 15; refine (rInstrFits_any _ _ _ _ _ _ _ _ _ _ _ _ _ _ _ _ _ _ _ n1 n2 n3 n4).mono ?_; rintro e w3 ⟨rfl, hb3⟩; have d0 := cell_later hb3 f0; have d1 := cell_later hb3 f1; have d2 := cell_later hb3 f2; have d3 := cell_later hb3 f3; have d4 := cell_later hb3 f4; have d5 := cell_later hb3 f5; have e0 := cell_later hb3 y0; have e1 := cell_later hb3 y1; have e2 := cell_later hb3 y2))
                  go_wp2
                  · go_ret2
                    refine ⟨ret_two (P3.e_code HZ.out HT.out HM.out (badCode_at HB.out hlt HA.out hlt2 ?_) (by omega)), via hb0 (by omega) (via hb.drew hsz hb3)⟩
                    simpa [P3.instrP] using ‹(!P3.instrB _ _ _ _ _ _ _ _) = true›
                  · go_roundw
                    case rel =>
                      refine ⟨m + 1, by omega, by go_num, ?_, via hb.drew hsz hb3⟩
                      intro j h h'
                      rcases Nat.lt_succ_iff_lt_or_eq.1 h with h1 | rfl
                      · exact HA.out j h1 h'
                      · simpa [P3.instrP] using ‹(!P3.instrB _ _ _ _ _ _ _ _) = false›
                    case measure => simp [intOf]; omega
                · have hmm : m = S.threads[k].code.length := by omega
                  have HA' : Hid (CodeTo S S.threads[k].code S.threads[k].code.length) := hmm ▸ HA.out
                  clear hmm
                  go_wp2
                  go_roundw
                  case rel => exact ⟨k + 1, by omega, by go_num, HB.out.step hlt HA'.out, hb⟩
                  case measure => simp [intOf]; omega
            · go_wp2
              go_ret2
              have e : k = S.threads.length := by omega
              subst e
              exact ⟨ret_two (P3.e_ok HZ.out HT.out HM.out (badCode_none HB.out)), via hb0 (by omega) hb⟩
    · have HT : Hid ((P3.terr S != 0) = true) := ht
      go_wp2
      go_ret2
      exact ⟨ret_two (P3.e_table HZ.out HT.out), via hb0 (by omega) hB2⟩

end Go.Proofs.Ythnjabnlocpoaaa
