import Derived.Test.YthnjabnlocpoaaaGreatB05
import Derived.Test.YthnjabnlocpoaaaGreatB08
import Derived.Test.YthnjabnlocpoaaaGreatB02
import Derived.Deep.DeepCutAuto
/-
  Walks over package donateref: on, free, rank.
-/
namespace Go.Proofs.YthnjabnlocpoaaaGreat
open Go.RowKit

set_option maxHeartbeats 400000 in
theorem rOn_any (F : Nat → Prop) (w : World) (sb : Nat) (h : RH) (s : RS) (m : RMem F w sb h s) (hfew : s.T.length ≤ 16) (wk : Int) :
    Calls Tryz.prog 74 #[.pointer (some ⟨sb, 0, none⟩), .int .i64 wk] w fun e w' => e = .returned (.int .i64 (R.on s.T wk)) ∧ w' = w := by
  have c8 := m.blk.cell 8
  simp [rsCells] at c8
  have M := hid m
  clear m
  go_enter Tryz.func74, Tryz.ntmps74
  go_wp2
  go_loop [5] (fun i => ∃ k : Nat, k ≤ s.T.length ∧ i = .int .i64 k ∧ P3.GoodTo (fun x : RT => x.wkr != wk) s.T k) (fun i => s.T.length - (intOf i).toNat)
  case atStart => exact ⟨0, Nat.zero_le _, rfl, P3.GoodTo.zero _ _⟩
  case round =>
    obtain ⟨k, hk, rfl, hall⟩ := hrel
    have HA := hid hall
    clear hall
    by_cases hlt : k < s.T.length
    · have a8 := M.out.tcell hlt 8 (by decide)
      simp [rtCells] at a8
      cases hq : (s.T[k].wkr == wk)
      · have HQ := hid hq
        go_wp2
        go_round
        case rel => exact ⟨k + 1, by omega, by go_num, HA.out.step hlt (by simpa using HQ.out)⟩
        case measure => simp [intOf]; omega
      · have HQ := hid hq
        go_wp2
        go_ret
        exact ⟨ret_int (HA.out.at hlt (by simpa using HQ.out)).symm, rfl⟩
    · go_wp2
      go_ret
      exact ⟨ret_int (HA.out.none hlt).symm, rfl⟩

set_option maxHeartbeats 400000 in
theorem rFree_any (F : Nat → Prop) (w : World) (sb : Nat) (h : RH) (s : RS) (m : RMem F w sb h s) (hfew : s.T.length ≤ 16) (n : Nat) (hn : s.set.workers = n) (hn8 : n ≤ 8) :
    Calls Tryz.prog 73 #[.pointer (some ⟨sb, 0, none⟩)] w fun e w' => e = .returned (.int .i64 (R.free s.T n)) ∧ w' = w := by
  have c0 := m.blk.cell 0
  simp [rsCells] at c0
  rw [hn] at c0
  have M := hid m
  clear m hn
  go_enter Tryz.func73, Tryz.ntmps73
  go_wp2
  go_loopw [3] (fun i wr => ∃ k : Nat, k ≤ n ∧ i = .int .i64 k ∧ (∀ j, j < k → 0 ≤ R.on s.T (j : Int)) ∧ wr = w) (fun i _ => n - (intOf i).toNat)
  case atStart => exact ⟨0, Nat.zero_le _, rfl, fun _ h => absurd h (Nat.not_lt_zero _), rfl⟩
  case round =>
    obtain ⟨k, hk, rfl, hall, rfl⟩ := hrel
    have HA := hid hall
    clear hall
    by_cases hlt : k < n
    · go_wp2_with (go_at_call 74; refine (rOn_any F _ sb h s M.out hfew _).mono ?_; rintro e w1 ⟨rfl, rfl⟩)
      · go_ret
        exact ⟨ret_int (by rw [R.free_at s.T n k hlt HA.out ‹_›]), rfl⟩
      · go_roundw
        case rel =>
          refine ⟨k + 1, by omega, by go_num, ?_, trivial⟩
          intro j hj
          rcases Nat.lt_succ_iff_lt_or_eq.1 hj with h1 | rfl
          · exact HA.out j h1
          · assumption
        case measure => simp [intOf]; omega
    · have e : k = n := by omega
      subst e
      go_wp2
      go_ret
      exact ⟨ret_int (by rw [R.free_none s.T k HA.out]), rfl⟩

theorem ahead_of {l : List Int} {T : List RT} {t k : Nat} {x y : RT} {lk lt : Int} (hx : R.th T k = x) (hy : R.th T t = y) (hk : l.getD k 0 = lk) (hl : l.getD t 0 = lt) :
    R.ahead l T t k = (x.awake && (decide (lt < lk) || (decide (lk = lt) && decide (x.tick < y.tick)))) := by
  unfold R.ahead
  rw [hx, hy, hk, hl]

set_option maxHeartbeats 1000000 in
theorem rRank_any (F : Nat → Prop) (w : World) (sb : Nat) (h : RH) (s : RS) (m : RMem F w sb h s) (hfew : s.T.length ≤ 16) (l : List Int) (lg ln lc : Nat) (hln : s.T.length = ln) (hrow : ∀ i, i < s.T.length → w.cell? ⟨lg, i, none⟩ = some (.int .i64 (l.getD i 0))) (t : Nat) (ht : t < s.T.length) :
    Calls Tryz.prog 72 #[.pointer (some ⟨sb, 0, none⟩), .slice (some ⟨lg, 0, none⟩) ln lc, .int .i64 t] w fun e w' => e = .returned (.int .i64 (R.rank l s.T t)) ∧ ∃ n, w' = w.drewN n := by
  subst hln
  have c8 := m.blk.cell 8
  simp [rsCells] at c8
  have M := hid m
  have HR := hid hrow
  have ct := hrow t ht
  have b7 := m.tcell ht 7 (by decide)
  simp [rtCells] at b7
  have eth : R.th s.T t = s.T[t] := by simp [R.th, List.getD, ht]
  generalize hyt : s.T[t] = y at *
  generalize hlt0 : l.getD t 0 = lt at *
  have EY := hid eth
  have EL := hid hlt0
  clear m hrow eth hyt hlt0
  go_enter Tryz.func72, Tryz.ntmps72
  go_wp2
  go_loopw [7, 8] (fun c i wr => ∃ k : Nat, k ≤ s.T.length ∧ i = .int .i64 k ∧ c = .int .i64 (R.rankTo l s.T t k) ∧ ∃ n, wr = w.drewN n) (fun _ i _ => s.T.length - (intOf i).toNat)
  case atStart => exact ⟨0, Nat.zero_le _, rfl, rfl, 0, rfl⟩
  case round =>
    obtain ⟨k, hk, rfl, rfl, n, rfl⟩ := hrel
    have hrl := R.rankTo_le l s.T t k
    by_cases hlt : k < s.T.length
    · have a6 := M.out.tcell hlt 6 (by decide)
      have a7 := M.out.tcell hlt 7 (by decide)
      simp [rtCells] at a6 a7
      have ck := HR.out k hlt
      have eth : R.th s.T k = s.T[k] := by simp [R.th, List.getD, hlt]
      have estep := R.rankTo_succ l s.T t k
      generalize hxk : s.T[k] = x at *
      generalize hlk0 : l.getD k 0 = lk at *
      have hah := ahead_of eth EY.out hlk0 EL.out
      rw [hah] at estep
      have ES := hid estep
      clear eth hlk0 hxk estep hah
      generalize R.rankTo l s.T t k = rk at *
      have hkI : (k : Int) < (s.T.length : Int) := by omega
      have htI : (t : Int) < (s.T.length : Int) := by omega
      cases haw : x.awake
      · have HW := hid haw
        rw [haw] at a6
        go_wp2_with fail
        go_quiet (fail)
        go_wp2
        go_roundw
        case rel => exact ⟨k + 1, by omega, by go_num, by rw [ES.out, HW.out]; simp, _, rfl⟩
        case measure => simp [intOf]; omega
      · have HW := hid haw
        rw [haw] at a6
        clear haw
        rcases Int.lt_trichotomy lt lk with h1 | h1 | h1
        · go_wp2_with fail
          go_quiet (fail)
          go_wp2
          go_roundw
          case rel => exact ⟨k + 1, by omega, by go_num, by rw [ES.out, HW.out]; simp [h1], _, rfl⟩
          case measure => simp [intOf]; omega
        · subst h1
          have d1 : decide (lt < lt) = false := by simp
          have d2 : (lt == lt) = true := by simp
          by_cases h2 : x.tick < y.tick
          · go_wp2_with fail
            go_quiet (fail)
            go_wp2
            go_roundw
            case rel => exact ⟨k + 1, by omega, by go_num, by rw [ES.out, HW.out]; simp [h2], _, rfl⟩
            case measure => simp [intOf]; omega
          · go_wp2_with fail
            go_quiet (fail)
            go_wp2
            go_roundw
            case rel => exact ⟨k + 1, by omega, by go_num, by rw [ES.out, HW.out]; have n2 : ¬ x.tick < y.tick := (by omega); simp [n2], _, rfl⟩
            case measure => simp [intOf]; omega
        · have d1 : decide (lt < lk) = false := by simp; omega
          have d2 : (lk == lt) = false := by simp; omega
          go_wp2_with fail
          go_quiet (fail)
          go_wp2
          go_roundw
          case rel => exact ⟨k + 1, by omega, by go_num, by rw [ES.out, HW.out]; have n1 : ¬ lt < lk := (by omega); have n2 : ¬ lk = lt := (by omega); simp [n1, n2], _, rfl⟩
          case measure => simp [intOf]; omega
    · go_wp2
      go_ret
      have e : k = s.T.length := by omega
      subst e
      exact ⟨rfl, _, rfl⟩

end Go.Proofs.YthnjabnlocpoaaaGreat

/-
  Walks over package donateref: level, Level, levels.
-/
namespace Go.Proofs.YthnjabnlocpoaaaGreat
open Go.RowKit

/-- What a call of level answers, at one depth. -/
def LevelAt (w : World) (sb : Nat) (s : RS) (d : Int) (f : Nat → Int) : Prop :=
  ∀ t, t < s.T.length → Calls Tryz.prog 123 #[.pointer (some ⟨sb, 0, none⟩), .int .i64 t, .int .i64 d] w fun e w' => e = .returned (.int .i64 (f t)) ∧ w' = w

/-- The owners, cell by cell. -/
theorem RMem.owner {F : Nat → Prop} {w : World} {sb : Nat} {h : RH} {s : RS} (m : RMem F w sb h s) :
    ∃ ao cap, h.vO = .slice ao s.owner.length cap ∧ ∀ i, i < s.owner.length → ∃ g, ao = some ⟨g, 0, none⟩ ∧ w.cell? ⟨g, i, none⟩ = some (.int .i64 (s.owner.getD i 0)) := by
  obtain ⟨ao, cap, he, hn, ha⟩ := owns_cells m.oth.own
  refine ⟨ao, cap, he, fun i hi => ?_⟩
  cases ao with
  | none => have := (hn rfl).1; omega
  | some a =>
    obtain ⟨g, rfl, _, _, _, hc⟩ := ha a rfl
    exact ⟨g, rfl, by rw [hc i (by omega)]; simp [intCells, List.getD, List.getElem?_eq_getElem hi]⟩

set_option maxRecDepth 100000 in
set_option maxHeartbeats 2000000 in
theorem rLevel_step (F : Nat → Prop) (w : World) (sb : Nat) (h : RH) (s : RS) (m : RMem F w sb h s) (g : RGood s) (d : Int) (pos : Bool) (f : Nat → Int) (hd : pos = decide (0 < d)) (hd0 : 0 ≤ d) (hd1 : d ≤ 16)
    (ih : pos = true → LevelAt w sb s (d - 1) f) (t : Nat) (ht : t < s.T.length) :
    Calls Tryz.prog 123 #[.pointer (some ⟨sb, 0, none⟩), .int .i64 t, .int .i64 d] w fun e w' => e = .returned (.int .i64 (R.outerTo s f pos t s.owner.length)) ∧ w' = w := by
  have c3 := m.blk.cell 3
  have c8 := m.blk.cell 8
  have c9 := m.blk.cell 9
  simp [rsCells] at c3 c8 c9
  have a0 := m.tcell ht 0 (by decide)
  simp [rtCells] at a0
  obtain ⟨ao, oc, hvo, hown⟩ := m.owner
  rw [hvo] at c9
  have hfew := g.few
  have hol : s.owner.length ≤ 8 := by have := g.own; have := g.mfew; omega
  have hml := hid g.own
  have M := hid m
  have HO := hid hown
  have IH := hid ih
  have HD := hid hd
  have ebase : R.outerTo s f pos t 0 = s.T[t].base := by simp [R.outerTo, R.th, List.getD, ht]
  have EB := hid ebase
  clear m g hown ih hd hvo ebase
  go_enter Tryz.func123, Tryz.ntmps123
  go_wp2
  go_loopw [7, 8] (fun v i wr => ∃ k : Nat, k ≤ s.owner.length ∧ i = .int .i64 k ∧ v = .int .i64 (R.outerTo s f pos t k) ∧ wr = w) (fun _ i _ => s.owner.length - (intOf i).toNat)
  case atStart => exact ⟨0, Nat.zero_le _, rfl, by rw [EB.out], rfl⟩
  case round =>
    obtain ⟨k, hk, rfl, rfl, rfl⟩ := hrel
    by_cases hlt : k < s.owner.length
    · obtain ⟨og, rfl, ok⟩ := HO.out k hlt
      have hmk : k < s.set.mutexes.length := by have := hml.out; omega
      obtain ⟨b, o, ha, _, x0, x1⟩ := M.out.set.mutexes k hmk
      rw [ha] at c3
      clear ha
      have em : s.set.mutexes.getD k R.pair0 = s.set.mutexes[k] := by simp [List.getD, hmk]
      have estep : R.outerTo s f pos t (k + 1) = if s.owner.getD k 0 ≠ (t : Int) then R.outerTo s f pos t k
          else if s.set.mutexes[k].x = 1 then R.maxI (R.outerTo s f pos t k) s.set.mutexes[k].y
          else if pos = true then R.innerTo s.T f k (R.outerTo s f pos t k) s.T.length else R.outerTo s f pos t k := by
        rw [← em]; rfl
      have ES := hid estep
      clear em estep
      generalize s.owner.getD k 0 = ok0 at *
      generalize s.set.mutexes[k] = mk at *
      generalize R.outerTo s f pos t k = v at *
      cases hq : (ok0 != (t : Int))
      · have HQ := hid hq
        cases hkind : (mk.x == 1)
        · have HK := hid hkind
          by_cases hp : pos = true
          rotate_left
          · have HP := hid hp
            have hd2 : d ≤ 0 := by
              have h1 := HD.out
              have h2 : ¬ decide (0 < d) = true := by rw [← h1]; exact hp
              simpa using h2
            have fin : v = R.outerTo s f pos t (k + 1) := by
              have e1 : ¬ ok0 ≠ (t : Int) := by simpa using HQ.out
              have e2 : ¬ mk.x = 1 := by simpa using HK.out
              rw [ES.out, if_neg e1, if_neg e2, if_neg HP.out]
            have FIN := hid fin
            clear fin hp
            go_wp2
            go_loopw [7, 9] (fun v' i wx => v' = .int .i64 v ∧ i = .int .i64 0 ∧ wx = wr) (fun _ _ _ => 0)
            case atStart => exact ⟨rfl, rfl, rfl⟩
            case round =>
              obtain ⟨rfl, rfl, rfl⟩ := hrel
              go_wp2
              go_roundw
              case rel => exact ⟨k + 1, by omega, by go_num, by rw [← FIN.out], (by first | rfl | trivial)⟩
              case measure => simp [intOf]; omega
          · have HP := hid hp
            have hd2 : 0 < d := by
              have h1 := HD.out
              rw [hp] at h1
              simpa using h1.symm
            have fin : R.innerTo s.T f k v s.T.length = R.outerTo s f pos t (k + 1) := by
              have e1 : ¬ ok0 ≠ (t : Int) := by simpa using HQ.out
              have e2 : ¬ mk.x = 1 := by simpa using HK.out
              rw [ES.out, if_neg e1, if_neg e2, if_pos HP.out]
            have FIN := hid fin
            have IH2 := hid (IH.out hp)
            clear fin hp
            go_wp2
            go_loopw [7, 9] (fun v' i wx => ∃ u : Nat, u ≤ s.T.length ∧ i = .int .i64 u ∧ v' = .int .i64 (R.innerTo s.T f k v u) ∧ wx = wr) (fun _ i _ => s.T.length - (intOf i).toNat)
            case atStart => exact ⟨0, Nat.zero_le _, rfl, rfl, rfl⟩
            case round =>
              obtain ⟨u, hu, rfl, rfl, rfl⟩ := hrel
              by_cases hul : u < s.T.length
              · have a9 := M.out.tcell hul 9 (by decide)
                have a10 := M.out.tcell hul 10 (by decide)
                simp [rtCells] at a9 a10
                have estep : R.innerTo s.T f k v (u + 1) = if s.T[u].for_ = 1 ∧ s.T[u].of_ = (k : Int) then R.maxI (R.innerTo s.T f k v u) (f u) else R.innerTo s.T f k v u := by
                  have : R.th s.T u = s.T[u] := by simp [R.th, List.getD, hul]
                  rw [← this]; rfl
                have EI := hid estep
                clear estep
                generalize s.T[u].for_ = fu at *
                generalize s.T[u].of_ = ou at *
                generalize R.innerTo s.T f k v u = vu at *
                by_cases hw : fu = 1 ∧ ou = (k : Int)
                · have HW := hid hw
                  obtain ⟨h1, h2⟩ := hw
                  have h1' : (fu == 1) = true := by simp [h1]
                  have h2' : (ou == (k : Int)) = true := by simp [h2]
                  clear h1 h2
                  go_wp2_with fail
                  refine (IH2.out u hul).mono ?_
                  rintro e w1 ⟨rfl, rfl⟩
                  generalize f u = fuu at *
                  by_cases hgt : vu < fuu
                  · go_wp2
                    go_roundw
                    case rel => exact ⟨u + 1, by omega, by go_num, by rw [EI.out, if_pos HW.out]; simp [R.maxI, hgt], (by first | rfl | trivial)⟩
                    case measure => simp [intOf]; omega
                  · go_wp2
                    go_roundw
                    case rel => exact ⟨u + 1, by omega, by go_num, by rw [EI.out, if_pos HW.out]; have e3 : ¬ vu < fuu := (by omega); simp [R.maxI, e3], (by first | rfl | trivial)⟩
                    case measure => simp [intOf]; omega
                · have HW := hid hw
                  by_cases h1 : fu = 1
                  · have h1' : (fu == 1) = true := by simp [h1]
                    have h2' : (ou == (k : Int)) = false := by simp; exact fun e => hw ⟨h1, e⟩
                    clear hw h1
                    go_wp2
                    go_roundw
                    case rel => exact ⟨u + 1, by omega, by go_num, by rw [EI.out, if_neg HW.out], (by first | rfl | trivial)⟩
                    case measure => simp [intOf]; omega
                  · have h1' : (fu == 1) = false := by simp [h1]
                    clear hw h1
                    go_wp2
                    go_roundw
                    case rel => exact ⟨u + 1, by omega, by go_num, by rw [EI.out, if_neg HW.out], (by first | rfl | trivial)⟩
                    case measure => simp [intOf]; omega
              · go_wp2
                go_roundw
                case rel =>
                  have e : u = s.T.length := by omega
                  subst e
                  exact ⟨k + 1, by omega, by go_num, by rw [← FIN.out], (by first | rfl | trivial)⟩
                case measure => simp [intOf]; omega
        · have HK := hid hkind
          by_cases hgt : v < mk.y
          · go_wp2
            go_roundw
            case rel =>
              refine ⟨k + 1, by omega, by go_num, ?_, (by first | rfl | trivial)⟩
              have e1 : ¬ ok0 ≠ (t : Int) := by simpa using HQ.out
              have e2 : mk.x = 1 := by simpa using HK.out
              rw [ES.out, if_neg e1, if_pos e2]
              simp [R.maxI, hgt]
            case measure => simp [intOf]; omega
          · go_wp2
            go_roundw
            case rel =>
              refine ⟨k + 1, by omega, by go_num, ?_, (by first | rfl | trivial)⟩
              have e1 : ¬ ok0 ≠ (t : Int) := by simpa using HQ.out
              have e2 : mk.x = 1 := by simpa using HK.out
              have e3 : ¬ v < mk.y := by omega
              rw [ES.out, if_neg e1, if_pos e2]
              simp [R.maxI, e3]
            case measure => simp [intOf]; omega
      · have HQ := hid hq
        go_wp2
        go_roundw
        case rel =>
          refine ⟨k + 1, by omega, by go_num, ?_, (by first | rfl | trivial)⟩
          rw [ES.out, if_pos (by simpa using HQ.out)]
        case measure => simp [intOf]; omega
    · go_wp2
      go_ret
      have e : k = s.owner.length := by omega
      subst e
      exact ⟨rfl, rfl⟩

end Go.Proofs.YthnjabnlocpoaaaGreat

/-
  Walks over package donateref: Level, levels.
-/
namespace Go.Proofs.YthnjabnlocpoaaaGreat
open Go.RowKit

theorem rLevel_any (F : Nat → Prop) (w : World) (sb : Nat) (h : RH) (s : RS) (m : RMem F w sb h s) (g : RGood s) : ∀ d : Nat, d ≤ 16 → LevelAt w sb s (d : Int) (R.level s d) := by
  intro d
  induction d with
  | zero =>
    intro _ t ht
    exact rLevel_step F w sb h s m g 0 false (fun _ => 0) (by decide) (by decide) (by decide) (fun hh => absurd hh (by decide)) t ht
  | succ d ih =>
    intro hd t ht
    have e : (((d + 1 : Nat) : Int) - 1) = (d : Int) := by omega
    exact rLevel_step F w sb h s m g ((d + 1 : Nat) : Int) true (R.level s d) (by simp) (by omega) (by omega) (fun _ => by rw [e]; exact ih (by omega)) t ht

set_option maxHeartbeats 400000 in
theorem rLevelOf_any (F : Nat → Prop) (w : World) (sb : Nat) (h : RH) (s : RS) (m : RMem F w sb h s) (g : RGood s) (t : Nat) (ht : t < s.T.length) :
    Calls Tryz.prog 101 #[.pointer (some ⟨sb, 0, none⟩), .int .i64 t] w fun e w' => e = .returned (.int .i64 (R.Level s t)) ∧ w' = w := by
  have c8 := m.blk.cell 8
  simp [rsCells] at c8
  have hfew := g.few
  have L := hid (rLevel_any F w sb h s m g s.T.length hfew)
  clear m g
  go_enter Tryz.func101, Tryz.ntmps101
  go_wp2_with fail
  refine (L.out t ht).mono ?_
  rintro e w1 ⟨rfl, rfl⟩
  go_wp2
  go_ret
  exact ⟨rfl, rfl⟩

theorem intCells_append (l : List Int) (z : Int) : intCells (l ++ [z]) = intCells l ++ [.int .i64 z] := by simp [intCells]
theorem levels_succ (s : RS) (k : Nat) : (List.range (k + 1)).map (R.Level s) = (List.range k).map (R.Level s) ++ [R.Level s k] := by simp [List.range_succ]

set_option maxHeartbeats 400000 in
theorem rLevels_any (F : Nat → Prop) (w : World) (sb : Nat) (h : RH) (s : RS) (m : RMem F w sb h s) (g : RGood s) :
    Calls Tryz.prog 71 #[.pointer (some ⟨sb, 0, none⟩)] w fun e w' => ∃ v, e = .returned v ∧ w'.ownsRow w.heap.size 3 1 v s.T.length (intCells (R.levels s)) ∧ Below w.heap.size w w' := by
  have hfew := g.few
  have M := hid m
  have G := hid g
  clear m g
  obtain ⟨i3, hi3, hz30, hz31, hz32⟩ := info_parts Tryz.infoInt
  have HI3 : Hid (Tryz.prog.info? 3 = some i3 ∧ i3.zero = some (.int .i64 0) ∧ i3.size = 1 ∧ i3.bytes = 8) := ⟨hi3, hz30, hz31, hz32⟩
  clear hi3 hz30 hz31 hz32
  go_enter Tryz.func71, Tryz.ntmps71
  go_wp2
  go_loopw [3, 4] (fun v i wr => ∃ k : Nat, k ≤ s.T.length ∧ i = .int .i64 k ∧ wr.ownsRow w.heap.size 3 1 v k (intCells ((List.range k).map (R.Level s))) ∧ Below w.heap.size w wr) (fun _ i _ => s.T.length - (intOf i).toNat)
  case atStart => exact ⟨0, Nat.zero_le _, rfl, World.ownsRow_nil _ _ _ _, Below.refl _ _⟩
  case round =>
    obtain ⟨k, hk, rfl, hown, hb⟩ := hrel
    have hm := M.out.below hb
    have Mk := hid hm
    have c8 := hm.blk.cell 8
    simp [rsCells] at c8
    have OW := hid hown
    have hsz := hb.size
    clear hm hown
    by_cases hlt : k < s.T.length
    · go_wp2_with (first
        | (go_at_call 101; refine (rLevelOf_any F _ sb h s Mk.out G.out k hlt).mono ?_; rintro e w1 ⟨rfl, hw1⟩; have hw2 := hw1.symm; subst hw2; clear hw1)
        | (at_builtin; refine wpList_append_src rfl (.tmp 18) (.tmp 20) 25 rfl w.heap.size 3 i3 (.int .i64 0) 1 8 Tryz.underlying25 HI3.out.1 HI3.out.2.1 HI3.out.2.2.1 HI3.out.2.2.2 rfl (by decide) u3 k (intCells ((List.range k).map (R.Level s))) rfl (OW.out.alloc _) (some ⟨wr.heap.size, 0, none⟩) 1 1 [.int .i64 (R.Level s k)] rfl rfl (fun h => (by cases h)) (fun j u hj => ⟨_, rfl, (by rw [Addr.add_lit, Nat.zero_add, (Blk.new wr #[.int .i64 (R.Level s k)] 3).cell]; simpa using hj)⟩) (by intro u hu; simp at hu; subst hu; rfl) (by unfold maxLen; omega) (by omega) (by simp; omega) ?_; intro v' w2 hown2 hg2; have O2 := hid hown2; have G2 := hid hg2; clear hown2 hg2))
      go_roundw
      case rel => exact ⟨k + 1, by omega, by go_num, by rw [levels_succ, intCells_append]; exact O2.out, (hb.alloc hsz _).grown G2.out (by simp; omega) (fun g hg => (ownsRow_block OW.out hg).1)⟩
      case measure => simp [intOf]; omega
    · go_wp2
      go_ret
      have e : k = s.T.length := by omega
      subst e
      exact ⟨_, rfl, OW.out, hb⟩

end Go.Proofs.YthnjabnlocpoaaaGreat

/-
  Walks over package donateref: Running, Look.
-/
namespace Go.Proofs.YthnjabnlocpoaaaGreat
open Go.RowKit

namespace R
def stateOf (x : RT) : Int := if x.for_ ≠ 0 then 3 else if 0 ≤ x.wkr then 2 else if x.awake = true then 1 else 0
end R
def viewV (x : RT) (lv : Int) : Value :=
  .agg #[.int .i64 (R.stateOf x), .int .i64 x.base, .int .i64 lv, .int .i64 x.at_, .int .i64 x.last, .int .i64 x.got, .int .i64 x.rel, .int .i64 x.ended, .int .i64 x.for_, .int .i64 x.of_, .int .i64 x.until_]
def noView : Value := .agg #[.int .i64 0, .int .i64 0, .int .i64 0, .int .i64 0, .int .i64 0, .int .i64 0, .int .i64 0, .int .i64 0, .int .i64 0, .int .i64 0, .int .i64 0]

theorem running_succ (T : List RT) (k : Nat) : (List.range (k + 1)).map (fun (x : Nat) => R.on T (x : Int)) = (List.range k).map (fun (x : Nat) => R.on T (x : Int)) ++ [R.on T (k : Int)] := by simp [List.range_succ]

set_option maxHeartbeats 400000 in
theorem rRunning_any (F : Nat → Prop) (w : World) (sb : Nat) (h : RH) (s : RS) (m : RMem F w sb h s) (g : RGood s) (n : Nat) (hn : s.set.workers = n) :
    Calls Tryz.prog 43 #[.pointer (some ⟨sb, 0, none⟩)] w fun e w' => ∃ v, e = .returned v ∧ w'.ownsRow w.heap.size 3 1 v n (intCells (R.running s)) ∧ Below w.heap.size w w' := by
  have hfew := g.few
  have hn8 : (n : Int) ≤ 8 := by rw [← hn]; exact g.wk1
  have M := hid m
  have HN := hid hn
  have erun : R.running s = (List.range n).map (fun (x : Nat) => R.on s.T (x : Int)) := by unfold R.running; rw [hn]; simp
  have ER := hid erun
  clear m g hn erun
  obtain ⟨i3, hi3, hz30, hz31, hz32⟩ := info_parts Tryz.infoInt
  have HI3 : Hid (Tryz.prog.info? 3 = some i3 ∧ i3.zero = some (.int .i64 0) ∧ i3.size = 1 ∧ i3.bytes = 8) := ⟨hi3, hz30, hz31, hz32⟩
  clear hi3 hz30 hz31 hz32
  go_enter Tryz.func43, Tryz.ntmps43
  go_wp2
  go_loopw [3, 4] (fun v i wr => ∃ k : Nat, k ≤ n ∧ i = .int .i64 k ∧ wr.ownsRow w.heap.size 3 1 v k (intCells ((List.range k).map (fun (x : Nat) => R.on s.T (x : Int)))) ∧ Below w.heap.size w wr) (fun _ i _ => n - (intOf i).toNat)
  case atStart => exact ⟨0, Nat.zero_le _, rfl, World.ownsRow_nil _ _ _ _, Below.refl _ _⟩
  case round =>
    obtain ⟨k, hk, rfl, hown, hb⟩ := hrel
    have hm := M.out.below hb
    have Mk := hid hm
    have c0 := hm.blk.cell 0
    simp [rsCells] at c0
    rw [HN.out] at c0
    have OW := hid hown
    have hsz := hb.size
    clear hm hown
    by_cases hlt : k < n
    · go_wp2_with (first
        | (go_at_call 74; refine (rOn_any F _ sb h s Mk.out hfew (k : Int)).mono ?_; rintro e w1 ⟨rfl, hw1⟩; have hw2 := hw1.symm; subst hw2; clear hw1)
        | (at_builtin; refine wpList_append_src rfl (.tmp 18) (.tmp 20) 25 rfl w.heap.size 3 i3 (.int .i64 0) 1 8 Tryz.underlying25 HI3.out.1 HI3.out.2.1 HI3.out.2.2.1 HI3.out.2.2.2 rfl (by decide) u3 k (intCells ((List.range k).map (fun (x : Nat) => R.on s.T (x : Int)))) rfl (OW.out.alloc _) (some ⟨wr.heap.size, 0, none⟩) 1 1 [.int .i64 (R.on s.T (k : Int))] rfl rfl (fun h => (by cases h)) (fun j u hj => ⟨_, rfl, (by rw [Addr.add_lit, Nat.zero_add, (Blk.new wr #[.int .i64 (R.on s.T (k : Int))] 3).cell]; simpa using hj)⟩) (by intro u hu; simp at hu; subst hu; rfl) (by unfold maxLen; omega) (by omega) (by simp; omega) ?_; intro v' w2 hown2 hg2; have O2 := hid hown2; have G2 := hid hg2; clear hown2 hg2))
      go_roundw
      case rel => exact ⟨k + 1, by omega, by go_num, by rw [running_succ, intCells_append]; exact O2.out, (hb.alloc hsz _).grown G2.out (by simp; omega) (fun g hg => (ownsRow_block OW.out hg).1)⟩
      case measure => simp [intOf]; omega
    · go_wp2
      go_ret
      have e : k = n := by omega
      subst e
      exact ⟨_, rfl, by rw [ER.out]; exact OW.out, hb⟩

set_option maxHeartbeats 400000 in
theorem rLook_not (F : Nat → Prop) (w : World) (sb : Nat) (h : RH) (s : RS) (m : RMem F w sb h s) (t : Int) (ht : t < 0 ∨ (0 ≤ t ∧ (s.T.length : Int) ≤ t)) :
    Calls Tryz.prog 76 #[.pointer (some ⟨sb, 0, none⟩), .int .i64 t] w fun e w' => e = .returned (.tuple #[noView, .int .i64 7]) ∧ Below w.heap.size w w' := by
  have c8 := m.blk.cell 8
  simp [rsCells] at c8
  have hsl := m.blk.lt
  clear m
  rcases ht with h1 | ⟨h1, h2⟩
  all_goals
    go_enter Tryz.func76, Tryz.ntmps76
    go_wp2
    exact bodyPost_ret (v := .tuple #[noView, .int .i64 7]) (by simp [results, Tryz.results76, go_sem, noView]) rfl ⟨rfl, (Below.refl _ _).alloc (Nat.le_refl _) _⟩

set_option maxHeartbeats 1000000 in
theorem rLook_any (F : Nat → Prop) (w : World) (sb : Nat) (h : RH) (s : RS) (m : RMem F w sb h s) (g : RGood s) (t : Nat) (ht : t < s.T.length) :
    Calls Tryz.prog 76 #[.pointer (some ⟨sb, 0, none⟩), .int .i64 t] w fun e w' => e = .returned (.tuple #[viewV s.T[t] (R.Level s t), .int .i64 0]) ∧ Below w.heap.size w w' := by
  have c8 := m.blk.cell 8
  simp [rsCells] at c8
  have hfew := g.few
  have hsl := m.blk.lt
  have hgl := m.gT_lt
  have a0 := m.tcell ht 0 (by decide)
  have a1 := m.tcell ht 1 (by decide)
  have a2 := m.tcell ht 2 (by decide)
  have a3 := m.tcell ht 3 (by decide)
  have a4 := m.tcell ht 4 (by decide)
  have a5 := m.tcell ht 5 (by decide)
  have a6 := m.tcell ht 6 (by decide)
  have a7 := m.tcell ht 7 (by decide)
  have a8 := m.tcell ht 8 (by decide)
  have a9 := m.tcell ht 9 (by decide)
  have a10 := m.tcell ht 10 (by decide)
  have a11 := m.tcell ht 11 (by decide)
  have a12 := m.tcell ht 12 (by decide)
  simp [rtCells] at a0 a1 a2 a3 a4 a5 a6 a7 a8 a9 a10 a11 a12
  have M := hid m
  have G := hid g
  clear m g
  generalize s.T[t] = x at *
  go_enter Tryz.func76, Tryz.ntmps76
  go_wp2_with fail
  refine (rLevelOf_any F _ sb h s (M.out.below (((((Below.refl _ _).alloc (Nat.le_refl _) _).alloc (by simp) _)).alloc (by simp; omega) _)) G.out t ht).mono ?_
  rintro e w1 ⟨rfl, rfl⟩
  clear a0 a1 a2 a3 a4 a5 a6 a7 a8 a9 a10 a11 a12 c8
  generalize hlv : R.Level s t = lv at *
  have HLV := hid hlv
  clear hlv
  have fin : ∀ (st : Int), R.stateOf x = st → viewV x lv = .agg #[.int .i64 st, .int .i64 x.base, .int .i64 lv, .int .i64 x.at_, .int .i64 x.last, .int .i64 x.got, .int .i64 x.rel, .int .i64 x.ended, .int .i64 x.for_, .int .i64 x.of_, .int .i64 x.until_] := by
    intro st e
    unfold viewV
    rw [e]
  have FIN := hid fin
  clear fin
  cases hf : (x.for_ != 0)
  · have HF := hid hf
    by_cases hw : 0 ≤ x.wkr
    · go_wp2
      refine bodyPost_ret (v := .tuple #[viewV x lv, .int .i64 0]) ?_ rfl ⟨by rw [HLV.out], (((Below.refl _ _).alloc (Nat.le_refl _) _).alloc (by simp) _).alloc (by simp; omega) _⟩
      rw [FIN.out 2 (by have := HF.out; simp at this; simp [R.stateOf, this, hw])]
      simp [results, Tryz.results76, go_sem]
    · cases ha : x.awake
      · have HA := hid ha
        go_wp2
        refine bodyPost_ret (v := .tuple #[viewV x lv, .int .i64 0]) ?_ rfl ⟨by rw [HLV.out], (((Below.refl _ _).alloc (Nat.le_refl _) _).alloc (by simp) _).alloc (by simp; omega) _⟩
        rw [FIN.out 0 (by have := HF.out; simp at this; have h2 : ¬ 0 ≤ x.wkr := (by omega); simp [R.stateOf, this, h2, HA.out])]
        simp [results, Tryz.results76, go_sem]
      · have HA := hid ha
        go_wp2
        refine bodyPost_ret (v := .tuple #[viewV x lv, .int .i64 0]) ?_ rfl ⟨by rw [HLV.out], (((Below.refl _ _).alloc (Nat.le_refl _) _).alloc (by simp) _).alloc (by simp; omega) _⟩
        rw [FIN.out 1 (by have := HF.out; simp at this; have h2 : ¬ 0 ≤ x.wkr := (by omega); simp [R.stateOf, this, h2, HA.out])]
        simp [results, Tryz.results76, go_sem]
  · have HF := hid hf
    go_wp2
    refine bodyPost_ret (v := .tuple #[viewV x lv, .int .i64 0]) ?_ rfl ⟨by rw [HLV.out], (((Below.refl _ _).alloc (Nat.le_refl _) _).alloc (by simp) _).alloc (by simp; omega) _⟩
    rw [FIN.out 3 (by have := HF.out; simp at this; simp [R.stateOf, this])]
    simp [results, Tryz.results76, go_sem]

end Go.Proofs.YthnjabnlocpoaaaGreat

/-
  Walks: donateref.Copy: the same set in lists of its own.
-/
namespace Go.Proofs.YthnjabnlocpoaaaGreat
open Go.RowKit

/-- What of a set's sizes Go's memory bears. -/
structure Fits (S : SetD) : Prop where
  threads : S.threads.length * 56 ≤ 140737488351232
  mutexes : S.mutexes.length * 16 ≤ 140737488351232
  sems : S.sems.length * 16 ≤ 140737488351232
  queues : S.queues.length * 8 ≤ 140737488351232
  codes : ∀ j (h : j < S.threads.length), S.threads[j].code.length * 24 ≤ 140737488351232

set_option maxHeartbeats 1000000 in
theorem copy_any (tv mv sv qv : Option Addr) (tc mc sc qc : Nat) (S : SetD) (w : World) (hS : SetIn w.heap.size w tv mv sv qv S) (hF : Fits S) (hnil : (tv = none → tc = 0) ∧ (mv = none → mc = 0) ∧ (sv = none → sc = 0) ∧ (qv = none → qc = 0)) :
    Calls Tryz.prog 15 #[.agg #[.int .i64 S.workers, .int .i64 S.start, .slice tv S.threads.length tc, .slice mv S.mutexes.length mc, .slice sv S.sems.length sc, .slice qv S.queues.length qc]] w fun e w' =>
      ∃ tv' mv' sv' qv' tc' mc' sc' qc', e = .returned (.agg #[.int .i64 S.workers, .int .i64 S.start, .slice tv' S.threads.length tc', .slice mv' S.mutexes.length mc', .slice sv' S.sems.length sc', .slice qv' S.queues.length qc']) ∧
        SetF (fun b => w.heap.size ≤ b ∧ b < w'.heap.size) w' tv' mv' sv' qv' S ∧ ((tv' = none → tc' = 0) ∧ (mv' = none → mc' = 0) ∧ (sv' = none → sc' = 0) ∧ (qv' = none → qc' = 0)) ∧ Below w.heap.size w w' := by
  have HS : Hid (SetIn w.heap.size w tv mv sv qv S) := hS
  obtain ⟨ht0, hm0, hs0, hq0⟩ := hnil
  have HN1 : Hid (tv = none → tc = 0) := ht0
  have HN2 : Hid (mv = none → mc = 0) := hm0
  have HN3 : Hid (sv = none → sc = 0) := hs0
  have HN4 : Hid (qv = none → qc = 0) := hq0
  have HF : Hid (Fits S) := hF
  clear hS ht0 hm0 hs0 hq0 hF
  obtain ⟨i1, hi1, hz10, hz11, hz12⟩ := info_parts Tryz.infoMutex
  obtain ⟨i2, hi2, hz20, hz21, hz22⟩ := info_parts Tryz.infoSem
  obtain ⟨i3, hi3, hz30, hz31, hz32⟩ := info_parts Tryz.infoInt
  have HI1 : Hid (Tryz.prog.info? 90 = some i1 ∧ i1.zero = some (.agg #[.int .i64 0, .int .i64 0]) ∧ i1.size = 2 ∧ i1.bytes = 16) := ⟨hi1, hz10, hz11, hz12⟩
  have HI2 : Hid (Tryz.prog.info? 75 = some i2 ∧ i2.zero = some (.agg #[.int .i64 0, .int .i64 0]) ∧ i2.size = 2 ∧ i2.bytes = 16) := ⟨hi2, hz20, hz21, hz22⟩
  have HI3 : Hid (Tryz.prog.info? 3 = some i3 ∧ i3.zero = some (.int .i64 0) ∧ i3.size = 1 ∧ i3.bytes = 8) := ⟨hi3, hz30, hz31, hz32⟩
  clear hi1 hz10 hz11 hz12 hi2 hz20 hz21 hz22 hi3 hz30 hz31 hz32
  go_enter Tryz.func15, Tryz.ntmps15
  go_upto_region 2 with fail
  have hM0 := CM.start w S (.slice tv S.threads.length tc) (.slice mv S.mutexes.length mc) (.slice sv S.sems.length sc) (.slice qv S.queues.length qc)
  generalize ((w.alloc (.cells #[.int .i64 S.workers, .int .i64 S.start, .slice tv S.threads.length tc, .slice mv S.mutexes.length mc, .slice sv S.sems.length sc, .slice qv S.queues.length qc] 27)).alloc (.cells #[.int .i64 0, .int .i64 0, .slice none 0 0, .slice none 0 0, .slice none 0 0, .slice none 0 0] 27)).alloc (.cells #[.int .i64 S.workers, .int .i64 S.start, .slice none 0 0, .slice none 0 0, .slice none 0 0, .slice none 0 0] 27) = w0 at hM0 ⊢
  have M0 : Hid (CM w S (.slice tv S.threads.length tc) (.slice mv S.mutexes.length mc) (.slice sv S.sems.length sc) (.slice qv S.queues.length qc) w0 (.slice none 0 0) (.slice none 0 0) (.slice none 0 0) (.slice none 0 0)) := hM0
  clear hM0
  have x3 := M0.out.x.cell 3
  have c3 := M0.out.c.cell 3
  simp at x3 c3
  go_upto_region 3 with (at_builtin; refine wpList_append_src rfl (.tmp 13) (.tmp 15) 23 rfl (w.heap.size + 3) 90 i1 (.agg #[.int .i64 0, .int .i64 0]) 2 16 Tryz.underlying23 HI1.out.1 HI1.out.2.1 HI1.out.2.2.1 HI1.out.2.2.2 rfl (by decide) (.slice none 0 0) 0 [] rfl (World.ownsRow_nil _ _ _ _) mv S.mutexes.length mc (pairCells S.mutexes) rfl (pairCells_length _) HN2.out (HS.out.stays M0.out.below).mutexes.src (pairCells_one _) (by have := HF.out.mutexes; unfold maxLen; omega) (by have := HF.out.mutexes; omega) M0.out.size ?_; intro v1 w1 hown1 hg1; simp only [Nat.zero_add, List.nil_append] at hown1; obtain ⟨mv', mc', rfl, hnm, hpm, ham⟩ := PairsIn.of_owns hown1; have M1 : Hid (CM w S (.slice tv S.threads.length tc) (.slice mv S.mutexes.length mc) (.slice sv S.sems.length sc) (.slice qv S.queues.length qc) w1 (.slice none 0 0) (.slice none 0 0) (.slice none 0 0) (.slice none 0 0)) := M0.out.grown hg1 (by simp [Value.ownBlock]); have NM := hid hnm; clear hnm; have z1 := M1.out.c.frozen 3; have y1 := M1.out.c.cell 3; simp at y1; have HA1 : Hid (NewAt (w.heap.size + 3) w1.heap.size mv') := ham; have HP1 : Hid (PairsIn w1.heap.size w1 mv' S.mutexes) := hpm; have G1 : Hid (w0.grownBy w1 none) := hg1; clear hown1 hg1 ham hpm)
  clear x3 c3 z1 y1 M0
  have hM2 := M1.out.set3 (.slice mv' S.mutexes.length mc')
  have hP := HP1.out.keep HA1.out (setCell_same w1 ⟨w.heap.size + 1 + 1, 3, none⟩ (.slice mv' S.mutexes.length mc') _ _ (by show w.heap.size + 1 + 1 < _; omega)) (Nat.le_of_eq (setCell_size _ _ _).symm)
  have hA := HA1.out
  rw [← setCell_size w1 ⟨w.heap.size + 1 + 1, 3, none⟩ (.slice mv' S.mutexes.length mc')] at hA
  clear M1 HA1 HP1 G1 
  generalize w1.setCell ⟨w.heap.size + 1 + 1, 3, none⟩ (.slice mv' S.mutexes.length mc') = w2 at hM2 hP hA ⊢
  have M2 : Hid (CM w S (.slice tv S.threads.length tc) (.slice mv S.mutexes.length mc) (.slice sv S.sems.length sc) (.slice qv S.queues.length qc) w2 (.slice none 0 0) (.slice mv' S.mutexes.length mc') (.slice none 0 0) (.slice none 0 0)) := hM2
  have P2mv : Hid (PairsIn w2.heap.size w2 mv' S.mutexes) := hP
  have A2mv : Hid (NewAt (w.heap.size + 3) w2.heap.size mv') := hA
  clear hM2 hP hA
  have x4 := M2.out.x.cell 4
  have c4 := M2.out.c.cell 4
  simp at x4 c4
  go_upto_region 4 with (at_builtin; refine wpList_append_src rfl (.tmp 19) (.tmp 21) 24 rfl (w.heap.size + 3) 75 i2 (.agg #[.int .i64 0, .int .i64 0]) 2 16 Tryz.underlying24 HI2.out.1 HI2.out.2.1 HI2.out.2.2.1 HI2.out.2.2.2 rfl (by decide) (.slice none 0 0) 0 [] rfl (World.ownsRow_nil _ _ _ _) sv S.sems.length sc (pairCells S.sems) rfl (pairCells_length _) HN3.out (HS.out.stays M2.out.below).sems.src (pairCells_one _) (by have := HF.out.sems; unfold maxLen; omega) (by have := HF.out.sems; omega) M2.out.size ?_; intro v1 w3 hown1 hg1; simp only [Nat.zero_add, List.nil_append] at hown1; obtain ⟨sv', sc', rfl, hnm, hpm, ham⟩ := PairsIn.of_owns hown1; have M3 : Hid (CM w S (.slice tv S.threads.length tc) (.slice mv S.mutexes.length mc) (.slice sv S.sems.length sc) (.slice qv S.queues.length qc) w3 (.slice none 0 0) (.slice mv' S.mutexes.length mc') (.slice none 0 0) (.slice none 0 0)) := M2.out.grown hg1 (by simp [Value.ownBlock]); have NS := hid hnm; clear hnm; have z1 := M3.out.c.frozen 4; have y1 := M3.out.c.cell 4; simp at y1; have HA1 : Hid (NewAt (w.heap.size + 3) w3.heap.size sv') := ham; have HP1 : Hid (PairsIn w3.heap.size w3 sv' S.sems) := hpm; have G3 : Hid (w2.grownBy w3 none) := hg1; clear hown1 hg1 ham hpm)
  clear x4 c4 z1 y1 M2
  have hM4 := M3.out.set4 (.slice sv' S.sems.length sc')
  have hP := HP1.out.keep HA1.out (setCell_same w3 ⟨w.heap.size + 1 + 1, 4, none⟩ (.slice sv' S.sems.length sc') _ _ (by show w.heap.size + 1 + 1 < _; omega)) (Nat.le_of_eq (setCell_size _ _ _).symm)
  have hA := HA1.out
  rw [← setCell_size w3 ⟨w.heap.size + 1 + 1, 4, none⟩ (.slice sv' S.sems.length sc')] at hA
  have hP0 := (P2mv.out.keep A2mv.out (grown_same G3.out _ _ (Nat.le_refl _) (by simp)) G3.out.size).keep (A2mv.out.mono G3.out.size) (setCell_same w3 ⟨w.heap.size + 1 + 1, 4, none⟩ (.slice sv' S.sems.length sc') _ _ (by show w.heap.size + 1 + 1 < _; omega)) (Nat.le_of_eq (setCell_size _ _ _).symm)
  have hA0 := A2mv.out.mono G3.out.size
  rw [← setCell_size w3 ⟨w.heap.size + 1 + 1, 4, none⟩ (.slice sv' S.sems.length sc')] at hA0
  clear M3 HA1 HP1 G3 P2mv A2mv
  generalize w3.setCell ⟨w.heap.size + 1 + 1, 4, none⟩ (.slice sv' S.sems.length sc') = w4 at hM4 hP hA hP0 hA0 ⊢
  have M4 : Hid (CM w S (.slice tv S.threads.length tc) (.slice mv S.mutexes.length mc) (.slice sv S.sems.length sc) (.slice qv S.queues.length qc) w4 (.slice none 0 0) (.slice mv' S.mutexes.length mc') (.slice sv' S.sems.length sc') (.slice none 0 0)) := hM4
  have P4sv : Hid (PairsIn w4.heap.size w4 sv' S.sems) := hP
  have A4sv : Hid (NewAt (w.heap.size + 3) w4.heap.size sv') := hA
  have P4mv : Hid (PairsIn w4.heap.size w4 mv' S.mutexes) := hP0
  have A4mv : Hid (NewAt (w.heap.size + 3) w4.heap.size mv') := hA0
  clear hM4 hP hA hP0 hA0
  have x5 := M4.out.x.cell 5
  have c5 := M4.out.c.cell 5
  simp at x5 c5
  go_upto_region 5 with (at_builtin; refine wpList_append_src rfl (.tmp 25) (.tmp 27) 25 rfl (w.heap.size + 3) 3 i3 (.int .i64 0) 1 8 Tryz.underlying25 HI3.out.1 HI3.out.2.1 HI3.out.2.2.1 HI3.out.2.2.2 rfl (by decide) (.slice none 0 0) 0 [] rfl (World.ownsRow_nil _ _ _ _) qv S.queues.length qc (intCells S.queues) rfl (intCells_length _) HN4.out (HS.out.stays M4.out.below).queues.src (intCells_one _) (by have := HF.out.queues; unfold maxLen; omega) (by have := HF.out.queues; omega) M4.out.size ?_; intro v1 w5 hown1 hg1; simp only [Nat.zero_add, List.nil_append] at hown1; obtain ⟨qv', qc', rfl, hnm, hpm, ham⟩ := IntsIn.of_owns hown1; have M5 : Hid (CM w S (.slice tv S.threads.length tc) (.slice mv S.mutexes.length mc) (.slice sv S.sems.length sc) (.slice qv S.queues.length qc) w5 (.slice none 0 0) (.slice mv' S.mutexes.length mc') (.slice sv' S.sems.length sc') (.slice none 0 0)) := M4.out.grown hg1 (by simp [Value.ownBlock]); have NQ := hid hnm; clear hnm; have z1 := M5.out.c.frozen 5; have y1 := M5.out.c.cell 5; simp at y1; have HA1 : Hid (NewAt (w.heap.size + 3) w5.heap.size qv') := ham; have HP1 : Hid (IntsIn w5.heap.size w5 qv' S.queues) := hpm; have G5 : Hid (w4.grownBy w5 none) := hg1; clear hown1 hg1 ham hpm)
  clear x5 c5 z1 y1 M4
  have hM6 := M5.out.set5 (.slice qv' S.queues.length qc')
  have hP := HP1.out.keep HA1.out (setCell_same w5 ⟨w.heap.size + 1 + 1, 5, none⟩ (.slice qv' S.queues.length qc') _ _ (by show w.heap.size + 1 + 1 < _; omega)) (Nat.le_of_eq (setCell_size _ _ _).symm)
  have hA := HA1.out
  rw [← setCell_size w5 ⟨w.heap.size + 1 + 1, 5, none⟩ (.slice qv' S.queues.length qc')] at hA
  have hP0 := (P4mv.out.keep A4mv.out (grown_same G5.out _ _ (Nat.le_refl _) (by simp)) G5.out.size).keep (A4mv.out.mono G5.out.size) (setCell_same w5 ⟨w.heap.size + 1 + 1, 5, none⟩ (.slice qv' S.queues.length qc') _ _ (by show w.heap.size + 1 + 1 < _; omega)) (Nat.le_of_eq (setCell_size _ _ _).symm)
  have hA0 := A4mv.out.mono G5.out.size
  rw [← setCell_size w5 ⟨w.heap.size + 1 + 1, 5, none⟩ (.slice qv' S.queues.length qc')] at hA0
  have hP1 := (P4sv.out.keep A4sv.out (grown_same G5.out _ _ (Nat.le_refl _) (by simp)) G5.out.size).keep (A4sv.out.mono G5.out.size) (setCell_same w5 ⟨w.heap.size + 1 + 1, 5, none⟩ (.slice qv' S.queues.length qc') _ _ (by show w.heap.size + 1 + 1 < _; omega)) (Nat.le_of_eq (setCell_size _ _ _).symm)
  have hA1 := A4sv.out.mono G5.out.size
  rw [← setCell_size w5 ⟨w.heap.size + 1 + 1, 5, none⟩ (.slice qv' S.queues.length qc')] at hA1
  clear M5 HA1 HP1 G5 P4mv A4mv P4sv A4sv
  generalize w5.setCell ⟨w.heap.size + 1 + 1, 5, none⟩ (.slice qv' S.queues.length qc') = w6 at hM6 hP hA hP0 hA0 hP1 hA1 ⊢
  have M6 : Hid (CM w S (.slice tv S.threads.length tc) (.slice mv S.mutexes.length mc) (.slice sv S.sems.length sc) (.slice qv S.queues.length qc) w6 (.slice none 0 0) (.slice mv' S.mutexes.length mc') (.slice sv' S.sems.length sc') (.slice qv' S.queues.length qc')) := hM6
  have P6qv : Hid (IntsIn w6.heap.size w6 qv' S.queues) := hP
  have A6qv : Hid (NewAt (w.heap.size + 3) w6.heap.size qv') := hA
  have P6mv : Hid (PairsIn w6.heap.size w6 mv' S.mutexes) := hP0
  have A6mv : Hid (NewAt (w.heap.size + 3) w6.heap.size mv') := hA0
  have P6sv : Hid (PairsIn w6.heap.size w6 sv' S.sems) := hP1
  have A6sv : Hid (NewAt (w.heap.size + 3) w6.heap.size sv') := hA1
  clear hM6 hP hA hP0 hA0 hP1 hA1
  have hM6 := M6.out
  have hlow : w.heap.size + 3 ≤ w6.heap.size := hM6.size
  clear HN2 HN3 HN4 HI1 HI2 HI3
  obtain ⟨i4, hi4, hz40, hz41, hz42⟩ := info_parts Tryz.infoInstr
  obtain ⟨i5, hi5, hz50, hz51, hz52⟩ := info_parts Tryz.infoThread
  have HI4 : Hid (Tryz.prog.info? 41 = some i4 ∧ i4.zero = some (.agg #[.int .i64 0, .int .i64 0, .int .i64 0]) ∧ i4.size = 3 ∧ i4.bytes = 24) := ⟨hi4, hz40, hz41, hz42⟩
  have HI5 : Hid (Tryz.prog.info? 39 = some i5 ∧ i5.zero = some (.agg #[.int .i64 0, .int .i64 0, .int .i64 0, .int .i64 0, .slice none 0 0]) ∧ i5.size = 5 ∧ i5.bytes = 56) := ⟨hi5, hz50, hz51, hz52⟩
  clear hi4 hz40 hz41 hz42 hi5 hz50 hz51 hz52 hM6
  go_wp2
  go_loopw [4] (fun i wr => ∃ (k : Nat) (vt : Value) (cs : Nat → Value), k ≤ S.threads.length ∧ i = .int .i64 k ∧ CM w S (.slice tv S.threads.length tc) (.slice mv S.mutexes.length mc) (.slice sv S.sems.length sc) (.slice qv S.queues.length qc) wr vt (.slice mv' S.mutexes.length mc') (.slice sv' S.sems.length sc') (.slice qv' S.queues.length qc') ∧ But w6.heap.size (w.heap.size + 1 + 1) w6 wr ∧ ThRows w6.heap.size wr vt S.threads k cs) (fun i _ => S.threads.length - (intOf i).toNat)
  case atStart => exact ⟨0, _, fun _ => .slice none 0 0, Nat.zero_le _, rfl, M6.out, But.refl _ _ _, ThRows.zero _ _ _ _⟩
  case round =>
    obtain ⟨k, vt, cs, hk, rfl, hM, hB, hR⟩ := hrel
    have M : Hid (CM w S (.slice tv S.threads.length tc) (.slice mv S.mutexes.length mc) (.slice sv S.sems.length sc) (.slice qv S.queues.length qc) wr vt (.slice mv' S.mutexes.length mc') (.slice sv' S.sems.length sc') (.slice qv' S.queues.length qc')) := hM
    have BB : Hid (But w6.heap.size (w.heap.size + 1 + 1) w6 wr) := hB
    have RR : Hid (ThRows w6.heap.size wr vt S.threads k cs) := hR
    clear hM hB hR
    have x2 := M.out.x.cell 2
    simp at x2
    have q0 : w.heap.size + 3 ≤ wr.heap.size := M.out.size
    have q1 : w.heap.size < wr.heap.size := by omega
    have q2 : w6.heap.size ≤ wr.heap.size := BB.out.size
    by_cases hlt : k < S.threads.length
    · obtain ⟨b, o, cv, cc, rfl, hbb, c0, c1, c2, c3, c4, hcode, hcn⟩ := HS.out.threads k hlt
      have c0' := (M.out.below.cell (p := ⟨b, o + k * 5, none⟩) hbb).trans c0
      have c1' := (M.out.below.cell (p := ⟨b, o + k * 5 + 1, none⟩) hbb).trans c1
      have c2' := (M.out.below.cell (p := ⟨b, o + k * 5 + 2, none⟩) hbb).trans c2
      have c3' := (M.out.below.cell (p := ⟨b, o + k * 5 + 3, none⟩) hbb).trans c3
      have c4' := (M.out.below.cell (p := ⟨b, o + k * 5 + 4, none⟩) hbb).trans c4
      have HC : Hid (InstrsIn w.heap.size w cv S.threads[k].code) := hcode
      have HCN : Hid (cv = none → cc = 0) := hcn
      have hfit := HF.out.codes k hlt
      clear c0 c1 c2 c3 c4 hcode hcn
      go_upto_region 11 with (at_builtin; refine wpList_append_src rfl (.tmp 42) (.tmp 44) 37 rfl (wr.heap.size + 1) 41 i4 (.agg #[.int .i64 0, .int .i64 0, .int .i64 0]) 3 24 Tryz.underlying37 HI4.out.1 HI4.out.2.1 HI4.out.2.2.1 HI4.out.2.2.2 rfl (by decide) (.slice none 0 0) 0 [] rfl (World.ownsRow_nil _ _ _ _) cv S.threads[k].code.length cc (instrCells S.threads[k].code) rfl (instrCells_length _) HCN.out (HC.out.stays (M.out.below.alloc (by omega) _)).src (instrCells_one _) (by unfold maxLen; omega) (by omega) (by simp) ?_; intro v4 w7 hown4 hg4; simp only [Nat.zero_add, List.nil_append] at hown4; obtain ⟨cv', cc', rfl, _, _⟩ := owns_cells hown4; have M7 := hid ((M.out.alloc _).grown hg4 (by simp [Value.ownBlock])); have T7 := hid ((Blk.new wr #[.int .i64 S.threads[k].base, .int .i64 S.threads[k].offset, .int .i64 S.threads[k].period, .int .i64 S.threads[k].deadline, .slice cv S.threads[k].code.length cc] 39).grown hg4 (by simp [Value.ownBlock])); have O7 := hid hown4; have G7 := hid hg4; have z4 := T7.out.frozen 4; have y4 := T7.out.cell 4; simp at y4; clear hown4 hg4)
      clear x2 c0' c1' c2' c3' c4'
      go_upto_region 12 with fail
      clear z4 y4
      have hM8 := M7.out.other (p := ⟨wr.heap.size, 4, none⟩) (by show w.heap.size + 3 ≤ wr.heap.size; omega) (.slice cv' S.threads[k].code.length cc')
      have hT8 : Blk (w7.setCell ⟨wr.heap.size, 4, none⟩ (.slice cv' S.threads[k].code.length cc')) wr.heap.size #[.int .i64 S.threads[k].base, .int .i64 S.threads[k].offset, .int .i64 S.threads[k].period, .int .i64 S.threads[k].deadline, .slice cv' S.threads[k].code.length cc'] 39 := by simpa using T7.out.set 4 (.slice cv' S.threads[k].code.length cc')
      have same8 : ∀ g, g < wr.heap.size → (w7.setCell ⟨wr.heap.size, 4, none⟩ (.slice cv' S.threads[k].code.length cc')).heap[g]? = wr.heap[g]? := by
        intro g hg
        rw [Below.heap_setCell _ _ _ _ (show g ≠ wr.heap.size by omega), G7.out.block g (by simp; omega) (by simp [Value.ownBlock]), Below.heap_alloc _ _ _ hg]
      have hR8 := RR.out.same (fun g _ hg => same8 g hg)
      have hO8 : (w7.setCell ⟨wr.heap.size, 4, none⟩ (.slice cv' S.threads[k].code.length cc')).ownsRow w6.heap.size 41 3 (.slice cv' S.threads[k].code.length cc') S.threads[k].code.length (instrCells S.threads[k].code) := by
        refine ownsRow_mono (ownsRow_same O7.out fun g hg => ?_) (show w6.heap.size ≤ wr.heap.size + 1 by omega)
        have := ownsRow_block O7.out hg
        exact Below.heap_setCell _ _ _ _ (show g ≠ wr.heap.size by omega)
      have hB8 : But w6.heap.size (w.heap.size + 1 + 1) w6 (w7.setCell ⟨wr.heap.size, 4, none⟩ (.slice cv' S.threads[k].code.length cc')) :=
        ((BB.out.alloc q2 _).grown G7.out (by simp; omega) (by simp [Value.ownBlock])).setCell (Or.inr (show w6.heap.size ≤ wr.heap.size from q2)) _
      have hs8 : wr.heap.size < (w7.setCell ⟨wr.heap.size, 4, none⟩ (.slice cv' S.threads[k].code.length cc')).heap.size := hT8.lt
      clear M7 T7 O7 G7 same8
      generalize w7.setCell ⟨wr.heap.size, 4, none⟩ (.slice cv' S.threads[k].code.length cc') = w8 at hM8 hT8 hR8 hO8 hB8 hs8 ⊢
      have M8 := hid hM8
      have R8 := hid hR8
      have O8 := hid hO8
      have B8 := hid hB8
      have m2 := hM8.c.cell 2
      have t0 := hT8.cell 0
      have t1 := hT8.cell 1
      have t2 := hT8.cell 2
      have t3 := hT8.cell 3
      have t4 := hT8.cell 4
      simp at m2 t0 t1 t2 t3 t4
      have q8 : w6.heap.size ≤ w8.heap.size := hB8.size
      have q9 : w.heap.size + 1 + 1 < w8.heap.size := by omega
      clear hM8 hT8 hR8 hO8 hB8
      have hn := HF.out.threads
      go_wp2_with (at_builtin; refine wpList_append_src rfl (.tmp 49) (.tmp 51) 22 rfl w6.heap.size 39 i5 (.agg #[.int .i64 0, .int .i64 0, .int .i64 0, .int .i64 0, .slice none 0 0]) 5 56 Tryz.underlying22 HI5.out.1 HI5.out.2.1 HI5.out.2.2.1 HI5.out.2.2.2 rfl (by decide) vt k (thCells S.threads cs k) rfl (R8.out.1.alloc _) (some ⟨w8.heap.size, 0, none⟩) 1 1 [.int .i64 S.threads[k].base, .int .i64 S.threads[k].offset, .int .i64 S.threads[k].period, .int .i64 S.threads[k].deadline, .slice cv' S.threads[k].code.length cc'] rfl rfl (fun h => (by cases h)) (fun j u hj => ⟨_, rfl, (by rw [Addr.add_lit, Nat.zero_add, (Blk.new w8 #[.int .i64 S.threads[k].base, .int .i64 S.threads[k].offset, .int .i64 S.threads[k].period, .int .i64 S.threads[k].deadline, .slice cv' S.threads[k].code.length cc'] 39).cell]; simpa using hj)⟩) (by intro u hu; simp at hu; rcases hu with rfl | rfl | rfl | rfl | rfl <;> rfl) (by unfold maxLen; omega) (by omega) (by simp; omega) ?_; intro v5 w10 hown5 hg5; obtain ⟨tv5, tc5, rfl, _, _⟩ := owns_cells hown5; have M10 := hid ((M8.out.alloc _).grown hg5 (fun g hg => (by have := ownsRow_block R8.out.1 hg; omega))); have z10 := M10.out.c.frozen 2; have y10 := M10.out.c.cell 2; simp at y10; have O10 := hid hown5; have G10 := hid hg5; clear hown5 hg5)
      obtain ⟨cs', hR10⟩ := ThRows.step (ThRows.same R8.out (fun g _ hg => Below.heap_alloc _ _ _ hg)) hlt (O8.out.alloc _) G10.out O10.out
      have hB10 : But w6.heap.size (w.heap.size + 1 + 1) w6 w10 := (B8.out.alloc q8 _).grown G10.out (by simp; omega) (fun g hg => (ownsRow_block R8.out.1 hg).1)
      go_roundw
      case rel => exact ⟨k + 1, _, cs', by omega, by go_num, M10.out.set2 _, hB10.setCell (Or.inl rfl) _, hR10.same (setCell_same _ _ _ _ _ (by show w.heap.size + 1 + 1 < _; omega))⟩
      case measure => simp [intOf]; omega
    · have e : k = S.threads.length := by omega
      subst e
      obtain ⟨tv', tc', rfl, htn, htin⟩ := ThreadsF.of_rows_later RR.out
      have NT := hid htn
      clear htn
      have HT := hid htin
      have m0 := M.out.c.cell 0
      have m1 := M.out.c.cell 1
      have m2 := M.out.c.cell 2
      have m3 := M.out.c.cell 3
      have m4 := M.out.c.cell 4
      have m5 := M.out.c.cell 5
      have r0 := M.out.r.cell 0
      have r1 := M.out.r.cell 1
      have r2 := M.out.r.cell 2
      have r3 := M.out.r.cell 3
      have r4 := M.out.r.cell 4
      have r5 := M.out.r.cell 5
      simp at m0 m1 m2 m3 m4 m5 r0 r1 r2 r3 r4 r5
      have f0 := M.out.r.frozen 0
      have f1 := M.out.r.frozen 1
      have f2 := M.out.r.frozen 2
      have f3 := M.out.r.frozen 3
      have f4 := M.out.r.frozen 4
      have f5 := M.out.r.frozen 5
      have q3 : w.heap.size + 1 < wr.heap.size := by omega
      clear htin
      go_wp2
      have same : ∀ g, w.heap.size + 3 ≤ g → g < w6.heap.size → wr.heap[g]? = w6.heap[g]? := fun g h1 h2 => BB.out.block g h2 (by omega)
      have up : ∀ b, w.heap.size + 3 ≤ b ∧ b < w6.heap.size → w.heap.size ≤ b ∧ b < ((((((wr.setCell ⟨w.heap.size + 1, 0, none⟩ (.int .i64 S.workers)).setCell ⟨w.heap.size + 1, 1, none⟩ (.int .i64 S.start)).setCell ⟨w.heap.size + 1, 2, none⟩ (.slice tv' S.threads.length tc')).setCell ⟨w.heap.size + 1, 3, none⟩ (.slice mv' S.mutexes.length mc')).setCell ⟨w.heap.size + 1, 4, none⟩ (.slice sv' S.sems.length sc')).setCell ⟨w.heap.size + 1, 5, none⟩ (.slice qv' S.queues.length qc')).heap.size := by
        intro b hb
        rw [six_size]
        omega
      refine bodyPost_ret (v := .agg #[.int .i64 S.workers, .int .i64 S.start, .slice tv' S.threads.length tc', .slice mv' S.mutexes.length mc', .slice sv' S.sems.length sc', .slice qv' S.queues.length qc']) ?_ rfl ⟨tv', mv', sv', qv', tc', mc', sc', qc', rfl, ⟨?_, ?_, ?_, ?_⟩, ⟨NT.out, NM.out, NS.out, NQ.out⟩, six_below M.out.below _ (by omega) _ _ _ _ _ _⟩
      · simp [results, Tryz.results15, go_sem, r0, r1, r2, r3, r4, r5]
      · exact (HT.out _ (fun g h1 h2 => six_same _ _ _ _ _ _ _ _ _ (by omega))).mono (fun b hb => ⟨by omega, hb.2⟩)
      · exact ((P6mv.out.newF A6mv.out).same (fun b hb => (six_same _ _ _ _ _ _ _ _ _ (by omega)).trans (same b hb.1 hb.2))).mono up
      · exact ((P6sv.out.newF A6sv.out).same (fun b hb => (six_same _ _ _ _ _ _ _ _ _ (by omega)).trans (same b hb.1 hb.2))).mono up
      · exact ((P6qv.out.newF A6qv.out).same (fun b hb => (six_same _ _ _ _ _ _ _ _ _ (by omega)).trans (same b hb.1 hb.2))).mono up

end Go.Proofs.YthnjabnlocpoaaaGreat

/-
  Walks over package donateref: release.
-/
namespace Go.Proofs.YthnjabnlocpoaaaGreat
open Go.RowKit

set_option maxHeartbeats 1000000 in
theorem rRelease_any (F : Nat → Prop) (w : World) (sb : Nat) (h : RH) (s : RS) (m : RMem F w sb h s) (g : RGood s) (hnx : s.next ≤ 4611686018427387000) :
    Calls Tryz.prog 37 #[.pointer (some ⟨sb, 0, none⟩)] w fun e w' => e = .returned (.tuple #[]) ∧ RMem F w' sb h (R.release s) ∧ Only [sb, h.gT] w w' := by
  have hlen := g.len
  have hfew := g.few
  have G := hid g
  have M0 := hid m
  have HL := hid hlen
  clear g m hlen
  go_enter Tryz.func37, Tryz.ntmps37
  go_wp2
  go_loopw [2] (fun i wr => ∃ k : Nat, k ≤ s.T.length ∧ i = .int .i64 k ∧ RMem F wr sb h (R.releaseTo s k) ∧ Only [sb, h.gT] w wr) (fun i _ => s.T.length - (intOf i).toNat)
  case atStart => exact ⟨0, Nat.zero_le _, rfl, M0.out, Only.refl _ _⟩
  case round =>
    obtain ⟨k, hk, rfl, hm, ho⟩ := hrel
    have M := hid hm
    have O := hid ho
    have c8 := hm.blk.cell 8
    simp [rsCells, R.releaseTo_len] at c8
    clear hm ho
    by_cases hlt : k < s.T.length
    · have hlt2 : k < s.set.threads.length := by have := HL.out; omega
      have hoff := G.out.off s.set.threads[k] (List.getElem_mem hlt2)
      go_wp2_with fail
      refine (rNumber_any F wr sb h _ M.out k (by rw [R.releaseTo_set]; exact hlt2) 0 (by decide) (by decide) (by rw [R.releaseTo_set]; exact G.out.now0) (by rw [R.releaseTo_set, R.releaseTo_now]; exact G.out.now1) (by rw [R.releaseTo_now]; exact G.out.now2) (by simp only [R.releaseTo_set]; exact ⟨hoff.1, hoff.2.1, hoff.2.2.1, hoff.2.2.2.1⟩)).mono ?_
      rintro e w1 ⟨rfl, hb1⟩
      have hm1 := M.out.below hb1
      have ho1 := O.out.via hb1
      have hkl : k < (R.releaseTo s k).T.length := by rw [R.releaseTo_len]; exact hlt
      have nb : -1 ≤ R.numberAt (R.releaseTo s k) k 0 ∧ R.numberAt (R.releaseTo s k) k 0 ≤ 1000000000 := by
        unfold R.numberAt
        simp only [R.releaseTo_set, R.releaseTo_now]
        have e : s.set.threads.getD k P3.none0 = s.set.threads[k] := by simp [List.getD, hlt2]
        rw [e]
        have := G.out.now0
        have := G.out.now1
        have := G.out.now2
        exact R.number_bd _ _ hoff.2.2.1 (by omega)
      have estep : R.releaseTo s (k + 1) = R.releaseOne (R.releaseTo s k) k := rfl
      have HE := hid estep
      have hnk := R.releaseTo_next s k
      have hn0 := G.out.nxt0
      have hlen1 := R.releaseTo_len s k
      have HLn := hid hlen1
      clear estep hlen1 hoff M O hb1 c8
      generalize hsk : R.releaseTo s k = sk at *
      have HSK := hid hsk
      clear hsk
      have c8 := hm1.blk.cell 8
      simp [rsCells] at c8
      have a4 := hm1.tcell hkl 4 (by decide)
      have a5 := hm1.tcell hkl 5 (by decide)
      simp [rtCells] at a4 a5
      have f4 := hm1.tfrozen (k * 13 + 4)
      have M1 := hid hm1
      have O1 := hid ho1
      clear hm1 ho1
      generalize hnum : R.numberAt sk k 0 = num at *
      have HN := hid hnum
      clear hnum
      obtain ⟨nb0, nb1⟩ := nb
      by_cases hpos : 0 ≤ num
      · go_wp2_with fail
        go_quiet (fail)
        have hm2 := (M1.out.drewN nq).setT hkl (j := 4) (by decide) (.int .i64 (num + 1)) (fun x => { x with rel := num + 1 }) rfl
        have ho2 : Only [sb, h.gT] w ((w1.drewN nq).setCell ⟨h.gT, k * 13 + 4, none⟩ (.int .i64 (num + 1))) := (O1.out.drewN nq).setCell (.inl (by simp)) _
        have M2 := hid hm2
        have O2 := hid ho2
        clear hm2 ho2
        have eth : R.th sk.T k = sk.T[k] := by simp [R.th, List.getD, hkl]
        have HT := hid eth
        clear eth
        cases hidl : (sk.T[k].rel == sk.T[k].ended)
        · have HI := hid hidl
          go_wp2
          go_roundw
          case rel =>
            refine ⟨k + 1, by omega, by go_num, ?_, O2.out⟩
            rw [HE.out]
            unfold R.releaseOne
            have hne : ¬ sk.T[k].rel = sk.T[k].ended := by simpa using HI.out
            rw [HN.out, if_pos hpos, HT.out, if_neg hne]
            exact M2.out
          case measure => simp [intOf]; omega
        · have HI := hid hidl
          go_wp2_with fail
          refine (rWake_any F _ sb h _ M2.out k (by simpa using hkl) (by simp; rw [HLn.out]; exact hfew) (by show 0 ≤ sk.next; omega) (by show sk.next ≤ _; omega)).mono ?_
          rintro e w3 ⟨rfl, hm3, ho3⟩
          have M3 := hid hm3
          have O3 := hid (O2.out.trans ho3)
          clear hm3 ho3
          go_wp2
          go_roundw
          case rel =>
            refine ⟨k + 1, by omega, by go_num, ?_, O3.out⟩
            rw [HE.out]
            unfold R.releaseOne
            have he : sk.T[k].rel = sk.T[k].ended := by simpa using HI.out
            rw [HN.out, if_pos hpos, HT.out, if_pos he]
            exact M3.out
          case measure => simp [intOf]; omega
      · go_wp2
        go_roundw
        case rel =>
          refine ⟨k + 1, by omega, by go_num, ?_, O1.out⟩
          rw [HE.out]
          unfold R.releaseOne
          rw [HN.out, if_neg (by omega)]
          exact M1.out
        case measure => simp [intOf]; omega
    · go_wp2
      go_end0
      have e : k = s.T.length := by omega
      subst e
      exact ⟨rfl, M.out, O.out⟩

end Go.Proofs.YthnjabnlocpoaaaGreat
