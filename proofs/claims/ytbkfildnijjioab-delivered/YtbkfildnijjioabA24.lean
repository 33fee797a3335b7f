import Derived.Test.YtbkfildnijjioabA22
import Derived.Test.YtbkfildnijjioabA23
import Derived.Test.YtbkfildnijjioabA21
import Derived.BigQuiet
import Derived.Test.YtbkfildnijjioabA01
/-
  Walks over package donatekeep: gets, boxes.
-/
namespace Go.Proofs.Ytbkfildnijjioab
open Go.RowKit
/-- Lists that are only read, in a list of the law's own. -/
def boxV (bs : List (List Int)) (vs : List (Option Addr × Nat)) : List Value := (List.range bs.length).map fun j : Nat => Value.slice (vs.getD j (none, 0)).1 (bs.getD j []).length (vs.getD j (none, 0)).2
structure BX (N : Nat) (w : World) (v : Value) (bs : List (List Int)) (vs : List (Option Addr × Nat)) : Prop where
  len : vs.length = bs.length
  row : w.ownsRow N 25 1 v bs.length (boxV bs vs)
  each : ∀ j, j < bs.length → IL N w (vs.getD j (none, 0)).1 (vs.getD j (none, 0)).2 (bs.getD j [])
def BB (v : Value) (vs : List (Option Addr × Nat)) (b : Nat) : Prop := v.ownBlock = some b ∨ ∃ j, j < vs.length ∧ blkOf (vs.getD j (none, 0)).1 = some b
section
variable {N : Nat} {w w' : World} {v : Value} {bs : List (List Int)} {vs : List (Option Addr × Nat)}
theorem BX.frame : FrameM (BB v vs) (fun w => BX N w v bs vs) := by
  intro w w' m hs hz
  exact ⟨m.len, ownsRow_same m.row fun g hg => hs g (.inl hg), fun j hj => (m.each j hj).frame fun b hb => hs b (.inr ⟨j, by rw [m.len]; exact hj, hb⟩)⟩
theorem BX.below (m : BX N w v bs vs) (hb : Below w.heap.size w w') : BX N w' v bs vs := ⟨m.len, wrow_keep m.row hb, fun j hj => (m.each j hj).below hb⟩
theorem BX.ge (m : BX N w v bs vs) (b : Nat) (h : BB v vs b) : N ≤ b ∧ b < w.heap.size := by
  rcases h with h | ⟨j, hj, h⟩
  · have := ownsRow_block m.row h
    exact ⟨this.1, this.2.1⟩
  · exact (m.each j (by rw [← m.len]; exact hj)).lt b h
theorem BX.at {g cap n : Nat} (m : BX N w (.slice (some ⟨g, 0, none⟩) n cap) bs vs) (j : Nat) (hj : j < bs.length) : w.cell? ⟨g, j, none⟩ = some (.slice (vs.getD j (none, 0)).1 (bs.getD j []).length (vs.getD j (none, 0)).2) := by
  obtain ⟨ao, cap', e, _, ha⟩ := owns_cells m.row
  simp at e
  obtain ⟨g', e2, _, _, _, hc⟩ := ha ⟨g, 0, none⟩ e.1.symm
  simp at e2
  subst e2
  rw [hc j (by omega)]
  simp [boxV, hj]
theorem BX.put (m : BX N w v bs vs) {p : Addr} (u : Value) (hp : ¬ BB v vs p.block) : BX N (w.setCell p u) v bs vs := by
  refine BX.frame w _ m (fun b hb => Below.heap_setCell _ _ _ _ (fun e => ?_)) (by simp [World.setCell])
  exact hp (e ▸ hb)
/-- One of them is another now. -/
theorem BX.set {g cap : Nat} (m : BX N w (.slice (some ⟨g, 0, none⟩) bs.length cap) bs vs) (j : Nat) (hj : j < bs.length) (l : List Int) (x : Option Addr × Nat) (hx : IL N w x.1 x.2 l) : BX N (w.setCell ⟨g, j, none⟩ (.slice x.1 l.length x.2)) (.slice (some ⟨g, 0, none⟩) bs.length cap) (bs.set j l) (vs.set j x) := by
  have hr := (m.row.stored j (.slice x.1 l.length x.2)).1
  have hjv : j < vs.length := by rw [m.len]; exact hj
  have keep : ∀ (ao : Option Addr) (c : Nat) (l : List Int), IL N w ao c l → IL N (w.setCell ⟨g, j, none⟩ (.slice x.1 l.length x.2)) ao c l := by
    intro ao c l h
    refine h.frame fun b hb => Below.heap_setCell _ _ _ _ (fun e => ?_)
    have e' : b = g := e
    subst e'
    cases ao with
    | none => cases hb
    | some a =>
      obtain ⟨g', o, cur, rfl, _, h2, _⟩ := h.some_ a rfl
      have e3 : g' = b := Option.some.inj hb
      subst e3
      obtain ⟨_, _, cur', hc'⟩ := ownsRow_block m.row (g := g') rfl
      rw [h2] at hc'
      cases hc'
  refine ⟨by simp [m.len], ?_, fun i hi => ?_⟩
  · rw [List.length_set]
    have e : (boxV bs vs).set j (.slice x.1 l.length x.2) = boxV (bs.set j l) (vs.set j x) := by
      apply List.ext_getElem
      · simp [boxV]
      · intro i h1 h2
        have hi : i < bs.length := by simpa [boxV] using h1
        have eg : ∀ (bs : List (List Int)) (vs : List (Option Addr × Nat)) (h : i < (boxV bs vs).length), (boxV bs vs)[i] = Value.slice (vs.getD i (none, 0)).1 (bs.getD i []).length (vs.getD i (none, 0)).2 := fun bs vs h => by simp [boxV]
        rw [List.getElem_set, eg, eg]
        by_cases e : j = i
        · subst e
          simp [List.getD, hj, hjv]
        · simp [List.getD, e]
    rw [← e]
    exact hr
  · have hi' : i < bs.length := by simpa using hi
    by_cases e : j = i
    · subst e
      have e1 : (vs.set j x).getD j (none, 0) = x := by simp [List.getD, hjv]
      have e2 : (bs.set j l).getD j [] = l := by simp [List.getD, hj]
      rw [e1, e2]
      exact keep _ _ _ hx
    · have e1 : (vs.set j x).getD i (none, 0) = vs.getD i (none, 0) := by simp [List.getD, e]
      have e2 : (bs.set j l).getD i [] = bs.getD i [] := by simp [List.getD, e]
      rw [e1, e2]
      exact (m.each i hi').frame fun b hb => Below.heap_setCell _ _ _ _ (fun e5 => by
        have e' : b = g := e5
        subst e'
        have h9 := m.each i hi'
        generalize (vs.getD i (none, 0)).1 = ao at *
        cases ao with
        | none => cases hb
        | some a =>
          obtain ⟨g', o, cur, rfl, _, h2, _⟩ := h9.some_ a rfl
          have e3 : g' = b := Option.some.inj hb
          subst e3
          obtain ⟨_, _, cur', hc'⟩ := ownsRow_block m.row (g := g') rfl
          rw [h2] at hc'
          cases hc')
end
section
variable {PK : KP} {B : Nat} {w : World} {wb kb : Nat} {P : Nat → Prop} {h : WH} {d : WD} {s s0 : RS}
set_option maxRecDepth 100000 in
set_option maxHeartbeats 4000000 in
theorem wGets_any (c : CAll PK) (k : KWS PK B w wb kb P h d s) (hw : d.was = viewsD s0) (hl : s0.T.length = s.T.length) (N m : Nat) (al : Option Addr) (cl : Nat) (vs : List Value) (ll : LL N w (.slice al m cl) (waitsTo s0 3 m) vs)
    (hia : d.who ≠ -1 → d.i.op = 10 → 0 ≤ d.i.a ∧ d.i.a < (m : Int)) (gs : ∀ t, t < s.T.length → (viewD s t).got = (viewD s0 t).got ∨ (d.who = (t : Int) ∧ d.i.op = 11 ∧ d.code = 0) ∨ (d.who ≠ -1 ∧ d.i.op = 10 ∧ ∃ h : 0 < (R.waiting s0 3 d.i.a).length, (R.waiting s0 3 d.i.a)[0] = (t : Int))) :
    Calls Try.prog 29 #[.pointer (some ⟨wb, 0, none⟩), .slice al m cl] w fun e w' => e = .returned (.bool true) ∧ Below w.heap.size w w' := by
  have hfew := k.i.good.few
  have K := hid k
  have y17 := k.k.m.blk.cell 17
  have y18 := k.k.m.blk.cell 18
  have y19 := k.k.m.blk.cell 19
  have y21 := k.k.m.blk.cell 21
  simp [wCells] at y17 y18 y19 y21
  have GS := hid gs
  have LLH := hid ll
  have HW := hid hw
  have HLL := hid hl
  have HIA := hid hia
  clear k gs ll hw hl hia
  go_enter Try.func29, Try.ntmps29
  have hcs : d.who = -1 ∨ (d.who ≠ -1 ∧ d.i.op = 11 ∧ d.code = 0) ∨ (d.who ≠ -1 ∧ d.i.op = 11 ∧ d.code ≠ 0) ∨ (d.who ≠ -1 ∧ d.i.op = 10 ∧ 0 < (R.waiting s0 3 d.i.a).length) ∨ (d.who ≠ -1 ∧ d.i.op = 10 ∧ ¬ 0 < (R.waiting s0 3 d.i.a).length) ∨ (d.who ≠ -1 ∧ d.i.op ≠ 11 ∧ d.i.op ≠ 10) := by omega
  rcases hcs with h1 | ⟨h1, h11, hc⟩ | ⟨h1, h11, hc⟩ | ⟨h1, h10, hlen⟩ | ⟨h1, h10, hlen⟩ | ⟨h1, h11, h10⟩
  case' inl =>
    rw [h1] at y17
    have HG : Hid (∀ t : Nat, t < s.T.length → (t : Int) ≠ -1 → (viewD s t).got = (viewD s0 t).got) := hid (fun t ht _ => by
      rcases GS.out t ht with e | ⟨e, _⟩ | ⟨e, _⟩
      · exact e
      · exfalso; omega
      · exact absurd h1 e)
    obtain ⟨G, hG⟩ : ∃ x : Int, Hid ((-1 : Int) = x) := ⟨_, hid rfl⟩
    rw [hG.out] at HG
    clear h1
    go_upto_region 6 with fail
    rw [hG.out]
    clear hG
  case' inr.inl =>
    have b1 : (d.who != -1) = true := by simpa using h1
    rw [h11] at y18
    rw [hc] at y21
    have HG : Hid (∀ t : Nat, t < s.T.length → (t : Int) ≠ d.who → (viewD s t).got = (viewD s0 t).got) := hid (fun t ht hne => by
      rcases GS.out t ht with e | ⟨e, _⟩ | ⟨_, e, _⟩
      · exact e
      · exact absurd e.symm hne
      · omega)
    generalize d.who = G at *
    clear h1 h11 hc
    go_upto_region 6 with fail
  case' inr.inr.inl =>
    have b1 : (d.who != -1) = true := by simpa using h1
    rw [h11] at y18
    have HG : Hid (∀ t : Nat, t < s.T.length → (t : Int) ≠ -1 → (viewD s t).got = (viewD s0 t).got) := hid (fun t ht _ => by
      rcases GS.out t ht with e | ⟨_, _, e⟩ | ⟨_, e, _⟩
      · exact e
      · exact absurd e hc
      · omega)
    have bc : (d.code == 0) = false := by simpa using hc
    obtain ⟨G, hG⟩ : ∃ x : Int, Hid ((-1 : Int) = x) := ⟨_, hid rfl⟩
    rw [hG.out] at HG
    generalize d.who = who at *
    generalize d.code = cd at *
    clear h1 h11 hc
    go_upto_region 6 with fail
    rw [hG.out]
    clear hG
  case' inr.inr.inr.inl =>
    have b1 : (d.who != -1) = true := by simpa using h1
    rw [h10] at y18
    obtain ⟨a0, a1⟩ := HIA.out h1 h10
    obtain ⟨ia, hia⟩ := Int.eq_ofNat_of_zero_le a0
    rw [hia] at y19
    have hil : ia < m := by omega
    have hilI : (ia : Int) < (m : Int) := by omega
    obtain ⟨gl, hal⟩ : ∃ gl, al = some ⟨gl, 0, none⟩ := by
      obtain ⟨ao, cap, e, hn, ha⟩ := owns_cells LLH.out.row
      rw [waitsTo_length] at e hn
      simp at e
      cases ao with
      | none => have := (hn rfl).1; omega
      | some ad =>
        obtain ⟨gl, e2, _, _, _, _⟩ := ha ad rfl
        exact ⟨gl, by rw [e.1, e2]⟩
    subst hal
    obtain ⟨aj, cj, zlj⟩ := LLH.out.at ia (by rw [waitsTo_length]; exact hil)
    have hrow := LLH.out.at_row zlj
    have egn := waitsTo_get s0 3 m ia hil
    rw [egn] at zlj hrow
    rw [hia] at hlen
    obtain ⟨gz, cz, hvz, _, zz, _⟩ := row_at hrow hlen
    simp at hvz
    obtain ⟨hvz1, _⟩ := hvz
    subst hvz1
    have z0 := zz 0 hlen
    have HG : Hid (∀ t : Nat, t < s.T.length → (t : Int) ≠ (R.waiting s0 3 (ia : Int))[0] → (viewD s t).got = (viewD s0 t).got) := hid (fun t ht hne => by
      rcases GS.out t ht with e | ⟨_, e, _⟩ | ⟨_, _, hh, e⟩
      · exact e
      · omega
      · exfalso
        apply hne
        simp only [hia] at e
        exact e.symm)
    have hlI : (0 : Int) < ((R.waiting s0 3 (ia : Int)).length : Int) := by omega
    clear zz egn hrow
    generalize (R.waiting s0 3 (ia : Int))[0] = G at *
    generalize (R.waiting s0 3 (ia : Int)).length = ln at *
    generalize d.who = who at *
    clear h1 h10 hia
    go_upto_region 6 with fail
  case' inr.inr.inr.inr.inl =>
    have b1 : (d.who != -1) = true := by simpa using h1
    rw [h10] at y18
    obtain ⟨a0, a1⟩ := HIA.out h1 h10
    obtain ⟨ia, hia⟩ := Int.eq_ofNat_of_zero_le a0
    rw [hia] at y19
    have hil : ia < m := by omega
    have hilI : (ia : Int) < (m : Int) := by omega
    obtain ⟨gl, hal⟩ : ∃ gl, al = some ⟨gl, 0, none⟩ := by
      obtain ⟨ao, cap, e, hn, ha⟩ := owns_cells LLH.out.row
      rw [waitsTo_length] at e hn
      simp at e
      cases ao with
      | none => have := (hn rfl).1; omega
      | some ad =>
        obtain ⟨gl, e2, _, _, _, _⟩ := ha ad rfl
        exact ⟨gl, by rw [e.1, e2]⟩
    subst hal
    obtain ⟨aj, cj, zlj⟩ := LLH.out.at ia (by rw [waitsTo_length]; exact hil)
    have hrow := LLH.out.at_row zlj
    have egn := waitsTo_get s0 3 m ia hil
    rw [egn] at zlj hrow
    rw [hia] at hlen
    have HG : Hid (∀ t : Nat, t < s.T.length → (t : Int) ≠ -1 → (viewD s t).got = (viewD s0 t).got) := hid (fun t ht _ => by
      rcases GS.out t ht with e | ⟨_, e, _⟩ | ⟨_, _, hh, e⟩
      · exact e
      · omega
      · exfalso
        rw [hia] at hh
        exact hlen hh)
    obtain ⟨G, hG⟩ : ∃ x : Int, Hid ((-1 : Int) = x) := ⟨_, hid rfl⟩
    rw [hG.out] at HG
    have hl0 : (R.waiting s0 3 (ia : Int)).length = 0 := by omega
    rw [hl0] at zlj
    generalize d.who = who at *
    clear h1 h10 egn hrow hia hlen hl0
    go_upto_region 6 with fail
    rw [hG.out]
    clear hG
  case' inr.inr.inr.inr.inr =>
    have b1 : (d.who != -1) = true := by simpa using h1
    have b11 : (d.i.op == 11) = false := by simpa using h11
    have b10 : (d.i.op == 10) = false := by simpa using h10
    have HG : Hid (∀ t : Nat, t < s.T.length → (t : Int) ≠ -1 → (viewD s t).got = (viewD s0 t).got) := hid (fun t ht _ => by
      rcases GS.out t ht with e | ⟨_, e, _⟩ | ⟨_, e, _⟩
      · exact e
      · exact absurd e h11
      · exact absurd e h10)
    obtain ⟨G, hG⟩ : ∃ x : Int, Hid ((-1 : Int) = x) := ⟨_, hid rfl⟩
    rw [hG.out] at HG
    generalize d.who = who at *
    generalize d.i.op = op at *
    clear h1 h11 h10
    go_upto_region 6 with fail
    rw [hG.out]
    clear hG
  all_goals
    clear y17 y18 y19 y21 GS HIA
    go_wp2
    go_loopw [6] (fun i wr => ∃ t : Nat, t ≤ s.T.length ∧ i = .int .i64 t ∧ Below w.heap.size w wr) (fun i _ => s.T.length - (intOf i).toNat)
    case atStart => exact ⟨0, Nat.zero_le _, rfl, Below.refl _ _⟩
    case round =>
      obtain ⟨t, ht, rfl, hb⟩ := hrel
      have HB := hid hb
      have KT := hid (K.out.below c.fr hb)
      clear hb
      obtain ⟨gv, cv, cw, hgv, zv⟩ := KT.out.view
      by_cases htl : t < s.T.length
      · have htI : (t : Int) < (s.T.length : Int) := by omega
        obtain ⟨ga, ca, cwa, hga, za⟩ := KT.out.was HW.out HLL.out
        have a5 := za t htl 5 (by decide)
        have b5 := zv t htl 5 (by decide)
        simp [vCells] at a5 b5
        have hg := HG.out t htl
        clear za zv
        by_cases hne : (t : Int) = G
        · have bn : ((t : Int) != G) = false := by simpa using hne
          generalize (viewD s t).got = g1 at *
          generalize (viewD s0 t).got = g2 at *
          clear hne hg
          go_wp2_with fail
          go_quiet (fail)
          go_wp2
          go_roundw
          case rel => exact ⟨t + 1, by omega, by go_num, bdrewN HB.out _⟩
          case measure => simp [intOf]; omega
        · have bn : ((t : Int) != G) = true := by simpa using hne
          have hgg := hg hne
          rw [hgg] at b5
          generalize (viewD s0 t).got = g2 at *
          have bg : (g2 != g2) = false := by simp
          clear hne hg hgg
          go_wp2_with fail
          go_quiet (fail)
          go_wp2
          go_roundw
          case rel => exact ⟨t + 1, by omega, by go_num, bdrewN HB.out _⟩
          case measure => simp [intOf]; omega
      · go_wp2
        go_ret
        exact ⟨rfl, HB.out⟩
end
end Go.Proofs.Ytbkfildnijjioab

/-
  Walks over package donatekeep: boxes.
-/
namespace Go.Proofs.Ytbkfildnijjioab
open Go.RowKit
section
variable {PK : KP} {B : Nat} {w : World} {wb kb : Nat} {P : Nat → Prop} {h : WH} {d : WD} {s : RS}
theorem some_of_row {N : Nat} {w : World} {e : TypeId} {n cap : Nat} {ao : Option Addr} {xs : List Value} (h : w.ownsRow N e 1 (.slice ao n cap) n xs) (hn : n ≠ 0) : ∃ g, ao = some ⟨g, 0, none⟩ := by
  obtain ⟨a, c, e, hnn, ha⟩ := owns_cells h
  simp at e
  cases a with
  | none => exact absurd (hnn rfl).1 hn
  | some ad =>
    obtain ⟨g, e2, _, _, _, _⟩ := ha ad rfl
    exact ⟨g, by rw [e.1, e2]⟩
set_option maxRecDepth 100000 in
set_option maxHeartbeats 4000000 in
theorem wBoxes_any (c : CAll PK) (k : KWS PK B w wb kb P h d s) (m : Nat) (hm : s.box.length = m) (N N' : Nat) (aw : Option Addr) (cw : Nat) (vs : List (Option Addr × Nat)) (bx : BX N w (.slice aw m cw) s.box vs) (al : Option Addr) (cl : Nat) (ws : List Value) (ll : LL N' w (.slice al m cl) (waitsTo s 3 m) ws) :
    Calls Try.prog 27 #[.pointer (some ⟨wb, 0, none⟩), .slice aw m cw, .slice al m cl] w fun e w' => e = .returned (.bool true) ∧ Below w.heap.size w w' := by
  have K := hid k
  have ES0 := hid k.wd.co.set
  have BXH := hid bx
  have LLH := hid ll
  have hm4 : m ≤ 4 := by have h1 := k.i.bnd.qs; have h2 := (ok_sizes (s := s) k.i.ok).2; omega
  clear k bx ll
  by_cases hm0 : m = 0
  · have HM0 := hid hm0
    clear hm0
    go_enter Try.func27, Try.ntmps27
    go_wp2
    go_loopw [7] (fun i wr => ∃ q : Nat, q ≤ m ∧ i = .int .i64 q ∧ Below w.heap.size w wr) (fun i _ => m - (intOf i).toNat)
    case atStart => exact ⟨0, Nat.zero_le _, rfl, Below.refl _ _⟩
    case round =>
      obtain ⟨q, hq, rfl, hb⟩ := hrel
      have HB := hid hb
      have KQ := hid (K.out.below c.fr hb)
      have BXQ := hid (BXH.out.below hb)
      have LLQ := hid (LLH.out.below hb)
      clear hb
      by_cases hql : q < m
      · exact absurd hql (by have := HM0.out; omega)
      · have e : m = q := by omega
        subst e
        go_wp2
        go_ret
        exact ⟨rfl, HB.out⟩
  · obtain ⟨gw, hgw⟩ := some_of_row (by have := BXH.out.row; rw [hm] at this; exact this) hm0
    obtain ⟨gl, hgl⟩ := some_of_row (by have := LLH.out.row; rw [waitsTo_length] at this; exact this) hm0
    subst hgw hgl
    go_enter Try.func27, Try.ntmps27
    go_wp2
    go_loopw [7] (fun i wr => ∃ q : Nat, q ≤ m ∧ i = .int .i64 q ∧ Below w.heap.size w wr) (fun i _ => m - (intOf i).toNat)
    case atStart => exact ⟨0, Nat.zero_le _, rfl, Below.refl _ _⟩
    case round =>
      obtain ⟨q, hq, rfl, hb⟩ := hrel
      have HB := hid hb
      have KQ := hid (K.out.below c.fr hb)
      have BXQ := hid (BXH.out.below hb)
      have LLQ := hid (LLH.out.below hb)
      clear hb
      by_cases hql : q < m
      · have hqI : (q : Int) < (m : Int) := by omega
        have hqb : q < s.box.length := by omega
        have y6 := KQ.out.k.m.blk.cell 6
        simp [wCells] at y6
        have C1 := hid (c.msg P wr kb s KQ.out.k.pk (q : Int))
        have ev : R.boxL s (q : Int) = s.box.getD q [] := by unfold R.boxL; rw [if_pos (by omega)]; rfl
        have ee : R.boxE s (q : Int) = 0 := by unfold R.boxE; rw [if_pos (by omega)]
        rw [ev, ee] at C1
        have qb := KQ.out.i.bnd.qb q hqb
        have qk := ok_queue (s := s) KQ.out.i.ok q (by rw [← KQ.out.i.bnd.qs]; exact hqb)
        have egd : s.box.getD q [] = s.box[q] := by simp [List.getD, hqb]
        rw [← egd] at qb
        obtain ⟨_, tk, wt, _, ax⟩ := c.aux KQ.out.k.pk
        have DRY := hid (mail_dry (d := d) KQ.out.x.toExt0 ax KQ.out.snc q)
        have hsl : q < s.set.queues.length := by rw [← KQ.out.i.bnd.qs]; exact hqb
        have ILQ := BXQ.out.each q (by omega)
        have zw := BXQ.out.at q (by omega)
        obtain ⟨ax1, hax1⟩ : ∃ y, Hid ((vs.getD q (none, 0)).1 = y) := ⟨_, hid rfl⟩
        obtain ⟨cx1, hcx1⟩ : ∃ y, Hid ((vs.getD q (none, 0)).2 = y) := ⟨_, hid rfl⟩
        rw [hax1.out, hcx1.out] at zw ILQ
        clear ev ee egd ax
        obtain ⟨L, hL⟩ : ∃ y, Hid (s.box.getD q [] = y) := ⟨_, hid rfl⟩
        rw [hL.out] at C1 qb DRY zw ILQ
        have IL1 := hid ILQ
        obtain ⟨aj, cj, zlj⟩ := LLQ.out.at q (by rw [waitsTo_length]; exact hql)
        rw [waitsTo_get s 3 m q hql] at zlj
        obtain ⟨ln, hln⟩ : ∃ x, Hid ((R.waiting s 3 (q : Int)).length = x) := ⟨_, hid rfl⟩
        rw [hln.out] at zlj DRY
        have hgw := (ownsRow_block BXQ.out.row (g := gw) rfl).2.1
        have hgl := (ownsRow_block LLQ.out.row (g := gl) rfl).2.1
        clear ILQ
        go_wp2_with fail
        refine C1.out.mono ?_
        rintro e w3 ⟨v, rfl, hr3, hb3⟩
        obtain ⟨al3, cl3, rfl, _, hi3, _⟩ := IntsIn.of_owns hr3
        have HI3 := hid hi3
        have K3 := hid (KQ.out.below c.fr hb3)
        have IL3 := hid (IL1.out.below hb3)
        have HB3 := hid (via HB.out HB.out.size hb3)
        have zw := (hb3.cell (p := ⟨gw, q, none⟩) hgw).trans zw
        have zlj := (hb3.cell (p := ⟨gl, q, none⟩) hgl).trans zlj
        clear hr3 hb3 C1 y6 hi3
        go_wp2_with fail
        refine (wSameInts_eq w3 al3 ax1 cl3 cx1 L HI3.out IL3.out.ints (by omega)).mono ?_
        rintro e w4 ⟨rfl, nn, rfl⟩
        have zlj : (w3.drewN nn).cell? ⟨gl, q, none⟩ = some (.slice aj ln cj) := zlj
        have K4 := hid (K3.out.below c.fr (bdrewN (Below.refl _ _) nn))
        have HB4 := hid (bdrewN HB3.out nn)
        clear zw K3 HB3 HI3 IL3
        generalize w3.drewN nn = w4 at *
        have y5 := K4.out.k.m.blk.cell 5
        simp [wCells] at y5
        have hsm := K4.out.k.m.set
        rw [ES0.out] at y5 hsm
        obtain ⟨bm, om, ham, hbm, z0⟩ := hsm.queues q hsl
        rw [ham] at y5
        have epr : s.set.queues.getD q 0 = s.set.queues[q] := by simp [List.getD, hsl]
        rw [← epr] at z0
        have hslI : (q : Int) < (s.set.queues.length : Int) := by omega
        generalize s.set.queues.getD q 0 = room at *
        have g1 : decide (room < (L.length : Int)) = false := by rw [decide_eq_false_iff_not]; omega
        clear epr hsm
        by_cases hpos : 0 < L.length
        · have hl0 := DRY.out hpos
          subst hl0
          have hpI : (0 : Int) < (L.length : Int) := by omega
          go_wp2
          go_roundw
          case rel => exact ⟨q + 1, by omega, by go_num, HB4.out⟩
          case measure => simp [intOf]; omega
        · have hpos' : decide (0 < L.length) = false := by simpa using hpos
          clear hpos
          go_wp2
          go_roundw
          case rel => exact ⟨q + 1, by omega, by go_num, HB4.out⟩
          case measure => simp [intOf]; omega
      · have e : m = q := by omega
        subst e
        go_wp2
        go_ret
        exact ⟨rfl, HB.out⟩
end
end Go.Proofs.Ytbkfildnijjioab

/-
  Walks over package donatekeep: tokens.
-/
namespace Go.Proofs.Ytbkfildnijjioab
open Go.RowKit
section
variable {PK : KP} {B : Nat} {w : World} {wb kb : Nat} {P : Nat → Prop} {h : WH} {d : WD} {s : RS}
set_option maxRecDepth 100000 in
set_option maxHeartbeats 4000000 in
theorem wTokens_any (c : CAll PK) (k : KWS PK B w wb kb P h d s) (a : Nat) (ha : a < s.set.sems.length) (n cc : Int) (hn0 : 0 ≤ n) (hn1 : n ≤ 1000) (N : Nat) (ar : Option Addr) (cr : Nat) (L : List Int) (hL : w.ownsRow N 3 1 (.slice ar L.length cr) L.length (intCells L)) (hLl : L.length ≤ 1000)
    (tp : TokP d.who d.i d.code a n (s.set.sems.getD a R.pair0).y L s.T.length (viewD s) cc) :
    Calls Try.prog 26 #[.pointer (some ⟨wb, 0, none⟩), .int .i64 a, .int .i64 n, .slice ar L.length cr] w fun e w' => e = .returned (.tuple #[.int .i64 cc, .bool true]) ∧ Below w.heap.size w w' := by
  have hfew := k.i.good.few
  have K := hid k
  have ROW := hid hL
  have ES0 := hid k.wd.co.set
  have y17 := k.k.m.blk.cell 17
  have y18 := k.k.m.blk.cell 18
  have y19 := k.k.m.blk.cell 19
  have y20 := k.k.m.blk.cell 20
  have y21 := k.k.m.blk.cell 21
  simp [wCells] at y17 y18 y19 y20 y21
  have TP := hid tp
  clear k hL tp
  go_enter Try.func26, Try.ntmps26
  rcases TP.out with ⟨h1, h2⟩ | ⟨hw, hia, h1⟩
  · subst h2
    by_cases hw : d.who = -1
    · rw [hw] at y17
      clear TP h1 hw
      go_wp2
      go_ret2
      exact ⟨rfl, Below.refl _ _⟩
    · have hia : d.i.a ≠ (a : Int) := h1.resolve_left hw
      have b1 : (d.who == -1) = false := by simpa using hw
      have b2 : (d.i.a != (a : Int)) = true := by simpa using hia
      generalize d.who = who at *
      generalize d.i.a = ia at *
      clear TP h1 hw hia
      go_wp2
      go_ret2
      exact ⟨rfl, Below.refl _ _⟩
  · have b1 : (d.who == -1) = false := by simpa using hw
    have b2 : ((a : Int) != (a : Int)) = false := by simp
    rw [hia] at y19
    generalize d.who = who at *
    clear TP hw hia
    rcases h1 with ⟨q1, q2, q3, q4⟩ | ⟨q1, q2, q3, q4, q5⟩ | ⟨q1, q2, q3, q4, q5⟩ | ⟨q1, ⟨u, hl0, q2, q3, q4, q5⟩, q6, q7⟩ | ⟨q1, q2, q3, q4, q5⟩ | ⟨q1, q2, q3, q4, q5⟩ | ⟨q1, q2, q3⟩
    · rw [q1] at y18
      rw [q4] at y21
      subst q3
      clear q1 q4
      go_wp2_with fail
      go_quiet (fail)
      go_wp2
      go_ret2
      exact ⟨rfl, bdrewN (Below.refl _ _) _⟩
    · rw [q1] at y18
      rw [q3] at y20
      rw [q5] at y21
      subst q4
      have q2' : decide (0 < n) = false := by simpa using q2
      clear q1 q3 q5 q2
      go_wp2_with fail
      go_quiet (fail)
      go_wp2
      go_ret2
      exact ⟨rfl, bdrewN (Below.refl _ _) _⟩
    · rw [q1] at y18
      rw [q5] at y21
      subst q4
      have q2' : decide (0 < n) = false := by simpa using q2
      have q3' : (d.i.b == 0) = false := by simpa using q3
      generalize d.i.b = ib at *
      clear q1 q5 q2 q3
      go_wp2_with fail
      go_quiet (fail)
      go_wp2
      go_ret2
      exact ⟨rfl, bdrewN (Below.refl _ _) _⟩
    · rw [q1] at y18
      rw [q7] at y21
      subst q6
      have hlI : (0 : Int) < (L.length : Int) := by omega
      obtain ⟨gl, cl, hvl, hgl, zl, _⟩ := row_at ROW.out hl0
      simp at hvl
      obtain ⟨har, _⟩ := hvl
      subst har
      have z0 := zl 0 hl0
      rw [q2] at z0
      obtain ⟨gv, cv, cw, hgv, zv⟩ := K.out.view
      have b00 := zv u q3 0 (by decide)
      have b10 := zv u q3 1 (by decide)
      have b20 := zv u q3 2 (by decide)
      have b30 := zv u q3 3 (by decide)
      have b40 := zv u q3 4 (by decide)
      have b50 := zv u q3 5 (by decide)
      have b60 := zv u q3 6 (by decide)
      have b70 := zv u q3 7 (by decide)
      have b80 := zv u q3 8 (by decide)
      have b90 := zv u q3 9 (by decide)
      have b100 := zv u q3 10 (by decide)
      simp [vCells] at b00 b10 b20 b30 b40 b50 b60 b70 b80 b90 b100
      have Q4 := hid q4
      have Q5 := hid q5
      generalize viewD s u = xb at *
      have huI : (u : Int) < (s.T.length : Int) := by omega
      have hwl := K.out.k.m.blk.lt
      have n1 : wb ≠ w.heap.size := by omega
      have n2 : gv ≠ w.heap.size := by omega
      have n3 : gl ≠ w.heap.size := by omega
      clear q1 q7 q2 q4 q5 zl zv
      go_wp2_with fail
      go_region_held3 (fun w' => w'.cell? ⟨wb, 12, none⟩ = some (.slice (some ⟨gv, 0, none⟩) s.T.length cv) ∧ w'.cell? ⟨gl, 0, none⟩ = some (.int .i64 (u : Int)) ∧ w'.cell? ⟨gv, u * 11, none⟩ = some (.int .i64 xb.st) ∧ w'.cell? ⟨gv, u * 11 + 1, none⟩ = some (.int .i64 xb.base) ∧ w'.cell? ⟨gv, u * 11 + 2, none⟩ = some (.int .i64 xb.lv) ∧ w'.cell? ⟨gv, u * 11 + 3, none⟩ = some (.int .i64 xb.at_) ∧ w'.cell? ⟨gv, u * 11 + 4, none⟩ = some (.int .i64 xb.last) ∧ w'.cell? ⟨gv, u * 11 + 5, none⟩ = some (.int .i64 xb.got) ∧ w'.cell? ⟨gv, u * 11 + 6, none⟩ = some (.int .i64 xb.rel) ∧ w'.cell? ⟨gv, u * 11 + 7, none⟩ = some (.int .i64 xb.ended) ∧ w'.cell? ⟨gv, u * 11 + 8, none⟩ = some (.int .i64 xb.for_) ∧ w'.cell? ⟨gv, u * 11 + 9, none⟩ = some (.int .i64 xb.of_) ∧ w'.cell? ⟨gv, u * 11 + 10, none⟩ = some (.int .i64 xb.until_)) (go_keep) (fail)
      have hbA : Below w.heap.size w (w.alloc (.cells #[.int .i64 xb.st, .int .i64 xb.base, .int .i64 xb.lv, .int .i64 xb.at_, .int .i64 xb.last, .int .i64 xb.got, .int .i64 xb.rel, .int .i64 xb.ended, .int .i64 xb.for_, .int .i64 xb.of_, .int .i64 xb.until_] 53)).drew := ((Below.refl _ _).alloc (Nat.le_refl _) _).drew
      have bA : Blk (w.alloc (.cells #[.int .i64 xb.st, .int .i64 xb.base, .int .i64 xb.lv, .int .i64 xb.at_, .int .i64 xb.last, .int .i64 xb.got, .int .i64 xb.rel, .int .i64 xb.ended, .int .i64 xb.for_, .int .i64 xb.of_, .int .i64 xb.until_] 53)).drew w.heap.size #[.int .i64 xb.st, .int .i64 xb.base, .int .i64 xb.lv, .int .i64 xb.at_, .int .i64 xb.last, .int .i64 xb.got, .int .i64 xb.rel, .int .i64 xb.ended, .int .i64 xb.for_, .int .i64 xb.of_, .int .i64 xb.until_] 53 := Blk.new w #[.int .i64 xb.st, .int .i64 xb.base, .int .i64 xb.lv, .int .i64 xb.at_, .int .i64 xb.last, .int .i64 xb.got, .int .i64 xb.rel, .int .i64 xb.ended, .int .i64 xb.for_, .int .i64 xb.of_, .int .i64 xb.until_] 53
      generalize (w.alloc (.cells #[.int .i64 xb.st, .int .i64 xb.base, .int .i64 xb.lv, .int .i64 xb.at_, .int .i64 xb.last, .int .i64 xb.got, .int .i64 xb.rel, .int .i64 xb.ended, .int .i64 xb.for_, .int .i64 xb.of_, .int .i64 xb.until_] 53)).drew = wA at hbA bA ⊢
      have KA := hid (K.out.below c.fr hbA)
      have HBA := hid hbA
      have p0 := bA.cell 0
      have p4 := bA.cell 4
      simp at p0 p4
      have y21' := (hbA.cell (p := ⟨wb, 21, none⟩) hwl).trans y21
      clear hbA bA cw z0 y17 y18 y19 y20 y21 n1 n2 n3 hgv hgl b00 b10 b20 b30 b40 b50 b60 b70 b80 b90 b100
      rw [Q5.out] at p4
      have g1 : (xb.st != 3) = true := by simpa using Q4.out
      go_wp2_with fail
      go_quiet (fail)
      go_wp2
      go_ret2
      exact ⟨rfl, bdrewN HBA.out _⟩
    · rw [q1] at y18
      rw [q5] at y21
      subst q4
      rw [q2]
      have y4 := K.out.k.m.blk.cell 4
      simp [wCells] at y4
      have hsm := K.out.k.m.set
      rw [ES0.out] at y4 hsm
      obtain ⟨bm, om, ham, hbm, z0, z1⟩ := hsm.sems a ha
      rw [ham] at y4
      have epr : s.set.sems.getD a R.pair0 = s.set.sems[a] := by simp [List.getD, ha]
      rw [← epr] at z0 z1
      have haI : (a : Int) < (s.set.sems.length : Int) := by omega
      have q3' : (cc == (s.set.sems.getD a R.pair0).y) = true := by simpa using q3
      generalize (s.set.sems.getD a R.pair0).y = my at *
      generalize (s.set.sems.getD a R.pair0).x = mx at *
      clear q1 q5 q3 epr hsm
      go_wp2_with fail
      go_quiet (fail)
      go_wp2
      go_ret2
      exact ⟨rfl, bdrewN (Below.refl _ _) _⟩
    · rw [q1] at y18
      rw [q5] at y21
      subst q4
      rw [q2]
      have y4 := K.out.k.m.blk.cell 4
      simp [wCells] at y4
      have hsm := K.out.k.m.set
      rw [ES0.out] at y4 hsm
      obtain ⟨bm, om, ham, hbm, z0, z1⟩ := hsm.sems a ha
      rw [ham] at y4
      have epr : s.set.sems.getD a R.pair0 = s.set.sems[a] := by simp [List.getD, ha]
      rw [← epr] at z0 z1
      have haI : (a : Int) < (s.set.sems.length : Int) := by omega
      have q3' : (n == (s.set.sems.getD a R.pair0).y) = false := by simpa using q3
      generalize (s.set.sems.getD a R.pair0).y = my at *
      generalize (s.set.sems.getD a R.pair0).x = mx at *
      clear q1 q5 q3 epr hsm
      go_wp2_with fail
      go_quiet (fail)
      go_wp2
      go_ret2
      exact ⟨rfl, bdrewN (Below.refl _ _) _⟩
    · subst q3
      have b8 : (d.i.op == 8) = false := by simpa using q1
      have b9 : (d.i.op == 9) = false := by simpa using q2
      generalize d.i.op = op at *
      clear q1 q2
      go_wp2
      go_ret2
      exact ⟨rfl, Below.refl _ _⟩
end
end Go.Proofs.Ytbkfildnijjioab

/-
  A list that is turned entry by entry.
-/
namespace Go.Proofs.Ytbkfildnijjioab
def mixL {α : Type} (old new : List α) (j : Nat) : List α := new.take j ++ old.drop j
section
variable {α : Type} {old new : List α} {j : Nat}
theorem mixL_length (h : new.length = old.length) (hj : j ≤ old.length) : (mixL old new j).length = old.length := by simp [mixL]; omega
theorem mixL_zero : mixL old new 0 = old := by simp [mixL]
theorem mixL_full (h : new.length = old.length) : mixL old new old.length = new := by simp [mixL, ← h]
theorem mixL_get (h : new.length = old.length) (hj : j < old.length) : (mixL old new j)[j]? = old[j]? := by
  unfold mixL
  rw [List.getElem?_append_right (by simp; omega)]
  have : (new.take j).length = j := by simp; omega
  rw [this]
  simp
theorem mixL_set (h : new.length = old.length) (hj : j < old.length) : (mixL old new j).set j (new[j]'(by omega)) = mixL old new (j + 1) := by
  apply List.ext_getElem?
  intro i
  unfold mixL
  have hl : (new.take j).length = j := by simp; omega
  have hl2 : (new.take (j + 1)).length = j + 1 := by simp; omega
  rw [List.getElem?_set]
  by_cases e : j = i
  · subst e
    rw [if_pos rfl, List.getElem?_append_left (by omega)]
    have : j < (List.take j new ++ List.drop j old).length := by simp; omega
    rw [if_pos this]
    simp
  · rw [if_neg e]
    by_cases e2 : i < j
    · rw [List.getElem?_append_left (by omega), List.getElem?_append_left (by omega)]
      simp [e2, show i < j + 1 by omega]
    · rw [List.getElem?_append_right (by omega), List.getElem?_append_right (by omega), hl, hl2]
      simp only [List.getElem?_drop]
      congr 1
      omega
end
end Go.Proofs.Ytbkfildnijjioab
