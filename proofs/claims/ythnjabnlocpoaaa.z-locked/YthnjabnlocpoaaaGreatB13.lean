import Derived.Test.YthnjabnlocpoaaaGreatB12
import Derived.Test.YthnjabnlocpoaaaGreatB10
/-
  Walks over package donateref: stop.
-/
namespace Go.Proofs.YthnjabnlocpoaaaGreat
open Go.RowKit

/-- What a step leaves as it was, and how many numbers it may draw. -/
structure RLike (s s' : RS) (n : Int) : Prop where
  set : s'.set = s.set
  now : s'.now = s.now
  own : s'.owner.length = s.owner.length
  len : s'.T.length = s.T.length
  nx0 : s.next ≤ s'.next
  nx1 : s'.next ≤ s.next + n
  cnt : s'.count.length = s.count.length
  box : s'.box.length = s.box.length
  mis : s'.missed = s.missed
theorem RLike.refl (s : RS) : RLike s s 0 := ⟨rfl, rfl, rfl, rfl, Int.le_refl _, by omega, rfl, rfl, rfl⟩
theorem RLike.trans {s s' s'' : RS} {n n' : Int} (h : RLike s s' n) (k : RLike s' s'' n') : RLike s s'' (n + n') :=
  ⟨k.set.trans h.set, k.now.trans h.now, k.own.trans h.own, k.len.trans h.len, Int.le_trans h.nx0 k.nx0, by have := h.nx1; have := k.nx1; omega, k.cnt.trans h.cnt, k.box.trans h.box, k.mis.trans h.mis⟩
theorem RLike.mono {s s' : RS} {n n' : Int} (h : RLike s s' n) (hn : n ≤ n') : RLike s s' n' := ⟨h.set, h.now, h.own, h.len, h.nx0, by have := h.nx1; omega, h.cnt, h.box, h.mis⟩
theorem RLike.good {s s' : RS} {n : Int} (h : RLike s s' n) (g : RGood s) (hn : s.next + n ≤ 4611686018427387904) : RGood s' := by
  have h0 := h.nx0
  have h1 := h.nx1
  have h2 := g.nxt0
  exact ⟨by rw [h.set, h.len]; exact g.len, by rw [h.len]; exact g.pos, by rw [h.len]; exact g.few, by rw [h.set]; exact g.wk0, by rw [h.set]; exact g.wk1, by rw [h.set, h.own]; exact g.own, by rw [h.set]; exact g.mfew, by rw [h.set]; exact g.now0,
    by rw [h.set, h.now]; exact g.now1, by rw [h.now]; exact g.now2, by omega, by omega, by rw [h.set]; exact g.off⟩
theorem like_modify (s : RS) (t : Nat) (f : RT → RT) : RLike s { s with T := s.T.modify t f } 0 := ⟨rfl, rfl, rfl, by simp, Int.le_refl _, by simp, rfl, rfl, rfl⟩
theorem like_wake (s : RS) (t : Nat) : RLike s (R.wake s t) 1 := ⟨rfl, rfl, rfl, by simp [R.wake], by simp [R.wake]; omega, by simp [R.wake], rfl, rfl, rfl⟩
theorem like_endW (s : RS) (t : Nat) (c : Int) : RLike s (R.endW s t c) 1 := by
  have := (like_modify s t (fun x => { x with for_ := 0, of_ := 0, until_ := 0, last := c })).trans (like_wake _ t)
  exact this.mono (by omega)
theorem like_beginW (s : RS) (t : Nat) (a b n : Int) : RLike s (R.beginW s t a b n) 1 := ⟨rfl, rfl, rfl, by simp [R.beginW], by simp [R.beginW]; omega, by simp [R.beginW], rfl, rfl, rfl⟩
theorem like_giveS (s : RS) (a b : Int) : RLike s (R.giveS s a b) 1 := by
  unfold R.giveS
  split
  · exact like_endW _ _ _
  · exact (RLike.refl s).mono (by omega)
theorem like_unlockS (s : RS) (t k : Nat) : RLike s (R.unlockS s t k) 1 := by
  unfold R.unlockS
  split
  · have := like_giveS s 1 (k : Int)
    exact ⟨this.set, this.now, by simp, this.len, this.nx0, this.nx1, this.cnt, this.box, this.mis⟩
  · exact (RLike.refl s).mono (by omega)
theorem like_unlocksTo (s : RS) (t : Nat) (k : Nat) : RLike s (R.unlocksTo s t k) k := by
  induction k with
  | zero => exact RLike.refl s
  | succ k ih =>
    unfold R.unlocksTo
    have := ih.trans (like_unlockS (R.unlocksTo s t k) t k)
    exact this.mono (by omega)

set_option maxRecDepth 100000 in
set_option maxHeartbeats 2000000 in
theorem rStop_any (F : Nat → Prop) (w : World) (sb : Nat) (h : RH) (s : RS) (m : RMem F w sb h s) (ap : RApart F h) (g : RGood s) (t : Nat) (ht : t < s.T.length) (he0 : -1000000001 ≤ s.T[t].ended) (he1 : s.T[t].ended ≤ 2000000000) (hnx : s.next ≤ 4611686018427386000) :
    Calls Tryz.prog 89 #[.pointer (some ⟨sb, 0, none⟩), .int .i64 t] w fun e w' => e = .returned (.tuple #[]) ∧ RMem F w' sb h (R.stop s t) ∧ Only (sb :: h.foot) w w' := by
  have hfew := g.few
  have hol := g.own
  have hmf := g.mfew
  have c8 := m.blk.cell 8
  simp [rsCells] at c8
  have a5 := m.tcell ht 5 (by decide)
  simp [rtCells] at a5
  have f5 := m.tfrozen (t * 13 + 5)
  have M := hid m
  have G := hid g
  have AP := hid ap
  have HEN : Hid (∀ x, (s.T[t].ended + 1 = x) → rtCells ((fun y : RT => { y with ended := x }) s.T[t]) = (rtCells s.T[t]).set 5 (.int .i64 x)) := fun x _ => rfl
  have ETH : Hid (R.stop0 s t = { s with T := ((s.T.modify t (fun x => { x with ended := s.T[t].ended + 1 })).modify t (fun x => { x with at_ := 0 })).modify t (fun x => { x with last := 0 }) }) := by
    have : s.T.modify t (fun x => { x with ended := x.ended + 1, at_ := 0, last := 0 }) = ((s.T.modify t (fun x => { x with ended := s.T[t].ended + 1 })).modify t (fun x => { x with at_ := 0 })).modify t (fun x => { x with last := 0 }) := by
      simp only [List.modify_modify_eq]
      apply List.ext_getElem
      · simp
      · intro i h1 h2
        simp only [List.getElem_modify]
        by_cases e : t = i
        · subst e; simp
        · simp [e]
    unfold R.stop0
    rw [this]
    exact hid rfl
  clear m g ap
  generalize hen : s.T[t].ended = en at *
  have HENN := hid hen
  clear hen
  have htI : (t : Int) < (s.T.length : Int) := by omega
  go_enter Tryz.func89, Tryz.ntmps89
  go_upto_region 1 with fail
  have hm1 := M.out.setT ht (j := 5) (by decide) (.int .i64 (en + 1)) (fun x => { x with ended := en + 1 }) rfl
  have ho1 : Only [sb, h.gT] w (w.setCell ⟨h.gT, t * 13 + 5, none⟩ (.int .i64 (en + 1))) := (Only.refl _ _).setCell (.inl (by simp)) _
  clear c8 a5 f5 M
  generalize w.setCell ⟨h.gT, t * 13 + 5, none⟩ (.int .i64 (en + 1)) = w1 at hm1 ho1 ⊢
  have M1 := hid hm1
  have O1 := hid ho1
  clear hm1 ho1
  have c8 := M1.out.blk.cell 8
  simp [rsCells] at c8
  have ac := M1.out.tcell (i := t) (by simpa using ht) 1 (by decide)
  simp [rtCells] at ac
  have fc := M1.out.tfrozen (t * 13 + 1)
  go_upto_region 2 with fail
  have hm2 := M1.out.setT (i := t) (j := 1) (by simpa using ht) (by decide) (.int .i64 0) (fun x => { x with at_ := 0 }) rfl
  have ho2 : Only [sb, h.gT] w (w1.setCell ⟨h.gT, t * 13 + 1, none⟩ (.int .i64 0)) := O1.out.setCell (.inl (by simp)) _
  clear c8 ac fc M1 O1
  generalize w1.setCell ⟨h.gT, t * 13 + 1, none⟩ (.int .i64 0) = w2 at hm2 ho2 ⊢
  have M2 := hid hm2
  have O2 := hid ho2
  clear hm2 ho2
  have c8 := M2.out.blk.cell 8
  simp [rsCells] at c8
  have ac := M2.out.tcell (i := t) (by simpa using ht) 2 (by decide)
  simp [rtCells] at ac
  have fc := M2.out.tfrozen (t * 13 + 2)
  go_upto_region 3 with fail
  have hm3 := M2.out.setT (i := t) (j := 2) (by simpa using ht) (by decide) (.int .i64 0) (fun x => { x with last := 0 }) rfl
  have ho3 : Only [sb, h.gT] w (w2.setCell ⟨h.gT, t * 13 + 2, none⟩ (.int .i64 0)) := O2.out.setCell (.inl (by simp)) _
  clear c8 ac fc M2 O2
  generalize w2.setCell ⟨h.gT, t * 13 + 2, none⟩ (.int .i64 0) = w3 at hm3 ho3 ⊢
  have hm3' : RMem F w3 sb h (R.stop0 s t) := by rw [ETH.out]; exact hm3
  have M3 := hid hm3'
  have O3 : Hid (Only (sb :: h.foot) w w3) := ho3.mono (RH.foot_two h sb)
  clear hm3 hm3' ho3 ETH HEN
  have L0 : RLike s (R.stop0 s t) 0 := like_modify _ _ _
  have HL0 := hid L0
  have hs0 : (R.stop0 s t).owner.length = s.owner.length := L0.own
  have EFIN : Hid (R.stop s t = if (R.th (R.asleep (R.unlocksTo (R.stop0 s t) t s.owner.length) t).T t).ended < (R.th (R.asleep (R.unlocksTo (R.stop0 s t) t s.owner.length) t).T t).rel then R.wake (R.asleep (R.unlocksTo (R.stop0 s t) t s.owner.length) t) t else R.asleep (R.unlocksTo (R.stop0 s t) t s.owner.length) t) := rfl
  clear L0
  generalize R.stop0 s t = s0 at *
  go_wp2
  go_loopw [4] (fun i wr => ∃ k : Nat, k ≤ s.owner.length ∧ i = .int .i64 k ∧ RMem F wr sb h (R.unlocksTo s0 t k) ∧ Only (sb :: h.foot) w wr) (fun i _ => s.owner.length - (intOf i).toNat)
  case atStart => exact ⟨0, Nat.zero_le _, rfl, M3.out, O3.out⟩
  case round =>
    obtain ⟨k, hk, rfl, hm, ho⟩ := hrel
    have MK := hid hm
    have OK := hid ho
    have LK := HL0.out.trans (like_unlocksTo s0 t k)
    have HLK := hid LK
    have hlk : (R.unlocksTo s0 t k).owner.length = s.owner.length := LK.own
    have htk : t < (R.unlocksTo s0 t k).T.length := by rw [LK.len]; exact ht
    have hfk : (R.unlocksTo s0 t k).T.length ≤ 16 := by rw [LK.len]; exact hfew
    have hnk0 := LK.nx0
    have hnk1 := LK.nx1
    clear hm ho LK
    by_cases hkl : k < s.owner.length
    · have hg := HLK.out.good G.out (by omega)
      have HG := hid hg
      have ES : Hid (R.unlocksTo s0 t (k + 1) = R.unlockS (R.unlocksTo s0 t k) t k) := rfl
      have EU : Hid (R.unlockS (R.unlocksTo s0 t k) t k = if (R.unlocksTo s0 t k).owner.getD k 0 = (t : Int) then { R.giveS (R.unlocksTo s0 t k) 1 (k : Int) with owner := (R.unlocksTo s0 t k).owner.set k (R.giveT (R.unlocksTo s0 t k) 1 (k : Int)) } else R.unlocksTo s0 t k) := rfl
      clear hg
      generalize R.unlocksTo s0 t k = sk at *
      have hkk : k < sk.owner.length := by omega
      have eg : sk.owner.getD k 0 = sk.owner[k] := by simp [List.getD, hkk]
      rw [eg] at EU
      clear eg
      obtain ⟨go, co, hvO, hco, hfo⟩ := MK.out.ownAt (by omega)
      have c9 := MK.out.blk.cell 9
      simp [rsCells] at c9
      rw [hvO] at c9
      have ck := hco k hkk
      clear hvO hco hfo
      have UN := hid (rUnlock_any F wr sb h sk MK.out AP.out HG.out t k hkk (by omega))
      generalize sk.owner[k] = ok at *
      rw [hlk] at c9
      have hkI : (k : Int) < (s.owner.length : Int) := by omega
      cases hq : (ok == (t : Int))
      · have HQ := hid hq
        go_wp2
        go_roundw
        case rel => exact ⟨k + 1, by omega, by go_num, by rw [ES.out, EU.out, if_neg (by simpa using HQ.out)]; exact MK.out, OK.out⟩
        case measure => simp [intOf]; omega
      · have HQ := hid hq
        go_wp2_with fail
        refine UN.out.mono ?_
        rintro e w4 ⟨rfl, hm4, ho4⟩
        have M4 := hid hm4
        have O4 := hid (OK.out.trans ho4)
        clear hm4 ho4
        go_wp2
        go_roundw
        case rel => exact ⟨k + 1, by omega, by go_num, by rw [ES.out]; exact M4.out, O4.out⟩
        case measure => simp [intOf]; omega
    · have e : k = s.owner.length := by omega
      subst e
      obtain ⟨ao, cO, hvO, _, _⟩ := owns_cells MK.out.oth.own
      have c9 := MK.out.blk.cell 9
      simp [rsCells] at c9
      rw [hvO, hlk] at c9
      clear hvO
      generalize R.unlocksTo s0 t s.owner.length = sk at *
      have c8 := MK.out.blk.cell 8
      simp [rsCells] at c8
      have ac := MK.out.tcell htk 6 (by decide)
      simp [rtCells] at ac
      have fc := MK.out.tfrozen (t * 13 + 6)
      have htkI : (t : Int) < (sk.T.length : Int) := by omega
      go_upto_region 9 with fail
      have hm4 : RMem F (wr.setCell ⟨h.gT, t * 13 + 6, none⟩ (.bool false)) sb h (R.asleep sk t) := MK.out.setT htk (j := 6) (by decide) (.bool false) (fun x => { x with awake := false }) rfl
      have ho4 : Only (sb :: h.foot) w (wr.setCell ⟨h.gT, t * 13 + 6, none⟩ (.bool false)) := OK.out.setCell (.inl (by simp [RH.foot])) _
      clear c9 c8 ac fc MK OK
      generalize wr.setCell ⟨h.gT, t * 13 + 6, none⟩ (.bool false) = w4 at hm4 ho4 ⊢
      have M4 := hid hm4
      have O4 := hid ho4
      clear hm4 ho4
      have L4 : RLike sk (R.asleep sk t) 0 := like_modify _ _ _
      have hl4 := L4.len
      have hnx4 := L4.nx1
      have hnx5 := L4.nx0
      clear L4
      generalize R.asleep sk t = s4 at *
      have ht4 : t < s4.T.length := by omega
      have eth : R.th s4.T t = s4.T[t] := by simp [R.th, List.getD, ht4]
      rw [eth] at EFIN
      clear eth
      have c8 := M4.out.blk.cell 8
      simp [rsCells] at c8
      have x4 := M4.out.tcell ht4 4 (by decide)
      have x5 := M4.out.tcell ht4 5 (by decide)
      simp [rtCells] at x4 x5
      generalize s4.T[t] = x at *
      have htI4 : (t : Int) < (s4.T.length : Int) := by omega
      have hn0 := G.out.nxt0
      by_cases hre : x.ended < x.rel
      · rw [if_pos hre] at EFIN
        go_wp2_with fail
        go_quiet (fail)
        go_wp2_with fail
        refine (rWake_any F _ sb h s4 (M4.out.drewN nq) t ht4 (by omega) (by omega) (by omega)).mono ?_
        rintro e w5 ⟨rfl, hm5, ho5⟩
        have M5 := hid hm5
        have O5 := hid ((O4.out.drewN nq).trans (ho5.mono (RH.foot_two h sb)))
        clear hm5 ho5
        go_wp2
        go_end0
        refine ⟨rfl, ?_, O5.out⟩
        rw [EFIN.out]
        exact M5.out
      · rw [if_neg hre] at EFIN
        go_wp2_with fail
        go_quiet (fail)
        go_wp2
        go_end0
        refine ⟨rfl, ?_, O4.out.drewN _⟩
        rw [EFIN.out]
        exact M4.out.drewN _

end Go.Proofs.YthnjabnlocpoaaaGreat

/-
  A queue's messages in memory: read, and laid anew.
-/
namespace Go.Proofs.YthnjabnlocpoaaaGreat
open Go.RowKit

section
variable {F : Nat → Prop} {w w' : World} {sb : Nat} {h : RH} {s : RS}

theorem RMem.boxAt (m : RMem F w sb h s) {k : Nat} (hk : k < s.box.length) : ∃ g cap v, h.vB = .slice (some ⟨g, 0, none⟩) s.box.length cap ∧ h.bs[k]? = some v ∧ w.cell? ⟨g, k, none⟩ = some v ∧ w.frozen? ⟨g, k, none⟩ = false ∧ w.ownsRow 0 3 1 v s.box[k].length (intCells s.box[k]) := by
  obtain ⟨hb, hbi⟩ := m.oth.box
  obtain ⟨v, hv, hr⟩ := hbi k hk
  have h2 := hb.2
  rcases h2 with ⟨_, h0⟩ | ⟨g, cap, cur, e, _⟩
  · omega
  · rw [e] at hb
    refine ⟨g, cap, v, e, hv, ?_, hb.frozenAt k, hr⟩
    rw [hb.cellAt k (by omega)]
    exact hv

/-- Blocks of P have turned, none of them the kernel's own nor the set's. -/
theorem RMem.turnedP (m : RMem F w sb h s) {P : Nat → Prop} (hs : ∀ k, k < w.heap.size → ¬ P k → w'.heap[k]? = w.heap[k]?) (hz : w.heap.size ≤ w'.heap.size) (h1 : ¬ P sb) (h2 : ¬ P h.gT) (h3 : ∀ b, F b → ¬ P b) {h' : RH} {s' : RS} (o : ROth w' h' s')
    (e1 : rsCells h' s' = rsCells h s) (e2 : s'.T = s.T) (e3 : h'.gT = h.gT ∧ h'.cT = h.cT ∧ h'.tv = h.tv ∧ h'.mv = h.mv ∧ h'.sv = h.sv ∧ h'.qv = h.qv) (e4 : s'.set = s.set) : RMem F w' sb h' s' := by
  obtain ⟨a1, a2, a3, a4, a5, a6⟩ := e3
  refine ⟨?_, ?_, ?_, o, m.nsb, by rw [a1]; exact m.nT, fun b hb => Nat.lt_of_lt_of_le (m.lt b hb) hz⟩
  · have := m.blk
    unfold Blk at this ⊢
    rw [e1, hs sb m.blk.lt h1]
    exact this
  · rw [a1, a2, e2]
    refine ownsRow_same m.rows fun g' hg' => ?_
    cases hg'
    exact hs _ m.gT_lt h2
  · rw [a3, a4, a5, a6, e4]
    exact m.set.same fun b hb => hs b (m.lt b hb) (h3 b hb)

/-- A queue's messages are laid anew: w1: behind the append. -/
theorem RMem.setBox (m : RMem F w sb h s) (a : RApart F h) {w1 : World} {g cap k : Nat} (hvB : h.vB = .slice (some ⟨g, 0, none⟩) s.box.length cap) (_hk : k < s.box.length) {v v' : Value} (hv : h.bs[k]? = some v) {row : Option Nat} (hrow : row = none ∨ row = v.ownBlock) (hg : w.grownBy w1 row)
    {l : List Int} (hr : w1.ownsRow 0 3 1 v' l.length (intCells l)) (hrk : w.ownsRow 0 3 1 v s.box[k].length (intCells s.box[k])) : RMem F (w1.setCell ⟨g, k, none⟩ v') sb { h with bs := h.bs.set k v' } { s with box := s.box.set k l } := by
  have hbb : h.vB.ownBlock = some g := by rw [hvB]; rfl
  obtain ⟨_, hglt, cur, hgc⟩ := ownsRow_block m.oth.box.1 hbb
  obtain ⟨n1, n2⟩ := m.ownType hgc (by decide) (by decide)
  have hrn : ∀ b, row = some b → v.ownBlock = some b := by
    intro b hb
    rcases hrow with e | e
    · rw [e] at hb; cases hb
    · rw [← e]; exact hb
  have hgr : row ≠ some g := by
    intro e
    obtain ⟨_, _, cur', hc'⟩ := ownsRow_block hrk (hrn g e)
    rw [hgc] at hc'
    cases hc'
  have hgc1 : w1.heap[g]? = some (.cells cur 25 (0, 0)) := by rw [hg.block g hglt (fun e => hgr e.symm)]; exact hgc
  have same : ∀ b, b < w.heap.size → b ≠ g → row ≠ some b → (w1.setCell ⟨g, k, none⟩ v').heap[b]? = w.heap[b]? := by
    intro b hb h1 h2
    rw [Below.heap_setCell _ _ _ _ h1, hg.block b hb (fun e => h2 e.symm)]
  have sizeE : w.heap.size ≤ (w1.setCell ⟨g, k, none⟩ v').heap.size := by
    have := hg.size
    simp [World.setCell]
    exact this
  refine m.turnedP (P := fun b => b = g ∨ row = some b) (fun b hb hp => same b hb (fun e => hp (.inl e)) (fun e => hp (.inr e))) sizeE ?_ ?_ ?_ ⟨?_, ?_, ?_, ?_, fun j hj => ?_⟩ rfl rfl ⟨rfl, rfl, rfl, rfl, rfl, rfl⟩ rfl
  · rintro (e | e)
    · exact n1 e
    · obtain ⟨_, _, cur', hc'⟩ := ownsRow_block hrk (hrn sb e)
      exact absurd (blk_type m.blk hc') (by decide)
  · rintro (e | e)
    · exact n2 e
    · obtain ⟨_, _, cur', hc'⟩ := ownsRow_block hrk (hrn _ e)
      exact (m.ownType hc' (by decide) (by decide)).2 rfl
  · rintro b hb (e | e)
    · exact a.b g hbb (e ▸ hb)
    · exact (a.bs k v b hv (hrn b e)).1 hb
  · refine ownsRow_same m.oth.own fun b hb => ?_
    obtain ⟨_, hl, cur', hc'⟩ := ownsRow_block m.oth.own hb
    refine same b hl (fun e => ?_) (fun e => (a.bs k v b hv (hrn b e)).2.1 hb)
    rw [e, hgc] at hc'
    cases hc'
  · refine ownsRow_same m.oth.cnt fun b hb => ?_
    obtain ⟨_, hl, cur', hc'⟩ := ownsRow_block m.oth.cnt hb
    refine same b hl (fun e => ?_) (fun e => (a.bs k v b hv (hrn b e)).2.2.1 hb)
    rw [e, hgc] at hc'
    cases hc'
  · refine ownsRow_same m.oth.mis fun b hb => ?_
    obtain ⟨_, hl, cur', hc'⟩ := ownsRow_block m.oth.mis hb
    refine same b hl (fun e => ?_) (fun e => ?_)
    · rw [e, hgc] at hc'
      cases hc'
    · obtain ⟨_, _, cur2, hc2⟩ := ownsRow_block hrk (hrn b e)
      rw [hc'] at hc2
      cases hc2
  · have h0 : w1.ownsRow 0 25 1 h.vB s.box.length h.bs := by
      refine ownsRow_same m.oth.box.1 fun b hb => ?_
      rw [hbb] at hb
      cases hb
      exact hgc1.trans hgc.symm
    rw [hvB] at h0
    have := (h0.stored k v').1
    simpa [hvB] using this
  · have hj' : j < s.box.length := by simpa using hj
    by_cases e : j = k
    · subst e
      have hlen : j < h.bs.length := by
        have := m.oth.box.1.1
        omega
      refine ⟨v', by simp [hlen], ?_⟩
      have e2 : (s.box.set j l)[j]'(by simpa using hj') = l := by simp
      simp only [e2]
      refine ownsRow_same hr fun b hb => Below.heap_setCell _ _ _ _ (fun e => ?_)
      obtain ⟨_, _, cur', hc'⟩ := ownsRow_block hr hb
      have e' : b = g := e
      rw [e', hgc1] at hc'
      cases hc'
    · obtain ⟨u, hu, hru⟩ := m.oth.box.2 j hj'
      have e2 : (s.box.set k l)[j]'(by simpa using hj') = s.box[j] := by rw [List.getElem_set]; simp [Ne.symm e]
      refine ⟨u, by rw [List.getElem?_set]; simp [Ne.symm e]; exact hu, ?_⟩
      simp only [e2]
      refine ownsRow_same hru fun b hb => ?_
      obtain ⟨_, hl, cur', hc'⟩ := ownsRow_block hru hb
      refine same b hl (fun e3 => ?_) (fun e3 => (a.bs k v b hv (hrn b e3)).2.2.2 j u e hu hb)
      rw [e3, hgc] at hc'
      cases hc'

theorem RApart.setBox (a : RApart F h) {k : Nat} {v v' : Value} (hv : h.bs[k]? = some v) {N : Nat} (hF : ∀ b, F b → b < N) (hO : ∀ b, h.vO.ownBlock = some b → b < N) (hC : ∀ b, h.vC.ownBlock = some b → b < N) (hB : ∀ (j : Nat) (u : Value) (b : Nat), h.bs[j]? = some u → u.ownBlock = some b → b < N)
    (hat : ∀ b, v'.ownBlock = some b → v.ownBlock = some b ∨ N ≤ b) : RApart F { h with bs := h.bs.set k v' } := by
  have hlen : k < h.bs.length := by
    rcases Nat.lt_or_ge k h.bs.length with h' | h'
    · exact h'
    · rw [List.getElem?_eq_none h'] at hv; cases hv
  have pick : ∀ (j : Nat) (u : Value), (h.bs.set k v')[j]? = some u → (j = k ∧ u = v') ∨ (j ≠ k ∧ h.bs[j]? = some u) := by
    intro j u hu
    rw [List.getElem?_set] at hu
    by_cases e : k = j
    · subst e
      simp [hlen] at hu
      exact .inl ⟨rfl, hu.symm⟩
    · simp [e] at hu
      exact .inr ⟨fun e' => e e'.symm, hu⟩
  refine ⟨a.o, a.c, a.m, a.b, fun i u b hu hb => ?_⟩
  rcases pick i u hu with ⟨rfl, rfl⟩ | ⟨hne, hu'⟩
  · rcases hat b hb with h1 | h1
    · obtain ⟨p1, p2, p3, p4⟩ := a.bs i v b hv h1
      refine ⟨p1, p2, p3, fun j x hj hx => ?_⟩
      rcases pick j x hx with ⟨rfl, _⟩ | ⟨_, hx'⟩
      · exact absurd rfl hj
      · exact p4 j x hj hx'
    · refine ⟨fun hf => by have := hF b hf; omega, fun e => by have := hO b e; omega, fun e => by have := hC b e; omega, fun j x hj hx e => ?_⟩
      rcases pick j x hx with ⟨rfl, _⟩ | ⟨_, hx'⟩
      · exact hj rfl
      · have := hB j x b hx' e
        omega
  · obtain ⟨p1, p2, p3, p4⟩ := a.bs i u b hu' hb
    refine ⟨p1, p2, p3, fun j x hj hx e => ?_⟩
    rcases pick j x hx with ⟨rfl, rfl⟩ | ⟨_, hx'⟩
    · rcases hat b e with h1 | h1
      · exact p4 j v hj hv h1
      · have := hB i u b hu' hb
        omega
    · exact p4 j x hj hx' e
end

end Go.Proofs.YthnjabnlocpoaaaGreat

/-
  Walks over package donateref: passes, Recv.
-/
namespace Go.Proofs.YthnjabnlocpoaaaGreat
open Go.RowKit

/-- The kernel's memory behind a step: what it had, or what is new. -/
structure RNext (h h' : RH) (N : Nat) : Prop where
  t : h'.gT = h.gT
  all : ∀ b, b ∈ h'.foot → b ∈ h.foot ∨ N ≤ b
  m : ∀ b, h'.vM.ownBlock = some b → h.vM.ownBlock = some b ∨ N ≤ b
theorem RNext.refl (h : RH) (N : Nat) : RNext h h N := ⟨rfl, fun _ hb => .inl hb, fun _ hb => .inl hb⟩
theorem RNext.setBox {h : RH} {k N : Nat} {v v' : Value} (hv : h.bs[k]? = some v) (hat : ∀ b, v'.ownBlock = some b → v.ownBlock = some b ∨ N ≤ b) : RNext h { h with bs := h.bs.set k v' } N := by
  refine ⟨rfl, fun b hb => ?_, fun b hb => .inl hb⟩
  simp only [RH.foot, List.mem_cons, List.mem_append, List.mem_flatMap, Option.mem_toList] at hb ⊢
  rcases hb with hb | ((hb | hb) | hb) | ⟨u, hu, hb⟩
  · exact .inl (.inl hb)
  · exact .inl (.inr (.inl (.inl (.inl hb))))
  · exact .inl (.inr (.inl (.inl (.inr hb))))
  · exact .inl (.inr (.inl (.inr hb)))
  · rcases List.mem_or_eq_of_mem_set hu with hu' | rfl
    · exact .inl (.inr (.inr ⟨u, hu', hb⟩))
    · rcases hat b hb with h1 | h1
      · exact .inl (.inr (.inr ⟨v, List.mem_of_getElem? hv, h1⟩))
      · exact .inr h1
theorem RMem.lts {F : Nat → Prop} {w : World} {sb : Nat} {h : RH} {s : RS} (m : RMem F w sb h s) : (∀ b, h.vO.ownBlock = some b → b < w.heap.size) ∧ (∀ b, h.vC.ownBlock = some b → b < w.heap.size) ∧ (∀ (j : Nat) (u : Value) (b : Nat), h.bs[j]? = some u → u.ownBlock = some b → b < w.heap.size) := by
  refine ⟨fun b hb => (ownsRow_block m.oth.own hb).2.1, fun b hb => (ownsRow_block m.oth.cnt hb).2.1, fun j u b hu hb => ?_⟩
  have hl : j < s.box.length := by
    have h1 := m.oth.box.1.1
    rcases Nat.lt_or_ge j h.bs.length with h' | h'
    · omega
    · rw [List.getElem?_eq_none h'] at hu; cases hu
  obtain ⟨u', hu', hr⟩ := m.oth.box.2 j hl
  rw [hu] at hu'
  cases hu'
  exact (ownsRow_block hr hb).2.1

theorem drop_news {w : World} {g cap : Nat} {B : List Int} (row : w.ownsRow 0 3 1 (.slice (some ⟨g, 0, none⟩) B.length cap) B.length (intCells B)) :
    ∀ j u, (intCells (B.drop 1))[j]? = some u → ∃ ad, (some (⟨g, 1, none⟩ : Addr)) = some ad ∧ w.cell? (ad.add j) = some u := by
  intro j u hj
  refine ⟨_, rfl, ?_⟩
  have hjl : j < (intCells (B.drop 1)).length := by
    rcases Nat.lt_or_ge j (intCells (B.drop 1)).length with h' | h'
    · exact h'
    · rw [List.getElem?_eq_none h'] at hj; cases hj
  rw [intCells_length, List.length_drop] at hjl
  rw [Addr.add_lit, row.cellAt (1 + j) (by omega), ← hj]
  unfold intCells
  rw [List.getElem?_map, List.getElem?_map, List.getElem?_drop]

set_option maxRecDepth 100000 in
set_option maxHeartbeats 2000000 in
theorem rRecv_any (F : Nat → Prop) (w : World) (sb : Nat) (h : RH) (s : RS) (m : RMem F w sb h s) (ap : RApart F h) (g : RGood s) (t : Nat) (ht : t < s.T.length) (k : Nat) (hk : k < s.box.length) (_hc4 : s.box.length ≤ 4)
    (hcb : s.box[k].length ≤ 8) (n : Int) (hn1 : n ≤ 1000) (hnx : s.next ≤ 4611686018427386000) :
    Calls Tryz.prog 119 #[.pointer (some ⟨sb, 0, none⟩), .int .i64 t, .agg #[.int .i64 11, .int .i64 k, .int .i64 n]] w fun e w' => e = .returned (.int .i64 (R.recvC s k n)) ∧ ∃ h', RMem F w' sb h' (R.recvS s t k n) ∧ RApart F h' ∧ RNext h h' w.heap.size ∧ Only (sb :: h.foot) w w' := by
  have hfew := g.few
  have hn0 := g.nxt0
  have hnow : 0 ≤ s.now := by have := g.now0; have := g.now1; omega
  have hnow1 := g.now2
  have eg : R.boxAt s k = s.box[k] := by simp [R.boxAt, List.getD, hk]
  have EC : Hid (R.recvC s k n = if 0 < (R.boxAt s k).length then 0 else if n = 0 then 2 else 1) := rfl
  have ESS : Hid (R.recvS s t k n = if R.recvC s k n = 0 then { R.gets s t ((R.boxAt s k).getD 0 0) with box := s.box.set k ((R.boxAt s k).drop 1) } else if R.recvC s k n = 1 then R.beginW s t 3 (k : Int) n else s) := rfl
  rw [eg] at EC ESS
  clear eg
  have MA := hid (m.below ((Below.refl _ _).alloc (Nat.le_refl _) (.cells #[.int .i64 11, .int .i64 k, .int .i64 n] 41)))
  have OA : Hid (Only (sb :: h.foot) w (w.alloc (.cells #[.int .i64 11, .int .i64 k, .int .i64 n] 41))) := Only.of_below ((Below.refl _ _).alloc (Nat.le_refl _) _)
  have BA : Hid (Blk (w.alloc (.cells #[.int .i64 11, .int .i64 k, .int .i64 n] 41)) w.heap.size #[.int .i64 11, .int .i64 k, .int .i64 n] 41) := Blk.new _ _ _
  have G := hid g
  have AP := hid ap
  generalize hbox : s.box[k] = B at *
  have HBOX := hid hbox
  clear hbox m g ap
  generalize R.recvC s k n = uc at *
  generalize R.recvS s t k n = us at *
  have hkI : (k : Int) < (s.box.length : Int) := by omega
  go_enter Tryz.func119, Tryz.ntmps119
  go_upto_region 1 with fail
  generalize hwA : w.alloc (.cells #[.int .i64 11, .int .i64 k, .int .i64 n] 41) = wA at *
  have hszA : w.heap.size < wA.heap.size := by rw [← hwA]; simp
  clear hwA
  have b0 := BA.out.cell 0
  have b1 := BA.out.cell 1
  have b2 := BA.out.cell 2
  simp at b0 b1 b2
  obtain ⟨gB, cB, v, hvB, hbs, xk, fk, hrow⟩ := MA.out.boxAt hk
  rw [HBOX.out] at hrow
  have c11 := MA.out.blk.cell 11
  simp [rsCells] at c11
  rw [hvB] at c11
  have HVB := hid hvB
  have HBS := hid hbs
  have ROW := hid hrow
  obtain ⟨ao, cq, rfl, hqn, hqa⟩ := owns_cells hrow
  have HQN := hid hqn
  have HQA := hid hqa
  clear hvB hbs hrow hqn hqa
  by_cases hpos : 0 < B.length
  · rw [if_pos hpos] at EC
    cases ao with
    | none => have := (HQN.out rfl).1; omega
    | some aq =>
      obtain ⟨gq, rfl, _, hgql, _, hqc⟩ := HQA.out aq rfl
      have q0 : wA.cell? ⟨gq, 0, none⟩ = some (.int .i64 (B.getD 0 0)) := by
        rw [hqc 0 (by omega)]
        cases B with
        | nil => simp at hpos
        | cons x xs => simp [intCells]
      have HQC := hid hqc
      clear hqc
      generalize hbv : B.getD 0 0 = bv at *
      have HBV := hid hbv
      clear hbv
      have hlI : (0 : Int) < (B.length : Int) := by omega
      have hld : decide ((0 : Int) < (B.length : Int)) = true := by simpa using hpos
      go_wp2_with fail
      go_quiet (fail)
      generalize hwB : wA.drewN nq = wB at *
      have MB : Hid (RMem F wB sb h s) := by rw [← hwB]; exact MA.out.drewN nq
      have OB : Hid (Only (sb :: h.foot) w wB) := by rw [← hwB]; exact OA.out.drewN nq
      have BB : Hid (Blk wB w.heap.size #[.int .i64 11, .int .i64 k, .int .i64 n] 41) := by rw [← hwB]; exact BA.out
      have hszB : w.heap.size < wB.heap.size := by rw [← hwB]; exact hszA
      have q0' : wB.cell? ⟨gq, 0, none⟩ = some (.int .i64 bv) := by rw [← hwB]; exact q0
      have ROWB : Hid (wB.ownsRow 0 3 1 (.slice (some ⟨gq, 0, none⟩) B.length cq) B.length (intCells B)) := by rw [← hwB]; exact ROW.out
      clear hwB b0 b1 b2 c11 xk fk q0 MA OA BA HQC HQA HQN ROW
      have c8 := MB.out.blk.cell 8
      simp [rsCells] at c8
      have a3 := MB.out.tcell ht 3 (by decide)
      simp [rtCells] at a3
      have f3 := MB.out.tfrozen (t * 13 + 3)
      have htI : (t : Int) < (s.T.length : Int) := by omega
      have b0 := BB.out.cell 0
      simp at b0
      go_wp2_with fail
      go_region
      have hmC := (MB.out.setT ht (j := 3) (by decide) (.int .i64 bv) (fun x => { x with got := bv }) rfl).below (Below.refl _ _).drew
      have hoC : Only [sb, h.gT] wB (wB.setCell ⟨h.gT, t * 13 + 3, none⟩ (.int .i64 bv)).drew := ((Only.refl _ _).setCell (.inl (by simp)) _).via (Below.refl _ _).drew
      clear c8 a3 f3 q0' b0
      generalize (wB.setCell ⟨h.gT, t * 13 + 3, none⟩ (.int .i64 bv)).drew = wC at hmC hoC ⊢
      have MC := hid hmC
      have OC := hid (OB.out.trans (hoC.mono (RH.foot_two h sb)))
      have hgne : ∀ b, b < wB.heap.size → b ≠ sb → b ≠ h.gT → wC.heap[b]? = wB.heap[b]? := fun b hb h1 h2 => hoC.block b hb (by simp; exact ⟨h1, h2⟩)
      have hszC := hoC.size
      have rowC : wC.ownsRow 0 3 1 (.slice (some ⟨gq, 0, none⟩) B.length cq) B.length (intCells B) := by
        refine ownsRow_same ROWB.out fun b hb => ?_
        obtain ⟨_, hl, cur, hc⟩ := ownsRow_block ROWB.out hb
        obtain ⟨e1, e2⟩ := MB.out.ownType hc (by decide) (by decide)
        exact hgne b hl (fun e => e1 e.symm) (fun e => e2 e.symm)
      have ROWC := hid rowC
      have blkC : Blk wC w.heap.size #[.int .i64 11, .int .i64 k, .int .i64 n] 41 := by
        refine BB.out.only hoC (by
          simp
          have := MB.out.blk.lt
          refine ⟨fun e => ?_, fun e => ?_⟩
          · rw [e] at BB
            exact absurd (blk_type MB.out.blk BB.out) (by decide)
          · obtain ⟨_, _, cur', hc'⟩ := ownsRow_block MB.out.rows rfl
            have hb := BB.out
            unfold Blk at hb
            rw [e, hc'] at hb
            cases hb)
      have BC := hid blkC
      clear hmC hoC hgne rowC blkC ROWB MB OB BB
      have hcq : B.length ≤ cq := by
        rcases ROWC.out.2 with ⟨e, _⟩ | ⟨g', cap, cur, e, _, _, h4, h5, _⟩
        · cases e
        · cases e
          exact h4
      have hcq2 : cq ≤ maxLen := by
        rcases ROWC.out.2 with ⟨e, _⟩ | ⟨g', cap, cur, e, _, _, h4, h5, _⟩
        · cases e
        · cases e
          exact h5
      obtain ⟨i3, hi3, hz30, hz31, hz32⟩ := info_parts Tryz.infoInt
      have HI3 := hid (And.intro hi3 (And.intro hz30 (And.intro hz31 hz32)))
      clear hi3 hz30 hz31 hz32
      have hnews := drop_news ROWC.out
      have HNEWS := hid hnews
      clear hnews
      by_cases hc1 : cq = 1
      · subst hc1
        have hB1 : B.length = 1 := by omega
        go_upto_region 7 with (at_builtin; refine wpList_append_src_at rfl (.tmp 34) (.tmp 36) 25 rfl 0 3 i3 (.int .i64 0) 1 8 Tryz.underlying25 HI3.out.1 HI3.out.2.1 HI3.out.2.2.1 HI3.out.2.2.2 rfl (by decide) (.slice none 0 0) 0 [] rfl (World.ownsRow_nil _ _ _ _) _ 0 0 [] rfl rfl (fun _ => rfl) (fun j u hj => (by simp at hj)) (fun u hu => (by simp at hu)) (by unfold maxLen; omega) (by omega) (Nat.zero_le _) ?_; intro v' wD hown hg hat)
        have hr : wD.ownsRow 0 3 1 v' (B.drop 1).length (intCells (B.drop 1)) := by
          have e : B.drop 1 = [] := by apply List.eq_nil_of_length_eq_zero; simp; omega
          rw [e]
          exact hown
        generalize B.drop 1 = D at *
        obtain ⟨tv5, tc5, rfl, _, _⟩ := owns_cells hr
        have hbd : Below wC.heap.size wC wD := ⟨hg.os, hg.tape, hg.output, hg.size, fun b hb => hg.block b hb (by simp [Value.ownBlock])⟩
        have MD := hid (MC.out.below hbd)
        have OD := hid (OC.out.via hbd)
        have BD : Hid (Blk wD w.heap.size #[.int .i64 11, .int .i64 k, .int .i64 n] 41) := by
          have hl := BC.out.lt
          have hb := BC.out
          unfold Blk at hb ⊢
          exact hid ((hbd.block _ hl).trans hb)
        have hat2 : ∀ b, (Value.slice tv5 D.length tc5).ownBlock = some b → (Value.slice (some (⟨gq, 0, none⟩ : Addr)) B.length 1).ownBlock = some b ∨ wC.heap.size ≤ b := by
          intro b hb
          rcases hat with e | e
          · rw [e] at hb
            cases hb
          · rw [e] at hb
            cases hb
            exact .inr (Nat.le_refl _)
        have HAT := hid hat2
        have HR := hid hr
        have hN : w.heap.size ≤ wC.heap.size := by omega
        have LTS := hid (And.intro MC.out.lt MC.out.lts)
        clear hr hg hat hown hbd MC OC BC ROWC HNEWS hat2
        obtain ⟨gB2, cB2, v2, hvB2, hbs2, xk2, fk2, hrow2⟩ := MD.out.boxAt (k := k) hk
        have e2 := hvB2
        rw [HVB.out] at e2
        simp at e2
        obtain ⟨e3, e4⟩ := e2
        subst e3
        subst e4
        have e5 := hbs2
        rw [HBS.out] at e5
        cases e5
        have c11 := MD.out.blk.cell 11
        simp [rsCells] at c11
        rw [HVB.out] at c11
        have b1 := BD.out.cell 1
        simp at b1
        have ROW2 := hid hrow2
        clear hvB2 hbs2 hrow2
        go_wp2_with fail
        go_region
        go_wp2
        go_ret
        have hm2 := (MD.out.setBox AP.out HVB.out hk HBS.out (.inl rfl) ⟨rfl, rfl, rfl, Nat.le_refl _, fun _ _ _ => rfl⟩ HR.out ROW2.out).below (Below.refl _ _).drew
        refine ⟨?_, _, ?_, AP.out.setBox HBS.out LTS.out.1 LTS.out.2.1 LTS.out.2.2.1 LTS.out.2.2.2 HAT.out, RNext.setBox HBS.out (fun b hb => (HAT.out b hb).imp id (fun h1 => by omega)), ?_⟩
        · rw [EC.out]
          rfl
        · rw [ESS.out, EC.out, if_pos rfl]
          exact hm2
        · refine (Only.setCell OD.out (.inl ?_) _).via (Below.refl _ _).drew
          rw [RH.foot, HVB.out]
          simp [Value.ownBlock]
      · have hc1d : (cq == 1) = false := by simpa using hc1
        go_upto_region 7 with (at_builtin; refine wpList_append_src_at rfl (.tmp 34) (.tmp 36) 25 rfl 0 3 i3 (.int .i64 0) 1 8 Tryz.underlying25 HI3.out.1 HI3.out.2.1 HI3.out.2.2.1 HI3.out.2.2.2 rfl (by decide) (.slice none 0 0) 0 [] rfl (World.ownsRow_nil _ _ _ _) (some ⟨gq, 1, none⟩) (B.length - 1) (cq - 1) (intCells (B.drop 1)) rfl (by rw [intCells_length]; simp) (fun hh => (by cases hh)) HNEWS.out (intCells_one _) (by unfold maxLen; omega) (by omega) (Nat.zero_le _) ?_; intro v' wD hown hg hat)
        have hr : wD.ownsRow 0 3 1 v' (B.drop 1).length (intCells (B.drop 1)) := by
          have e : (B.drop 1).length = B.length - 1 := by simp
          rw [e]
          simpa using hown
        generalize B.drop 1 = D at *
        obtain ⟨tv5, tc5, rfl, _, _⟩ := owns_cells hr
        have hbd : Below wC.heap.size wC wD := ⟨hg.os, hg.tape, hg.output, hg.size, fun b hb => hg.block b hb (by simp [Value.ownBlock])⟩
        have MD := hid (MC.out.below hbd)
        have OD := hid (OC.out.via hbd)
        have BD : Hid (Blk wD w.heap.size #[.int .i64 11, .int .i64 k, .int .i64 n] 41) := by
          have hl := BC.out.lt
          have hb := BC.out
          unfold Blk at hb ⊢
          exact hid ((hbd.block _ hl).trans hb)
        have hat2 : ∀ b, (Value.slice tv5 D.length tc5).ownBlock = some b → (Value.slice (some (⟨gq, 0, none⟩ : Addr)) B.length cq).ownBlock = some b ∨ wC.heap.size ≤ b := by
          intro b hb
          rcases hat with e | e
          · rw [e] at hb
            cases hb
          · rw [e] at hb
            cases hb
            exact .inr (Nat.le_refl _)
        have HAT := hid hat2
        have HR := hid hr
        have hN : w.heap.size ≤ wC.heap.size := by omega
        have LTS := hid (And.intro MC.out.lt MC.out.lts)
        clear hr hg hat hown hbd MC OC BC ROWC HNEWS hat2
        obtain ⟨gB2, cB2, v2, hvB2, hbs2, xk2, fk2, hrow2⟩ := MD.out.boxAt (k := k) hk
        have e2 := hvB2
        rw [HVB.out] at e2
        simp at e2
        obtain ⟨e3, e4⟩ := e2
        subst e3
        subst e4
        have e5 := hbs2
        rw [HBS.out] at e5
        cases e5
        have c11 := MD.out.blk.cell 11
        simp [rsCells] at c11
        rw [HVB.out] at c11
        have b1 := BD.out.cell 1
        simp at b1
        have ROW2 := hid hrow2
        clear hvB2 hbs2 hrow2
        go_wp2_with fail
        go_region
        go_wp2
        go_ret
        have hm2 := (MD.out.setBox AP.out HVB.out hk HBS.out (.inl rfl) ⟨rfl, rfl, rfl, Nat.le_refl _, fun _ _ _ => rfl⟩ HR.out ROW2.out).below (Below.refl _ _).drew
        refine ⟨?_, _, ?_, AP.out.setBox HBS.out LTS.out.1 LTS.out.2.1 LTS.out.2.2.1 LTS.out.2.2.2 HAT.out, RNext.setBox HBS.out (fun b hb => (HAT.out b hb).imp id (fun h1 => by omega)), ?_⟩
        · rw [EC.out]
          rfl
        · rw [ESS.out, EC.out, if_pos rfl]
          exact hm2
        · refine (Only.setCell OD.out (.inl ?_) _).via (Below.refl _ _).drew
          rw [RH.foot, HVB.out]
          simp [Value.ownBlock]
  · rw [if_neg hpos] at EC
    have hld : decide ((0 : Int) < (B.length : Int)) = false := by simpa using hpos
    cases hz : (n == 0)
    · rw [if_neg (by simpa using hz)] at EC
      go_wp2_with fail
      go_quiet (fail)
      go_wp2_with fail
      refine (rBegin_any F _ sb h s (MA.out.drewN nq) t ht hfew 3 (k : Int) n hn1 hnow hnow1 hn0 (by omega)).mono ?_
      rintro e w2 ⟨rfl, hm2, ho2⟩
      have M2 := hid hm2
      have O2 := hid ((OA.out.drewN nq).trans (ho2.mono (RH.foot_two h sb)))
      clear hm2 ho2
      go_wp2
      go_ret
      refine ⟨?_, h, ?_, AP.out, RNext.refl _ _, O2.out⟩
      · rw [EC.out]
        rfl
      · rw [ESS.out, EC.out]
        exact M2.out
    · rw [if_pos (by simpa using hz)] at EC
      go_wp2_with fail
      go_quiet (fail)
      go_wp2
      go_ret
      refine ⟨?_, h, ?_, AP.out, RNext.refl _ _, OA.out.drewN _⟩
      · rw [EC.out]
        rfl
      · rw [ESS.out, EC.out]
        exact MA.out.drewN _

end Go.Proofs.YthnjabnlocpoaaaGreat
