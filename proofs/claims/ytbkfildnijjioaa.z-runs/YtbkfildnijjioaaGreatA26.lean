import Derived.Test.YtbkfildnijjioaaGreatA25
import Derived.Test.YtbkfildnijjioaaGreatA23
import Derived.Test.YtbkfildnijjioaaGreatA16
import Derived.Test.YtbkfildnijjioaaGreatA15
import Derived.Deep.RegionHeld3
import Derived.Test.YtbkfildnijjioaaGreatA24
/-
  Walks over package donateref: Run.
-/
namespace Go.Proofs.YtbkfildnijjioaaGreat
open Go.RowKit

theorem Tryz.infoLineR : (Tryz.prog.info? 75).map (fun i => (i.zero, i.size, i.bytes)) = some (some (.agg #[.int .i64 0, .int .i64 0, .int .i64 0, .int .i64 0, .int .i64 0, .slice none 0 0, .slice none 0 0]), 7, 88) := by kernel_rfl

theorem Blk.onto {w w' : World} {b : Nat} {cs : Array Value} {e : TypeId} (h : Blk w b cs e) (hb : Below w.heap.size w w') : Blk w' b cs e := by
  have hl := h.lt
  unfold Blk at h ⊢
  rw [hb.block _ hl]
  exact h

/-- The document's kernel at work, a trace v that is being laid, and a line at lb. -/
structure RL (B : Nat) (w0 w : World) (Q : Nat → Prop) (sb : Nat) (s : RS) (v : Value) (k : Nat) (C : List Value) (L : List LineD) (lb : Nat) : Prop where
  rk : RK Q w sb s
  row : w.ownsRow B 75 7 v k C
  lr : LRow B w Q C L
  nv : ∀ b, v.ownBlock = some b → ¬ Q b ∧ b ≠ lb
  nl : ¬ Q lb
  lt : Typ w lb 75
  hq : ∀ b, Q b → B ≤ b
  hb : Below B w0 w
  hl : B ≤ lb
/-- The misses of a line. -/
structure MisAt (B : Nat) (w : World) (Q : Nat → Prop) (mv : Value) (l : List MissD) : Prop where
  row : w.ownsRow B 95 3 mv l.length (missCells l)
  nm : ∀ b, mv.ownBlock = some b → ¬ Q b
section
variable {B : Nat} {w0 w w' : World} {Q Q' : Nat → Prop} {sb : Nat} {s s' : RS} {v mv : Value} {k : Nat} {C : List Value} {L : List LineD} {lb : Nat} {l : List MissD}
theorem RL.store (r : RL B w0 w Q sb s v k C L lb) (j : Nat) (u : Value) : RL B w0 (w.setCell ⟨lb, j, none⟩ u) Q sb s v k C L lb := by
  have same : ∀ b, b ≠ lb → (w.setCell ⟨lb, j, none⟩ u).heap[b]? = w.heap[b]? := fun b hb => Below.heap_setCell _ _ _ _ hb
  have hz : (w.setCell ⟨lb, j, none⟩ u).heap.size = w.heap.size := by simp [World.setCell]
  refine ⟨r.rk.frame (fun b hb => same b (fun e => r.nl (e ▸ hb))) (by omega), ownsRow_same r.row fun g hg => same g (r.nv g hg).2, r.lr.turn (fun b _ _ ht => same b (fun e => ?_)) (fun _ h => .inl h), r.nv, r.nl, ?_, r.hq, r.hb.setCell r.hl _, r.hl⟩
  · subst e
    rcases ht with ht | ht
    · exact ht.ne r.lt (by decide) rfl
    · exact ht.ne r.lt (by decide) rfl
  · obtain ⟨cs, hc⟩ := r.lt
    have : Blk w lb cs 75 := hc
    exact ⟨_, this.set j u⟩
theorem RL.below (r : RL B w0 w Q sb s v k C L lb) (hb : Below w.heap.size w w') : RL B w0 w' Q sb s v k C L lb :=
  ⟨r.rk.below hb, ownsRow_same r.row fun g hg => hb.block g (ownsRow_block r.row hg).2.1, r.lr.below hb, r.nv, r.nl, r.lt.same (hb.block lb r.lt.lt), r.hq, r.hb.trans (hb.mono (by have := r.lt.lt; have := r.hl; omega)), r.hl⟩
theorem RL.turn (r : RL B w0 w Q sb s v k C L lb) (t : Turns Q w w') (rk : RK Q' w' sb s') (hs : ∀ b, Q' b → Q b ∨ w.heap.size ≤ b) : RL B w0 w' Q' sb s' v k C L lb := by
  have hBw : B ≤ w.heap.size := by have := r.lt.lt; have := r.hl; omega
  refine ⟨rk, ownsRow_same r.row fun g hg => t.block g (ownsRow_block r.row hg).2.1 (r.nv g hg).1, r.lr.turns t hs, fun b hb => ⟨fun hq => ?_, (r.nv b hb).2⟩, fun hq => ?_, r.lt.same (t.block lb r.lt.lt r.nl), fun b hb => ?_, r.hb.trans (t.below hBw r.hq), r.hl⟩
  · rcases hs b hq with h | h
    · exact (r.nv b hb).1 h
    · have := (ownsRow_block r.row hb).2.1
      omega
  · rcases hs lb hq with h | h
    · exact r.nl h
    · have := r.lt.lt
      omega
  · rcases hs b hb with h | h
    · exact r.hq b h
    · omega
theorem MisAt.store (m : MisAt B w Q mv l) (ht : Typ w lb 75) (j : Nat) (u : Value) : MisAt B (w.setCell ⟨lb, j, none⟩ u) Q mv l :=
  ⟨ownsRow_same m.row fun g hg => Below.heap_setCell _ _ _ _ (fun e => (own_typ m.row hg).ne ht (by decide) e), m.nm⟩
theorem MisAt.below (m : MisAt B w Q mv l) (hb : Below w.heap.size w w') : MisAt B w' Q mv l := ⟨ownsRow_same m.row fun g hg => hb.block g (ownsRow_block m.row hg).2.1, m.nm⟩
end

theorem rkNow {Q : Nat → Prop} {w : World} {sb : Nat} {s : RS} (k : RK Q w sb s) : w.cell? ⟨sb, 6, none⟩ = some (.int .i64 s.now) := by
  obtain ⟨F, h, m, _⟩ := k.mem
  have := m.blk.cell 6
  simpa [rsCells] using this
theorem rkRunning_any (Q : Nat → Prop) (w : World) (sb : Nat) (s : RS) (k : RK Q w sb s) :
    Calls Tryz.prog 31 #[.pointer (some ⟨sb, 0, none⟩)] w fun e w' => ∃ v, e = .returned v ∧ w'.ownsRow w.heap.size 3 1 v (R.running s).length (intCells (R.running s)) ∧ Below w.heap.size w w' := by
  obtain ⟨F, h, m, _⟩ := k.mem
  have hn : s.set.workers = (s.set.workers.toNat : Int) := by have := k.inv.good.wk0; omega
  have c := rRunning_any F w sb h s m k.inv.good s.set.workers.toNat hn
  rw [← running_len s] at c
  exact c
theorem lineOf_tick (s : RS) : R.lineOf s (-1) = ⟨-1, 0, 0, R.tickE s, (R.tickS s).now, R.running (R.tickS s), R.tickL s⟩ ∧ R.entry s (-1) = R.tickS s := by
  unfold R.lineOf R.entry
  rw [if_pos rfl, if_pos rfl]
  exact ⟨rfl, rfl⟩
theorem lineOf_pick (s : RS) (n : Int) (h : n ≠ -1) : R.lineOf s n = ⟨R.pickT s n, R.pickA s n, R.pickC s n, R.pickE s n, (R.pickS s n).now, R.running (R.pickS s n), []⟩ ∧ R.entry s n = R.pickS s n := by
  unfold R.lineOf R.entry
  rw [if_neg h, if_neg h]
  exact ⟨rfl, rfl⟩
theorem one_line {P : LineD → Prop} (x : LineD) (h : P x) : P ⟨x.th, x.at_, x.cd, x.er, x.now, x.run, x.mis⟩ := h

set_option maxRecDepth 100000 in
set_option maxHeartbeats 4000000 in
theorem rRun_any (tv mv sv qv : Option Addr) (tc mc sc qc : Nat) (S : SetD) (w : World) (hS : SetIn w.heap.size w tv mv sv qv S) (hF : Fits S) (hnil : (tv = none → tc = 0) ∧ (mv = none → mc = 0) ∧ (sv = none → sc = 0) ∧ (qv = none → qc = 0)) (av : Option Addr) (ac : Nat) (l : List Int) (hl : IntsIn w.heap.size w av l) (hll : l.length ≤ 9223372036854775807) :
    Calls Tryz.prog 17 #[.agg #[.int .i64 S.workers, .int .i64 S.start, .slice tv S.threads.length tc, .slice mv S.mutexes.length mc, .slice sv S.sems.length sc, .slice qv S.queues.length qc], .slice av l.length ac] w fun e w' => RunOk S l w e w' := by
  have hb0 : Below w.heap.size w (w.alloc (.cells #[.int .i64 S.workers, .int .i64 S.start, .slice tv S.threads.length tc, .slice mv S.mutexes.length mc, .slice sv S.sems.length sc, .slice qv S.queues.length qc] 27)) := (Below.refl _ _).alloc (Nat.le_refl _) _
  have X0 := Blk.new w #[.int .i64 S.workers, .int .i64 S.start, .slice tv S.threads.length tc, .slice mv S.mutexes.length mc, .slice sv S.sems.length sc, .slice qv S.queues.length qc] 27
  have HS := hid hS
  have HF := hid hF
  have HN := hid hnil
  have HL := hid hl
  clear hS hF hnil hl
  by_cases hlong : 1000 < l.length
  · obtain ⟨e1, e2⟩ := runL_long (S := S) hlong
    unfold RunOk
    rw [e1, e2]
    clear e1 e2
    have hlI : (1000 : Int) < (l.length : Int) := by omega
    go_enter Tryz.func17, Tryz.ntmps17
    go_wp2
    go_ret2
    exact ⟨_, [], rfl, World.ownsRow_nil _ _ _ _, LRow.nil _ _ _ _, hb0⟩
  · have hlI : (l.length : Int) ≤ 1000 := by omega
    have CC := hid (fun wx hSx => rCheck_any tv mv sv qv tc mc sc qc S wx hSx)
    by_cases herr : P3.err S = 0
    · obtain ⟨e1, e2⟩ := runL_ok hlong herr
      unfold RunOk
      rw [e1, e2]
      clear e1 e2
      have hthr : S.threads.length ≤ 16 := by
        have := (good_bare herr).few
        simpa [R.bare] using this
      have hnext := new_next S hthr
      have HLEN := hid (R.linesTo_length (R.new S) l)
      have HE := hid herr
      have INV := hid (fun j (hj : j ≤ 1000) => stTo_inv (inv_new herr) l j (by omega))
      have CN := hid (fun wx hSx => rkNew_any tv mv sv qv tc mc sc qc S wx hSx HF.out HN.out herr)
      rw [herr] at CC
      clear herr hlong
      generalize P3.place S = pl at *
      generalize R.new S = s0 at *
      obtain ⟨iT, hiT, hzT0, hzT1, hzT2⟩ := info_parts Tryz.infoLineR
      have HIT := hid (And.intro hiT (And.intro hzT0 (And.intro hzT1 hzT2)))
      clear hiT hzT0 hzT1 hzT2
      go_enter Tryz.func17, Tryz.ntmps17
      go_upto_region 1 with fail
      generalize w.alloc (.cells #[.int .i64 S.workers, .int .i64 S.start, .slice tv S.threads.length tc, .slice mv S.mutexes.length mc, .slice sv S.sems.length sc, .slice qv S.queues.length qc] 27) = w0 at hb0 X0 ⊢
      have y0 := X0.cell 0
      have y1 := X0.cell 1
      have y2 := X0.cell 2
      have y3 := X0.cell 3
      have y4 := X0.cell 4
      have y5 := X0.cell 5
      simp at y0 y1 y2 y3 y4 y5
      have CC0 := hid (CC.out w0 (HS.out.later hb0))
      have HB0 := hid hb0
      have XS := hid X0
      have hsz0 := hb0.size
      clear CC hb0 X0
      go_wp2_with fail
      refine CC0.out.mono ?_
      rintro e w1 ⟨rfl, hb1⟩
      have X1 := XS.out.onto hb1
      have HB1 := hid (via HB0.out HB0.out.size hb1)
      have CN1 := hid (CN.out w1 (HS.out.later HB1.out))
      have y0 := X1.cell 0
      have y1 := X1.cell 1
      have y2 := X1.cell 2
      have y3 := X1.cell 3
      have y4 := X1.cell 4
      have y5 := X1.cell 5
      simp at y0 y1 y2 y3 y4 y5
      clear CC0 XS hb1 X1 CN
      go_wp2_with fail
      refine CN1.out.mono ?_
      rintro e w2 ⟨sb, Q, rfl, rk2, hq2, hb2⟩
      have HB2 := hid (via HB1.out HB1.out.size hb2)
      have RK2 := hid rk2
      have HQ2 : Hid (∀ b, Q b → w.heap.size ≤ b) := fun b hb => by have := hq2 b hb; have := HB1.out.size; omega
      clear CN1 rk2 hq2 hb2 y0 y1 y2 y3 y4 y5
      go_wp2
      go_loopw [9, 10] (fun v i wr => ∃ j : Nat, j ≤ l.length ∧ i = .int .i64 j ∧ ∃ C Q', wr.ownsRow w.heap.size 75 7 v j C ∧ LRow w.heap.size wr Q' C (R.linesTo s0 l j) ∧ RK Q' wr sb (R.stTo s0 l j) ∧ (∀ b, v.ownBlock = some b → ¬ Q' b) ∧ (∀ b, Q' b → w.heap.size ≤ b) ∧ Below w.heap.size w wr) (fun _ i _ => l.length - (intOf i).toNat)
      case atStart => exact ⟨0, Nat.zero_le _, rfl, [], Q, World.ownsRow_nil _ _ _ _, LRow.nil _ _ _ _, RK2.out, fun b hb => (by cases hb), HQ2.out, HB2.out⟩
      case round =>
        rename_i v _ _
        obtain ⟨k, hk, rfl, C, Q', hrow, hlr, hrk, hnv, hq, hb⟩ := hrel
        obtain ⟨va0, vc0, rfl, _, _⟩ := owns_cells hrow
        have hCl : C.length = k * 7 := hrow.1
        have hnext2 := (INV.out k (by omega)).2
        have hszr := hb.size
        by_cases hkl : k < l.length
        · obtain ⟨b, o, hta, hbb, y0⟩ := HL.out k hkl
          subst hta
          have bl : ∀ wx, Below w.heap.size w wx → wx.cell? ⟨b, o + k, none⟩ = some (.int .i64 l[k]) := fun wx hx => (hx.cell (p := ⟨b, o + k, none⟩) hbb).trans y0
          have BL := hid bl
          have hkI : (k : Int) < (l.length : Int) := by omega
          have EX : Hid (R.linesTo s0 l (k + 1) = R.linesTo s0 l k ++ [R.lineOf (R.stTo s0 l k) l[k]]) := by
            refine hid ?_
            have e : l.getD k 0 = l[k] := by simp [List.getD, hkl]
            show R.linesTo s0 l k ++ [R.lineOf (R.stTo s0 l k) (l.getD k 0)] = _
            rw [e]
          have EY : Hid (R.stTo s0 l (k + 1) = R.entry (R.stTo s0 l k) l[k]) := by
            refine hid ?_
            have e : l.getD k 0 = l[k] := by simp [List.getD, hkl]
            show R.entry (R.stTo s0 l k) (l.getD k 0) = _
            rw [e]
          have HLL := hid (HLEN.out k)
          have nxk : (R.stTo s0 l k).next ≤ 4611686018427386000 := by omega
          generalize R.linesTo s0 l k = LL at *
          generalize R.stTo s0 l k = sk at *
          have hbA : Below wr.heap.size wr (wr.alloc (.cells #[.int .i64 0, .int .i64 0, .int .i64 0, .int .i64 0, .int .i64 0, .slice none 0 0, .slice none 0 0] 75)) := (Below.refl _ _).alloc (Nat.le_refl _) _
          have XA := Blk.new wr #[.int .i64 0, .int .i64 0, .int .i64 0, .int .i64 0, .int .i64 0, .slice none 0 0, .slice none 0 0] 75
          have rlA : RL w.heap.size w (wr.alloc (.cells #[.int .i64 0, .int .i64 0, .int .i64 0, .int .i64 0, .int .i64 0, .slice none 0 0, .slice none 0 0] 75)) Q' sb sk (.slice va0 k vc0) k C LL wr.heap.size := by
            refine ⟨hrk.below hbA, ownsRow_same hrow fun g hg => hbA.block g (ownsRow_block hrow hg).2.1, hlr.below hbA, fun b hb => ⟨hnv b hb, fun e => ?_⟩, fun hh => ?_, ⟨_, XA⟩, hq, hb.trans (hbA.mono hszr), hszr⟩
            · have := (ownsRow_block hrow hb).2.1
              omega
            · have := hrk.lt _ hh
              omega
          have hA : Below w.heap.size w (wr.alloc (.cells #[.int .i64 0, .int .i64 0, .int .i64 0, .int .i64 0, .int .i64 0, .slice none 0 0, .slice none 0 0] 75)) := rlA.hb
          clear y0 hrow hlr hrk hnv hq hb bl
          have y0 := BL.out _ rlA.hb
          go_upto_region 12 with fail
          generalize wr.alloc (.cells #[.int .i64 0, .int .i64 0, .int .i64 0, .int .i64 0, .int .i64 0, .slice none 0 0, .slice none 0 0] 75) = wA at *
          generalize hlb : wr.heap.size = lb at *
          generalize hn : l[k] = n at *
          clear hn
          by_cases hm1 : n = -1
          · subst hm1
            obtain ⟨ex, ey⟩ := lineOf_tick sk
            rw [ex] at EX
            rw [ey] at EY
            clear ex ey
            have CT := hid (fun Q wx (kx : RK Q wx sb sk) => rkTick2_any Q wx sb sk kx nxk)
            generalize R.tickE sk = te at *
            generalize R.tickL sk = tl at *
            generalize R.tickS sk = se at *
            have z0 := XA.frozen 0
            have x0 := XA.cell 0
            simp at x0
            have hxl := XA.lt
            have xB : Blk (wA.setCell ⟨lb, 0, none⟩ (.int .i64 (-1))) lb #[.int .i64 (-1), .int .i64 0, .int .i64 0, .int .i64 0, .int .i64 0, .slice none 0 0, .slice none 0 0] 75 := by
              have := XA.set 0 (.int .i64 (-1))
              simpa using this
            have rlB := rlA.store 0 (.int .i64 (-1))
            go_upto_region 14 with fail
            generalize wA.setCell ⟨lb, 0, none⟩ (.int .i64 (-1)) = wB at *
            have CTB := hid (CT.out Q' wB rlB.rk)
            have RLB := hid rlB
            have XB := hid xB
            clear x0 z0 hxl XA rlA CT rlB xB y0 hbA
            go_wp2_with fail
            refine CTB.out.mono ?_
            rintro e w3 ⟨m, Q2, rfl, hr3, rk3, hs3, hn3, t3⟩
            obtain ⟨va, vc, rfl, _, _⟩ := owns_cells hr3
            have hlbB := RLB.out.lt.lt
            have rl3 := RLB.out.turn t3 rk3 hs3
            have x3 : Blk w3 lb #[.int .i64 (-1), .int .i64 0, .int .i64 0, .int .i64 0, .int .i64 0, .slice none 0 0, .slice none 0 0] 75 := blk_turns XB.out t3 RLB.out.nl
            have ma3 : MisAt w.heap.size w3 Q2 (.slice va tl.length vc) tl := ⟨ownsRow_mono hr3 (by have := RLB.out.hb.size; omega), hn3⟩
            have y6 := x3.cell 6
            have y3 := x3.cell 3
            simp at y6 y3
            have z6 := x3.frozen 6
            have z3 := x3.frozen 3
            have hxl := x3.lt
            have rl4 := (rl3.store 6 (.slice va tl.length vc)).store 3 (.int .i64 te)
            have ma4 := (ma3.store rl3.lt 6 (.slice va tl.length vc)).store (rl3.store 6 (.slice va tl.length vc)).lt 3 (.int .i64 te)
            have x4 : Blk ((w3.setCell ⟨lb, 6, none⟩ (.slice va tl.length vc)).setCell ⟨lb, 3, none⟩ (.int .i64 te)) lb #[.int .i64 (-1), .int .i64 0, .int .i64 0, .int .i64 te, .int .i64 0, .slice none 0 0, .slice va tl.length vc] 75 := by
              have := (x3.set 6 (.slice va tl.length vc)).set 3 (.int .i64 te)
              simpa using this
            clear CTB RLB XB hr3 rk3 hs3 hn3 t3 rl3 x3 ma3
            go_upto_region 20 with fail
            clear y6 y3 z6 z3 hxl
            generalize (w3.setCell ⟨lb, 6, none⟩ (.slice va tl.length vc)).setCell ⟨lb, 3, none⟩ (.int .i64 te) = w4 at *
            have y4 := x4.cell 4
            simp at y4
            have z4 := x4.frozen 4
            have hxl := x4.lt
            have cnow := rkNow rl4.rk
            have rl5 := rl4.store 4 (.int .i64 se.now)
            have ma5 := ma4.store rl4.lt 4 (.int .i64 se.now)
            have x5 : Blk (w4.setCell ⟨lb, 4, none⟩ (.int .i64 se.now)) lb #[.int .i64 (-1), .int .i64 (0), .int .i64 (0), .int .i64 (te), .int .i64 se.now, .slice none 0 0, .slice va tl.length vc] 75 := by
              have := x4.set 4 (.int .i64 se.now)
              simpa using this
            clear rl4 ma4 x4
            go_upto_region 21 with fail
            clear y4 z4 hxl cnow
            generalize w4.setCell ⟨lb, 4, none⟩ (.int .i64 se.now) = w5 at *
            have CR := hid (rkRunning_any Q2 w5 sb se rl5.rk)
            generalize R.running se = rr at *
            go_wp2_with fail
            refine CR.out.mono ?_
            rintro e w6 ⟨rv, rfl, hr6, hb6⟩
            obtain ⟨ra, rc, rfl, _, _⟩ := owns_cells hr6
            have rl6 := rl5.below hb6
            have ma6 := ma5.below hb6
            have x6 := x5.onto hb6
            have y5 := x6.cell 5
            simp at y5
            have z5 := x6.frozen 5
            have hxl := x6.lt
            have rl7 := rl6.store 5 (.slice ra rr.length rc)
            have ma7 := ma6.store rl6.lt 5 (.slice ra rr.length rc)
            have x7 : Blk (w6.setCell ⟨lb, 5, none⟩ (.slice ra rr.length rc)) lb #[.int .i64 (-1), .int .i64 (0), .int .i64 (0), .int .i64 (te), .int .i64 se.now, .slice ra rr.length rc, .slice va tl.length vc] 75 := by
              have := x6.set 5 (.slice ra rr.length rc)
              simpa using this
            have run7 : (w6.setCell ⟨lb, 5, none⟩ (.slice ra rr.length rc)).ownsRow w5.heap.size 3 1 (.slice ra rr.length rc) rr.length (intCells rr) := ownsRow_same hr6 fun g hg => Below.heap_setCell _ _ _ _ (fun e => (own_typ hr6 hg).ne rl6.lt (by decide) e)
            have nr7 : ∀ b, (Value.slice ra rr.length rc).ownBlock = some b → ¬ Q2 b := fun b hb hq => by
              have h1 := (ownsRow_block hr6 hb).1
              have h2 := rl5.rk.lt b hq
              omega
            have hz5 : w.heap.size ≤ w5.heap.size := rl5.hb.size
            clear CR rl5 ma5 x5 hr6 hb6 rl6 ma6 x6
            go_upto_region 22 with fail
            clear y5 z5 hxl
            generalize w6.setCell ⟨lb, 5, none⟩ (.slice ra rr.length rc) = w7 at *
            have q0 := x7.cell 0
            have q1 := x7.cell 1
            have q2 := x7.cell 2
            have q3 := x7.cell 3
            have q4 := x7.cell 4
            have q5 := x7.cell 5
            have q6 := x7.cell 6
            simp at q0 q1 q2 q3 q4 q5 q6
            have hxl := x7.lt
            have hb8 : Below w7.heap.size w7 (w7.alloc (.cells #[.int .i64 (-1), .int .i64 (0), .int .i64 (0), .int .i64 (te), .int .i64 se.now, .slice ra rr.length rc, .slice va tl.length vc] 75)) := (Below.refl _ _).alloc (Nat.le_refl _) _
            have rl8 := rl7.below hb8
            have ma8 := ma7.below hb8
            have run8 : (w7.alloc (.cells #[.int .i64 (-1), .int .i64 (0), .int .i64 (0), .int .i64 (te), .int .i64 se.now, .slice ra rr.length rc, .slice va tl.length vc] 75)).ownsRow w5.heap.size 3 1 (.slice ra rr.length rc) rr.length (intCells rr) := ownsRow_same run7 fun g hg => hb8.block g (ownsRow_block run7 hg).2.1
            have x8 := Blk.new w7 #[.int .i64 (-1), .int .i64 (0), .int .i64 (0), .int .i64 (te), .int .i64 se.now, .slice ra rr.length rc, .slice va tl.length vc] 75
            have RL8 := hid rl8
            have MA8 := hid ma8
            have RUN8 := hid run8
            have X8 := hid x8
            have NR := hid nr7
            have hsz7 : w.heap.size ≤ w7.heap.size := rl7.hb.size
            clear rl7 ma7 x7 run7 nr7 rl8 ma8 run8 x8 hb8
            go_wp2_with (at_builtin; refine wpList_append_src_at rfl (.tmp 72) (.tmp 74) 33 rfl w.heap.size 75 iT (.agg #[.int .i64 0, .int .i64 0, .int .i64 0, .int .i64 0, .int .i64 0, .slice none 0 0, .slice none 0 0]) 7 88 Tryz.underlying33 HIT.out.1 HIT.out.2.1 HIT.out.2.2.1 HIT.out.2.2.2 rfl (by decide) (.slice va0 k vc0) k C rfl RL8.out.row (some ⟨w7.heap.size, 0, none⟩) 1 1 [.int .i64 (-1), .int .i64 (0), .int .i64 (0), .int .i64 (te), .int .i64 se.now, .slice ra rr.length rc, .slice va tl.length vc] rfl rfl (fun h => (by cases h)) (fun j u hj => ⟨_, rfl, (by rw [Addr.add_lit, Nat.zero_add, X8.out.cell]; simpa using hj)⟩) (by intro u hu; simp at hu; rcases hu with rfl | rfl | rfl | rfl | rfl | rfl | rfl <;> rfl) (by unfold maxLen; omega) (by omega) (by simp; omega) ?_; intro v' w9 hown9 hg9 hat9; obtain ⟨tv9, tc9, rfl, _, _⟩ := owns_cells hown9; have O9 := hid hown9; have G9 := hid hg9; have A9 := hid hat9; clear hown9 hg9 hat9)
            go_roundw
            case rel =>
              have lineTv : ∀ b, (Value.slice va0 k vc0).ownBlock = some b → Typ _ b 75 := fun b hb => own_typ RL8.out.row hb
              have sm : ∀ b, b < (w7.alloc (.cells #[.int .i64 (-1), .int .i64 (0), .int .i64 (0), .int .i64 (te), .int .i64 se.now, .slice ra rr.length rc, .slice va tl.length vc] 75)).heap.size → (Value.slice va0 k vc0).ownBlock ≠ some b → w9.heap[b]? = (w7.alloc (.cells #[.int .i64 (-1), .int .i64 (0), .int .i64 (0), .int .i64 (te), .int .i64 se.now, .slice ra rr.length rc, .slice va tl.length vc] 75)).heap[b]? := fun b hb hn => G9.out.block b hb (fun e => hn e.symm)
              have lm9 : LineMem w.heap.size w9 Q2 ⟨-1, 0, 0, te, se.now, rr, tl⟩ (.slice ra rr.length rc) (.slice va tl.length vc) := by
                refine ⟨?_, ?_, NR.out, MA8.out.nm⟩
                · exact ownsRow_mono (ownsRow_same RUN8.out fun g hg => sm g (ownsRow_block RUN8.out hg).2.1 (fun e => (own_typ RUN8.out hg).ne (lineTv g e) (by decide) rfl)) hz5
                · exact ownsRow_same MA8.out.row fun g hg => sm g (ownsRow_block MA8.out.row hg).2.1 (fun e => (own_typ MA8.out.row hg).ne (lineTv g e) (by decide) rfl)
              have lr9 : LRow w.heap.size w9 Q2 C LL := RL8.out.lr.turn (fun b hb _ ht => sm b hb (fun e => by
                rcases ht with ht | ht
                · exact ht.ne (lineTv b e) (by decide) rfl
                · exact ht.ne (lineTv b e) (by decide) rfl)) (fun _ h => .inl h)
              have nq9 : ∀ b, (Value.slice tv9 (k + 1) tc9).ownBlock = some b → ¬ Q2 b := fun b hb hq => by
                rcases A9.out with e | e
                · rw [e] at hb
                  exact (RL8.out.nv b hb).1 hq
                · rw [e] at hb
                  cases hb
                  have := RL8.out.rk.lt _ hq
                  omega
              refine ⟨k + 1, by omega, by go_num, C ++ [.int .i64 (-1), .int .i64 (0), .int .i64 (0), .int .i64 (te), .int .i64 se.now, .slice ra rr.length rc, .slice va tl.length vc], Q2, O9.out, ?_, ?_, nq9, RL8.out.hq, ?_⟩
              · rw [EX.out]
                refine lr9.snoc lm9 (fun i hi j hj => ?_) (fun j hj => ?_)
                · rw [List.getElem?_append_left (by have := HLL.out; omega)]
                · rw [HLL.out, List.getElem?_append_right (by omega), hCl]
                  simp [lineCells]
              · rw [EY.out]
                refine RL8.out.rk.frame (fun b hb => sm b (RL8.out.rk.lt b hb) (fun e => (RL8.out.nv b e).1 hb)) G9.out.size
              · exact RL8.out.hb.trans ⟨G9.out.os, G9.out.tape, G9.out.output, G9.out.size, fun b hb => G9.out.block b (by have := RL8.out.hb.size; omega) (fun e => by
                  have := (ownsRow_block RL8.out.row e.symm).1
                  omega)⟩
            case measure => simp [intOf]; omega
          · obtain ⟨ex, ey⟩ := lineOf_pick sk n hm1
            rw [ex] at EX
            rw [ey] at EY
            have hm1' : (n == -1) = false := by simpa using hm1
            clear ex ey
            have CP := hid (fun Q wx (kx : RK Q wx sb sk) => rkPick_any Q wx sb sk kx n nxk)
            generalize R.pickT sk n = pt at *
            generalize R.pickA sk n = pa at *
            generalize R.pickC sk n = pc at *
            generalize R.pickE sk n = pe at *
            generalize R.pickS sk n = se at *
            have CPA := hid (CP.out Q' wA rlA.rk)
            have RLA := hid rlA
            have XL := hid XA
            clear XA rlA CP hbA
            go_wp2_with fail
            refine CPA.out.mono ?_
            rintro e w2' ⟨rfl, Q2, rk3, hs3, t3⟩
            have rl3 := RLA.out.turn t3 rk3 hs3
            have x3 : Blk w2' lb #[.int .i64 0, .int .i64 0, .int .i64 0, .int .i64 0, .int .i64 0, .slice none 0 0, .slice none 0 0] 75 := blk_turns XL.out t3 RLA.out.nl
            have hbR : Below w2'.heap.size w2' (w2'.alloc (.cells #[.int .i64 pt, .int .i64 pa, .int .i64 pc] 72)) := (Below.refl _ _).alloc (Nat.le_refl _) _
            have XR := Blk.new w2' #[.int .i64 pt, .int .i64 pa, .int .i64 pc] 72
            have rlR := rl3.below hbR
            have xR := x3.onto hbR
            go_upto_region 18 with fail
            generalize w2'.alloc (.cells #[.int .i64 pt, .int .i64 pa, .int .i64 pc] 72) = w3 at *
            have r0 := XR.cell 0
            have r1 := XR.cell 1
            have r2 := XR.cell 2
            have q0 := xR.cell 0
            have q1 := xR.cell 1
            have q2 := xR.cell 2
            have q3 := xR.cell 3
            simp at r0 r1 r2 q0 q1 q2 q3
            have z0 := xR.frozen 0
            have z1 := xR.frozen 1
            have z2 := xR.frozen 2
            have z3 := xR.frozen 3
            have hxl := xR.lt
            have hxr := XR.lt
            have rl4 := (((rlR.store 0 (.int .i64 pt)).store 1 (.int .i64 pa)).store 2 (.int .i64 pc)).store 3 (.int .i64 pe)
            have ma4 : MisAt w.heap.size ((((w3.setCell ⟨lb, 0, none⟩ (.int .i64 pt)).setCell ⟨lb, 1, none⟩ (.int .i64 pa)).setCell ⟨lb, 2, none⟩ (.int .i64 pc)).setCell ⟨lb, 3, none⟩ (.int .i64 pe)) Q2 (.slice none 0 0) [] := ⟨World.ownsRow_nil _ _ _ _, fun b hb => (by cases hb)⟩
            have x4 : Blk ((((w3.setCell ⟨lb, 0, none⟩ (.int .i64 pt)).setCell ⟨lb, 1, none⟩ (.int .i64 pa)).setCell ⟨lb, 2, none⟩ (.int .i64 pc)).setCell ⟨lb, 3, none⟩ (.int .i64 pe)) lb #[.int .i64 pt, .int .i64 pa, .int .i64 pc, .int .i64 pe, .int .i64 0, .slice none 0 0, .slice none 0 0] 75 := by
              have := (((xR.set 0 (.int .i64 pt)).set 1 (.int .i64 pa)).set 2 (.int .i64 pc)).set 3 (.int .i64 pe)
              simpa using this
            clear CPA RLA XL rk3 hs3 t3 rl3 x3 hbR XR rlR xR
            go_upto_region 20 with fail
            clear r0 r1 r2 q0 q1 q2 q3 z0 z1 z2 z3 hxl hxr
            generalize (((w3.setCell ⟨lb, 0, none⟩ (.int .i64 pt)).setCell ⟨lb, 1, none⟩ (.int .i64 pa)).setCell ⟨lb, 2, none⟩ (.int .i64 pc)).setCell ⟨lb, 3, none⟩ (.int .i64 pe) = w4 at *
            have y4 := x4.cell 4
            simp at y4
            have z4 := x4.frozen 4
            have hxl := x4.lt
            have cnow := rkNow rl4.rk
            have rl5 := rl4.store 4 (.int .i64 se.now)
            have ma5 := ma4.store rl4.lt 4 (.int .i64 se.now)
            have x5 : Blk (w4.setCell ⟨lb, 4, none⟩ (.int .i64 se.now)) lb #[.int .i64 (pt), .int .i64 (pa), .int .i64 (pc), .int .i64 (pe), .int .i64 se.now, .slice none 0 0, .slice none 0 0] 75 := by
              have := x4.set 4 (.int .i64 se.now)
              simpa using this
            clear rl4 ma4 x4
            go_upto_region 21 with fail
            clear y4 z4 hxl cnow
            generalize w4.setCell ⟨lb, 4, none⟩ (.int .i64 se.now) = w5 at *
            have CR := hid (rkRunning_any Q2 w5 sb se rl5.rk)
            generalize R.running se = rr at *
            go_wp2_with fail
            refine CR.out.mono ?_
            rintro e w6 ⟨rv, rfl, hr6, hb6⟩
            obtain ⟨ra, rc, rfl, _, _⟩ := owns_cells hr6
            have rl6 := rl5.below hb6
            have ma6 := ma5.below hb6
            have x6 := x5.onto hb6
            have y5 := x6.cell 5
            simp at y5
            have z5 := x6.frozen 5
            have hxl := x6.lt
            have rl7 := rl6.store 5 (.slice ra rr.length rc)
            have ma7 := ma6.store rl6.lt 5 (.slice ra rr.length rc)
            have x7 : Blk (w6.setCell ⟨lb, 5, none⟩ (.slice ra rr.length rc)) lb #[.int .i64 (pt), .int .i64 (pa), .int .i64 (pc), .int .i64 (pe), .int .i64 se.now, .slice ra rr.length rc, .slice none 0 0] 75 := by
              have := x6.set 5 (.slice ra rr.length rc)
              simpa using this
            have run7 : (w6.setCell ⟨lb, 5, none⟩ (.slice ra rr.length rc)).ownsRow w5.heap.size 3 1 (.slice ra rr.length rc) rr.length (intCells rr) := ownsRow_same hr6 fun g hg => Below.heap_setCell _ _ _ _ (fun e => (own_typ hr6 hg).ne rl6.lt (by decide) e)
            have nr7 : ∀ b, (Value.slice ra rr.length rc).ownBlock = some b → ¬ Q2 b := fun b hb hq => by
              have h1 := (ownsRow_block hr6 hb).1
              have h2 := rl5.rk.lt b hq
              omega
            have hz5 : w.heap.size ≤ w5.heap.size := rl5.hb.size
            clear CR rl5 ma5 x5 hr6 hb6 rl6 ma6 x6
            go_upto_region 22 with fail
            clear y5 z5 hxl
            generalize w6.setCell ⟨lb, 5, none⟩ (.slice ra rr.length rc) = w7 at *
            have q0 := x7.cell 0
            have q1 := x7.cell 1
            have q2 := x7.cell 2
            have q3 := x7.cell 3
            have q4 := x7.cell 4
            have q5 := x7.cell 5
            have q6 := x7.cell 6
            simp at q0 q1 q2 q3 q4 q5 q6
            have hxl := x7.lt
            have hb8 : Below w7.heap.size w7 (w7.alloc (.cells #[.int .i64 (pt), .int .i64 (pa), .int .i64 (pc), .int .i64 (pe), .int .i64 se.now, .slice ra rr.length rc, .slice none 0 0] 75)) := (Below.refl _ _).alloc (Nat.le_refl _) _
            have rl8 := rl7.below hb8
            have ma8 := ma7.below hb8
            have run8 : (w7.alloc (.cells #[.int .i64 (pt), .int .i64 (pa), .int .i64 (pc), .int .i64 (pe), .int .i64 se.now, .slice ra rr.length rc, .slice none 0 0] 75)).ownsRow w5.heap.size 3 1 (.slice ra rr.length rc) rr.length (intCells rr) := ownsRow_same run7 fun g hg => hb8.block g (ownsRow_block run7 hg).2.1
            have x8 := Blk.new w7 #[.int .i64 (pt), .int .i64 (pa), .int .i64 (pc), .int .i64 (pe), .int .i64 se.now, .slice ra rr.length rc, .slice none 0 0] 75
            have RL8 := hid rl8
            have MA8 := hid ma8
            have RUN8 := hid run8
            have X8 := hid x8
            have NR := hid nr7
            have hsz7 : w.heap.size ≤ w7.heap.size := rl7.hb.size
            clear rl7 ma7 x7 run7 nr7 rl8 ma8 run8 x8 hb8
            go_wp2_with (at_builtin; refine wpList_append_src_at rfl (.tmp 72) (.tmp 74) 33 rfl w.heap.size 75 iT (.agg #[.int .i64 0, .int .i64 0, .int .i64 0, .int .i64 0, .int .i64 0, .slice none 0 0, .slice none 0 0]) 7 88 Tryz.underlying33 HIT.out.1 HIT.out.2.1 HIT.out.2.2.1 HIT.out.2.2.2 rfl (by decide) (.slice va0 k vc0) k C rfl RL8.out.row (some ⟨w7.heap.size, 0, none⟩) 1 1 [.int .i64 (pt), .int .i64 (pa), .int .i64 (pc), .int .i64 (pe), .int .i64 se.now, .slice ra rr.length rc, .slice none 0 0] rfl rfl (fun h => (by cases h)) (fun j u hj => ⟨_, rfl, (by rw [Addr.add_lit, Nat.zero_add, X8.out.cell]; simpa using hj)⟩) (by intro u hu; simp at hu; rcases hu with rfl | rfl | rfl | rfl | rfl | rfl | rfl <;> rfl) (by unfold maxLen; omega) (by omega) (by simp; omega) ?_; intro v' w9 hown9 hg9 hat9; obtain ⟨tv9, tc9, rfl, _, _⟩ := owns_cells hown9; have O9 := hid hown9; have G9 := hid hg9; have A9 := hid hat9; clear hown9 hg9 hat9)
            go_roundw
            case rel =>
              have lineTv : ∀ b, (Value.slice va0 k vc0).ownBlock = some b → Typ _ b 75 := fun b hb => own_typ RL8.out.row hb
              have sm : ∀ b, b < (w7.alloc (.cells #[.int .i64 (pt), .int .i64 (pa), .int .i64 (pc), .int .i64 (pe), .int .i64 se.now, .slice ra rr.length rc, .slice none 0 0] 75)).heap.size → (Value.slice va0 k vc0).ownBlock ≠ some b → w9.heap[b]? = (w7.alloc (.cells #[.int .i64 (pt), .int .i64 (pa), .int .i64 (pc), .int .i64 (pe), .int .i64 se.now, .slice ra rr.length rc, .slice none 0 0] 75)).heap[b]? := fun b hb hn => G9.out.block b hb (fun e => hn e.symm)
              have lm9 : LineMem w.heap.size w9 Q2 ⟨pt, pa, pc, pe, se.now, rr, []⟩ (.slice ra rr.length rc) (.slice none 0 0) := by
                refine ⟨?_, ?_, NR.out, MA8.out.nm⟩
                · exact ownsRow_mono (ownsRow_same RUN8.out fun g hg => sm g (ownsRow_block RUN8.out hg).2.1 (fun e => (own_typ RUN8.out hg).ne (lineTv g e) (by decide) rfl)) hz5
                · exact ownsRow_same MA8.out.row fun g hg => sm g (ownsRow_block MA8.out.row hg).2.1 (fun e => (own_typ MA8.out.row hg).ne (lineTv g e) (by decide) rfl)
              have lr9 : LRow w.heap.size w9 Q2 C LL := RL8.out.lr.turn (fun b hb _ ht => sm b hb (fun e => by
                rcases ht with ht | ht
                · exact ht.ne (lineTv b e) (by decide) rfl
                · exact ht.ne (lineTv b e) (by decide) rfl)) (fun _ h => .inl h)
              have nq9 : ∀ b, (Value.slice tv9 (k + 1) tc9).ownBlock = some b → ¬ Q2 b := fun b hb hq => by
                rcases A9.out with e | e
                · rw [e] at hb
                  exact (RL8.out.nv b hb).1 hq
                · rw [e] at hb
                  cases hb
                  have := RL8.out.rk.lt _ hq
                  omega
              refine ⟨k + 1, by omega, by go_num, C ++ [.int .i64 (pt), .int .i64 (pa), .int .i64 (pc), .int .i64 (pe), .int .i64 se.now, .slice ra rr.length rc, .slice none 0 0], Q2, O9.out, ?_, ?_, nq9, RL8.out.hq, ?_⟩
              · rw [EX.out]
                refine lr9.snoc lm9 (fun i hi j hj => ?_) (fun j hj => ?_)
                · rw [List.getElem?_append_left (by have := HLL.out; omega)]
                · rw [HLL.out, List.getElem?_append_right (by omega), hCl]
                  simp [lineCells]
              · rw [EY.out]
                refine RL8.out.rk.frame (fun b hb => sm b (RL8.out.rk.lt b hb) (fun e => (RL8.out.nv b e).1 hb)) G9.out.size
              · exact RL8.out.hb.trans ⟨G9.out.os, G9.out.tape, G9.out.output, G9.out.size, fun b hb => G9.out.block b (by have := RL8.out.hb.size; omega) (fun e => by
                  have := (ownsRow_block RL8.out.row e.symm).1
                  omega)⟩
            case measure => simp [intOf]; omega
        · have e : k = l.length := by omega
          subst e
          have R9 := hid hrow
          have L9 := hid hlr
          have B9 := hid hb
          clear hrow hlr hrk hnv hq hb
          go_wp2
          go_ret2
          refine ⟨_, C, rfl, ?_, L9.out.turn (fun _ _ _ _ => rfl) (fun _ h => h.elim), B9.out⟩
          rw [HLEN.out]
          exact R9.out
    · obtain ⟨e1, e2⟩ := runL_bad hlong herr
      unfold RunOk
      rw [e1, e2]
      clear e1 e2
      have hne : (P3.err S != 0) = true := by simpa using herr
      clear herr hlong
      generalize P3.err S = er at *
      generalize P3.place S = pl at *
      go_enter Tryz.func17, Tryz.ntmps17
      go_upto_region 1 with fail
      generalize w.alloc (.cells #[.int .i64 S.workers, .int .i64 S.start, .slice tv S.threads.length tc, .slice mv S.mutexes.length mc, .slice sv S.sems.length sc, .slice qv S.queues.length qc] 27) = w0 at hb0 X0 ⊢
      have y0 := X0.cell 0
      have y1 := X0.cell 1
      have y2 := X0.cell 2
      have y3 := X0.cell 3
      have y4 := X0.cell 4
      have y5 := X0.cell 5
      simp at y0 y1 y2 y3 y4 y5
      have CC0 := hid (CC.out w0 (HS.out.later hb0))
      have HB0 := hid hb0
      have hsz0 := hb0.size
      clear CC hb0 X0
      go_wp2_with fail
      refine CC0.out.mono ?_
      rintro e w1 ⟨rfl, hb1⟩
      have HB1 := hid (via HB0.out HB0.out.size hb1)
      clear CC0 hb1
      go_wp2
      go_ret2
      exact ⟨_, [], rfl, World.ownsRow_nil _ _ _ _, LRow.nil _ _ _ _, HB1.out⟩

end Go.Proofs.YtbkfildnijjioaaGreat

/-
  Walks over package donatelaw: sameLine, sameLines, Runs.
-/
namespace Go.Proofs.YtbkfildnijjioaaGreat
open Go.RowKit

/-- A line as a value. -/
def lineV (x : LineD) (ra : Option Addr) (rc : Nat) (ma : Option Addr) (mc : Nat) : Value := .agg #[.int .i64 x.th, .int .i64 x.at_, .int .i64 x.cd, .int .i64 x.er, .int .i64 x.now, .slice ra x.run.length rc, .slice ma x.mis.length mc]
/-- A trace that is read. -/
def LinesAt (w : World) (ao : Option Addr) (L : List LineD) : Prop :=
  ∀ i (hi : i < L.length), ∃ b o ra rc ma mc, ao = some ⟨b, o, none⟩ ∧ b < w.heap.size ∧ (∀ j, j < 7 → w.cell? ⟨b, o + i * 7 + j, none⟩ = (lineCells L[i] (.slice ra (L[i]).run.length rc) (.slice ma (L[i]).mis.length mc))[j]?) ∧ IntsIn w.heap.size w ra (L[i]).run ∧ MissesIn w.heap.size w ma (L[i]).mis
theorem LinesAt.of_row {B : Nat} {w : World} {v : Value} {C : List Value} {L : List LineD} {Q : Nat → Prop} (hr : w.ownsRow B 75 7 v L.length C) (hl : LRow B w Q C L) : ∃ ao ca, v = .slice ao L.length ca ∧ (ao = none → ca = 0) ∧ LinesAt w ao L := by
  obtain ⟨ao, ca, rfl, hn, ha⟩ := owns_cells hr
  refine ⟨ao, ca, rfl, fun hh => (hn hh).2, fun i hi => ?_⟩
  cases ao with
  | none => have := (hn rfl).1; omega
  | some a =>
    obtain ⟨g, rfl, _, hlt, _, hc⟩ := ha a rfl
    obtain ⟨rv, mv, lm, hcell⟩ := hl.cells i hi
    obtain ⟨ra, rc, rfl, _, hri, _⟩ := IntsIn.of_owns lm.run
    obtain ⟨ma, mc, rfl, _, hmi⟩ := MissesIn.of_owns lm.mis
    refine ⟨g, 0, ra, rc, ma, mc, rfl, hlt, fun j hj => ?_, hri, hmi⟩
    rw [Nat.zero_add, hc _ (by have := hr.1; omega)]
    exact hcell j hj
theorem LinesAt.on {w w' : World} {ao : Option Addr} {L : List LineD} (h : LinesAt w ao L) (hb : Below w.heap.size w w') : LinesAt w' ao L := by
  intro i hi
  obtain ⟨b, o, ra, rc, ma, mc, e, hl, hc, h1, h2⟩ := h i hi
  exact ⟨b, o, ra, rc, ma, mc, e, Nat.lt_of_lt_of_le hl hb.size, fun j hj => (hb.cell (p := ⟨b, o + i * 7 + j, none⟩) hl).trans (hc j hj), h1.on hb, h2.on hb⟩

set_option maxRecDepth 100000 in
set_option maxHeartbeats 2000000 in
theorem sameLine_eq (w : World) (x : LineD) (ra : Option Addr) (rc : Nat) (ma : Option Addr) (mc : Nat) (ra' : Option Addr) (rc' : Nat) (ma' : Option Addr) (mc' : Nat)
    (h1 : IntsIn w.heap.size w ra x.run) (h2 : MissesIn w.heap.size w ma x.mis) (h3 : IntsIn w.heap.size w ra' x.run) (h4 : MissesIn w.heap.size w ma' x.mis) (hr : x.run.length ≤ 1099511627776) (hm : x.mis.length ≤ 1099511627776) :
    Calls Tryz.prog 32 #[lineV x ra rc ma mc, lineV x ra' rc' ma' mc'] w fun e w' => e = .returned (.bool true) ∧ Below w.heap.size w w' := by
  unfold lineV
  have H1 := hid h1
  have H2 := hid h2
  have H3 := hid h3
  have H4 := hid h4
  clear h1 h2 h3 h4
  obtain ⟨tt, aa, cc, ee, nn, rr, mm⟩ := x
  dsimp only at *
  have hb1 : Below w.heap.size w (w.alloc (.cells #[.int .i64 tt, .int .i64 aa, .int .i64 cc, .int .i64 ee, .int .i64 nn, .slice ra rr.length rc, .slice ma mm.length mc] 75)) := (Below.refl _ _).alloc (Nat.le_refl _) _
  have X1 := Blk.new w #[.int .i64 tt, .int .i64 aa, .int .i64 cc, .int .i64 ee, .int .i64 nn, .slice ra rr.length rc, .slice ma mm.length mc] 75
  have hb2 : Below (w.heap.size + 1) (w.alloc (.cells #[.int .i64 tt, .int .i64 aa, .int .i64 cc, .int .i64 ee, .int .i64 nn, .slice ra rr.length rc, .slice ma mm.length mc] 75)) ((w.alloc (.cells #[.int .i64 tt, .int .i64 aa, .int .i64 cc, .int .i64 ee, .int .i64 nn, .slice ra rr.length rc, .slice ma mm.length mc] 75)).alloc (.cells #[.int .i64 tt, .int .i64 aa, .int .i64 cc, .int .i64 ee, .int .i64 nn, .slice ra' rr.length rc', .slice ma' mm.length mc'] 75)) := (Below.refl _ _).alloc (by simp) _
  have X2 := Blk.new (w.alloc (.cells #[.int .i64 tt, .int .i64 aa, .int .i64 cc, .int .i64 ee, .int .i64 nn, .slice ra rr.length rc, .slice ma mm.length mc] 75)) #[.int .i64 tt, .int .i64 aa, .int .i64 cc, .int .i64 ee, .int .i64 nn, .slice ra' rr.length rc', .slice ma' mm.length mc'] 75
  have hsz1 : (w.alloc (.cells #[.int .i64 tt, .int .i64 aa, .int .i64 cc, .int .i64 ee, .int .i64 nn, .slice ra rr.length rc, .slice ma mm.length mc] 75)).heap.size = w.heap.size + 1 := by simp
  go_enter Tryz.func32, Tryz.ntmps32
  go_upto_region 1 with fail
  have hb3 : Below w.heap.size w ((w.alloc (.cells #[.int .i64 tt, .int .i64 aa, .int .i64 cc, .int .i64 ee, .int .i64 nn, .slice ra rr.length rc, .slice ma mm.length mc] 75)).alloc (.cells #[.int .i64 tt, .int .i64 aa, .int .i64 cc, .int .i64 ee, .int .i64 nn, .slice ra' rr.length rc', .slice ma' mm.length mc'] 75)) := hb1.trans (hb2.mono (by omega))
  have Y1 : Blk ((w.alloc (.cells #[.int .i64 tt, .int .i64 aa, .int .i64 cc, .int .i64 ee, .int .i64 nn, .slice ra rr.length rc, .slice ma mm.length mc] 75)).alloc (.cells #[.int .i64 tt, .int .i64 aa, .int .i64 cc, .int .i64 ee, .int .i64 nn, .slice ra' rr.length rc', .slice ma' mm.length mc'] 75)) w.heap.size #[.int .i64 tt, .int .i64 aa, .int .i64 cc, .int .i64 ee, .int .i64 nn, .slice ra rr.length rc, .slice ma mm.length mc] 75 := by
    have h := X1
    unfold Blk at h ⊢
    rw [hb2.block _ (by omega)]
    exact h
  rw [hsz1] at X2
  clear hb1 X1 hb2
  generalize (w.alloc (.cells #[.int .i64 tt, .int .i64 aa, .int .i64 cc, .int .i64 ee, .int .i64 nn, .slice ra rr.length rc, .slice ma mm.length mc] 75)).alloc (.cells #[.int .i64 tt, .int .i64 aa, .int .i64 cc, .int .i64 ee, .int .i64 nn, .slice ra' rr.length rc', .slice ma' mm.length mc'] 75) = w2 at *
  clear hsz1
  have YY := hid (And.intro Y1 X2)
  have HB3 := hid hb3
  have p0 := Y1.cell 0
  have p1 := Y1.cell 1
  have p2 := Y1.cell 2
  have r0 := X2.cell 0
  have r1 := X2.cell 1
  have r2 := X2.cell 2
  simp at p0 p1 p2 r0 r1 r2
  have hl1 := Y1.lt
  have hl2 := X2.lt
  clear Y1 X2 hb3
  go_wp2_with fail
  refine (sameReport_eq w2 tt aa cc).mono ?_
  rintro e w3 ⟨rfl, hb3⟩
  have Y3 := YY.out.1.onto hb3
  have Z3 := YY.out.2.onto hb3
  have HB4 := hid (via HB3.out HB3.out.size hb3)
  clear p0 p1 p2 r0 r1 r2 hl1 hl2 YY HB3 hb3
  have p5 := Y3.cell 5
  have r5 := Z3.cell 5
  have p6 := Y3.cell 6
  have r6 := Z3.cell 6
  have p3 := Y3.cell 3
  have r3 := Z3.cell 3
  have p4 := Y3.cell 4
  have r4 := Z3.cell 4
  simp at p3 r3 p4 r4 p5 r5 p6 r6
  have hl1 := Y3.lt
  have hl2 := Z3.lt
  clear Y3 Z3
  go_wp2_with fail
  refine (sameInts_eq w3 ra ra' rc rc' rr (H1.out.on HB4.out) (H3.out.on HB4.out) hr).mono ?_
  rintro e w4 ⟨rfl, n, rfl⟩
  have HB5 := hid (bdrewN HB4.out n)
  have hm2 := hid (H2.out.on HB5.out)
  have hm4 := hid (H4.out.on HB5.out)
  go_wp2_with fail
  refine (sameMisses_eq (w3.drewN n) ma ma' mc mc' mm hm2.out hm4.out hm).mono ?_
  rintro e w5 ⟨rfl, n', rfl⟩
  go_wp2
  go_ret
  refine ⟨by simp, ?_⟩
  have := bdrewN HB4.out (n + n')
  exact this

set_option maxRecDepth 100000 in
set_option maxHeartbeats 2000000 in
theorem sameLines_eq (w : World) (ao bo : Option Addr) (ca cb : Nat) (L : List LineD) (ha : LinesAt w ao L) (hb : LinesAt w bo L) (hl : L.length ≤ 1000) (hx : ∀ x ∈ L, x.run.length ≤ 1099511627776 ∧ x.mis.length ≤ 1099511627776) :
    Calls Tryz.prog 18 #[.slice ao L.length ca, .slice bo L.length cb] w fun e w' => e = .returned (.bool true) ∧ Below w.heap.size w w' := by
  have HA := hid ha
  have HB := hid hb
  have HX := hid hx
  clear ha hb hx
  go_enter Tryz.func18, Tryz.ntmps18
  go_wp2
  go_loopw [5] (fun i wr => ∃ k : Nat, k ≤ L.length ∧ i = .int .i64 k ∧ Below w.heap.size w wr) (fun i _ => L.length - (intOf i).toNat)
  case atStart => exact ⟨0, Nat.zero_le _, rfl, Below.refl _ _⟩
  case round =>
    obtain ⟨k, hk, rfl, hb⟩ := hrel
    have HBW := hid hb
    clear hb
    by_cases hlt : k < L.length
    · obtain ⟨b1, o1, ra, rc, ma, mc, rfl, hb1, c1, i1, m1⟩ := (HA.out.on HBW.out) k hlt
      obtain ⟨b2, o2, ra', rc', ma', mc', rfl, hb2, c2, i2, m2⟩ := (HB.out.on HBW.out) k hlt
      obtain ⟨hxr, hxm⟩ := HX.out L[k] (List.getElem_mem hlt)
      have hkI : (k : Int) < (L.length : Int) := by omega
      have SL := hid (fun wx (hbx : Below wr.heap.size wr wx) => sameLine_eq wx L[k] ra rc ma mc ra' rc' ma' mc' (i1.on hbx) (m1.on hbx) (i2.on hbx) (m2.on hbx) hxr hxm)
      unfold lineV at SL
      have p0 := c1 0 (by omega)
      have p1 := c1 1 (by omega)
      have p2 := c1 2 (by omega)
      have p3 := c1 3 (by omega)
      have p4 := c1 4 (by omega)
      have p5 := c1 5 (by omega)
      have p6 := c1 6 (by omega)
      have r0 := c2 0 (by omega)
      have r1 := c2 1 (by omega)
      have r2 := c2 2 (by omega)
      have r3 := c2 3 (by omega)
      have r4 := c2 4 (by omega)
      have r5 := c2 5 (by omega)
      have r6 := c2 6 (by omega)
      simp [lineCells] at p0 p1 p2 p3 p4 p5 p6 r0 r1 r2 r3 r4 r5 r6
      clear i1 m1 i2 m2 c1 c2 hxr hxm
      generalize L[k] = x at *
      have SL2 := hid (SL.out wr.drew (Below.refl _ _).drew)
      clear SL
      go_wp2_with fail
      go_region_held3 (fun w' => w'.cell? ⟨b1, o1 + k * 7, none⟩ = some (.int .i64 x.th) ∧ w'.cell? ⟨b1, o1 + k * 7 + 1, none⟩ = some (.int .i64 x.at_) ∧ w'.cell? ⟨b1, o1 + k * 7 + 2, none⟩ = some (.int .i64 x.cd) ∧ w'.cell? ⟨b1, o1 + k * 7 + 3, none⟩ = some (.int .i64 x.er) ∧ w'.cell? ⟨b1, o1 + k * 7 + 4, none⟩ = some (.int .i64 x.now) ∧ w'.cell? ⟨b1, o1 + k * 7 + 5, none⟩ = some (.slice ra x.run.length rc) ∧ w'.cell? ⟨b1, o1 + k * 7 + 6, none⟩ = some (.slice ma x.mis.length mc) ∧ w'.cell? ⟨b2, o2 + k * 7, none⟩ = some (.int .i64 x.th) ∧ w'.cell? ⟨b2, o2 + k * 7 + 1, none⟩ = some (.int .i64 x.at_) ∧ w'.cell? ⟨b2, o2 + k * 7 + 2, none⟩ = some (.int .i64 x.cd) ∧ w'.cell? ⟨b2, o2 + k * 7 + 3, none⟩ = some (.int .i64 x.er) ∧ w'.cell? ⟨b2, o2 + k * 7 + 4, none⟩ = some (.int .i64 x.now) ∧ w'.cell? ⟨b2, o2 + k * 7 + 5, none⟩ = some (.slice ra' x.run.length rc') ∧ w'.cell? ⟨b2, o2 + k * 7 + 6, none⟩ = some (.slice ma' x.mis.length mc')) (simp [*])
        (first
          | (go_at_call 32; refine SL2.out.mono ?_; rintro e w3 ⟨rfl, hb3⟩; have d0 := cell_later hb3 p0; have d1 := cell_later hb3 p1; have d2 := cell_later hb3 p2; have d3 := cell_later hb3 p3; have d4 := cell_later hb3 p4; have d5 := cell_later hb3 p5; have d6 := cell_later hb3 p6; have g0 := cell_later hb3 r0; have g1 := cell_later hb3 r1; have g2 := cell_later hb3 r2; have g3 := cell_later hb3 r3; have g4 := cell_later hb3 r4; have g5 := cell_later hb3 r5; have g6 := cell_later hb3 r6; have HB3 := hid (via HBW.out.drew (by have := HBW.out.size; simpa using this) hb3); clear hb3))
      go_wp2
      go_roundw
      case rel => exact ⟨k + 1, by omega, by go_num, HB3.out⟩
      case measure => simp [intOf]; omega
    · go_wp2
      go_ret
      exact ⟨rfl, HBW.out⟩

/-- No list of a trace is long. -/
theorem lineOf_small (s : RS) (n : Int) (h : RInv s) (h' : RInv (R.entry s n)) : (R.lineOf s n).run.length ≤ 8 ∧ (R.lineOf s n).mis.length ≤ 16 := by
  have e1 : (R.lineOf s n).run = R.running (R.entry s n) := by
    unfold R.lineOf R.entry
    split <;> rfl
  have hw := h'.good.wk1
  refine ⟨by rw [e1, running_len]; omega, ?_⟩
  unfold R.lineOf
  split
  · exact tickL_len s h.good.few
  · simp
theorem runL_small (S : SetD) (l : List Int) : ∀ x ∈ R.runL S l, x.run.length ≤ 1099511627776 ∧ x.mis.length ≤ 1099511627776 := by
  intro x hx
  by_cases h1 : 1000 < l.length
  · rw [(runL_long h1).1] at hx
    cases hx
  · by_cases h2 : P3.err S = 0
    · rw [(runL_ok h1 h2).1] at hx
      have hthr : S.threads.length ≤ 16 := by
        have := (good_bare h2).few
        simpa [R.bare] using this
      have hnext := new_next S hthr
      have inv := fun j (hj : j ≤ 1000) => stTo_inv (inv_new h2) l j (by omega)
      have all : ∀ k, k ≤ l.length → ∀ x ∈ R.linesTo (R.new S) l k, x.run.length ≤ 8 ∧ x.mis.length ≤ 16 := by
        intro k
        induction k with
        | zero => intro _ x hx; cases hx
        | succ k ih =>
          intro hk x hx
          rcases List.mem_append.1 hx with h | h
          · exact ih (by omega) x h
          · simp at h
            subst h
            exact lineOf_small _ _ (inv k (by omega)).1 (inv (k + 1) (by omega)).1
      have := all l.length (Nat.le_refl _) x hx
      omega
    · rw [(runL_bad h1 h2).1] at hx
      cases hx
theorem runL_len (S : SetD) (l : List Int) : (R.runL S l).length ≤ 1000 := by
  unfold R.runL
  split
  · simp
  · split
    · simp
    · rw [R.linesTo_length]
      omega

set_option maxRecDepth 100000 in
set_option maxHeartbeats 2000000 in
theorem lawRuns_any (cr : CRun) (tv mv sv qv av : Option Addr) (tc mc sc qc ac : Nat) (S : SetD) (l : List Int) (w : World) (hS : SetIn w.heap.size w tv mv sv qv S) (hF : Fits S) (hnil : (tv = none → tc = 0) ∧ (mv = none → mc = 0) ∧ (sv = none → sc = 0) ∧ (qv = none → qc = 0)) (hl : IntsIn w.heap.size w av l) (hav : av = none → ac = 0) (hll : l.length * 8 ≤ 140737488355328) :
    Calls Tryz.prog 11 #[.agg #[.int .i64 S.workers, .int .i64 S.start, .slice tv S.threads.length tc, .slice mv S.mutexes.length mc, .slice sv S.sems.length sc, .slice qv S.queues.length qc], .slice av l.length ac] w fun e w' => e = .returned (.bool true) ∧ Below w.heap.size w w' := by
  have HS := hid hS
  have HF := hid hF
  have HN := hid hnil
  have HL := hid hl
  have HAV := hid hav
  have HSM := hid (runL_small S l)
  have hlen := runL_len S l
  have CR := hid cr
  have CM := hid (fun wx hSx hlx => rRun_any tv mv sv qv tc mc sc qc S wx hSx hF hnil av ac l hlx (by omega))
  clear hS hF hnil hl cr hav
  obtain ⟨i3, hi3, hz30, hz31, hz32⟩ := info_parts Tryz.infoInt
  have HI3 := hid (And.intro hi3 (And.intro hz30 (And.intro hz31 hz32)))
  clear hi3 hz30 hz31 hz32
  unfold RunOk at CM
  generalize hrl : R.runL S l = rl at *
  generalize hre : R.runE S l = re at *
  have HRL := hid hrl
  have HRE := hid hre
  clear hrl hre
  go_enter Tryz.func11, Tryz.ntmps11
  go_wp2_with fail
  have hb0 : Below w.heap.size w (w.alloc (.cells #[.int .i64 S.workers, .int .i64 S.start, .slice tv S.threads.length tc, .slice mv S.mutexes.length mc, .slice sv S.sems.length sc, .slice qv S.queues.length qc] 27)) := (Below.refl _ _).alloc (Nat.le_refl _) _
  have X0 := Blk.new w #[.int .i64 S.workers, .int .i64 S.start, .slice tv S.threads.length tc, .slice mv S.mutexes.length mc, .slice sv S.sems.length sc, .slice qv S.queues.length qc] 27
  generalize w.alloc (.cells #[.int .i64 S.workers, .int .i64 S.start, .slice tv S.threads.length tc, .slice mv S.mutexes.length mc, .slice sv S.sems.length sc, .slice qv S.queues.length qc] 27) = w0 at hb0 X0 ⊢
  refine (copy_any tv mv sv qv tc mc sc qc S w0 (HS.out.later hb0) HF.out HN.out).mono ?_
  rintro e w1 ⟨tv', mv', sv', qv', tc', mc', sc', qc', rfl, hS1, hnil1, hb1⟩
  have HS1 := hid (hS1.toIn (B := w1.heap.size) (fun b hb => hb.2))
  have HN1 := hid hnil1
  have X1 := X0.onto hb1
  have hb01 := via hb0 hb0.size hb1
  have hbA : Below w1.heap.size w1 (w1.alloc (.cells #[.int .i64 S.workers, .int .i64 S.start, .slice tv' S.threads.length tc', .slice mv' S.mutexes.length mc', .slice sv' S.sems.length sc', .slice qv' S.queues.length qc'] 27)) := (Below.refl _ _).alloc (Nat.le_refl _) _
  have XA := X1.onto hbA
  have YA := Blk.new w1 #[.int .i64 S.workers, .int .i64 S.start, .slice tv' S.threads.length tc', .slice mv' S.mutexes.length mc', .slice sv' S.sems.length sc', .slice qv' S.queues.length qc'] 27
  clear hS1 hnil1 X0 X1 hb1 hb0
  go_upto_region 3 with fail
  generalize w1.alloc (.cells #[.int .i64 S.workers, .int .i64 S.start, .slice tv' S.threads.length tc', .slice mv' S.mutexes.length mc', .slice sv' S.sems.length sc', .slice qv' S.queues.length qc'] 27) = wA at hbA XA YA ⊢
  have HSA := hid (HS1.out.later hbA)
  have HBA := hid (via hb01 hb01.size hbA)
  have hzA := HBA.out.size
  have SRC : Hid (∀ j u, (intCells l)[j]? = some u → ∃ ad, av = some ad ∧ wA.cell? (ad.add j) = some u) := fun j u hj => by
    have hjl : j < l.length := by
      rcases Nat.lt_or_ge j l.length with h | h
      · exact h
      · rw [List.getElem?_eq_none (by simp [intCells]; omega)] at hj
        cases hj
    obtain ⟨b, o, e, hlt, hc⟩ := (HL.out.on HBA.out) j hjl
    refine ⟨_, e, ?_⟩
    rw [Addr.add_lit, hc]
    simpa [intCells, hjl] using hj
  have XX := hid (And.intro XA YA)
  clear hb01 hbA XA YA HS1
  go_upto_region 4 with (at_builtin; refine wpList_append_src rfl (.tmp 14) (.tmp 15) 25 rfl wA.heap.size 3 i3 (.int .i64 0) 1 8 Tryz.underlying25 HI3.out.1 HI3.out.2.1 HI3.out.2.2.1 HI3.out.2.2.2 rfl (by decide) (.slice none 0 0) 0 [] rfl (World.ownsRow_nil _ _ _ _) av l.length ac (intCells l) rfl (intCells_length _) HAV.out SRC.out (intCells_one _) (by unfold maxLen; omega) (by omega) (Nat.le_refl _) ?_; intro v' w2 hown2 hg2; have O2 := hid hown2; have G2 := hid hg2; clear hown2 hg2)
  have hb2 : Below wA.heap.size wA w2 := (Below.refl _ _).grown G2.out (Nat.le_refl _) (fun g hg => (by cases hg))
  have row2 : w2.ownsRow wA.heap.size 3 1 v' l.length (intCells l) := by
    have := O2.out
    simpa using this
  obtain ⟨lv, lc, rfl, _, hli, _⟩ := IntsIn.of_owns row2
  have HLI := hid hli
  have HS2 := hid (HSA.out.later hb2)
  have HB2 := hid (via HBA.out HBA.out.size hb2)
  have X2 := XX.out.1.onto hb2
  have Y2 := XX.out.2.onto hb2
  have y0 := Y2.cell 0
  have y1 := Y2.cell 1
  have y2 := Y2.cell 2
  have y3 := Y2.cell 3
  have y4 := Y2.cell 4
  have y5 := Y2.cell 5
  simp at y0 y1 y2 y3 y4 y5
  have CR2 := hid (CR.out tv' mv' sv' qv' tc' mc' sc' qc' S w2 HS2.out HF.out HN1.out lv lc l HLI.out (by omega))
  unfold RunOk at CR2
  rw [HRL.out, HRE.out] at CR2
  have XY := hid X2
  clear CR O2 G2 row2 hli hb2 XX X2 Y2 SRC HSA
  go_wp2_with fail
  refine CR2.out.mono ?_
  rintro e w3 ⟨v3, C3, rfl, hr3, hl3, hb3⟩
  obtain ⟨a3, c3, rfl, _, ln3⟩ := LinesAt.of_row hr3 hl3
  have LN3 := hid ln3
  have HB3 := hid (via HB2.out HB2.out.size hb3)
  have X3 := XY.out.onto hb3
  have y0 := X3.cell 0
  have y1 := X3.cell 1
  have y2 := X3.cell 2
  have y3 := X3.cell 3
  have y4 := X3.cell 4
  have y5 := X3.cell 5
  simp at y0 y1 y2 y3 y4 y5
  have CM3 := hid (CM.out w3 (HS.out.later HB3.out) (HL.out.on HB3.out))
  clear CR2 XY hr3 hl3 hb3 ln3 CM X3
  go_wp2_with fail
  refine CM3.out.mono ?_
  rintro e w4 ⟨v4, C4, rfl, hr4, hl4, hb4⟩
  obtain ⟨a4, c4, rfl, _, ln4⟩ := LinesAt.of_row hr4 hl4
  have LN4 := hid ln4
  have LN3' := hid (LN3.out.on hb4)
  have HB4 := hid (via HB3.out HB3.out.size hb4)
  clear CM3 hr4 hl4 hb4 ln4 LN3 y0 y1 y2 y3 y4 y5
  go_wp2_with fail
  refine (sameLines_eq w4 a3 a4 c3 c4 rl LN3'.out LN4.out hlen HSM.out).mono ?_
  rintro e w5 ⟨rfl, hb5⟩
  have HB5 := hid (via HB4.out HB4.out.size hb5)
  clear hb5
  go_wp2
  go_ret
  exact ⟨by simp, HB5.out⟩

end Go.Proofs.YtbkfildnijjioaaGreat

/-
  Runs, from what the program promises.
-/
namespace Go.Proofs.YtbkfildnijjioaaGreat
open Go.ChangeShapes Go.WideShapes Go.ChangeAt Go.RowKit Go.Deep

set_option maxRecDepth 100000 in
theorem open_script2 {H : Type} {enc : TypeId × Value → H} {w : World} {held : Bool} {r : Reach} {b0 : Nat} {v : Value} {d : DataW H} {p : List MemPlace} (hv : Value.okWide Tryz.prog w r b0 25 v) (h : DataW.Trod enc Tryz.prog w 0 (fun _ => true) held 25 v d p) (hw : Light d 25) :
    ∃ (ao : Option Addr) (cap : Nat) (l : List Int), v = .slice ao l.length cap ∧ (ao = none → cap = 0) ∧ IntsIn w.heap.size w ao l ∧ l.length * 8 ≤ reachBytes := by
  obtain ⟨ao', n, c, rfl⟩ := okWide_slice Tryz.underlying25 hv
  obtain ⟨fuel, hf⟩ := h
  obtain ⟨ao, cap, l, h1, h2, h3, h4⟩ := open_numbers hf
  simp [Value.cells] at h1
  obtain ⟨rfl, rfl, rfl⟩ := h1
  exact ⟨_, _, l, rfl, h2, h3, h4 hw⟩

set_option maxRecDepth 100000 in
theorem runs_lifted (cr : CRun) (os : Os) (started : os.Started) (H : Type) (enc : TypeId × Value → H) :
    ReturnsInHanded {} Tryz.checked os 11 .any (Rows.runsSpec.pre6 enc Tryz.prog Tryz.f11 Rows.runsRow.domain false) (Rows.runsSpec.post enc Tryz.prog Tryz.f11 false true false false) := by
  refine returnsInHanded_of_change_sized (C := Tryz.checked) Tryz.own started (by kernel_rfl) Tryz.func11
    (ChangeSpec.witness6 (enc := enc) (C := Tryz.checked) false ⟨#[], #[.agg #[.int .i64 0, .int .i64 0, .slice none 0 0, .slice none 0 0, .slice none 0 0, .slice none 0 0], .slice none 0 0], []⟩ 8 (by kernel_rfl) (by kernel_rfl) (by kernel_rfl) (by kernel_rfl)) ?_
  intro W base args ds gs before hval0 hW _ hsz0 _
  have hval : ∀ (j : Nat) t v, Tryz.f11.params[j]? = some t → args[j]? = some v → Value.okWide Tryz.prog W .any base t v := hval0
  have hsz : (DataW.weightsEach Tryz.prog (Tryz.f11.params.toList ++ Rows.runsSpec.plain.varTypes Tryz.prog) (ds ++ gs)).all (· ≤ reachBytes) = true := hsz0
  have hW' := hW
  obtain ⟨p, q, hA0, hV, rfl, hfz, hnd⟩ := hW
  have hA : DataW.TrodAll enc Tryz.prog W 0 (fun _ => true) true Tryz.f11.params.toList args.toList ds p := hA0
  rw [Tryz.params11] at hA hval hsz
  obtain ⟨v0, v1, d0, d1, p0, p1, rfl, rfl, rfl, h0, h1⟩ := trodAll_two hA
  obtain ⟨rfl, rfl⟩ := trodVars_none hV
  clear hA0 hval0 hsz0
  have hlight : Light d0 27 := by
    intro n hn
    have := List.all_eq_true.1 hsz n (DataW.weights_mem_each (j := 0) rfl rfl n hn)
    simpa using this
  have hlight1 : Light d1 25 := by
    intro n hn
    have := List.all_eq_true.1 hsz n (DataW.weights_mem_each (j := 1) rfl rfl n hn)
    simpa using this
  obtain ⟨S, tv, mv, sv, qv, tc, mc, sc, qc, hv, hin, hfit, hnil⟩ := open_set (hval 0 27 v0 rfl rfl) h0 hlight
  subst hv
  obtain ⟨av, ac, l, hv, hav, hil, hll⟩ := open_script2 (hval 1 25 v1 rfl rfl) h1 hlight1
  subst hv
  unfold reachBytes at hll
  simp only [List.append_nil] at hW'
  refine (lawRuns_any cr tv mv sv qv av tc mc sc qc ac S l W hin hfit hnil hil hav (by omega)).mono fun e W' ⟨he, hb⟩ => ?_
  subst he
  refine ⟨_, rfl, _, _, _, [], p0 ++ p1, [], hW', ?_, ?_, rfl, hb.frame _, fun h => by cases h⟩
  · exact trodAll_mk1 (shut_bool Tryz.underlying4 _)
  · exact trodAll_mk2 (Below.trod Tryz.laidOut (by kernel_rfl) (of_decide_eq_true (by kernel_rfl)) h0 hb (fun x hx => hW'.lt x (by simp; exact .inl hx))) (Below.trod Tryz.laidOut (by kernel_rfl) (of_decide_eq_true (by kernel_rfl)) h1 hb (fun x hx => hW'.lt x (by simp; exact .inr hx)))

theorem runs_of (cr : CRun) : Rows.RunsSaid :=
  OpenClaim.holds_of_wide 11 Tryz.f11 rfl rfl rfl rfl rfl rfl rfl ⟨rfl, rfl, rfl, rfl, rfl⟩ rfl rfl rfl rfl rfl (by kernel_rfl) Tryz.func11 (by kernel_rfl)
    (of_decide_eq_true (by kernel_rfl)) (by unfold Func.isWrapper; first | (rw [if_pos (by decide +kernel)]; kernel_rfl) | (rw [if_neg (by decide +kernel)]; exact ⟨rfl, rfl⟩))
    (fun os started H enc _ => runs_lifted cr os started H enc)

end Go.Proofs.YtbkfildnijjioaaGreat

/-
  Runs, of this program.
-/
namespace Go.Proofs.YtbkfildnijjioaaGreat

theorem runs_holds : Rows.RunsSaid := runs_of kRun_any

end Go.Proofs.YtbkfildnijjioaaGreat
