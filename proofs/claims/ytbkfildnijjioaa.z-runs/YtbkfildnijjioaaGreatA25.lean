import Derived.Test.YtbkfildnijjioaaGreatA12
import Derived.Test.YtbkfildnijjioaaGreatA05
import Derived.Test.YtbkfildnijjioaaGreatA15
/-
  Run, in plain words, and a trace in memory.
-/
namespace Go.Proofs.YtbkfildnijjioaaGreat
open Go.RowKit

structure LineD where
  th : Int
  at_ : Int
  cd : Int
  er : Int
  now : Int
  run : List Int
  mis : List MissD

namespace R
def lineOf (s : RS) (n : Int) : LineD :=
  if n = -1 then ⟨-1, 0, 0, tickE s, (tickS s).now, running (tickS s), tickL s⟩ else ⟨pickT s n, pickA s n, pickC s n, pickE s n, (pickS s n).now, running (pickS s n), []⟩
def stTo (s : RS) (l : List Int) : Nat → RS
  | 0 => s
  | k + 1 => R.entry (stTo s l k) (l.getD k 0)
def linesTo (s : RS) (l : List Int) : Nat → List LineD
  | 0 => []
  | k + 1 => linesTo s l k ++ [lineOf (stTo s l k) (l.getD k 0)]
def runE (S : SetD) (l : List Int) : Int := if 1000 < l.length then 9 else P3.err S
def runL (S : SetD) (l : List Int) : List LineD := if 1000 < l.length then [] else if P3.err S ≠ 0 then [] else linesTo (R.new S) l l.length
theorem linesTo_length (s : RS) (l : List Int) (k : Nat) : (linesTo s l k).length = k := by
  induction k with
  | zero => rfl
  | succ k ih => simp [linesTo, ih]
end R

/-- What is known of every step. -/
theorem RInv.entry {s : RS} (h : RInv s) (n : Int) (hnx : s.next ≤ 4611686018427386000) : RInv (R.entry s n) := by
  unfold R.entry
  split
  · unfold R.tickS
    split
    · exact h
    · exact h.tick (by have := h.good.now2; omega) hnx
  · exact h.pick n hnx
theorem stTo_inv {s : RS} (h : RInv s) (l : List Int) (k : Nat) (hs : s.next + 33 * k ≤ 4611686018427386000) : RInv (R.stTo s l k) ∧ (R.stTo s l k).next ≤ s.next + 33 * k := by
  induction k with
  | zero => exact ⟨h, by simp [R.stTo]⟩
  | succ k ih =>
    obtain ⟨i1, i2⟩ := ih (by omega)
    refine ⟨i1.entry _ (by omega), ?_⟩
    have := entry_next (R.stTo s l k) (l.getD k 0) i1
    show (R.entry _ _).next ≤ _
    omega

def lineCells (x : LineD) (rv mv : Value) : List Value := [.int .i64 x.th, .int .i64 x.at_, .int .i64 x.cd, .int .i64 x.er, .int .i64 x.now, rv, mv]

/-- The lists of a line: away from Q. -/
structure LineMem (B : Nat) (w : World) (Q : Nat → Prop) (x : LineD) (rv mv : Value) : Prop where
  run : w.ownsRow B 3 1 rv x.run.length (intCells x.run)
  mis : w.ownsRow B 95 3 mv x.mis.length (missCells x.mis)
  nr : ∀ b, rv.ownBlock = some b → ¬ Q b
  nm : ∀ b, mv.ownBlock = some b → ¬ Q b
structure LRow (B : Nat) (w : World) (Q : Nat → Prop) (C : List Value) (L : List LineD) : Prop where
  cells : ∀ i (hi : i < L.length), ∃ rv mv, LineMem B w Q L[i] rv mv ∧ ∀ j, j < 7 → C[i * 7 + j]? = (lineCells L[i] rv mv)[j]?
section
variable {B : Nat} {w w' : World} {Q Q' : Nat → Prop} {x : LineD} {rv mv : Value} {C C' : List Value} {L : List LineD}
theorem LineMem.turn (m : LineMem B w Q x rv mv) (hs : ∀ b, b < w.heap.size → ¬ Q b → (Typ w b 3 ∨ Typ w b 95) → w'.heap[b]? = w.heap[b]?) (hq : ∀ b, Q' b → Q b ∨ w.heap.size ≤ b) : LineMem B w' Q' x rv mv := by
  have r1 : ∀ b, rv.ownBlock = some b → b < w.heap.size := fun b hb => (ownsRow_block m.run hb).2.1
  have m1 : ∀ b, mv.ownBlock = some b → b < w.heap.size := fun b hb => (ownsRow_block m.mis hb).2.1
  refine ⟨ownsRow_same m.run fun g hg => hs g (r1 g hg) (m.nr g hg) (.inl (own_typ m.run hg)), ownsRow_same m.mis fun g hg => hs g (m1 g hg) (m.nm g hg) (.inr (own_typ m.mis hg)), fun b hb hq' => ?_, fun b hb hq' => ?_⟩
  · rcases hq b hq' with h | h
    · exact m.nr b hb h
    · have := r1 b hb
      omega
  · rcases hq b hq' with h | h
    · exact m.nm b hb h
    · have := m1 b hb
      omega
theorem LRow.turn (m : LRow B w Q C L) (hs : ∀ b, b < w.heap.size → ¬ Q b → (Typ w b 3 ∨ Typ w b 95) → w'.heap[b]? = w.heap[b]?) (hq : ∀ b, Q' b → Q b ∨ w.heap.size ≤ b) : LRow B w' Q' C L :=
  ⟨fun i hi => by
    obtain ⟨rv, mv, h1, h2⟩ := m.cells i hi
    exact ⟨rv, mv, h1.turn hs hq, h2⟩⟩
theorem LRow.turns (m : LRow B w Q C L) (t : Turns Q w w') (hq : ∀ b, Q' b → Q b ∨ w.heap.size ≤ b) : LRow B w' Q' C L := m.turn (fun b hb hn _ => t.block b hb hn) hq
theorem LRow.below (m : LRow B w Q C L) (hb : Below w.heap.size w w') : LRow B w' Q C L := m.turn (fun b hl _ _ => hb.block b hl) (fun _ h => .inl h)
theorem LRow.nil (B : Nat) (w : World) (Q : Nat → Prop) (C : List Value) : LRow B w Q C [] := ⟨fun i hi => by simp at hi⟩
/-- One line more. -/
theorem LRow.snoc (m : LRow B w Q C L) (hm : LineMem B w Q x rv mv) (ho : ∀ i, i < L.length → ∀ j, j < 7 → C'[i * 7 + j]? = C[i * 7 + j]?) (hx : ∀ j, j < 7 → C'[L.length * 7 + j]? = (lineCells x rv mv)[j]?) : LRow B w Q C' (L ++ [x]) := by
  refine ⟨fun i hi => ?_⟩
  by_cases h : i < L.length
  · obtain ⟨rv', mv', h1, h2⟩ := m.cells i h
    have e : (L ++ [x])[i] = L[i] := List.getElem_append_left h
    rw [e]
    exact ⟨rv', mv', h1, fun j hj => (ho i h j hj).trans (h2 j hj)⟩
  · have e1 : i = L.length := by simp at hi; omega
    subst e1
    have e : (L ++ [x])[L.length] = x := by simp
    rw [e]
    exact ⟨rv, mv, hm, hx⟩
end

/-- Seven cells of a row are written. -/
theorem set7 (L : List Value) (k : Nat) (v0 v1 v2 v3 v4 v5 v6 : Value) (hk : k * 7 + 6 < L.length) (i j : Nat) (hj : j < 7) :
    ((((((((L.set (k * 7) v0).set (k * 7 + 1) v1).set (k * 7 + 2) v2).set (k * 7 + 3) v3).set (k * 7 + 4) v4).set (k * 7 + 5) v5).set (k * 7 + 6) v6)[i * 7 + j]?) = if i = k then [v0, v1, v2, v3, v4, v5, v6][j]? else L[i * 7 + j]? := by
  by_cases e : i = k
  · subst e
    rw [if_pos rfl]
    have hcases : j = 0 ∨ j = 1 ∨ j = 2 ∨ j = 3 ∨ j = 4 ∨ j = 5 ∨ j = 6 := by omega
    rcases hcases with rfl | rfl | rfl | rfl | rfl | rfl | rfl <;> simp [List.getElem?_set] <;> omega
  · rw [if_neg e]
    have h : ∀ m, m < 7 → k * 7 + m ≠ i * 7 + j := by omega
    have h0 : k * 7 ≠ i * 7 + j := h 0 (by omega)
    simp [h 1, h 2, h 3, h 4, h 5, h 6, h0]

/-- What Run promises. -/
def RunOk (S : SetD) (l : List Int) (w : World) (e : Ending) (w' : World) : Prop :=
  ∃ v C, e = .returned (.tuple #[v, .int .i64 (R.runE S l)]) ∧ w'.ownsRow w.heap.size 75 7 v (R.runL S l).length C ∧ LRow w.heap.size w' (fun _ => False) C (R.runL S l) ∧ Below w.heap.size w w'
def CRun : Prop := ∀ (tv mv sv qv : Option Addr) (tc mc sc qc : Nat) (S : SetD) (w : World), SetIn w.heap.size w tv mv sv qv S → Fits S → ((tv = none → tc = 0) ∧ (mv = none → mc = 0) ∧ (sv = none → sc = 0) ∧ (qv = none → qc = 0)) → ∀ (av : Option Addr) (ac : Nat) (l : List Int), IntsIn w.heap.size w av l → l.length ≤ 9223372036854775807 →
  Calls Tryz.prog 16 #[.agg #[.int .i64 S.workers, .int .i64 S.start, .slice tv S.threads.length tc, .slice mv S.mutexes.length mc, .slice sv S.sems.length sc, .slice qv S.queues.length qc], .slice av l.length ac] w fun e w' => RunOk S l w e w'
theorem runL_long {S : SetD} {l : List Int} (h : 1000 < l.length) : R.runL S l = [] ∧ R.runE S l = 9 := by
  unfold R.runL R.runE
  rw [if_pos h, if_pos h]
  exact ⟨rfl, rfl⟩
theorem runL_bad {S : SetD} {l : List Int} (h : ¬ 1000 < l.length) (he : P3.err S ≠ 0) : R.runL S l = [] ∧ R.runE S l = P3.err S := by
  unfold R.runL R.runE
  rw [if_neg h, if_neg h, if_pos he]
  exact ⟨rfl, rfl⟩
theorem runL_ok {S : SetD} {l : List Int} (h : ¬ 1000 < l.length) (he : P3.err S = 0) : R.runL S l = R.linesTo (R.new S) l l.length ∧ R.runE S l = 0 := by
  unfold R.runL R.runE
  rw [if_neg h, if_neg h, if_neg (fun hh => hh he)]
  exact ⟨rfl, he⟩

end Go.Proofs.YtbkfildnijjioaaGreat

/-
  Walks over package donate: Run.
-/
namespace Go.Proofs.YtbkfildnijjioaaGreat
open Go.RowKit

theorem Tryz.infoLine : (Tryz.prog.info? 75).map (fun i => (i.zero, i.size, i.bytes)) = some (some (.agg #[.int .i64 0, .int .i64 0, .int .i64 0, .int .i64 0, .int .i64 0, .slice none 0 0, .slice none 0 0]), 7, 88) := by kernel_rfl

/-- What playEntry tells. -/
def entryV (x : LineD) (mv : Value) : Value := .agg #[.int .i64 x.th, .int .i64 x.at_, .int .i64 x.cd, .int .i64 x.er, .int .i64 0, .slice none 0 0, mv]

set_option maxRecDepth 100000 in
set_option maxHeartbeats 2000000 in
theorem kPlayEntry_any (Q : Nat → Prop) (w : World) (kb : Nat) (s : RS) (k : KPK Q w kb s) (hnx : s.next ≤ 4611686018427386000) (n : Int) :
    Calls Tryz.prog 62 #[.pointer (some ⟨kb, 0, none⟩), .int .i64 n] w fun e w' =>
      ∃ mv Q', e = .returned (entryV (R.lineOf s n) mv) ∧ w'.ownsRow w.heap.size 95 3 mv (R.lineOf s n).mis.length (missCells (R.lineOf s n).mis) ∧ KPK Q' w' kb (R.entry s n) ∧ (∀ b, Q' b → Q b ∨ w.heap.size ≤ b) ∧ (∀ b, mv.ownBlock = some b → ¬ Q' b) ∧ Turns Q w w' := by
  have hbA : Below w.heap.size w (w.alloc (.cells #[.int .i64 0, .int .i64 0, .int .i64 0, .int .i64 0, .int .i64 0, .slice none 0 0, .slice none 0 0] 75)) := (Below.refl _ _).alloc (Nat.le_refl _) _
  have XA := Blk.new w #[.int .i64 0, .int .i64 0, .int .i64 0, .int .i64 0, .int .i64 0, .slice none 0 0, .slice none 0 0] 75
  have hlt := kframe.lt k
  by_cases hn : n = -1
  · have E1 : R.lineOf s n = ⟨-1, 0, 0, R.tickE s, (R.tickS s).now, R.running (R.tickS s), R.tickL s⟩ := by unfold R.lineOf; rw [if_pos hn]
    have E2 : R.entry s n = R.tickS s := by unfold R.entry; rw [if_pos hn]
    rw [E1, E2]
    clear E1 E2
    subst hn
    unfold entryV
    dsimp only
    have KA := hid (kframe.below k hbA)
    have CT := hid (fun wx (kx : KPK Q wx kb s) => cTick Q wx kb s kx hnx)
    have HLT : Hid (∀ b, Q b → b < w.heap.size) := hlt
    clear k hlt
    generalize R.tickE s = te at *
    generalize R.tickL s = tl at *
    generalize R.tickS s = ts at *
    go_enter Tryz.func62, Tryz.ntmps62
    go_upto_region 1 with fail
    generalize w.alloc (.cells #[.int .i64 0, .int .i64 0, .int .i64 0, .int .i64 0, .int .i64 0, .slice none 0 0, .slice none 0 0] 75) = wA at hbA XA KA ⊢
    have CTA := hid (CT.out wA KA.out)
    have HBA := hid hbA
    have XL := hid XA
    have hszA := hbA.size
    have hxl := XA.lt
    clear CT hbA XA
    go_wp2_with fail
    refine CTA.out.mono ?_
    rintro e w2 ⟨v, Q', rfl, hr2, k2, hs2, hn2, t2⟩
    obtain ⟨va, vc, rfl, _, _⟩ := owns_cells hr2
    have R2 := hid hr2
    have K2 := hid k2
    have HS2 := hid hs2
    have HN2 := hid hn2
    have T2 := hid t2
    have hnx : ¬ Q w.heap.size := fun hq => by have := HLT.out _ hq; omega
    have X2 : Hid (Blk w2 w.heap.size #[.int .i64 0, .int .i64 0, .int .i64 0, .int .i64 0, .int .i64 0, .slice none 0 0, .slice none 0 0] 75) := by
      have h1 := XL.out
      unfold Blk at h1 ⊢
      rw [t2.block _ XL.out.lt hnx]
      exact hid h1
    have hsz2 := t2.size
    clear hr2 k2 hs2 hn2 t2 CTA
    have x0 := X2.out.cell 0
    have x1 := X2.out.cell 1
    have x2 := X2.out.cell 2
    have x3 := X2.out.cell 3
    have x4 := X2.out.cell 4
    have x5 := X2.out.cell 5
    have x6 := X2.out.cell 6
    simp at x0 x1 x2 x3 x4 x5 x6
    have z0 := X2.out.frozen 0
    have z1 := X2.out.frozen 1
    have z2 := X2.out.frozen 2
    have z3 := X2.out.frozen 3
    have z4 := X2.out.frozen 4
    have z5 := X2.out.frozen 5
    have z6 := X2.out.frozen 6
    have hxl2 := X2.out.lt
    go_wp2
    refine bodyPost_ret (v := .agg #[.int .i64 (-1), .int .i64 0, .int .i64 0, .int .i64 te, .int .i64 0, .slice none 0 0, .slice va tl.length vc]) ?_ rfl ⟨_, Q', rfl, ?_⟩
    · simp [results, Tryz.results62, go_sem, x0, x1, x2, x3, x4, x5, x6]
    · generalize hw9 : ((((((w2.setCell ⟨w.heap.size, 0, none⟩ (.int .i64 (-1))).setCell ⟨w.heap.size, 1, none⟩ (.int .i64 0)).setCell ⟨w.heap.size, 2, none⟩ (.int .i64 0)).setCell ⟨w.heap.size, 3, none⟩ (.int .i64 te)).setCell ⟨w.heap.size, 4, none⟩ (.int .i64 0)).setCell ⟨w.heap.size, 5, none⟩ (.slice none 0 0)).setCell ⟨w.heap.size, 6, none⟩ (.slice va tl.length vc) = w9
      have same : ∀ b, b ≠ w.heap.size → w9.heap[b]? = w2.heap[b]? := fun b hb => by
        rw [← hw9]
        iterate 7 rw [Below.heap_setCell _ _ _ _ hb]
      have hsz9 : w9.heap.size = w2.heap.size := by
        rw [← hw9]
        simp [World.setCell]
      have hb9 : Below w.heap.size w2 w9 := by
        rw [← hw9]
        iterate 7 refine Below.setCell ?_ (by simp) _
        exact Below.refl _ _
      clear hw9
      have hnq : ∀ b, Q' b → b ≠ w.heap.size := fun b hb e => by
        subst e
        rcases HS2.out _ hb with h1 | h1
        · exact hnx h1
        · omega
      refine ⟨?_, kframe.frame K2.out (fun b hb => same b (hnq b hb)) (by omega), fun b hb => ?_, HN2.out, ?_⟩
      · refine ownsRow_mono (ownsRow_same R2.out fun g hg => same g (fun e => ?_)) hszA
        have := (ownsRow_block R2.out hg).1
        omega
      · rcases HS2.out b hb with h1 | h1
        · exact .inl h1
        · exact .inr (by omega)
      · have t3 : Turns Q w w2 := (Turns.of_below HBA.out).trans T2.out (fun b hb => .inl hb)
        exact ⟨hb9.os.trans t3.os, hb9.tape.trans t3.tape, hb9.output.trans t3.output, Nat.le_trans t3.size hb9.size, fun b hb hn => (hb9.block b hb).trans (t3.block b hb hn)⟩
  · have E1 : R.lineOf s n = ⟨R.pickT s n, R.pickA s n, R.pickC s n, R.pickE s n, (R.pickS s n).now, R.running (R.pickS s n), []⟩ := by unfold R.lineOf; rw [if_neg hn]
    have E2 : R.entry s n = R.pickS s n := by unfold R.entry; rw [if_neg hn]
    rw [E1, E2]
    clear E1 E2
    unfold entryV
    dsimp only
    have KA := hid (kframe.below k hbA)
    have CP := hid (fun wx (kx : KPK Q wx kb s) => cPick Q wx kb s kx hnx n)
    have HLT : Hid (∀ b, Q b → b < w.heap.size) := hlt
    have hnn : (n == -1) = false := by simpa using hn
    clear k hlt
    generalize R.pickT s n = pt at *
    generalize R.pickA s n = pa at *
    generalize R.pickC s n = pc at *
    generalize R.pickE s n = pe at *
    generalize R.pickS s n = ps at *
    go_enter Tryz.func62, Tryz.ntmps62
    go_upto_region 1 with fail
    generalize w.alloc (.cells #[.int .i64 0, .int .i64 0, .int .i64 0, .int .i64 0, .int .i64 0, .slice none 0 0, .slice none 0 0] 75) = wA at hbA XA KA ⊢
    have CPA := hid (CP.out wA KA.out)
    have HBA := hid hbA
    have XL := hid XA
    have hszA := hbA.size
    have hxl := XA.lt
    clear CP hbA XA
    go_wp2_with fail
    refine CPA.out.mono ?_
    rintro e w1 ⟨rfl, Q', k1, hs1, t1⟩
    have hbR : Below w1.heap.size w1 (w1.alloc (.cells #[.int .i64 pt, .int .i64 pa, .int .i64 pc] 72)) := (Below.refl _ _).alloc (Nat.le_refl _) _
    have XR := Blk.new w1 #[.int .i64 pt, .int .i64 pa, .int .i64 pc] 72
    have hsz1 := t1.size
    go_upto_region 5 with fail
    generalize w1.alloc (.cells #[.int .i64 pt, .int .i64 pa, .int .i64 pc] 72) = w2 at hbR XR ⊢
    have K2 := hid (kframe.below k1 hbR)
    have HS2 := hid hs1
    have t2 : Turns Q wA w2 := t1.trans (Turns.of_below (Q := fun _ => False) hbR) (fun b hb => hb.elim)
    have T2 := hid t2
    have hnx : ¬ Q w.heap.size := fun hq => by have := HLT.out _ hq; omega
    have X2 : Hid (Blk w2 w.heap.size #[.int .i64 0, .int .i64 0, .int .i64 0, .int .i64 0, .int .i64 0, .slice none 0 0, .slice none 0 0] 75) := by
      have h1 := XL.out
      unfold Blk at h1 ⊢
      rw [t2.block _ XL.out.lt hnx]
      exact hid h1
    have hsz2 := t2.size
    have r0 := XR.cell 0
    have r1 := XR.cell 1
    have r2 := XR.cell 2
    simp at r0 r1 r2
    clear k1 hs1 t1 t2 hbR XR CPA
    have x0 := X2.out.cell 0
    have x1 := X2.out.cell 1
    have x2 := X2.out.cell 2
    have x3 := X2.out.cell 3
    have x4 := X2.out.cell 4
    have x5 := X2.out.cell 5
    have x6 := X2.out.cell 6
    simp at x0 x1 x2 x3 x4 x5 x6
    have z0 := X2.out.frozen 0
    have z1 := X2.out.frozen 1
    have z2 := X2.out.frozen 2
    have z3 := X2.out.frozen 3
    have z4 := X2.out.frozen 4
    have z5 := X2.out.frozen 5
    have z6 := X2.out.frozen 6
    have hxl2 := X2.out.lt
    go_wp2
    refine bodyPost_ret (v := .agg #[.int .i64 pt, .int .i64 pa, .int .i64 pc, .int .i64 pe, .int .i64 0, .slice none 0 0, .slice none 0 0]) ?_ rfl ⟨_, Q', rfl, ?_⟩
    · simp [results, Tryz.results62, go_sem, x0, x1, x2, x3, x4, x5, x6]
    · generalize hw9 : ((((((w2.setCell ⟨w.heap.size, 0, none⟩ (.int .i64 pt)).setCell ⟨w.heap.size, 1, none⟩ (.int .i64 pa)).setCell ⟨w.heap.size, 2, none⟩ (.int .i64 pc)).setCell ⟨w.heap.size, 3, none⟩ (.int .i64 pe)).setCell ⟨w.heap.size, 4, none⟩ (.int .i64 0)).setCell ⟨w.heap.size, 5, none⟩ (.slice none 0 0)).setCell ⟨w.heap.size, 6, none⟩ (.slice none 0 0) = w9
      have same : ∀ b, b ≠ w.heap.size → w9.heap[b]? = w2.heap[b]? := fun b hb => by
        rw [← hw9]
        iterate 7 rw [Below.heap_setCell _ _ _ _ hb]
      have hsz9 : w9.heap.size = w2.heap.size := by
        rw [← hw9]
        simp [World.setCell]
      have hb9 : Below w.heap.size w2 w9 := by
        rw [← hw9]
        iterate 7 refine Below.setCell ?_ (by simp) _
        exact Below.refl _ _
      clear hw9
      have hnq : ∀ b, Q' b → b ≠ w.heap.size := fun b hb e => by
        subst e
        rcases HS2.out _ hb with h1 | h1
        · exact hnx h1
        · omega
      refine ⟨World.ownsRow_nil _ _ _ _, kframe.frame K2.out (fun b hb => same b (hnq b hb)) (by omega), fun b hb => ?_, fun b hb => (by cases hb), ?_⟩
      · rcases HS2.out b hb with h1 | h1
        · exact .inl h1
        · exact .inr (by omega)
      · have t3 : Turns Q w w2 := (Turns.of_below HBA.out).trans T2.out (fun b hb => .inl hb)
        exact ⟨hb9.os.trans t3.os, hb9.tape.trans t3.tape, hb9.output.trans t3.output, Nat.le_trans t3.size hb9.size, fun b hb hn => (hb9.block b hb).trans (t3.block b hb hn)⟩

/-- A trace that is being laid: k lines of it. -/
structure Laid (B : Nat) (w : World) (Q : Nat → Prop) (g n : Nat) (C : List Value) (L : List LineD) : Prop where
  row : w.ownsRow B 75 7 (.slice (some ⟨g, 0, none⟩) n n) n C
  lines : LRow B w Q C L
  ng : ¬ Q g
theorem lineOf_parts (s : RS) (n : Int) : (R.lineOf s n).now = (R.entry s n).now ∧ (R.lineOf s n).run = R.running (R.entry s n) := by
  unfold R.lineOf R.entry
  split
  · exact ⟨rfl, rfl⟩
  · exact ⟨rfl, rfl⟩

set_option maxRecDepth 100000 in
set_option maxHeartbeats 4000000 in
theorem kPlay_any (Q : Nat → Prop) (w : World) (kb : Nat) (s : RS) (k : KPK Q w kb s) (B0 : Nat) (hB0 : B0 ≤ w.heap.size) (hQ : ∀ b, Q b → B0 ≤ b) (av : Option Addr) (ac : Nat) (l : List Int) (hl : IntsIn B0 w av l) (hl1000 : l.length ≤ 1000) (hnx : s.next ≤ 1000) :
    Calls Tryz.prog 26 #[.pointer (some ⟨kb, 0, none⟩), .slice av l.length ac] w fun e w' =>
      ∃ g C, e = .returned (.slice (some ⟨g, 0, none⟩) l.length l.length) ∧ w'.ownsRow w.heap.size 75 7 (.slice (some ⟨g, 0, none⟩) l.length l.length) l.length C ∧ LRow w.heap.size w' (fun _ => False) C (R.linesTo s l l.length) ∧ Turns Q w w' := by
  have HL := hid hl
  have KK := hid k
  have HQ := hid hQ
  have INV := hid (fun j (hj : j ≤ 1000) => stTo_inv k.inv l j (by omega))
  clear hl k hQ
  obtain ⟨iT, hiT, hzT0, hzT1, hzT2⟩ := info_parts Tryz.infoLine
  have HIT := hid (And.intro hiT (And.intro hzT0 (And.intro hzT1 hzT2)))
  clear hiT hzT0 hzT1 hzT2
  go_enter Tryz.func26, Tryz.ntmps26
  go_wp2_with (at_make; refine wpList_make_full _ rfl _ _ 33 rfl w.heap.size 75 iT (.agg #[.int .i64 0, .int .i64 0, .int .i64 0, .int .i64 0, .int .i64 0, .slice none 0 0, .slice none 0 0]) 7 Tryz.underlying33 HIT.out.1 HIT.out.2.1 HIT.out.2.2.1 .i64 .i64 _ _ l.length rfl rfl rfl rfl (by rw [HIT.out.2.2.2]; omega) (by unfold maxLen; omega) (Nat.le_refl _) ?_; intro w2 hown2 hg2; have O2 := hid hown2; have G2 := hid hg2; clear hown2 hg2)
  have hb2 : Below w.heap.size w w2 := (Below.refl _ _).grown G2.out (Nat.le_refl _) (by simp)
  have HB2 := hid hb2
  have ng0 : ¬ Q w.heap.size := fun hq => by have := kframe.lt KK.out _ hq; omega
  have hsz2 := hb2.size
  have LAID0 : Hid (∃ C, Laid w.heap.size w2 Q w.heap.size l.length C (R.linesTo s l 0)) := ⟨_, O2.out, LRow.nil _ _ _ _, ng0⟩
  clear hb2 G2 O2 ng0
  go_loopw [14] (fun i wr => ∃ j : Nat, j ≤ l.length ∧ i = .int .i64 j ∧ ∃ C Q', Laid w.heap.size wr Q' w.heap.size l.length C (R.linesTo s l j) ∧ KPK Q' wr kb (R.stTo s l j) ∧ (∀ b, Q' b → Q b ∨ w.heap.size ≤ b) ∧ Turns Q w wr) (fun i _ => l.length - (intOf i).toNat)
  case atStart =>
    obtain ⟨C, hC⟩ := LAID0.out
    exact ⟨0, Nat.zero_le _, rfl, C, Q, hC, kframe.below KK.out HB2.out, fun _ h => .inl h, Turns.of_below HB2.out⟩
  case round =>
    obtain ⟨k, hk, rfl, C, Q', hlaid, hkpk, hs, ht⟩ := hrel
    have LD := hid hlaid
    have K1 := hid hkpk
    have HS := hid hs
    have T1 := hid ht
    have hszr := ht.size
    have hCl : C.length = l.length * 7 := hlaid.row.1
    have hnext := (INV.out k (by omega)).2
    clear hlaid hkpk hs ht
    by_cases hkl : k < l.length
    · obtain ⟨b, o, hta, hbb, y0⟩ := HL.out k hkl
      subst hta
      have bl : wr.cell? ⟨b, o + k, none⟩ = some (.int .i64 l[k]) := by
        rw [World.cell?_of_block (a := ⟨b, o + k, none⟩) (T1.out.block b (by omega) (fun hq => by have := HQ.out b hq; omega))]
        exact y0
      have hkI : (k : Int) < (l.length : Int) := by omega
      have EX : Hid (R.linesTo s l (k + 1) = R.linesTo s l k ++ [R.lineOf (R.stTo s l k) l[k]]) := by
        refine hid ?_
        have e : l.getD k 0 = l[k] := by simp [List.getD, hkl]
        show R.linesTo s l k ++ [R.lineOf (R.stTo s l k) (l.getD k 0)] = _
        rw [e]
      have EY : Hid (R.stTo s l (k + 1) = R.entry (R.stTo s l k) l[k]) := by
        refine hid ?_
        have e : l.getD k 0 = l[k] := by simp [List.getD, hkl]
        show R.entry (R.stTo s l k) (l.getD k 0) = _
        rw [e]
      have PE := hid (kPlayEntry_any Q' wr kb (R.stTo s l k) K1.out (by omega) l[k])
      obtain ⟨ep1, ep2⟩ := lineOf_parts (R.stTo s l k) l[k]
      have EP := hid (And.intro ep1 ep2)
      have HLL := hid (R.linesTo_length s l k)
      clear y0 ep1 ep2
      generalize R.lineOf (R.stTo s l k) l[k] = x at *
      generalize R.entry (R.stTo s l k) l[k] = se at *
      generalize R.linesTo s l k = LL at *
      generalize R.stTo s l k = sk at *
      generalize l[k] = n at *
      go_wp2_with fail
      refine PE.out.mono ?_
      rintro e w1 ⟨mv, Q2, rfl, hr1, k1, hs1, hn1, t1⟩
      obtain ⟨va, vc, rfl, _, _⟩ := owns_cells hr1
      unfold entryV
      have hsz1 := t1.size
      have hbA : Below w1.heap.size w1 (w1.alloc (.cells #[.int .i64 x.th, .int .i64 x.at_, .int .i64 x.cd, .int .i64 x.er, .int .i64 0, .slice none 0 0, .slice va x.mis.length vc] 75)) := (Below.refl _ _).alloc (Nat.le_refl _) _
      have XA := Blk.new w1 #[.int .i64 x.th, .int .i64 x.at_, .int .i64 x.cd, .int .i64 x.er, .int .i64 0, .slice none 0 0, .slice va x.mis.length vc] 75
      go_upto_region 6 with fail
      generalize w1.alloc (.cells #[.int .i64 x.th, .int .i64 x.at_, .int .i64 x.cd, .int .i64 x.er, .int .i64 0, .slice none 0 0, .slice va x.mis.length vc] 75) = wA at hbA XA ⊢
      have hng : ¬ Q2 w1.heap.size := fun hq => by have := kframe.lt k1 _ hq; omega
      have kA := kframe.below k1 hbA
      obtain ⟨F, h, tk, wt, wks, m, _⟩ := kA.open
      have c0 := m.blk.cell 0
      simp [kCells] at c0
      clear m
      have lrA : LRow w.heap.size wA Q2 C LL := (LD.out.lines.turns t1 hs1).below hbA
      have hgl : w.heap.size < wr.heap.size := (ownsRow_block LD.out.row rfl).2.1
      have rowA : wA.ownsRow w.heap.size 75 7 (.slice (some ⟨w.heap.size, 0, none⟩) l.length l.length) l.length C := ownsRow_same LD.out.row fun g hg => by
        obtain rfl : g = w.heap.size := by cases hg; rfl
        rw [hbA.block _ (by omega), t1.block _ hgl LD.out.ng]
      have ng2 : ¬ Q2 w.heap.size := fun hq => by
        rcases hs1 _ hq with h1 | h1
        · exact LD.out.ng h1
        · omega
      have misA : wA.ownsRow w.heap.size 95 3 (.slice va x.mis.length vc) x.mis.length (missCells x.mis) := ownsRow_mono (ownsRow_same hr1 fun g hg => hbA.block g (ownsRow_block hr1 hg).2.1) (by omega)
      have hS2 : Hid (∀ b, Q2 b → Q b ∨ w.heap.size ≤ b) := fun b hb => by
        rcases hs1 b hb with h1 | h1
        · exact HS.out b h1
        · exact .inr (by omega)
      have tA : Turns Q w wA := (T1.out.trans t1 HS.out).trans (Turns.of_below (Q := fun _ => False) hbA) (fun b hb => hb.elim)
      have x0 := XA.cell 4
      simp at x0
      have z4 := XA.frozen 4
      have NM := hid hn1
      have hszA := hbA.size
      have hxlA := XA.lt
      clear LD K1 T1 HS PE hr1 k1 hs1 hn1 t1
      go_upto_region 7 with fail
      have xB : Blk (wA.setCell ⟨w1.heap.size, 4, none⟩ (.int .i64 se.now)) w1.heap.size #[.int .i64 x.th, .int .i64 x.at_, .int .i64 x.cd, .int .i64 x.er, .int .i64 se.now, .slice none 0 0, .slice va x.mis.length vc] 75 := by
        have := XA.set 4 (.int .i64 se.now)
        simpa using this
      have sameB : ∀ b, b ≠ w1.heap.size → (wA.setCell ⟨w1.heap.size, 4, none⟩ (.int .i64 se.now)).heap[b]? = wA.heap[b]? := fun b hb => Below.heap_setCell _ _ _ _ hb
      have hszB : (wA.setCell ⟨w1.heap.size, 4, none⟩ (.int .i64 se.now)).heap.size = wA.heap.size := by simp [World.setCell]
      have tB : Turns Q w (wA.setCell ⟨w1.heap.size, 4, none⟩ (.int .i64 se.now)) := tA.trans (Turns.of_only (Q := fun b => b = w1.heap.size) ((Only.refl [w1.heap.size] wA).setCell (.inl (by simp)) _) (fun b hb => by simpa using hb)) (fun b hb => .inr (by omega))
      have kB : KPK Q2 (wA.setCell ⟨w1.heap.size, 4, none⟩ (.int .i64 se.now)) kb se := kframe.frame kA (fun b hb => sameB b (fun e => hng (e ▸ hb))) (by omega)
      have lineT : Typ wA w1.heap.size 75 := ⟨_, XA⟩
      have lrB : LRow w.heap.size (wA.setCell ⟨w1.heap.size, 4, none⟩ (.int .i64 se.now)) Q2 C LL := lrA.turn (fun b hb _ ht => sameB b (fun e => by
        subst e
        rcases ht with ht | ht
        · exact ht.ne lineT (by decide) rfl
        · exact ht.ne lineT (by decide) rfl)) (fun _ h => .inl h)
      have rowB : (wA.setCell ⟨w1.heap.size, 4, none⟩ (.int .i64 se.now)).ownsRow w.heap.size 75 7 (.slice (some ⟨w.heap.size, 0, none⟩) l.length l.length) l.length C := ownsRow_same rowA fun g hg => by
        obtain rfl : g = w.heap.size := by cases hg; rfl
        exact sameB _ (by omega)
      have misB : (wA.setCell ⟨w1.heap.size, 4, none⟩ (.int .i64 se.now)).ownsRow w.heap.size 95 3 (.slice va x.mis.length vc) x.mis.length (missCells x.mis) := ownsRow_same misA fun g hg => sameB g (fun e => by
        subst e
        exact (own_typ misA hg).ne lineT (by decide) rfl)
      clear XA hbA kA lrA rowA misA tA x0 z4 sameB lineT c0
      generalize wA.setCell ⟨w1.heap.size, 4, none⟩ (.int .i64 se.now) = wB at *
      have CR := hid (cRunning Q2 wB kb se kB)
      rw [← EP.out.2] at CR
      go_wp2_with fail
      refine CR.out.mono ?_
      rintro e w3 ⟨rv, rfl, hr3, hb3⟩
      obtain ⟨ra, rc, rfl, _, _⟩ := owns_cells hr3
      have x3 := xB.below' hb3
      have sameC : ∀ b, b ≠ w1.heap.size → (w3.setCell ⟨w1.heap.size, 5, none⟩ (.slice ra x.run.length rc)).heap[b]? = w3.heap[b]? := fun b hb => Below.heap_setCell _ _ _ _ hb
      have hsz3 := hb3.size
      have hszC : (w3.setCell ⟨w1.heap.size, 5, none⟩ (.slice ra x.run.length rc)).heap.size = w3.heap.size := by simp [World.setCell]
      have x4 : Blk (w3.setCell ⟨w1.heap.size, 5, none⟩ (.slice ra x.run.length rc)) w1.heap.size #[.int .i64 x.th, .int .i64 x.at_, .int .i64 x.cd, .int .i64 x.er, .int .i64 x.now, .slice ra x.run.length rc, .slice va x.mis.length vc] 75 := by
        have := x3.set 5 (.slice ra x.run.length rc)
        rw [EP.out.1]
        simpa using this
      have lineT : Typ w3 w1.heap.size 75 := ⟨_, x3⟩
      have notint : ∀ b, Typ w3 b 3 ∨ Typ w3 b 95 → b ≠ w1.heap.size := fun b ht e => by
        subst e
        rcases ht with ht | ht
        · exact ht.ne lineT (by decide) rfl
        · exact ht.ne lineT (by decide) rfl
      have mis3 : w3.ownsRow w.heap.size 95 3 (.slice va x.mis.length vc) x.mis.length (missCells x.mis) := ownsRow_same misB fun g hg => hb3.block g (ownsRow_block misB hg).2.1
      have lm : LineMem w.heap.size (w3.setCell ⟨w1.heap.size, 5, none⟩ (.slice ra x.run.length rc)) Q2 x (.slice ra x.run.length rc) (.slice va x.mis.length vc) := by
        refine ⟨?_, ?_, fun b hb hq => ?_, NM.out⟩
        · exact ownsRow_mono (ownsRow_same hr3 fun g hg => sameC g (notint g (.inl (own_typ hr3 hg)))) (by omega)
        · exact ownsRow_same mis3 fun g hg => sameC g (notint g (.inr (own_typ mis3 hg)))
        · have h1 := (ownsRow_block hr3 hb).1
          have h2 := kframe.lt kB b hq
          omega
      have lr4 : LRow w.heap.size (w3.setCell ⟨w1.heap.size, 5, none⟩ (.slice ra x.run.length rc)) Q2 C LL := (lrB.below hb3).turn (fun b _ _ ht => sameC b (notint b ht)) (fun _ h => .inl h)
      have row4 : (w3.setCell ⟨w1.heap.size, 5, none⟩ (.slice ra x.run.length rc)).ownsRow w.heap.size 75 7 (.slice (some ⟨w.heap.size, 0, none⟩) l.length l.length) l.length C := ownsRow_same rowB fun g hg => by
        obtain rfl : g = w.heap.size := by cases hg; rfl
        rw [sameC _ (by omega), hb3.block _ (by omega)]
      have k4 : KPK Q2 (w3.setCell ⟨w1.heap.size, 5, none⟩ (.slice ra x.run.length rc)) kb se := kframe.frame (kframe.below kB hb3) (fun b hb => sameC b (fun e => hng (e ▸ hb))) (by omega)
      have t4 : Turns Q w (w3.setCell ⟨w1.heap.size, 5, none⟩ (.slice ra x.run.length rc)) := (tB.trans (Turns.of_below (Q := fun _ => False) hb3) (fun b hb => hb.elim)).trans (Turns.of_only (Q := fun b => b = w1.heap.size) ((Only.refl [w1.heap.size] w3).setCell (.inl (by simp)) _) (fun b hb => by simpa using hb)) (fun b hb => .inr (by omega))
      have y5 := x3.cell 5
      simp at y5
      have z5 := x3.frozen 5
      have hxl3 := x3.lt
      clear CR xB kB lrB rowB misB tB hr3 hb3 x3 lineT notint mis3 sameC
      go_upto_region 8 with fail
      clear y5 z5 hxl3
      generalize w3.setCell ⟨w1.heap.size, 5, none⟩ (.slice ra x.run.length rc) = w4 at *
      have R4 := hid row4
      have LR4 := hid lr4
      have LM := hid lm
      have K4 := hid k4
      have T4 := hid t4
      have q0 := x4.cell 0
      have q1 := x4.cell 1
      have q2 := x4.cell 2
      have q3 := x4.cell 3
      have q4 := x4.cell 4
      have q5 := x4.cell 5
      have q6 := x4.cell 6
      simp at q0 q1 q2 q3 q4 q5 q6
      have hxl4 := x4.lt
      clear row4 lr4 lm k4 t4 x4
      have d0 : w4.cell? ⟨w.heap.size, k * 7, none⟩ = some (C[k * 7]'(by omega)) := by rw [R4.out.cellAt _ (by omega)]; exact List.getElem?_eq_getElem _
      have e0 := R4.out.frozenAt (k * 7)
      have d1 : w4.cell? ⟨w.heap.size, k * 7 + 1, none⟩ = some (C[k * 7 + 1]'(by omega)) := by rw [R4.out.cellAt _ (by omega)]; exact List.getElem?_eq_getElem _
      have e1 := R4.out.frozenAt (k * 7 + 1)
      have d2 : w4.cell? ⟨w.heap.size, k * 7 + 2, none⟩ = some (C[k * 7 + 2]'(by omega)) := by rw [R4.out.cellAt _ (by omega)]; exact List.getElem?_eq_getElem _
      have e2 := R4.out.frozenAt (k * 7 + 2)
      have d3 : w4.cell? ⟨w.heap.size, k * 7 + 3, none⟩ = some (C[k * 7 + 3]'(by omega)) := by rw [R4.out.cellAt _ (by omega)]; exact List.getElem?_eq_getElem _
      have e3 := R4.out.frozenAt (k * 7 + 3)
      have d4 : w4.cell? ⟨w.heap.size, k * 7 + 4, none⟩ = some (C[k * 7 + 4]'(by omega)) := by rw [R4.out.cellAt _ (by omega)]; exact List.getElem?_eq_getElem _
      have e4 := R4.out.frozenAt (k * 7 + 4)
      have d5 : w4.cell? ⟨w.heap.size, k * 7 + 5, none⟩ = some (C[k * 7 + 5]'(by omega)) := by rw [R4.out.cellAt _ (by omega)]; exact List.getElem?_eq_getElem _
      have e5 := R4.out.frozenAt (k * 7 + 5)
      have d6 : w4.cell? ⟨w.heap.size, k * 7 + 6, none⟩ = some (C[k * 7 + 6]'(by omega)) := by rw [R4.out.cellAt _ (by omega)]; exact List.getElem?_eq_getElem _
      have e6 := R4.out.frozenAt (k * 7 + 6)
      have rAll := (((((((R4.out.stored (k * 7) (.int .i64 x.th)).1.stored (k * 7 + 1) (.int .i64 x.at_)).1.stored (k * 7 + 2) (.int .i64 x.cd)).1.stored (k * 7 + 3) (.int .i64 x.er)).1.stored (k * 7 + 4) (.int .i64 x.now)).1.stored (k * 7 + 5) (.slice ra x.run.length rc)).1.stored (k * 7 + 6) (.slice va x.mis.length vc)).1
      have FIN : Hid (Laid w.heap.size (((((((w4.setCell ⟨w.heap.size, k * 7, none⟩ (.int .i64 x.th)).setCell ⟨w.heap.size, k * 7 + 1, none⟩ (.int .i64 x.at_)).setCell ⟨w.heap.size, k * 7 + 2, none⟩ (.int .i64 x.cd)).setCell ⟨w.heap.size, k * 7 + 3, none⟩ (.int .i64 x.er)).setCell ⟨w.heap.size, k * 7 + 4, none⟩ (.int .i64 x.now)).setCell ⟨w.heap.size, k * 7 + 5, none⟩ (.slice ra x.run.length rc)).setCell ⟨w.heap.size, k * 7 + 6, none⟩ (.slice va x.mis.length vc)) Q2 w.heap.size l.length (((((((C.set (k * 7) (.int .i64 x.th)).set (k * 7 + 1) (.int .i64 x.at_)).set (k * 7 + 2) (.int .i64 x.cd)).set (k * 7 + 3) (.int .i64 x.er)).set (k * 7 + 4) (.int .i64 x.now)).set (k * 7 + 5) (.slice ra x.run.length rc)).set (k * 7 + 6) (.slice va x.mis.length vc)) (LL ++ [x]) ∧ KPK Q2 (((((((w4.setCell ⟨w.heap.size, k * 7, none⟩ (.int .i64 x.th)).setCell ⟨w.heap.size, k * 7 + 1, none⟩ (.int .i64 x.at_)).setCell ⟨w.heap.size, k * 7 + 2, none⟩ (.int .i64 x.cd)).setCell ⟨w.heap.size, k * 7 + 3, none⟩ (.int .i64 x.er)).setCell ⟨w.heap.size, k * 7 + 4, none⟩ (.int .i64 x.now)).setCell ⟨w.heap.size, k * 7 + 5, none⟩ (.slice ra x.run.length rc)).setCell ⟨w.heap.size, k * 7 + 6, none⟩ (.slice va x.mis.length vc)) kb se ∧ Turns Q w (((((((w4.setCell ⟨w.heap.size, k * 7, none⟩ (.int .i64 x.th)).setCell ⟨w.heap.size, k * 7 + 1, none⟩ (.int .i64 x.at_)).setCell ⟨w.heap.size, k * 7 + 2, none⟩ (.int .i64 x.cd)).setCell ⟨w.heap.size, k * 7 + 3, none⟩ (.int .i64 x.er)).setCell ⟨w.heap.size, k * 7 + 4, none⟩ (.int .i64 x.now)).setCell ⟨w.heap.size, k * 7 + 5, none⟩ (.slice ra x.run.length rc)).setCell ⟨w.heap.size, k * 7 + 6, none⟩ (.slice va x.mis.length vc))) := by
        have hgl4 : w.heap.size < w4.heap.size := (ownsRow_block R4.out rfl).2.1
        have lineT : Typ w4 w.heap.size 75 := own_typ R4.out rfl
        generalize hw9 : ((((((w4.setCell ⟨w.heap.size, k * 7, none⟩ (.int .i64 x.th)).setCell ⟨w.heap.size, k * 7 + 1, none⟩ (.int .i64 x.at_)).setCell ⟨w.heap.size, k * 7 + 2, none⟩ (.int .i64 x.cd)).setCell ⟨w.heap.size, k * 7 + 3, none⟩ (.int .i64 x.er)).setCell ⟨w.heap.size, k * 7 + 4, none⟩ (.int .i64 x.now)).setCell ⟨w.heap.size, k * 7 + 5, none⟩ (.slice ra x.run.length rc)).setCell ⟨w.heap.size, k * 7 + 6, none⟩ (.slice va x.mis.length vc) = w9
        have rAll2 := rAll
        rw [hw9] at rAll2
        have same : ∀ b, b ≠ w.heap.size → w9.heap[b]? = w4.heap[b]? := fun b hb => by
          rw [← hw9]
          iterate 7 rw [Below.heap_setCell _ _ _ _ hb]
        have hsz9 : w9.heap.size = w4.heap.size := by
          rw [← hw9]
          simp [World.setCell]
        have o9 : Only [w.heap.size] w4 w9 := by
          rw [← hw9]
          iterate 7 refine Only.setCell ?_ (.inl (by simp)) _
          exact Only.refl _ _
        clear hw9
        have notint : ∀ b, Typ w4 b 3 ∨ Typ w4 b 95 → b ≠ w.heap.size := fun b ht e => by
          subst e
          rcases ht with ht | ht
          · exact ht.ne lineT (by decide) rfl
          · exact ht.ne lineT (by decide) rfl
        have lm9 : LineMem w.heap.size w9 Q2 x (.slice ra x.run.length rc) (.slice va x.mis.length vc) := LM.out.turn (fun b _ _ ht => same b (notint b ht)) (fun _ h => .inl h)
        have lr9 : LRow w.heap.size w9 Q2 C LL := LR4.out.turn (fun b _ _ ht => same b (notint b ht)) (fun _ h => .inl h)
        refine ⟨⟨rAll2, lr9.snoc lm9 (fun i hi j hj => ?_) (fun j hj => ?_), ng2⟩, kframe.frame K4.out (fun b hb => same b (fun e => ng2 (e ▸ hb))) (by omega), T4.out.trans (Turns.of_only (Q := fun b => b = w.heap.size) o9 (fun b hb => by simpa using hb)) (fun b hb => .inr (by omega))⟩
        · rw [set7 C k _ _ _ _ _ _ _ (by omega) i j hj, if_neg (by have := HLL.out; omega)]
        · rw [HLL.out, set7 C k _ _ _ _ _ _ _ (by omega) k j hj, if_pos rfl]
          rfl
      clear rAll R4 LR4 LM K4 T4
      generalize C[k * 7]'(by omega) = o0 at *
      generalize C[k * 7 + 1]'(by omega) = o1 at *
      generalize C[k * 7 + 2]'(by omega) = o2 at *
      generalize C[k * 7 + 3]'(by omega) = o3 at *
      generalize C[k * 7 + 4]'(by omega) = o4 at *
      generalize C[k * 7 + 5]'(by omega) = o5 at *
      generalize C[k * 7 + 6]'(by omega) = o6 at *
      go_wp2
      go_roundw
      case rel => exact ⟨k + 1, by omega, by go_num, _, Q2, by rw [EX.out]; exact FIN.out.1, by rw [EY.out]; exact FIN.out.2.1, hS2.out, FIN.out.2.2⟩
      case measure => simp [intOf]; omega
    · have e : k = l.length := by omega
      subst e
      go_wp2
      go_ret
      exact ⟨_, C, rfl, LD.out.row, LD.out.lines.turn (fun _ _ _ _ => rfl) (fun _ h => h.elim), T1.out⟩

set_option maxHeartbeats 2000000 in
theorem kRun_any : CRun := by
  intro tv mv sv qv tc mc sc qc S w hS hF hnil av ac l hl hll
  have hb0 : Below w.heap.size w (w.alloc (.cells #[.int .i64 S.workers, .int .i64 S.start, .slice tv S.threads.length tc, .slice mv S.mutexes.length mc, .slice sv S.sems.length sc, .slice qv S.queues.length qc] 27)) := (Below.refl _ _).alloc (Nat.le_refl _) _
  have X0 := Blk.new w #[.int .i64 S.workers, .int .i64 S.start, .slice tv S.threads.length tc, .slice mv S.mutexes.length mc, .slice sv S.sems.length sc, .slice qv S.queues.length qc] 27
  have HS := hid hS
  have HF := hid hF
  have HN := hid hnil
  have HL := hid hl
  clear hS hF hnil hl
  by_cases hlong : 1000 < l.length
  · obtain ⟨e1, e2⟩ := runL_long (S := S) hlong
    unfold RunOk
    rw [e1, e2]
    clear e1 e2
    have hlI : (1000 : Int) < (l.length : Int) := by omega
    go_enter Tryz.func16, Tryz.ntmps16
    go_wp2
    go_ret2
    exact ⟨_, [], rfl, World.ownsRow_nil _ _ _ _, LRow.nil _ _ _ _, hb0⟩
  · have hlI : (l.length : Int) ≤ 1000 := by omega
    have CN := hid (fun wx hSx => cNew tv mv sv qv tc mc sc qc S wx hSx HF.out HN.out trivial)
    by_cases herr : P3.err S = 0
    · obtain ⟨e1, e2⟩ := runL_ok hlong herr
      unfold RunOk
      rw [e1, e2]
      clear e1 e2
      have hthr : S.threads.length ≤ 16 := by
        have := (good_bare herr).few
        rw [bare_len] at this
        exact this
      have hnext := new_next S hthr
      have HLEN := hid (R.linesTo_length (R.new S) l l.length)
      have HE := hid herr
      have HNX := hid hnext
      clear herr hlong hnext
      have PL := hid (fun Q wx kb (kx : KPK Q wx kb (R.new S)) B0 hB0 hQ hl => kPlay_any Q wx kb (R.new S) kx B0 hB0 hQ av ac l hl (by omega) (by have := HNX.out; omega))
      generalize R.linesTo (R.new S) l l.length = LL at *
      generalize R.new S = s0 at *
      go_enter Tryz.func16, Tryz.ntmps16
      go_upto_region 1 with fail
      generalize w.alloc (.cells #[.int .i64 S.workers, .int .i64 S.start, .slice tv S.threads.length tc, .slice mv S.mutexes.length mc, .slice sv S.sems.length sc, .slice qv S.queues.length qc] 27) = w0 at hb0 X0 ⊢
      have y0 := X0.cell 0
      have y1 := X0.cell 1
      have y2 := X0.cell 2
      have y3 := X0.cell 3
      have y4 := X0.cell 4
      have y5 := X0.cell 5
      simp at y0 y1 y2 y3 y4 y5
      have CN0 := hid (CN.out w0 (HS.out.later hb0))
      have HB0 := hid hb0
      have hsz0 := hb0.size
      clear CN hb0 X0
      go_wp2_with fail
      refine CN0.out.mono ?_
      rintro e w1 ⟨hb1, ⟨h1, _⟩ | ⟨_, kb, P, rfl, kp, hp⟩⟩
      · exact absurd HE.out h1
      · have HL1 : Hid (IntsIn w.heap.size w1 av l) := fun i hi => by
          obtain ⟨b, o, ha, hlt, hc⟩ := HL.out i hi
          exact ⟨b, o, ha, hlt, by rw [hb1.cell (p := ⟨b, o + i, none⟩) (show b < w0.heap.size by omega), HB0.out.cell (p := ⟨b, o + i, none⟩) hlt]; exact hc⟩
        have hB : Below w.heap.size w w1 := via HB0.out HB0.out.size hb1
        have PL1 := hid (PL.out P w1 kb kp w.heap.size hB.size (fun b hb => by have := hp b hb; omega) HL1.out)
        have HP : Hid (∀ b, P b → w.heap.size ≤ b) := fun b hb => by have := hp b hb; omega
        have HB1 := hid hB
        clear CN0 PL kp hp hb1 hB
        go_wp2_with fail
        refine PL1.out.mono ?_
        rintro e w2 ⟨g, C, rfl, hr2, hl2, t2⟩
        have R2 := hid hr2
        have L2 := hid hl2
        have T2 := hid t2
        clear hr2 hl2 t2 PL1
        go_wp2
        go_ret2
        refine ⟨_, C, rfl, ?_, ⟨fun i hi => ?_⟩, ?_⟩
        · rw [HLEN.out]
          exact ownsRow_mono R2.out HB1.out.size
        · obtain ⟨rv, mv, lm, hc⟩ := L2.out.cells i hi
          exact ⟨rv, mv, ⟨ownsRow_mono lm.run HB1.out.size, ownsRow_mono lm.mis HB1.out.size, lm.nr, lm.nm⟩, hc⟩
        · exact HB1.out.trans ⟨T2.out.os, T2.out.tape, T2.out.output, T2.out.size, fun b hb => T2.out.block b (by have := HB1.out.size; omega) (fun hq => by have := HP.out b hq; omega)⟩
    · obtain ⟨e1, e2⟩ := runL_bad hlong herr
      unfold RunOk
      rw [e1, e2]
      clear e1 e2
      have HE := hid herr
      have hne : (P3.err S != 0) = true := by simpa using herr
      clear herr hlong
      generalize P3.err S = er at *
      go_enter Tryz.func16, Tryz.ntmps16
      go_upto_region 1 with fail
      generalize w.alloc (.cells #[.int .i64 S.workers, .int .i64 S.start, .slice tv S.threads.length tc, .slice mv S.mutexes.length mc, .slice sv S.sems.length sc, .slice qv S.queues.length qc] 27) = w0 at hb0 X0 ⊢
      have y0 := X0.cell 0
      have y1 := X0.cell 1
      have y2 := X0.cell 2
      have y3 := X0.cell 3
      have y4 := X0.cell 4
      have y5 := X0.cell 5
      simp at y0 y1 y2 y3 y4 y5
      have CN0 := hid (CN.out w0 (HS.out.later hb0))
      have HB0 := hid hb0
      have hsz0 := hb0.size
      clear CN hb0 X0
      go_wp2_with fail
      refine CN0.out.mono ?_
      rintro e w1 ⟨hb1, ⟨_, rfl⟩ | ⟨h1, _⟩⟩
      · have HB1 := hid (via HB0.out HB0.out.size hb1)
        clear CN0 hb1
        go_wp2
        go_ret2
        exact ⟨_, [], rfl, World.ownsRow_nil _ _ _ _, LRow.nil _ _ _ _, HB1.out⟩
      · exact absurd h1 HE.out

end Go.Proofs.YtbkfildnijjioaaGreat
