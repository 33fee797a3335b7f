import Derived.Test.YtbkfildnijjioaaGreatA02
import Derived.Deep.QuietTactic
import Derived.BigQuiet
import Derived.Deep.DeepCutAuto
import Derived.Test.YtbkfildnijjioaaGreatA08
import Derived.Maps.AppendAt
/-
  How the document's kernel lies in memory.
-/
namespace Go.Proofs.YtbkfildnijjioaaGreat
open Go.RowKit
/-- What the struct's block holds of addresses and capacities. -/
structure RH where
  tv : Option Addr
  mv : Option Addr
  sv : Option Addr
  qv : Option Addr
  tc : Nat
  mc : Nat
  sc : Nat
  qc : Nat
  gT : Nat
  cT : Nat
  vO : Value
  vC : Value
  vB : Value
  vM : Value
  bs : List Value
def rsCells (h : RH) (s : RS) : Array Value :=
  #[.int .i64 s.set.workers, .int .i64 s.set.start, .slice h.tv s.set.threads.length h.tc, .slice h.mv s.set.mutexes.length h.mc, .slice h.sv s.set.sems.length h.sc, .slice h.qv s.set.queues.length h.qc,
    .int .i64 s.now, .int .i64 s.next, .slice (some ⟨h.gT, 0, none⟩) s.T.length h.cT, h.vO, h.vC, h.vB, h.vM]
/-- The lists besides the threads. -/
structure ROth (w : World) (h : RH) (s : RS) : Prop where
  own : w.ownsRow 0 3 1 h.vO s.owner.length (intCells s.owner)
  cnt : w.ownsRow 0 3 1 h.vC s.count.length (intCells s.count)
  mis : w.ownsRow 0 95 3 h.vM s.missed.length (missCells s.missed)
  box : w.ownsRow 0 25 1 h.vB s.box.length h.bs ∧ ∀ i (hi : i < s.box.length), ∃ v, h.bs[i]? = some v ∧ w.ownsRow 0 3 1 v s.box[i].length (intCells s.box[i])
/-- The kernel s lies at block sb; F: where the lists of its set lie. -/
structure RMem (F : Nat → Prop) (w : World) (sb : Nat) (h : RH) (s : RS) : Prop where
  blk : Blk w sb (rsCells h s) 82
  rows : w.ownsRow 0 114 13 (.slice (some ⟨h.gT, 0, none⟩) s.T.length h.cT) s.T.length (rtAll s.T)
  set : SetF F w h.tv h.mv h.sv h.qv s.set
  oth : ROth w h s
  nsb : ¬ F sb
  nT : ¬ F h.gT
  lt : ∀ b, F b → b < w.heap.size
section
variable {F : Nat → Prop} {w w' : World} {sb : Nat} {h : RH} {s : RS}
theorem RMem.gT_lt (m : RMem F w sb h s) : h.gT < w.heap.size := (ownsRow_block m.rows rfl).2.1
theorem RMem.ne (m : RMem F w sb h s) : sb ≠ h.gT := by
  intro e
  obtain ⟨_, _, cur, hc⟩ := ownsRow_block m.rows rfl
  rw [← e] at hc
  have := blk_type m.blk hc
  exact absurd this (by decide)
/-- The other lists lie on where only blocks of other types have turned. -/
theorem ROth.same {w w' : World} {h : RH} {s : RS} (o : ROth w h s) (hs : ∀ (g : Nat) (cur : Array Value) (e : TypeId), w.heap[g]? = some (Obj.cells cur e (0, 0)) → (e = 3 ∨ e = 95 ∨ e = 25) → w'.heap[g]? = w.heap[g]?) : ROth w' h s := by
  have keep : ∀ {e : TypeId} {size n : Nat} {v : Value} {xs : List Value}, (e = 3 ∨ e = 95 ∨ e = 25) → w.ownsRow 0 e size v n xs → w'.ownsRow 0 e size v n xs := by
    intro e size n v xs he ho
    refine ownsRow_same ho fun g hg => ?_
    obtain ⟨_, _, cur, hc⟩ := ownsRow_block ho hg
    exact hs g cur e hc he
  obtain ⟨hb, hbi⟩ := o.box
  refine ⟨keep (.inl rfl) o.own, keep (.inl rfl) o.cnt, keep (.inr (.inl rfl)) o.mis, keep (.inr (.inr rfl)) hb, fun i hi => ?_⟩
  obtain ⟨v, hv, hr⟩ := hbi i hi
  exact ⟨v, hv, keep (.inl rfl) hr⟩
/-- A cell of a thread is written. -/
theorem RMem.setT (m : RMem F w sb h s) {i j : Nat} (hi : i < s.T.length) (hj : j < 13) (v : Value) (f : RT → RT) (hf : rtCells (f s.T[i]) = (rtCells s.T[i]).set j v) :
    RMem F (w.setCell ⟨h.gT, i * 13 + j, none⟩ v) sb h { s with T := s.T.modify i f } := by
  have hst := m.rows.stored (i * 13 + j) v
  have other : ∀ (g : Nat) (cur : Array Value) (e : TypeId), w.heap[g]? = some (Obj.cells cur e (0, 0)) → (e = 3 ∨ e = 95 ∨ e = 25) → (w.setCell ⟨h.gT, i * 13 + j, none⟩ v).heap[g]? = w.heap[g]? := by
    intro g cur e hg he
    refine Below.heap_setCell _ _ _ _ (fun e' => ?_)
    obtain ⟨_, _, cur', hc'⟩ := ownsRow_block m.rows rfl
    simp only at e'
    rw [← e', hg] at hc'
    cases hc'
    rcases he with he | he | he <;> exact absurd he (by decide)
  refine ⟨?_, ?_, m.set.same fun b hb => Below.heap_setCell _ _ _ _ (fun e => m.nT (by have e' : b = h.gT := e; exact e' ▸ hb)), ?_, m.nsb, m.nT, fun b hb => by simpa [World.setCell] using m.lt b hb⟩
  · have := m.blk.other (p := ⟨h.gT, i * 13 + j, none⟩) m.ne v
    simpa [rsCells] using this
  · have h1 := hst.1
    rw [rtAll_set s.T i j hi hj v f hf] at h1
    simpa using h1
  · have o := m.oth.same other
    exact ⟨o.own, o.cnt, o.mis, o.box⟩
/-- Memory of others is turned. -/
theorem RMem.only {L : List Nat} (m : RMem F w sb h s) (ho : Only L w w') (h1 : sb ∉ L) (h2 : h.gT ∉ L) (h3 : ∀ b, b ∈ L → ¬ F b)
    (h4 : ∀ b, b ∈ L → ∀ (cur : Array Value) (e : TypeId), w.heap[b]? = some (Obj.cells cur e (0, 0)) → ¬ (e = 3 ∨ e = 95 ∨ e = 25)) : RMem F w' sb h s := by
  refine ⟨m.blk.only ho h1, ?_, m.set.same fun b hb => ho.block b (m.lt b hb) (fun e => h3 b e hb), m.oth.same fun g cur e hg he => ?_, m.nsb, m.nT, fun b hb => Nat.lt_of_lt_of_le (m.lt b hb) ho.size⟩
  · refine ownsRow_same m.rows fun g hg => ?_
    cases hg
    exact ho.block _ m.gT_lt h2
  · have hl : g < w.heap.size := by
      rcases Nat.lt_or_ge g w.heap.size with h' | h'
      · exact h'
      · rw [Array.getElem?_eq_none h'] at hg; cases hg
    exact ho.block g hl (fun e' => h4 g e' cur e hg he)
theorem RMem.below (m : RMem F w sb h s) (hb : Below w.heap.size w w') : RMem F w' sb h s := m.only (L := []) (Only.of_below hb) (by simp) (by simp) (by simp) (by simp)
theorem RMem.drewN (m : RMem F w sb h s) (n : Nat) : RMem F (w.drewN n) sb h s := m.below (bdrewN (Below.refl _ _) n)
/-- A cell of the struct that holds a number (6: Now, 7: Next). -/
theorem RMem.setNext (m : RMem F w sb h s) (n : Int) : RMem F (w.setCell ⟨sb, 7, none⟩ (.int .i64 n)) sb h { s with next := n } := by
  have ho : Only [sb] w (w.setCell ⟨sb, 7, none⟩ (.int .i64 n)) := (Only.refl _ _).setCell (.inl (by simp)) _
  have blk : Blk (w.setCell ⟨sb, 7, none⟩ (.int .i64 n)) sb (rsCells h { s with next := n }) 82 := by
    have := m.blk.set 7 (.int .i64 n)
    simpa [rsCells] using this
  refine ⟨blk, ?_, m.set.same fun b hb => ho.block b (m.lt b hb) (fun e => m.nsb (by simp at e; exact e ▸ hb)), ?_, m.nsb, m.nT, fun b hb => by simpa [World.setCell] using m.lt b hb⟩
  · refine ownsRow_same m.rows fun g hg => ?_
    cases hg
    exact ho.block _ m.gT_lt (by simp; exact fun e => m.ne e.symm)
  · have o := m.oth.same (w' := w.setCell ⟨sb, 7, none⟩ (.int .i64 n)) fun g cur e hg he => by
      refine Below.heap_setCell _ _ _ _ (fun e' => ?_)
      simp only at e'
      rw [e'] at hg
      have := blk_type m.blk hg
      rcases he with he | he | he <;> exact absurd (this.trans he) (by decide)
    exact ⟨o.own, o.cnt, o.mis, o.box⟩
theorem RMem.setNow (m : RMem F w sb h s) (n : Int) : RMem F (w.setCell ⟨sb, 6, none⟩ (.int .i64 n)) sb h { s with now := n } := by
  have ho : Only [sb] w (w.setCell ⟨sb, 6, none⟩ (.int .i64 n)) := (Only.refl _ _).setCell (.inl (by simp)) _
  have blk : Blk (w.setCell ⟨sb, 6, none⟩ (.int .i64 n)) sb (rsCells h { s with now := n }) 82 := by
    have := m.blk.set 6 (.int .i64 n)
    simpa [rsCells] using this
  refine ⟨blk, ?_, m.set.same fun b hb => ho.block b (m.lt b hb) (fun e => m.nsb (by simp at e; exact e ▸ hb)), ?_, m.nsb, m.nT, fun b hb => by simpa [World.setCell] using m.lt b hb⟩
  · refine ownsRow_same m.rows fun g hg => ?_
    cases hg
    exact ho.block _ m.gT_lt (by simp; exact fun e => m.ne e.symm)
  · have o := m.oth.same (w' := w.setCell ⟨sb, 6, none⟩ (.int .i64 n)) fun g cur e hg he => by
      refine Below.heap_setCell _ _ _ _ (fun e' => ?_)
      simp only at e'
      rw [e'] at hg
      have := blk_type m.blk hg
      rcases he with he | he | he <;> exact absurd (this.trans he) (by decide)
    exact ⟨o.own, o.cnt, o.mis, o.box⟩
/-- A new list of misses is laid into the struct: w1: behind the append (it has turned the old list's block alone). -/
theorem RMem.setMissed (m : RMem F w sb h s) {w1 : World} {v : Value} {l : List MissD} (hg : w.grownBy w1 h.vM.ownBlock) (hF : ∀ g, h.vM.ownBlock = some g → ¬ F g)
    (hr : w1.ownsRow 0 95 3 v l.length (missCells l)) : RMem F (w1.setCell ⟨sb, 12, none⟩ v) sb { h with vM := v } { s with missed := l } := by
  have hne : ∀ {g : Nat}, h.vM.ownBlock = some g → ∃ cur, w.heap[g]? = some (Obj.cells cur 95 (0, 0)) := fun hv => (ownsRow_block m.oth.mis hv).2.2
  have sbne : some sb ≠ h.vM.ownBlock := by
    intro e
    obtain ⟨cur, hc⟩ := hne e.symm
    exact absurd (blk_type m.blk hc) (by decide)
  have gtne : some h.gT ≠ h.vM.ownBlock := by
    intro e
    obtain ⟨cur, hc⟩ := hne e.symm
    obtain ⟨_, _, cur', hc'⟩ := ownsRow_block m.rows rfl
    rw [hc] at hc'
    cases hc'
  have same : ∀ (g : Nat) (cur : Array Value) (e : TypeId), w.heap[g]? = some (Obj.cells cur e (0, 0)) → e ≠ 95 → e ≠ 82 → (w1.setCell ⟨sb, 12, none⟩ v).heap[g]? = w.heap[g]? := by
    intro g cur e hg' h1 h2
    have hl : g < w.heap.size := by
      rcases Nat.lt_or_ge g w.heap.size with h' | h'
      · exact h'
      · rw [Array.getElem?_eq_none h'] at hg'; cases hg'
    rw [Below.heap_setCell _ _ _ _ (fun e' => ?_), hg.block g hl (fun e' => ?_)]
    · obtain ⟨cur', hc'⟩ := hne e'.symm
      rw [hg'] at hc'
      cases hc'
      exact h1 rfl
    · have e2 : g = sb := e'
      rw [e2] at hg'
      exact h2 (blk_type m.blk hg').symm
  have keep : ∀ {e : TypeId} {size n : Nat} {u : Value} {xs : List Value}, e ≠ 95 → e ≠ 82 → w.ownsRow 0 e size u n xs → (w1.setCell ⟨sb, 12, none⟩ v).ownsRow 0 e size u n xs := by
    intro e size n u xs h1 h2 ho
    refine ownsRow_same ho fun g hg' => ?_
    obtain ⟨_, _, cur, hc⟩ := ownsRow_block ho hg'
    exact same g cur e hc h1 h2
  obtain ⟨hb, hbi⟩ := m.oth.box
  refine ⟨?_, ?_, m.set.same fun b hb => ?_, ⟨keep (by decide) (by decide) m.oth.own, keep (by decide) (by decide) m.oth.cnt, ?_, keep (by decide) (by decide) hb, fun i hi => ?_⟩, m.nsb, m.nT, fun b hb => ?_⟩
  · have := (m.blk.grown hg sbne).set 12 v
    simpa [rsCells] using this
  · exact keep (by decide) (by decide) m.rows
  · rw [Below.heap_setCell _ _ _ _ (fun e => m.nsb (by have e' : b = sb := e; exact e' ▸ hb)), hg.block b (m.lt b hb) (fun e => hF b e.symm hb)]
  · refine ownsRow_same hr fun g hg' => Below.heap_setCell _ _ _ _ (fun e => ?_)
    obtain ⟨_, _, cur, hc⟩ := ownsRow_block hr hg'
    have e' : g = sb := e
    rw [e'] at hc
    exact absurd (blk_type (m.blk.grown hg sbne) hc) (by decide)
  · obtain ⟨u, hu, hr'⟩ := hbi i hi
    exact ⟨u, hu, keep (by decide) (by decide) hr'⟩
  · have := m.lt b hb
    have := hg.size
    simp [World.setCell]
    omega
/-- Behind a call that turned the struct's block and the threads' alone. -/
theorem RMem.rebuild (m : RMem F w sb h s) (ho : Only [sb, h.gT] w w') (T' : List RT) (hlen : T'.length = s.T.length) (hb : Blk w' sb (rsCells h s) 82)
    (hr : w'.ownsRow 0 114 13 (.slice (some ⟨h.gT, 0, none⟩) s.T.length h.cT) s.T.length (rtAll T')) : RMem F w' sb h { s with T := T' } := by
  refine ⟨by simpa [rsCells, hlen] using hb, by simpa [hlen] using hr, m.set.same fun b hb => ho.block b (m.lt b hb) (fun e => ?_), ?_, m.nsb, m.nT, fun b hb => Nat.lt_of_lt_of_le (m.lt b hb) ho.size⟩
  · simp at e
    rcases e with e | e
    · exact m.nsb (e ▸ hb)
    · exact m.nT (e ▸ hb)
  · have o := m.oth.same (w' := w') fun g cur e hg he => by
      have hl : g < w.heap.size := by
        rcases Nat.lt_or_ge g w.heap.size with h' | h'
        · exact h'
        · rw [Array.getElem?_eq_none h'] at hg; cases hg
      refine ho.block g hl fun e' => ?_
      simp at e'
      rcases e' with e' | e'
      · rw [e'] at hg
        have := blk_type m.blk hg
        rcases he with he | he | he <;> exact absurd (this.trans he) (by decide)
      · obtain ⟨_, _, cur', hc'⟩ := ownsRow_block m.rows rfl
        rw [e'] at hg
        rw [hg] at hc'
        cases hc'
        rcases he with he | he | he <;> exact absurd he (by decide)
    exact ⟨o.own, o.cnt, o.mis, o.box⟩
end
/-- The lists of numbers, of boxes and of misses are apart, and none lies where the set does. -/
structure RApart (F : Nat → Prop) (h : RH) : Prop where
  o : ∀ g, h.vO.ownBlock = some g → ¬ F g
  c : ∀ g, h.vC.ownBlock = some g → ¬ F g ∧ h.vO.ownBlock ≠ some g
  m : ∀ g, h.vM.ownBlock = some g → ¬ F g
  b : ∀ g, h.vB.ownBlock = some g → ¬ F g
  bs : ∀ (i : Nat) (v : Value) (g : Nat), h.bs[i]? = some v → v.ownBlock = some g → ¬ F g ∧ h.vO.ownBlock ≠ some g ∧ h.vC.ownBlock ≠ some g ∧ ∀ (j : Nat) (u : Value), j ≠ i → h.bs[j]? = some u → u.ownBlock ≠ some g
/-- All of the kernel's memory is of Q. -/
structure RIn (Q F : Nat → Prop) (sb : Nat) (h : RH) : Prop where
  f : ∀ b, F b → Q b
  sb : Q sb
  t : Q h.gT
  o : ∀ g, h.vO.ownBlock = some g → Q g
  c : ∀ g, h.vC.ownBlock = some g → Q g
  m : ∀ g, h.vM.ownBlock = some g → Q g
  b : ∀ g, h.vB.ownBlock = some g → Q g
  bs : ∀ (i : Nat) (v : Value) (g : Nat), h.bs[i]? = some v → v.ownBlock = some g → Q g
theorem RIn.mono {Q Q' F : Nat → Prop} {sb : Nat} {h : RH} (r : RIn Q F sb h) (hq : ∀ b, Q b → Q' b) : RIn Q' F sb h :=
  ⟨fun b hb => hq b (r.f b hb), hq _ r.sb, hq _ r.t, fun g hg => hq g (r.o g hg), fun g hg => hq g (r.c g hg), fun g hg => hq g (r.m g hg), fun g hg => hq g (r.b g hg), fun i v g h1 h2 => hq g (r.bs i v g h1 h2)⟩
section
variable {F : Nat → Prop} {w w' : World} {sb : Nat} {h : RH} {s : RS}
/-- One block of a list beside the threads has turned; the lists lie as o says. -/
theorem RMem.turned (m : RMem F w sb h s) {g : Nat} (hs : ∀ k, k < w.heap.size → k ≠ g → w'.heap[k]? = w.heap[k]?) (hz : w.heap.size ≤ w'.heap.size) (h1 : sb ≠ g) (h2 : h.gT ≠ g) (h3 : ¬ F g) {h' : RH} {s' : RS} (o : ROth w' h' s')
    (e1 : rsCells h' s' = rsCells h s) (e2 : s'.T = s.T) (e3 : h'.gT = h.gT ∧ h'.cT = h.cT ∧ h'.tv = h.tv ∧ h'.mv = h.mv ∧ h'.sv = h.sv ∧ h'.qv = h.qv) (e4 : s'.set = s.set) : RMem F w' sb h' s' := by
  obtain ⟨a1, a2, a3, a4, a5, a6⟩ := e3
  refine ⟨?_, ?_, ?_, o, m.nsb, by rw [a1]; exact m.nT, fun b hb => Nat.lt_of_lt_of_le (m.lt b hb) hz⟩
  · have := m.blk
    unfold Blk at this ⊢
    rw [e1, hs sb m.blk.lt h1]
    exact this
  · rw [a1, a2, e2]
    refine ownsRow_same m.rows fun g' hg' => ?_
    cases hg'
    exact hs _ m.gT_lt h2
  · rw [a3, a4, a5, a6, e4]
    exact m.set.same fun b hb => hs b (m.lt b hb) (fun e => h3 (e ▸ hb))
theorem RMem.ownType (m : RMem F w sb h s) {g : Nat} {cur : Array Value} {e : TypeId} (hg : w.heap[g]? = some (Obj.cells cur e (0, 0))) (h1 : e ≠ 82) (h2 : e ≠ 114) : sb ≠ g ∧ h.gT ≠ g := by
  refine ⟨fun e' => ?_, fun e' => ?_⟩
  · rw [← e'] at hg
    exact h1 (blk_type m.blk hg).symm
  · obtain ⟨_, _, cur', hc'⟩ := ownsRow_block m.rows rfl
    rw [e', hg] at hc'
    cases hc'
    exact h2 rfl
/-- A mutex gets an owner. -/
theorem RMem.setOwner (m : RMem F w sb h s) (a : RApart F h) {g cap : Nat} (hv : h.vO = .slice (some ⟨g, 0, none⟩) s.owner.length cap) (i : Nat) (x : Int) :
    RMem F (w.setCell ⟨g, i, none⟩ (.int .i64 x)) sb h { s with owner := s.owner.set i x } := by
  have hb : h.vO.ownBlock = some g := by rw [hv]; rfl
  obtain ⟨_, hlt, cur, hc⟩ := ownsRow_block m.oth.own hb
  obtain ⟨h1, h2⟩ := m.ownType hc (by decide) (by decide)
  have same : ∀ k, k ≠ g → (w.setCell ⟨g, i, none⟩ (.int .i64 x)).heap[k]? = w.heap[k]? := fun k hk => Below.heap_setCell _ _ _ _ hk
  refine m.turned (g := g) (fun k _ hk => same k hk) (by simp [World.setCell]) h1 h2 (a.o g hb) ⟨?_, ?_, ?_, ?_, fun j hj => ?_⟩ rfl rfl ⟨rfl, rfl, rfl, rfl, rfl, rfl⟩ rfl
  · have h0 := m.oth.own
    rw [hv] at h0 ⊢
    have := (h0.stored i (.int .i64 x)).1
    simpa [intCells_set] using this
  · exact ownsRow_same m.oth.cnt fun k hk => same k (fun e => (a.c k hk).2 (e ▸ hb))
  · refine ownsRow_same m.oth.mis fun k hk => same k (fun e => ?_)
    obtain ⟨_, _, cur', hc'⟩ := ownsRow_block m.oth.mis hk
    rw [e, hc] at hc'
    cases hc'
  · refine ownsRow_same m.oth.box.1 fun k hk => same k (fun e => ?_)
    obtain ⟨_, _, cur', hc'⟩ := ownsRow_block m.oth.box.1 hk
    rw [e, hc] at hc'
    cases hc'
  · obtain ⟨v, hv', hr⟩ := m.oth.box.2 j hj
    exact ⟨v, hv', ownsRow_same hr fun k hk => same k (fun e => (a.bs j v k hv' hk).2.1 (e ▸ hb))⟩
/-- A semaphore's count. -/
theorem RMem.setCount (m : RMem F w sb h s) (a : RApart F h) {g cap : Nat} (hv : h.vC = .slice (some ⟨g, 0, none⟩) s.count.length cap) (i : Nat) (x : Int) :
    RMem F (w.setCell ⟨g, i, none⟩ (.int .i64 x)) sb h { s with count := s.count.set i x } := by
  have hb : h.vC.ownBlock = some g := by rw [hv]; rfl
  obtain ⟨_, hlt, cur, hc⟩ := ownsRow_block m.oth.cnt hb
  obtain ⟨h1, h2⟩ := m.ownType hc (by decide) (by decide)
  have same : ∀ k, k ≠ g → (w.setCell ⟨g, i, none⟩ (.int .i64 x)).heap[k]? = w.heap[k]? := fun k hk => Below.heap_setCell _ _ _ _ hk
  refine m.turned (g := g) (fun k _ hk => same k hk) (by simp [World.setCell]) h1 h2 (a.c g hb).1 ⟨?_, ?_, ?_, ?_, fun j hj => ?_⟩ rfl rfl ⟨rfl, rfl, rfl, rfl, rfl, rfl⟩ rfl
  · exact ownsRow_same m.oth.own fun k hk => same k (fun e => (a.c g hb).2 (e ▸ hk))
  · have h0 := m.oth.cnt
    rw [hv] at h0 ⊢
    have := (h0.stored i (.int .i64 x)).1
    simpa [intCells_set] using this
  · refine ownsRow_same m.oth.mis fun k hk => same k (fun e => ?_)
    obtain ⟨_, _, cur', hc'⟩ := ownsRow_block m.oth.mis hk
    rw [e, hc] at hc'
    cases hc'
  · refine ownsRow_same m.oth.box.1 fun k hk => same k (fun e => ?_)
    obtain ⟨_, _, cur', hc'⟩ := ownsRow_block m.oth.box.1 hk
    rw [e, hc] at hc'
    cases hc'
  · obtain ⟨v, hv', hr⟩ := m.oth.box.2 j hj
    exact ⟨v, hv', ownsRow_same hr fun k hk => same k (fun e => (a.bs j v k hv' hk).2.2.1 (e ▸ hb))⟩
end
end Go.Proofs.YtbkfildnijjioaaGreat

/-
  Walks over package donateref: draw, wake, number, release.
-/
namespace Go.Proofs.YtbkfildnijjioaaGreat
open Go.RowKit

section
variable {F : Nat → Prop} {w w' : World} {sb : Nat} {h : RH} {s : RS}
theorem RMem.tcell (m : RMem F w sb h s) {i : Nat} (hi : i < s.T.length) (j : Nat) (hj : j < 13) : w.cell? ⟨h.gT, i * 13 + j, none⟩ = (rtCells s.T[i])[j]? := by
  rw [m.rows.cellAt _ (by omega), rtAll_get s.T i j hi hj]
theorem RMem.tfrozen (m : RMem F w sb h s) (j : Nat) : w.frozen? ⟨h.gT, j, none⟩ = false := m.rows.frozenAt j
end

set_option maxHeartbeats 400000 in
theorem rDraw_any (F : Nat → Prop) (w : World) (sb : Nat) (h : RH) (s : RS) (m : RMem F w sb h s) (h0 : 0 ≤ s.next) (h1 : s.next ≤ 4611686018427387904) :
    Calls Tryz.prog 115 #[.pointer (some ⟨sb, 0, none⟩)] w fun e w' => e = .returned (.int .i64 (s.next + 1)) ∧ w' = w.setCell ⟨sb, 7, none⟩ (.int .i64 (s.next + 1)) := by
  have c7 := m.blk.cell 7
  have f7 := m.blk.frozen 7
  simp [rsCells] at c7
  clear m
  go_enter Tryz.func115, Tryz.ntmps115
  go_wp2
  go_ret
  exact ⟨rfl, rfl⟩

set_option maxHeartbeats 400000 in
theorem rWake_any (F : Nat → Prop) (w : World) (sb : Nat) (h : RH) (s : RS) (m : RMem F w sb h s) (t : Nat) (ht : t < s.T.length) (_hfew : s.T.length ≤ 16) (h0 : 0 ≤ s.next) (h1 : s.next ≤ 4611686018427387904) :
    Calls Tryz.prog 110 #[.pointer (some ⟨sb, 0, none⟩), .int .i64 t] w fun e w' => e = .returned (.tuple #[]) ∧ RMem F w' sb h (R.wake s t) ∧ Only [sb, h.gT] w w' := by
  have c8 := m.blk.cell 8
  simp [rsCells] at c8
  have a6 := m.tcell ht 6 (by decide)
  simp [rtCells] at a6
  have f6 := m.tfrozen (t * 13 + 6)
  have M := hid m
  clear m
  go_enter Tryz.func110, Tryz.ntmps110
  go_wp2_with fail
  have hm1 := M.out.setT ht (j := 6) (by decide) (.bool true) (fun x => { x with awake := true }) rfl
  have ho1 : Only [sb, h.gT] w (w.setCell ⟨h.gT, t * 13 + 6, none⟩ (.bool true)) := (Only.refl _ _).setCell (.inl (by simp)) _
  clear a6 f6 c8
  generalize w.setCell ⟨h.gT, t * 13 + 6, none⟩ (.bool true) = w1 at hm1 ho1 ⊢
  refine (rDraw_any F w1 sb h _ hm1 h0 h1).mono ?_
  rintro e w2 ⟨rfl, rfl⟩
  have hm2 := hm1.setNext (s.next + 1)
  have ho2 : Only [sb, h.gT] w (w1.setCell ⟨sb, 7, none⟩ (.int .i64 (s.next + 1))) := ho1.setCell (.inl (by simp)) _
  generalize w1.setCell ⟨sb, 7, none⟩ (.int .i64 (s.next + 1)) = w2 at hm2 ho2 ⊢
  have M2 := hid hm2
  have c8 := hm2.blk.cell 8
  simp [rsCells] at c8
  have a7 := hm2.tcell (i := t) (by simpa using ht) 7 (by decide)
  simp [rtCells] at a7
  have f7 := hm2.tfrozen (t * 13 + 7)
  clear hm1 hm2
  go_wp2
  go_end0
  have hm3 := M2.out.setT (i := t) (j := 7) (by simpa using ht) (by decide) (.int .i64 (s.next + 1)) (fun x => { x with tick := s.next + 1 }) rfl
  refine ⟨rfl, ?_, ho2.setCell (.inl (by simp)) _⟩
  have e : R.wake s t = { s with next := s.next + 1, T := (s.T.modify t (fun x => { x with awake := true })).modify t (fun x => { x with tick := s.next + 1 }) } := by
    unfold R.wake
    rw [List.modify_modify_eq]
    rfl
  rw [e]
  exact hm3

set_option maxHeartbeats 400000 in
theorem rNumber_any (F : Nat → Prop) (w : World) (sb : Nat) (h : RH) (s : RS) (m : RMem F w sb h s) (t : Nat) (ht : t < s.set.threads.length) (behind : Int) (hb0 : 0 ≤ behind) (hb1 : behind ≤ 1000)
    (g0 : 0 ≤ s.set.start) (g1 : s.set.start ≤ s.now) (g2 : s.now ≤ 1000000000) (hx : 0 ≤ s.set.threads[t].offset ∧ s.set.threads[t].offset ≤ 1000 ∧ 0 ≤ s.set.threads[t].period ∧ s.set.threads[t].period ≤ 1000) :
    Calls Tryz.prog 109 #[.pointer (some ⟨sb, 0, none⟩), .int .i64 t, .int .i64 behind] w fun e w' => e = .returned (.int .i64 (R.numberAt s t behind)) ∧ Below w.heap.size w w' := by
  obtain ⟨o0, o1, p0, p1⟩ := hx
  have e : R.numberAt s t behind = R.number s.set.threads[t].period (s.now - s.set.start - s.set.threads[t].offset - behind) := by
    unfold R.numberAt
    simp [List.getD, ht]
  rw [e]
  clear e
  have c1 := m.blk.cell 1
  have c2 := m.blk.cell 2
  have c6 := m.blk.cell 6
  simp [rsCells] at c1 c2 c6
  obtain ⟨b, o, cv, cc, ha, hfb, x0, x1, x2, x3, x4, _⟩ := m.set.threads t ht
  rw [ha] at c2
  have hsl := m.blk.lt
  clear ha m
  generalize hgone : s.now - s.set.start - s.set.threads[t].offset - behind = gone
  have HG := hid hgone
  have gb : -1000001000 ≤ gone ∧ gone ≤ 1000000000 := by omega
  obtain ⟨gb0, gb1⟩ := gb
  clear hgone
  generalize s.set.threads[t].period = per at *
  generalize s.set.threads[t].offset = off at *
  go_enter Tryz.func109, Tryz.ntmps109
  go_wp2
  go_quiet (fail)
  rw [HG.out]
  clear x0 x1 x2 x3 x4 c1 c2 c6
  by_cases hper : per = 0
  · subst hper
    go_wp2
    all_goals
      go_ret
      refine ⟨ret_int ?_, bdrewN ((Below.refl _ _).alloc (Nat.le_refl _) _) _⟩
      try simp only [beq_iff_eq, beq_eq_false_iff_ne] at *
      unfold R.number
      simp_all
      try omega
  · have hp2 : 1 ≤ per := by omega
    clear hper
    go_wp2
    all_goals
      go_ret
      refine ⟨ret_int ?_, bdrewN ((Below.refl _ _).alloc (Nat.le_refl _) _) _⟩
      have hne : ¬ per = 0 := by omega
      try simp only [bne_iff_ne, bne_eq_false_iff_eq] at *
      unfold R.number
      simp_all
      try omega

end Go.Proofs.YtbkfildnijjioaaGreat

/-
  Walks over package donateref: level, Level, levels.
-/
namespace Go.Proofs.YtbkfildnijjioaaGreat
open Go.RowKit

/-- What a call of level answers, at one depth. -/
def LevelAt (w : World) (sb : Nat) (s : RS) (d : Int) (f : Nat → Int) : Prop :=
  ∀ t, t < s.T.length → Calls Tryz.prog 147 #[.pointer (some ⟨sb, 0, none⟩), .int .i64 t, .int .i64 d] w fun e w' => e = .returned (.int .i64 (f t)) ∧ w' = w

/-- The owners, cell by cell. -/
theorem RMem.owner {F : Nat → Prop} {w : World} {sb : Nat} {h : RH} {s : RS} (m : RMem F w sb h s) :
    ∃ ao cap, h.vO = .slice ao s.owner.length cap ∧ ∀ i, i < s.owner.length → ∃ g, ao = some ⟨g, 0, none⟩ ∧ w.cell? ⟨g, i, none⟩ = some (.int .i64 (s.owner.getD i 0)) := by
  obtain ⟨ao, cap, he, hn, ha⟩ := owns_cells m.oth.own
  refine ⟨ao, cap, he, fun i hi => ?_⟩
  cases ao with
  | none => have := (hn rfl).1; omega
  | some a =>
    obtain ⟨g, rfl, _, _, _, hc⟩ := ha a rfl
    exact ⟨g, rfl, by rw [hc i (by omega)]; simp [intCells, List.getD, List.getElem?_eq_getElem hi]⟩

set_option maxRecDepth 100000 in
set_option maxHeartbeats 2000000 in
theorem rLevel_step (F : Nat → Prop) (w : World) (sb : Nat) (h : RH) (s : RS) (m : RMem F w sb h s) (g : RGood s) (d : Int) (pos : Bool) (f : Nat → Int) (hd : pos = decide (0 < d)) (hd0 : 0 ≤ d) (hd1 : d ≤ 16)
    (ih : pos = true → LevelAt w sb s (d - 1) f) (t : Nat) (ht : t < s.T.length) :
    Calls Tryz.prog 147 #[.pointer (some ⟨sb, 0, none⟩), .int .i64 t, .int .i64 d] w fun e w' => e = .returned (.int .i64 (R.outerTo s f pos t s.owner.length)) ∧ w' = w := by
  have c3 := m.blk.cell 3
  have c8 := m.blk.cell 8
  have c9 := m.blk.cell 9
  simp [rsCells] at c3 c8 c9
  have a0 := m.tcell ht 0 (by decide)
  simp [rtCells] at a0
  obtain ⟨ao, oc, hvo, hown⟩ := m.owner
  rw [hvo] at c9
  have hfew := g.few
  have hol : s.owner.length ≤ 8 := by have := g.own; have := g.mfew; omega
  have hml := hid g.own
  have M := hid m
  have HO := hid hown
  have IH := hid ih
  have HD := hid hd
  have ebase : R.outerTo s f pos t 0 = s.T[t].base := by simp [R.outerTo, R.th, List.getD, ht]
  have EB := hid ebase
  clear m g hown ih hd hvo ebase
  go_enter Tryz.func147, Tryz.ntmps147
  go_wp2
  go_loopw [7, 8] (fun v i wr => ∃ k : Nat, k ≤ s.owner.length ∧ i = .int .i64 k ∧ v = .int .i64 (R.outerTo s f pos t k) ∧ wr = w) (fun _ i _ => s.owner.length - (intOf i).toNat)
  case atStart => exact ⟨0, Nat.zero_le _, rfl, by rw [EB.out], rfl⟩
  case round =>
    obtain ⟨k, hk, rfl, rfl, rfl⟩ := hrel
    by_cases hlt : k < s.owner.length
    · obtain ⟨og, rfl, ok⟩ := HO.out k hlt
      have hmk : k < s.set.mutexes.length := by have := hml.out; omega
      obtain ⟨b, o, ha, _, x0, x1⟩ := M.out.set.mutexes k hmk
      rw [ha] at c3
      clear ha
      have em : s.set.mutexes.getD k R.pair0 = s.set.mutexes[k] := by simp [List.getD, hmk]
      have estep : R.outerTo s f pos t (k + 1) = if s.owner.getD k 0 ≠ (t : Int) then R.outerTo s f pos t k
          else if s.set.mutexes[k].x = 1 then R.maxI (R.outerTo s f pos t k) s.set.mutexes[k].y
          else if pos = true then R.innerTo s.T f k (R.outerTo s f pos t k) s.T.length else R.outerTo s f pos t k := by
        rw [← em]; rfl
      have ES := hid estep
      clear em estep
      generalize s.owner.getD k 0 = ok0 at *
      generalize s.set.mutexes[k] = mk at *
      generalize R.outerTo s f pos t k = v at *
      cases hq : (ok0 != (t : Int))
      · have HQ := hid hq
        cases hkind : (mk.x == 1)
        · have HK := hid hkind
          by_cases hp : pos = true
          rotate_left
          · have HP := hid hp
            have hd2 : d ≤ 0 := by
              have h1 := HD.out
              have h2 : ¬ decide (0 < d) = true := by rw [← h1]; exact hp
              simpa using h2
            have fin : v = R.outerTo s f pos t (k + 1) := by
              have e1 : ¬ ok0 ≠ (t : Int) := by simpa using HQ.out
              have e2 : ¬ mk.x = 1 := by simpa using HK.out
              rw [ES.out, if_neg e1, if_neg e2, if_neg HP.out]
            have FIN := hid fin
            clear fin hp
            go_wp2
            go_loopw [7, 9] (fun v' i wx => v' = .int .i64 v ∧ i = .int .i64 0 ∧ wx = wr) (fun _ _ _ => 0)
            case atStart => exact ⟨rfl, rfl, rfl⟩
            case round =>
              obtain ⟨rfl, rfl, rfl⟩ := hrel
              go_wp2
              go_roundw
              case rel => exact ⟨k + 1, by omega, by go_num, by rw [← FIN.out], (by first | rfl | trivial)⟩
              case measure => simp [intOf]; omega
          · have HP := hid hp
            have hd2 : 0 < d := by
              have h1 := HD.out
              rw [hp] at h1
              simpa using h1.symm
            have fin : R.innerTo s.T f k v s.T.length = R.outerTo s f pos t (k + 1) := by
              have e1 : ¬ ok0 ≠ (t : Int) := by simpa using HQ.out
              have e2 : ¬ mk.x = 1 := by simpa using HK.out
              rw [ES.out, if_neg e1, if_neg e2, if_pos HP.out]
            have FIN := hid fin
            have IH2 := hid (IH.out hp)
            clear fin hp
            go_wp2
            go_loopw [7, 9] (fun v' i wx => ∃ u : Nat, u ≤ s.T.length ∧ i = .int .i64 u ∧ v' = .int .i64 (R.innerTo s.T f k v u) ∧ wx = wr) (fun _ i _ => s.T.length - (intOf i).toNat)
            case atStart => exact ⟨0, Nat.zero_le _, rfl, rfl, rfl⟩
            case round =>
              obtain ⟨u, hu, rfl, rfl, rfl⟩ := hrel
              by_cases hul : u < s.T.length
              · have a9 := M.out.tcell hul 9 (by decide)
                have a10 := M.out.tcell hul 10 (by decide)
                simp [rtCells] at a9 a10
                have estep : R.innerTo s.T f k v (u + 1) = if s.T[u].for_ = 1 ∧ s.T[u].of_ = (k : Int) then R.maxI (R.innerTo s.T f k v u) (f u) else R.innerTo s.T f k v u := by
                  have : R.th s.T u = s.T[u] := by simp [R.th, List.getD, hul]
                  rw [← this]; rfl
                have EI := hid estep
                clear estep
                generalize s.T[u].for_ = fu at *
                generalize s.T[u].of_ = ou at *
                generalize R.innerTo s.T f k v u = vu at *
                by_cases hw : fu = 1 ∧ ou = (k : Int)
                · have HW := hid hw
                  obtain ⟨h1, h2⟩ := hw
                  have h1' : (fu == 1) = true := by simp [h1]
                  have h2' : (ou == (k : Int)) = true := by simp [h2]
                  clear h1 h2
                  go_wp2_with fail
                  refine (IH2.out u hul).mono ?_
                  rintro e w1 ⟨rfl, rfl⟩
                  generalize f u = fuu at *
                  by_cases hgt : vu < fuu
                  · go_wp2
                    go_roundw
                    case rel => exact ⟨u + 1, by omega, by go_num, by rw [EI.out, if_pos HW.out]; simp [R.maxI, hgt], (by first | rfl | trivial)⟩
                    case measure => simp [intOf]; omega
                  · go_wp2
                    go_roundw
                    case rel => exact ⟨u + 1, by omega, by go_num, by rw [EI.out, if_pos HW.out]; have e3 : ¬ vu < fuu := (by omega); simp [R.maxI, e3], (by first | rfl | trivial)⟩
                    case measure => simp [intOf]; omega
                · have HW := hid hw
                  by_cases h1 : fu = 1
                  · have h1' : (fu == 1) = true := by simp [h1]
                    have h2' : (ou == (k : Int)) = false := by simp; exact fun e => hw ⟨h1, e⟩
                    clear hw h1
                    go_wp2
                    go_roundw
                    case rel => exact ⟨u + 1, by omega, by go_num, by rw [EI.out, if_neg HW.out], (by first | rfl | trivial)⟩
                    case measure => simp [intOf]; omega
                  · have h1' : (fu == 1) = false := by simp [h1]
                    clear hw h1
                    go_wp2
                    go_roundw
                    case rel => exact ⟨u + 1, by omega, by go_num, by rw [EI.out, if_neg HW.out], (by first | rfl | trivial)⟩
                    case measure => simp [intOf]; omega
              · go_wp2
                go_roundw
                case rel =>
                  have e : u = s.T.length := by omega
                  subst e
                  exact ⟨k + 1, by omega, by go_num, by rw [← FIN.out], (by first | rfl | trivial)⟩
                case measure => simp [intOf]; omega
        · have HK := hid hkind
          by_cases hgt : v < mk.y
          · go_wp2
            go_roundw
            case rel =>
              refine ⟨k + 1, by omega, by go_num, ?_, (by first | rfl | trivial)⟩
              have e1 : ¬ ok0 ≠ (t : Int) := by simpa using HQ.out
              have e2 : mk.x = 1 := by simpa using HK.out
              rw [ES.out, if_neg e1, if_pos e2]
              simp [R.maxI, hgt]
            case measure => simp [intOf]; omega
          · go_wp2
            go_roundw
            case rel =>
              refine ⟨k + 1, by omega, by go_num, ?_, (by first | rfl | trivial)⟩
              have e1 : ¬ ok0 ≠ (t : Int) := by simpa using HQ.out
              have e2 : mk.x = 1 := by simpa using HK.out
              have e3 : ¬ v < mk.y := by omega
              rw [ES.out, if_neg e1, if_pos e2]
              simp [R.maxI, e3]
            case measure => simp [intOf]; omega
      · have HQ := hid hq
        go_wp2
        go_roundw
        case rel =>
          refine ⟨k + 1, by omega, by go_num, ?_, (by first | rfl | trivial)⟩
          rw [ES.out, if_pos (by simpa using HQ.out)]
        case measure => simp [intOf]; omega
    · go_wp2
      go_ret
      have e : k = s.owner.length := by omega
      subst e
      exact ⟨rfl, rfl⟩

end Go.Proofs.YtbkfildnijjioaaGreat

/-
  Walks over package donateref: Level, levels.
-/
namespace Go.Proofs.YtbkfildnijjioaaGreat
open Go.RowKit
theorem rLevel_any (F : Nat → Prop) (w : World) (sb : Nat) (h : RH) (s : RS) (m : RMem F w sb h s) (g : RGood s) : ∀ d : Nat, d ≤ 16 → LevelAt w sb s (d : Int) (R.level s d) := by
  intro d
  induction d with
  | zero =>
    intro _ t ht
    exact rLevel_step F w sb h s m g 0 false (fun _ => 0) (by decide) (by decide) (by decide) (fun hh => absurd hh (by decide)) t ht
  | succ d ih =>
    intro hd t ht
    have e : (((d + 1 : Nat) : Int) - 1) = (d : Int) := by omega
    exact rLevel_step F w sb h s m g ((d + 1 : Nat) : Int) true (R.level s d) (by simp) (by omega) (by omega) (fun _ => by rw [e]; exact ih (by omega)) t ht
set_option maxHeartbeats 400000 in
theorem rLevelOf_any (F : Nat → Prop) (w : World) (sb : Nat) (h : RH) (s : RS) (m : RMem F w sb h s) (g : RGood s) (t : Nat) (ht : t < s.T.length) :
    Calls Tryz.prog 127 #[.pointer (some ⟨sb, 0, none⟩), .int .i64 t] w fun e w' => e = .returned (.int .i64 (R.Level s t)) ∧ w' = w := by
  have c8 := m.blk.cell 8
  simp [rsCells] at c8
  have hfew := g.few
  have L := hid (rLevel_any F w sb h s m g s.T.length hfew)
  clear m g
  go_enter Tryz.func127, Tryz.ntmps127
  go_wp2_with fail
  refine (L.out t ht).mono ?_
  rintro e w1 ⟨rfl, rfl⟩
  go_wp2
  go_ret
  exact ⟨rfl, rfl⟩
set_option maxHeartbeats 400000 in
theorem rLevels_any (F : Nat → Prop) (w : World) (sb : Nat) (h : RH) (s : RS) (m : RMem F w sb h s) (g : RGood s) :
    Calls Tryz.prog 111 #[.pointer (some ⟨sb, 0, none⟩)] w fun e w' => ∃ v, e = .returned v ∧ w'.ownsRow w.heap.size 3 1 v s.T.length (intCells (R.levels s)) ∧ Below w.heap.size w w' := by
  have hfew := g.few
  have M := hid m
  have G := hid g
  clear m g
  obtain ⟨i3, hi3, hz30, hz31, hz32⟩ := info_parts Tryz.infoInt
  have HI3 : Hid (Tryz.prog.info? 3 = some i3 ∧ i3.zero = some (.int .i64 0) ∧ i3.size = 1 ∧ i3.bytes = 8) := ⟨hi3, hz30, hz31, hz32⟩
  clear hi3 hz30 hz31 hz32
  go_enter Tryz.func111, Tryz.ntmps111
  go_wp2
  go_loopw [3, 4] (fun v i wr => ∃ k : Nat, k ≤ s.T.length ∧ i = .int .i64 k ∧ wr.ownsRow w.heap.size 3 1 v k (intCells ((List.range k).map (R.Level s))) ∧ Below w.heap.size w wr) (fun _ i _ => s.T.length - (intOf i).toNat)
  case atStart => exact ⟨0, Nat.zero_le _, rfl, World.ownsRow_nil _ _ _ _, Below.refl _ _⟩
  case round =>
    obtain ⟨k, hk, rfl, hown, hb⟩ := hrel
    have hm := M.out.below hb
    have Mk := hid hm
    have c8 := hm.blk.cell 8
    simp [rsCells] at c8
    have OW := hid hown
    have hsz := hb.size
    clear hm hown
    by_cases hlt : k < s.T.length
    · go_wp2_with (first
        | (go_at_call 127; refine (rLevelOf_any F _ sb h s Mk.out G.out k hlt).mono ?_; rintro e w1 ⟨rfl, hw1⟩; have hw2 := hw1.symm; subst hw2; clear hw1)
        | (at_builtin; refine wpList_append_src rfl (.tmp 18) (.tmp 20) 25 rfl w.heap.size 3 i3 (.int .i64 0) 1 8 Tryz.underlying25 HI3.out.1 HI3.out.2.1 HI3.out.2.2.1 HI3.out.2.2.2 rfl (by decide) u3 k (intCells ((List.range k).map (R.Level s))) rfl (OW.out.alloc _) (some ⟨wr.heap.size, 0, none⟩) 1 1 [.int .i64 (R.Level s k)] rfl rfl (fun h => (by cases h)) (fun j u hj => ⟨_, rfl, (by rw [Addr.add_lit, Nat.zero_add, (Blk.new wr #[.int .i64 (R.Level s k)] 3).cell]; simpa using hj)⟩) (by intro u hu; simp at hu; subst hu; rfl) (by unfold maxLen; omega) (by omega) (by simp; omega) ?_; intro v' w2 hown2 hg2; have O2 := hid hown2; have G2 := hid hg2; clear hown2 hg2))
      go_roundw
      case rel => exact ⟨k + 1, by omega, by go_num, by rw [levels_succ, intCells_append]; exact O2.out, (hb.alloc hsz _).grown G2.out (by simp; omega) (fun g hg => (ownsRow_block OW.out hg).1)⟩
      case measure => simp [intOf]; omega
    · go_wp2
      go_ret
      have e : k = s.T.length := by omega
      subst e
      exact ⟨_, rfl, OW.out, hb⟩
end Go.Proofs.YtbkfildnijjioaaGreat

/-
  Walks over package donateref: first.
-/
namespace Go.Proofs.YtbkfildnijjioaaGreat
open Go.RowKit

set_option maxRecDepth 100000 in
set_option maxHeartbeats 4000000 in
theorem rFirst_any (F : Nat → Prop) (w : World) (sb : Nat) (h : RH) (s : RS) (m : RMem F w sb h s) (g : RGood s) (what of_ : Int) (lv : Option Addr) (lc : Nat) (l : List Int) (hl : IntsIn w.heap.size w lv l) (hll : l.length ≤ 100) :
    Calls Tryz.prog 125 #[.pointer (some ⟨sb, 0, none⟩), .int .i64 what, .int .i64 of_, .slice lv l.length lc] w fun e w' => e = .returned (.int .i64 (R.first s what of_ l)) ∧ ∃ n, w' = w.drewN n := by
  have c8 := m.blk.cell 8
  simp [rsCells] at c8
  have hfew := g.few
  have M := hid m
  have G := hid g
  have HLS := hid hl
  clear m g hl
  go_enter Tryz.func125, Tryz.ntmps125
  go_wp2
  go_loopw [9, 10] (fun b i wr => ∃ k : Nat, k ≤ s.T.length ∧ i = .int .i64 k ∧ b = .int .i64 (R.firstTo s what of_ l k) ∧ ∃ n, wr = w.drewN n) (fun _ i _ => s.T.length - (intOf i).toNat)
  case atStart => exact ⟨0, Nat.zero_le _, rfl, rfl, 0, rfl⟩
  case round =>
    obtain ⟨k, hk, rfl, rfl, n, rfl⟩ := hrel
    obtain ⟨hb0, hb1⟩ := R.firstTo_bd s what of_ l k
    by_cases hlt : k < s.T.length
    · have a9 := M.out.tcell hlt 9 (by decide)
      have a10 := M.out.tcell hlt 10 (by decide)
      have a12 := M.out.tcell hlt 12 (by decide)
      simp [rtCells] at a9 a10 a12
      have eth : R.th s.T k = s.T[k] := by simp [R.th, List.getD, hlt]
      have estep : R.firstTo s what of_ l (k + 1) = if (R.th s.T k).for_ ≠ what ∨ (R.th s.T k).of_ ≠ of_ then R.firstTo s what of_ l k
          else if R.namedTo l (k : Int) l.length = true then R.firstTo s what of_ l k
          else if R.firstTo s what of_ l k < 0 then (k : Int)
          else if R.goesFirst s k (R.firstTo s what of_ l k).toNat = true then (k : Int) else R.firstTo s what of_ l k := rfl
      rw [eth] at estep
      have hlb : 0 ≤ R.firstTo s what of_ l k → ∃ (hj : (R.firstTo s what of_ l k).toNat < s.T.length), R.th s.T (R.firstTo s what of_ l k).toNat = s.T[(R.firstTo s what of_ l k).toNat] := by
        intro hp
        have hj : (R.firstTo s what of_ l k).toNat < s.T.length := by omega
        exact ⟨hj, by simp [R.th, List.getD, hj]⟩
      have HLB := hid hlb
      have ES := hid estep
      have ETH := hid eth
      clear estep eth hlb
      have hgf : ∀ b : Nat, R.goesFirst s k b = (decide (R.Level s b < R.Level s k) || (decide (R.Level s k = R.Level s b) && decide (s.T[k].since < (R.th s.T b).since))) := by
        intro b
        unfold R.goesFirst
        rw [ETH.out]
      have HGF := hid hgf
      clear hgf
      have MN := hid (M.out.drewN n)
      generalize s.T[k] = x at *
      generalize R.firstTo s what of_ l k = b at *
      have hkI : (k : Int) < (s.T.length : Int) := by omega
      generalize hwn : w.drewN n = wn at *
      have HWN := hid hwn
      have hcn8 : wn.cell? ⟨sb, 8, none⟩ = some (Value.slice (some ⟨h.gT, 0, none⟩) s.T.length h.cT) := by rw [← hwn]; exact c8
      have hcn9 : wn.cell? ⟨h.gT, k * 13 + 9, none⟩ = some (.int .i64 x.for_) := by rw [← hwn]; exact a9
      have hcn10 : wn.cell? ⟨h.gT, k * 13 + 10, none⟩ = some (.int .i64 x.of_) := by rw [← hwn]; exact a10
      have hcn12 : wn.cell? ⟨h.gT, k * 13 + 12, none⟩ = some (.int .i64 x.since) := by rw [← hwn]; exact a12
      have HLN := hid (show IntsIn wn.heap.size wn lv l by rw [← hwn]; exact HLS.out)
      clear hwn a9 a10 a12
      cases hf : (x.for_ != what)
      · have HF := hid hf
        cases ho : (x.of_ != of_)
        · have HO := hid ho
          have ES2 : Hid (R.firstTo s what of_ l (k + 1) = if R.namedTo l (k : Int) l.length = true then b
              else if b < 0 then (k : Int)
              else if R.goesFirst s k b.toNat = true then (k : Int) else b) := by
            rw [ES.out, if_neg]
            exact hid rfl
            have h1 := HF.out
            have h2 := HO.out
            simp at h1 h2
            simp [h1, h2]
          go_wp2_with fail
          go_loop [11, 12] (fun b i => ∃ j : Nat, j ≤ l.length ∧ i = .int .i64 j ∧ b = .bool (R.namedTo l (k : Int) j)) (fun _ i => l.length - (intOf i).toNat)
          case atStart => exact ⟨0, Nat.zero_le _, rfl, rfl⟩
          case round =>
            obtain ⟨j, hj, rfl, rfl⟩ := hrel
            have ej : R.namedTo l (k : Int) (j + 1) = (R.namedTo l (k : Int) j || (l.getD j 0 == (k : Int))) := rfl
            have EJ := hid ej
            clear ej
            by_cases hjl : j < l.length
            · obtain ⟨lg, lo, hla, _, hlc⟩ := HLN.out j hjl
              subst hla
              have hgj : l.getD j 0 = l[j] := by simp [List.getD, hjl]
              rw [hgj] at EJ
              clear hgj
              generalize l[j] = y at *
              have hjI : (j : Int) < (l.length : Int) := by omega
              cases hnm : R.namedTo l (k : Int) j
              · rw [hnm] at EJ
                cases hy : (y == (k : Int))
                · rw [hy] at EJ
                  go_wp2
                  go_round
                  case rel => exact ⟨j + 1, by omega, by go_num, by rw [EJ.out]; rfl⟩
                  case measure => simp [intOf]; omega
                · rw [hy] at EJ
                  go_wp2
                  go_round
                  case rel => exact ⟨j + 1, by omega, by go_num, by rw [EJ.out]; rfl⟩
                  case measure => simp [intOf]; omega
              · rw [hnm] at EJ
                go_wp2
                go_round
                case rel => exact ⟨j + 1, by omega, by go_num, by rw [EJ.out]; rfl⟩
                case measure => simp [intOf]; omega
            · have e : j = l.length := by omega
              subst e
              cases hnm : R.namedTo l (k : Int) l.length
              · have HNM := hid hnm
                by_cases hbn : b < 0
                · go_wp2
                  go_roundw
                  case rel => exact ⟨k + 1, by omega, by go_num, by rw [ES2.out, HNM.out]; simp [hbn], _, HWN.out.symm⟩
                  case measure => simp [intOf]; omega
                · obtain ⟨hjb, hthb⟩ := HLB.out (by omega)
                  have hgfb := HGF.out b.toNat
                  rw [hthb] at hgfb
                  have hcb12 := MN.out.tcell hjb 12 (by decide)
                  simp [rtCells] at hcb12
                  have ES3 : Hid (R.firstTo s what of_ l (k + 1) = if R.goesFirst s k b.toNat = true then (k : Int) else b) := by
                    rw [ES2.out, HNM.out, if_neg (by decide), if_neg hbn]
                    exact hid rfl
                  have HB : Hid (b = (b.toNat : Int)) := hid (by omega)
                  have hbt : b.toNat < s.T.length := hjb
                  generalize hbb : b.toNat = bt at *
                  clear hbb
                  have hbe := HB.out
                  subst hbe
                  generalize s.T[bt].since = sb12 at *
                  have LV := hid (fun t ht => rLevelOf_any F wn sb h s MN.out G.out t ht)
                  have HGB := hid hgfb
                  clear hgfb hthb
                  have hbI : (bt : Int) < (s.T.length : Int) := by omega
                  have hbd : decide ((bt : Int) < 0) = false := by simp
                  go_wp2_with fail
                  refine (LV.out k hlt).mono ?_
                  rintro e w1 ⟨rfl, hw1⟩
                  have hw2 := hw1.symm
                  subst hw2
                  clear hw1
                  go_wp2_with fail
                  refine (LV.out bt hbt).mono ?_
                  rintro e w1 ⟨rfl, hw1⟩
                  have hw2 := hw1.symm
                  subst hw2
                  clear hw1
                  generalize R.Level s k = lk at *
                  generalize R.Level s bt = lt at *
                  rcases Int.lt_trichotomy lt lk with h1 | h1 | h1
                  · go_wp2_with fail
                    go_quiet (fail)
                    go_wp2
                    go_roundw
                    case rel => exact ⟨k + 1, by omega, by go_num, by rw [ES3.out, HGB.out]; simp [h1], _, by rw [← HWN.out, World.drewN_drewN]⟩
                    case measure => simp [intOf]; omega
                  · subst h1
                    have d1 : decide (lt < lt) = false := by simp
                    have d2 : (lt == lt) = true := by simp
                    by_cases h2 : x.since < sb12
                    · go_wp2_with fail
                      go_quiet (fail)
                      go_wp2
                      go_roundw
                      case rel => exact ⟨k + 1, by omega, by go_num, by rw [ES3.out, HGB.out]; simp [h2], _, by rw [← HWN.out, World.drewN_drewN]⟩
                      case measure => simp [intOf]; omega
                    · go_wp2_with fail
                      go_quiet (fail)
                      go_wp2
                      go_roundw
                      case rel => exact ⟨k + 1, by omega, by go_num, by rw [ES3.out, HGB.out]; have n2 : ¬ x.since < sb12 := (by omega); simp [n2], _, by rw [← HWN.out, World.drewN_drewN]⟩
                      case measure => simp [intOf]; omega
                  · have d1 : decide (lt < lk) = false := by simp; omega
                    have d2 : (lk == lt) = false := by simp; omega
                    go_wp2_with fail
                    go_quiet (fail)
                    go_wp2
                    go_roundw
                    case rel => exact ⟨k + 1, by omega, by go_num, by rw [ES3.out, HGB.out]; have n1 : ¬ lt < lk := (by omega); have n2 : ¬ lk = lt := (by omega); simp [n1, n2], _, by rw [← HWN.out, World.drewN_drewN]⟩
                    case measure => simp [intOf]; omega
              · have HNM := hid hnm
                go_wp2
                go_roundw
                case rel => exact ⟨k + 1, by omega, by go_num, by rw [ES2.out, HNM.out]; rfl, _, HWN.out.symm⟩
                case measure => simp [intOf]; omega
        · have HO := hid ho
          go_wp2_with fail
          go_roundw
          case rel => exact ⟨k + 1, by omega, by go_num, by rw [ES.out, if_pos (.inr (by simpa using HO.out))], _, HWN.out.symm⟩
          case measure => simp [intOf]; omega
      · have HF := hid hf
        go_wp2_with fail
        go_roundw
        case rel => exact ⟨k + 1, by omega, by go_num, by rw [ES.out, if_pos (.inl (by simpa using HF.out))], _, HWN.out.symm⟩
        case measure => simp [intOf]; omega
    · go_wp2
      go_ret
      have e : k = s.T.length := by omega
      subst e
      exact ⟨rfl, _, rfl⟩

end Go.Proofs.YtbkfildnijjioaaGreat

/-
  Memory of a kernel: appends that tell where the new list lies; the frame of a call.
-/
namespace Go.Proofs.YtbkfildnijjioaaGreat
open Go.RowKit
end Go.Proofs.YtbkfildnijjioaaGreat
