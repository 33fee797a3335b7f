import Derived.Test.YtbkfildnijjioabA02
import Derived.Test.YtbkfildnijjioabA04
import Derived.Deep.QuietTactic
import Derived.BigQuiet
import Derived.Deep.DeepCutAuto
import Derived.Deep.RegionHeld3
/-
  The program's kernel (package donate) in memory, told by the document's kernel and by the two orders that it keeps beside.
-/
namespace Go.Proofs.Ytbkfildnijjioab
open Go.RowKit

/-- A thread's cells. -/
def ktCells (S : SetD) (t : Nat) (cv : Value) (x : RT) : List Value :=
  [cv, .int .i64 x.base, .int .i64 (S.start + (S.threads.getD t P3.none0).offset), .int .i64 (S.threads.getD t P3.none0).period, .int .i64 (S.threads.getD t P3.none0).deadline,
   .int .i64 x.at_, .int .i64 x.last, .int .i64 x.got, .int .i64 x.rel, .int .i64 x.ended, .int .i64 x.for_, .int .i64 x.of_, .int .i64 x.until_]
def kmCells (S : SetD) (m : Nat) (o : Int) : List Value := [.int .i64 (S.mutexes.getD m R.pair0).x, .int .i64 (S.mutexes.getD m R.pair0).y, .int .i64 o]

def ksCells (S : SetD) (i : Nat) (c : Int) : List Value := [.int .i64 c, .int .i64 (S.sems.getD i R.pair0).y]
def kqCells (S : SetD) (i : Nat) (v : Value) : List Value := [.int .i64 (S.queues.getD i 0), v]

/-- Addresses and contents. -/
structure KH where
  gT : Nat
  cT : Nat
  L : List Value
  cs : Nat → Value
  gM : Nat
  cM : Nat
  LM : List Value
  gW : Nat
  cW : Nat
  vTk : Value
  vWt : Value
  vMs : Value
  gS : Nat
  cS : Nat
  LS : List Value
  gQ : Nat
  cQ : Nat
  LQ : List Value
  qv : Nat → Value
  nq : Nat

def kCells (h : KH) (s : RS) (ws : List Int) : Array Value :=
  #[.int .i64 s.now, .slice (some ⟨h.gT, 0, none⟩) s.T.length h.cT, .slice (some ⟨h.gM, 0, none⟩) s.owner.length h.cM, .slice (some ⟨h.gS, 0, none⟩) s.count.length h.cS, .slice (some ⟨h.gQ, 0, none⟩) s.box.length h.cQ,
    .slice (some ⟨h.gW, 0, none⟩) ws.length h.cW, h.vTk, h.vWt, h.vMs]

/-- A block of a type. -/
def Typ (w : World) (b : Nat) (e : TypeId) : Prop := ∃ cur, w.heap[b]? = some (.cells cur e (0, 0))
theorem Typ.ne {w : World} {b b' : Nat} {e e' : TypeId} (h : Typ w b e) (h' : Typ w b' e') (he : e ≠ e') : b ≠ b' := by
  rintro rfl
  obtain ⟨c, hc⟩ := h
  obtain ⟨c', hc'⟩ := h'
  rw [hc] at hc'
  cases hc'
  exact he rfl
theorem Typ.lt {w : World} {b : Nat} {e : TypeId} (h : Typ w b e) : b < w.heap.size := by
  obtain ⟨c, hc⟩ := h
  rcases Nat.lt_or_ge b w.heap.size with h | h
  · exact h
  · rw [Array.getElem?_eq_none h] at hc; cases hc
theorem Typ.same {w w' : World} {b : Nat} {e : TypeId} (h : Typ w b e) (hs : w'.heap[b]? = w.heap[b]?) : Typ w' b e := by
  obtain ⟨c, hc⟩ := h
  exact ⟨c, by rw [hs]; exact hc⟩

theorem own_typ {w : World} {base : Nat} {e : TypeId} {size n : Nat} {v : Value} {xs : List Value} (h : w.ownsRow base e size v n xs) {g : Nat} (hv : v.ownBlock = some g) : Typ w g e := (ownsRow_block h hv).2.2

/-- The blocks of semaphores, queues and messages. -/
def KSB (h : KH) (b : Nat) : Prop := b = h.gS ∨ b = h.gQ ∨ ∃ i, i < h.nq ∧ (h.qv i).ownBlock = some b
/-- Semaphores, queues and their messages. -/
structure KSt (w : World) (h : KH) (S : SetD) (count : List Int) (box : List (List Int)) : Prop where
  srow : w.ownsRow 0 93 2 (.slice (some ⟨h.gS, 0, none⟩) count.length h.cS) count.length h.LS
  scells : ∀ i (hi : i < count.length) j, j < 2 → h.LS[i * 2 + j]? = (ksCells S i count[i])[j]?
  qrow : w.ownsRow 0 125 2 (.slice (some ⟨h.gQ, 0, none⟩) box.length h.cQ) box.length h.LQ
  nq : h.nq = box.length
  qcells : ∀ i, i < box.length → ∀ j, j < 2 → h.LQ[i * 2 + j]? = (kqCells S i (h.qv i))[j]?
  boxes : ∀ i (hi : i < box.length), w.ownsRow 0 3 1 (h.qv i) (box[i]).length (intCells box[i])
  dist : ∀ i j g, i < box.length → j < box.length → i ≠ j → (h.qv i).ownBlock = some g → (h.qv j).ownBlock ≠ some g
/-- The parts of the addresses that it hangs on. -/
structure KHs (h h' : KH) : Prop where
  gS : h'.gS = h.gS
  cS : h'.cS = h.cS
  LS : h'.LS = h.LS
  gQ : h'.gQ = h.gQ
  cQ : h'.cQ = h.cQ
  LQ : h'.LQ = h.LQ
  qv : h'.qv = h.qv
  nq : h'.nq = h.nq
section
variable {w w' : World} {h h' : KH} {S : SetD} {count : List Int} {box : List (List Int)}
theorem KSt.typ (m : KSt w h S count box) {b : Nat} (hb : KSB h b) : Typ w b 93 ∨ Typ w b 125 ∨ Typ w b 3 := by
  rcases hb with rfl | rfl | ⟨i, hi, hg⟩
  · exact .inl (own_typ m.srow rfl)
  · exact .inr (.inl (own_typ m.qrow rfl))
  · exact .inr (.inr (own_typ (m.boxes i (by rw [← m.nq]; exact hi)) hg))
theorem KSt.lt (m : KSt w h S count box) {b : Nat} (hb : KSB h b) : b < w.heap.size := by
  rcases m.typ hb with h | h | h
  · exact h.lt
  · exact h.lt
  · exact h.lt
theorem KSt.ne (m : KSt w h S count box) {b b' : Nat} {e : TypeId} (hb : KSB h b) (h' : Typ w b' e) (h1 : e ≠ 93) (h2 : e ≠ 125) (h3 : e ≠ 3) : b ≠ b' := by
  rcases m.typ hb with h | h | h
  · exact h.ne h' (Ne.symm h1)
  · exact h.ne h' (Ne.symm h2)
  · exact h.ne h' (Ne.symm h3)
theorem KSt.same (m : KSt w h S count box) (hs : ∀ b, KSB h b → w'.heap[b]? = w.heap[b]?) : KSt w' h S count box :=
  ⟨ownsRow_same m.srow fun g hg => by cases hg; exact hs _ (.inl rfl), m.scells, ownsRow_same m.qrow fun g hg => by cases hg; exact hs _ (.inr (.inl rfl)), m.nq, m.qcells, fun i hi => ownsRow_same (m.boxes i hi) fun g hg => hs g (.inr (.inr ⟨i, by rw [m.nq]; exact hi, hg⟩)), m.dist⟩
theorem KHs.refl (h : KH) : KHs h h := ⟨rfl, rfl, rfl, rfl, rfl, rfl, rfl, rfl⟩
theorem KSt.like (m : KSt w h S count box) (k : KHs h h') : KSt w h' S count box := by
  obtain ⟨k1, k2, k3, k4, k5, k6, k7, k8⟩ := k
  obtain ⟨m1, m2, m3, m4, m5, m6, m7⟩ := m
  refine ⟨?_, ?_, ?_, ?_, ?_, ?_, ?_⟩
  · rw [k1, k2, k3]; exact m1
  · rw [k3]; exact m2
  · rw [k4, k5, k6]; exact m3
  · rw [k8]; exact m4
  · rw [k6, k7]; exact m5
  · rw [k7]; exact m6
  · rw [k7]; exact m7
theorem KHs.blocks (k : KHs h h') {b : Nat} (hb : KSB h' b) : KSB h b := by
  obtain ⟨k1, k2, k3, k4, k5, k6, k7, k8⟩ := k
  unfold KSB at hb ⊢
  rw [k1, k4, k7, k8] at hb
  exact hb
end

/-- The kernel s lies at block kb; F: where the codes lie. -/
structure KMem (F : Nat → Prop) (w : World) (kb : Nat) (h : KH) (s : RS) (tk wt : List Nat) (ws : List Int) : Prop where
  blk : Blk w kb (kCells h s ws) 88
  rows : w.ownsRow 0 138 13 (.slice (some ⟨h.gT, 0, none⟩) s.T.length h.cT) s.T.length h.L
  cells : ∀ i (hi : i < s.T.length) j, j < 13 → h.L[i * 13 + j]? = (ktCells s.set i (h.cs i) s.T[i])[j]?
  codes : ∀ i, i < s.T.length → ∃ cv cc, h.cs i = .slice cv (s.set.threads.getD i P3.none0).code.length cc ∧ InstrsF F w cv (s.set.threads.getD i P3.none0).code
  mrow : w.ownsRow 0 113 3 (.slice (some ⟨h.gM, 0, none⟩) s.owner.length h.cM) s.owner.length h.LM
  mcells : ∀ i (hi : i < s.owner.length) j, j < 3 → h.LM[i * 3 + j]? = (kmCells s.set i s.owner[i])[j]?
  wk : w.ownsRow 0 3 1 (.slice (some ⟨h.gW, 0, none⟩) ws.length h.cW) ws.length (intCells ws)
  tks : w.ownsRow 0 3 1 h.vTk tk.length (intCells (Ln.ints tk))
  wts : w.ownsRow 0 3 1 h.vWt wt.length (intCells (Ln.ints wt))
  mss : w.ownsRow 0 82 3 h.vMs s.missed.length (missCells s.missed)
  ft : ∀ b, F b → Typ w b 46
  dTk : ∀ g, h.vTk.ownBlock = some g → g ≠ h.gW
  dWt : ∀ g, h.vWt.ownBlock = some g → g ≠ h.gW ∧ h.vTk.ownBlock ≠ some g
  st : KSt w h s.set s.count s.box
  dSt : ∀ g, KSB h g → g ≠ h.gW ∧ h.vTk.ownBlock ≠ some g ∧ h.vWt.ownBlock ≠ some g

/-- All the blocks of a kernel. -/
def KB (F : Nat → Prop) (kb : Nat) (h : KH) (b : Nat) : Prop := F b ∨ b = kb ∨ b = h.gT ∨ b = h.gM ∨ b = h.gW ∨ h.vTk.ownBlock = some b ∨ h.vWt.ownBlock = some b ∨ h.vMs.ownBlock = some b ∨ KSB h b

section
variable {F : Nat → Prop} {w w' : World} {kb : Nat} {h : KH} {s : RS} {tk wt : List Nat} {ws : List Int}
theorem KMem.kT (m : KMem F w kb h s tk wt ws) : Typ w kb 88 := ⟨_, m.blk⟩
theorem KMem.tT (m : KMem F w kb h s tk wt ws) : Typ w h.gT 138 := own_typ m.rows rfl
theorem KMem.mT (m : KMem F w kb h s tk wt ws) : Typ w h.gM 113 := own_typ m.mrow rfl
theorem KMem.wT (m : KMem F w kb h s tk wt ws) : Typ w h.gW 3 := own_typ m.wk rfl
theorem KMem.tcell (m : KMem F w kb h s tk wt ws) {i : Nat} (hi : i < s.T.length) (j : Nat) (hj : j < 13) : w.cell? ⟨h.gT, i * 13 + j, none⟩ = (ktCells s.set i (h.cs i) s.T[i])[j]? := by
  rw [m.rows.cellAt _ (by omega), m.cells i hi j hj]
theorem KMem.tfrozen (m : KMem F w kb h s tk wt ws) (j : Nat) : w.frozen? ⟨h.gT, j, none⟩ = false := m.rows.frozenAt j
theorem KMem.mcell (m : KMem F w kb h s tk wt ws) {i : Nat} (hi : i < s.owner.length) (j : Nat) (hj : j < 3) : w.cell? ⟨h.gM, i * 3 + j, none⟩ = (kmCells s.set i s.owner[i])[j]? := by
  rw [m.mrow.cellAt _ (by omega), m.mcells i hi j hj]
theorem KMem.mfrozen (m : KMem F w kb h s tk wt ws) (j : Nat) : w.frozen? ⟨h.gM, j, none⟩ = false := m.mrow.frozenAt j
theorem KMem.wcell (m : KMem F w kb h s tk wt ws) {i : Nat} (hi : i < ws.length) : w.cell? ⟨h.gW, i, none⟩ = some (.int .i64 ws[i]) := by
  rw [m.wk.cellAt i (by omega)]
  simp [intCells, hi]
theorem KMem.wfrozen (m : KMem F w kb h s tk wt ws) (j : Nat) : w.frozen? ⟨h.gW, j, none⟩ = false := m.wk.frozenAt j

theorem KMem.frame (m : KMem F w kb h s tk wt ws) (hs : ∀ b, KB F kb h b → w'.heap[b]? = w.heap[b]?) : KMem F w' kb h s tk wt ws := by
  refine ⟨?_, ?_, m.cells, fun i hi => ?_, ?_, m.mcells, ?_, ?_, ?_, ?_, fun b hb => (m.ft b hb).same (hs b (.inl hb)), m.dTk, m.dWt, m.st.same fun b hb => hs b (.inr (.inr (.inr (.inr (.inr (.inr (.inr (.inr hb)))))))), m.dSt⟩
  · have := m.blk
    unfold Blk at this ⊢
    rw [hs kb (.inr (.inl rfl))]
    exact this
  · exact ownsRow_same m.rows fun g hg => by cases hg; exact hs _ (.inr (.inr (.inl rfl)))
  · obtain ⟨cv, cc, h1, h2⟩ := m.codes i hi
    exact ⟨cv, cc, h1, h2.same fun b hb => hs b (.inl hb)⟩
  · exact ownsRow_same m.mrow fun g hg => by cases hg; exact hs _ (.inr (.inr (.inr (.inl rfl))))
  · exact ownsRow_same m.wk fun g hg => by cases hg; exact hs _ (.inr (.inr (.inr (.inr (.inl rfl)))))
  · exact ownsRow_same m.tks fun g hg => hs g (.inr (.inr (.inr (.inr (.inr (.inl hg))))))
  · exact ownsRow_same m.wts fun g hg => hs g (.inr (.inr (.inr (.inr (.inr (.inr (.inl hg)))))))
  · exact ownsRow_same m.mss fun g hg => hs g (.inr (.inr (.inr (.inr (.inr (.inr (.inr (.inl hg))))))))
theorem KB.lt (m : KMem F w kb h s tk wt ws) : ∀ b, KB F kb h b → b < w.heap.size := by
  rintro b (hb | rfl | rfl | rfl | rfl | hb | hb | hb | hb)
  · exact (m.ft b hb).lt
  · exact m.kT.lt
  · exact m.tT.lt
  · exact m.mT.lt
  · exact m.wT.lt
  · exact (own_typ m.tks hb).lt
  · exact (own_typ m.wts hb).lt
  · exact (own_typ m.mss hb).lt
  · exact m.st.lt hb
theorem KMem.below (m : KMem F w kb h s tk wt ws) (hb : Below w.heap.size w w') : KMem F w' kb h s tk wt ws := m.frame (fun b h => hb.block b (KB.lt m b h))
theorem KMem.drewN (m : KMem F w kb h s tk wt ws) (n : Nat) : KMem F (w.drewN n) kb h s tk wt ws := m.below (bdrewN (Below.refl _ _) n)

/-- Nothing of the memory hangs on these. -/
theorem KMem.cong (m : KMem F w kb h s tk wt ws) {s' : RS} (hset : s'.set = s.set) (hnow : s'.now = s.now) (hT : s'.T.length = s.T.length) (ho : s'.owner = s.owner) (hmis : s'.missed = s.missed) (hcnt : s'.count = s.count) (hbox : s'.box = s.box) (hc : ∀ i (hi : i < s.T.length), ktCells s.set i (h.cs i) (s'.T[i]'(by omega)) = ktCells s.set i (h.cs i) s.T[i]) : KMem F w kb h s' tk wt ws := by
  refine ⟨?_, ?_, fun i hi j hj => ?_, fun i hi => ?_, ?_, fun i hi j hj => ?_, m.wk, m.tks, m.wts, ?_, m.ft, m.dTk, m.dWt, by rw [hset, hcnt, hbox]; exact m.st, m.dSt⟩
  · have := m.blk
    unfold kCells at this ⊢
    rw [hnow, hT, ho, hcnt, hbox]
    exact this
  · rw [hT]; exact m.rows
  · rw [hset, hc i (by omega)]
    exact m.cells i (by omega) j hj
  · rw [hset]; exact m.codes i (by omega)
  · rw [ho]; exact m.mrow
  · have := m.mcells i (by rw [← ho]; exact hi) j hj
    rw [this, hset]
    simp only [ho]
  · rw [hmis]; exact m.mss

theorem ne_of_typ {b b' : Nat} {e e' : TypeId} (h : Typ w b e) (h' : Typ w b' e') (he : e ≠ e') : b' ≠ b := fun x => h.ne h' he x.symm

/-- A cell of a thread is written. -/
theorem KMem.setT (m : KMem F w kb h s tk wt ws) {i j : Nat} (hi : i < s.T.length) (hj : j < 13) (v : Value) (f : RT → RT) (hf : ktCells s.set i (h.cs i) (f s.T[i]) = (ktCells s.set i (h.cs i) s.T[i]).set j v) :
    KMem F (w.setCell ⟨h.gT, i * 13 + j, none⟩ v) kb { h with L := h.L.set (i * 13 + j) v } { s with T := s.T.modify i f } tk wt ws := by
  have tT := m.tT
  have same : ∀ b, b ≠ h.gT → (w.setCell ⟨h.gT, i * 13 + j, none⟩ v).heap[b]? = w.heap[b]? := fun b hb => Below.heap_setCell _ _ _ _ hb
  refine ⟨?_, ?_, fun k hk j' hj' => ?_, fun k hk => ?_, ?_, m.mcells, ?_, ?_, ?_, ?_, fun b hb => (m.ft b hb).same (same b (ne_of_typ tT (m.ft b hb) (by decide))), m.dTk, m.dWt, (m.st.same fun b hb => same b (m.st.ne hb tT (by decide) (by decide) (by decide))).like ⟨rfl, rfl, rfl, rfl, rfl, rfl, rfl, rfl⟩, m.dSt⟩
  · have := m.blk.other (p := ⟨h.gT, i * 13 + j, none⟩) (ne_of_typ tT m.kT (by decide)) v
    simpa [kCells] using this
  · have h1 := (m.rows.stored (i * 13 + j) v).1
    simpa using h1
  · have hk' : k < s.T.length := by simpa using hk
    have hl : h.L.length = s.T.length * 13 := m.rows.1
    show (h.L.set (i * 13 + j) v)[k * 13 + j']? = (ktCells s.set k (h.cs k) ((s.T.modify i f)[k]'hk))[j']?
    rw [List.getElem?_set, List.getElem_modify]
    by_cases e : i = k
    · subst e
      rw [if_pos rfl, hf, List.getElem?_set]
      by_cases e2 : j = j'
      · subst e2
        rw [if_pos rfl, if_pos rfl, if_pos (by omega), if_pos (by simp [ktCells]; omega)]
      · rw [if_neg (by omega), if_neg e2]
        exact m.cells i hk' j' hj'
    · rw [if_neg (by omega), if_neg e]
      exact m.cells k hk' j' hj'
  · have hk' : k < s.T.length := by simpa using hk
    obtain ⟨cv, cc, h1, h2⟩ := m.codes k hk'
    exact ⟨cv, cc, h1, h2.same fun b hb => same b (ne_of_typ tT (m.ft b hb) (by decide))⟩
  · exact ownsRow_same m.mrow fun g hg => same g (ne_of_typ tT (own_typ m.mrow hg) (by decide))
  · exact ownsRow_same m.wk fun g hg => same g (ne_of_typ tT (own_typ m.wk hg) (by decide))
  · exact ownsRow_same m.tks fun g hg => same g (ne_of_typ tT (own_typ m.tks hg) (by decide))
  · exact ownsRow_same m.wts fun g hg => same g (ne_of_typ tT (own_typ m.wts hg) (by decide))
  · exact ownsRow_same m.mss fun g hg => same g (ne_of_typ tT (own_typ m.mss hg) (by decide))
/-- A mutex gets another owner. -/
theorem KMem.setM (m : KMem F w kb h s tk wt ws) (i : Nat) (hi : i < s.owner.length) (x : Int) :
    KMem F (w.setCell ⟨h.gM, i * 3 + 2, none⟩ (.int .i64 x)) kb { h with LM := h.LM.set (i * 3 + 2) (.int .i64 x) } { s with owner := s.owner.set i x } tk wt ws := by
  have mT := m.mT
  have same : ∀ b, b ≠ h.gM → (w.setCell ⟨h.gM, i * 3 + 2, none⟩ (.int .i64 x)).heap[b]? = w.heap[b]? := fun b hb => Below.heap_setCell _ _ _ _ hb
  refine ⟨?_, ?_, m.cells, fun k hk => ?_, ?_, fun k hk j hj => ?_, ?_, ?_, ?_, ?_, fun b hb => (m.ft b hb).same (same b (ne_of_typ mT (m.ft b hb) (by decide))), m.dTk, m.dWt, (m.st.same fun b hb => same b (m.st.ne hb mT (by decide) (by decide) (by decide))).like ⟨rfl, rfl, rfl, rfl, rfl, rfl, rfl, rfl⟩, m.dSt⟩
  · have := m.blk.other (p := ⟨h.gM, i * 3 + 2, none⟩) (ne_of_typ mT m.kT (by decide)) (.int .i64 x)
    simpa [kCells] using this
  · exact ownsRow_same m.rows fun g hg => same g (ne_of_typ mT (own_typ m.rows hg) (by decide))
  · obtain ⟨cv, cc, h1, h2⟩ := m.codes k hk
    exact ⟨cv, cc, h1, h2.same fun b hb => same b (ne_of_typ mT (m.ft b hb) (by decide))⟩
  · have h1 := (m.mrow.stored (i * 3 + 2) (.int .i64 x)).1
    simpa using h1
  · have hk' : k < s.owner.length := by simpa using hk
    have hl : h.LM.length = s.owner.length * 3 := m.mrow.1
    show (h.LM.set (i * 3 + 2) (.int .i64 x))[k * 3 + j]? = (kmCells s.set k ((s.owner.set i x)[k]'hk))[j]?
    rw [List.getElem?_set, List.getElem_set]
    by_cases e : i = k
    · subst e
      rw [if_pos rfl]
      by_cases e2 : 2 = j
      · subst e2
        rw [if_pos rfl, if_pos (by omega)]
        rfl
      · rw [if_neg (by omega), m.mcells i hk' j hj]
        unfold kmCells
        rcases j with _ | _ | _ | j
        · rfl
        · rfl
        · exact absurd rfl e2
        · omega
    · rw [if_neg (by omega), if_neg e]
      exact m.mcells k hk' j hj
  · exact ownsRow_same m.wk fun g hg => same g (ne_of_typ mT (own_typ m.wk hg) (by decide))
  · exact ownsRow_same m.tks fun g hg => same g (ne_of_typ mT (own_typ m.tks hg) (by decide))
  · exact ownsRow_same m.wts fun g hg => same g (ne_of_typ mT (own_typ m.wts hg) (by decide))
  · exact ownsRow_same m.mss fun g hg => same g (ne_of_typ mT (own_typ m.mss hg) (by decide))
/-- A worker's thread is written. -/
theorem KMem.setW (m : KMem F w kb h s tk wt ws) (i : Nat) (x : Int) : KMem F (w.setCell ⟨h.gW, i, none⟩ (.int .i64 x)) kb h s tk wt (ws.set i x) := by
  have wT := m.wT
  have same : ∀ b, b ≠ h.gW → (w.setCell ⟨h.gW, i, none⟩ (.int .i64 x)).heap[b]? = w.heap[b]? := fun b hb => Below.heap_setCell _ _ _ _ hb
  refine ⟨?_, ?_, m.cells, fun k hk => ?_, ?_, m.mcells, ?_, ?_, ?_, ?_, fun b hb => (m.ft b hb).same (same b (ne_of_typ wT (m.ft b hb) (by decide))), m.dTk, m.dWt, m.st.same fun b hb => same b (m.dSt b hb).1, m.dSt⟩
  · have := m.blk.other (p := ⟨h.gW, i, none⟩) (ne_of_typ wT m.kT (by decide)) (.int .i64 x)
    simpa [kCells] using this
  · exact ownsRow_same m.rows fun g hg => same g (ne_of_typ wT (own_typ m.rows hg) (by decide))
  · obtain ⟨cv, cc, h1, h2⟩ := m.codes k hk
    exact ⟨cv, cc, h1, h2.same fun b hb => same b (ne_of_typ wT (m.ft b hb) (by decide))⟩
  · exact ownsRow_same m.mrow fun g hg => same g (ne_of_typ wT (own_typ m.mrow hg) (by decide))
  · have h1 := (m.wk.stored i (.int .i64 x)).1
    rw [intCells_set] at h1
    simpa using h1
  · exact ownsRow_same m.tks fun g hg => same g (m.dTk g hg)
  · exact ownsRow_same m.wts fun g hg => same g (m.dWt g hg).1
  · exact ownsRow_same m.mss fun g hg => same g (ne_of_typ wT (own_typ m.mss hg) (by decide))
/-- The kernel's own cells are written: the time, and new lists. -/
theorem KMem.setK (m : KMem F w kb h s tk wt ws) (j : Nat) (v : Value) {h' : KH} {s' : RS} {tk' wt' : List Nat} (hh : h' = { h with vTk := h'.vTk, vWt := h'.vWt, vMs := h'.vMs }) (hs : s' = { s with now := s'.now, missed := s'.missed }) (hc : (kCells h s ws).setIfInBounds j v = kCells h' s' ws)
    (htk : w.ownsRow 0 3 1 h'.vTk tk'.length (intCells (Ln.ints tk'))) (hwt : w.ownsRow 0 3 1 h'.vWt wt'.length (intCells (Ln.ints wt'))) (hms : w.ownsRow 0 82 3 h'.vMs s'.missed.length (missCells s'.missed))
    (d1 : ∀ g, h'.vTk.ownBlock = some g → g ≠ h.gW) (d2 : ∀ g, h'.vWt.ownBlock = some g → g ≠ h.gW ∧ h'.vTk.ownBlock ≠ some g) (d3 : ∀ g, KSB h g → h'.vTk.ownBlock ≠ some g ∧ h'.vWt.ownBlock ≠ some g) : KMem F (w.setCell ⟨kb, j, none⟩ v) kb h' s' tk' wt' ws := by
  have kT := m.kT
  have same : ∀ b, b ≠ kb → (w.setCell ⟨kb, j, none⟩ v).heap[b]? = w.heap[b]? := fun b hb => Below.heap_setCell _ _ _ _ hb
  have e1 : h'.gT = h.gT := by rw [hh]
  have e2 : h'.cT = h.cT := by rw [hh]
  have e3 : h'.L = h.L := by rw [hh]
  have e4 : h'.cs = h.cs := by rw [hh]
  have e5 : h'.gM = h.gM := by rw [hh]
  have e6 : h'.cM = h.cM := by rw [hh]
  have e7 : h'.LM = h.LM := by rw [hh]
  have e8 : h'.gW = h.gW := by rw [hh]
  have e9 : h'.cW = h.cW := by rw [hh]
  have s1 : s'.set = s.set := by rw [hs]
  have s2 : s'.T = s.T := by rw [hs]
  have s3 : s'.owner = s.owner := by rw [hs]
  have s4 : s'.count = s.count := by rw [hs]
  have s5 : s'.box = s.box := by rw [hs]
  have kh : KHs h h' := by rw [hh]; exact ⟨rfl, rfl, rfl, rfl, rfl, rfl, rfl, rfl⟩
  refine ⟨?_, ?_, ?_, ?_, ?_, ?_, ?_, ?_, ?_, ?_, fun b hb => (m.ft b hb).same (same b (ne_of_typ kT (m.ft b hb) (by decide))), ?_, ?_, ?_, fun g hg => ?_⟩
  · have := m.blk.set j v
    rw [hc] at this
    exact this
  · rw [e1, e2, e3, s2]
    exact ownsRow_same m.rows fun g hg => same g (ne_of_typ kT (own_typ m.rows hg) (by decide))
  · simp only [e3, e4, s1, s2]
    exact m.cells
  · simp only [e4, s1, s2]
    intro k hk
    obtain ⟨cv, cc, h1, h2⟩ := m.codes k hk
    exact ⟨cv, cc, h1, h2.same fun b hb => same b (ne_of_typ kT (m.ft b hb) (by decide))⟩
  · rw [e5, e6, e7, s3]
    exact ownsRow_same m.mrow fun g hg => same g (ne_of_typ kT (own_typ m.mrow hg) (by decide))
  · simp only [e7, s1, s3]
    exact m.mcells
  · rw [e8, e9]
    exact ownsRow_same m.wk fun g hg => same g (ne_of_typ kT (own_typ m.wk hg) (by decide))
  · exact ownsRow_same htk fun g hg => same g (ne_of_typ kT (own_typ htk hg) (by decide))
  · exact ownsRow_same hwt fun g hg => same g (ne_of_typ kT (own_typ hwt hg) (by decide))
  · exact ownsRow_same hms fun g hg => same g (ne_of_typ kT (own_typ hms hg) (by decide))
  · rw [e8]; exact d1
  · rw [e8]; exact d2
  · rw [s1, s4, s5]
    exact (m.st.same fun b hb => same b (m.st.ne hb kT (by decide) (by decide) (by decide))).like kh
  · rw [e8]
    exact ⟨(m.dSt g (kh.blocks hg)).1, d3 g (kh.blocks hg)⟩
/-- A semaphore counts otherwise. -/
theorem KMem.setS (m : KMem F w kb h s tk wt ws) (i : Nat) (hi : i < s.count.length) (x : Int) :
    KMem F (w.setCell ⟨h.gS, i * 2 + 0, none⟩ (.int .i64 x)) kb { h with LS := h.LS.set (i * 2 + 0) (.int .i64 x) } { s with count := s.count.set i x } tk wt ws := by
  have sT : Typ w h.gS 93 := own_typ m.st.srow rfl
  have same : ∀ b, b ≠ h.gS → (w.setCell ⟨h.gS, i * 2 + 0, none⟩ (.int .i64 x)).heap[b]? = w.heap[b]? := fun b hb => Below.heap_setCell _ _ _ _ hb
  refine ⟨?_, ?_, m.cells, fun k hk => ?_, ?_, m.mcells, ?_, ?_, ?_, ?_, fun b hb => (m.ft b hb).same (same b (ne_of_typ sT (m.ft b hb) (by decide))), m.dTk, m.dWt, ⟨?_, fun k hk j hj => ?_, ?_, m.st.nq, m.st.qcells, fun k hk => ?_, m.st.dist⟩, m.dSt⟩
  · have := m.blk.other (p := ⟨h.gS, i * 2 + 0, none⟩) (ne_of_typ sT m.kT (by decide)) (.int .i64 x)
    simpa [kCells] using this
  · exact ownsRow_same m.rows fun g hg => same g (ne_of_typ sT (own_typ m.rows hg) (by decide))
  · obtain ⟨cv, cc, h1, h2⟩ := m.codes k hk
    exact ⟨cv, cc, h1, h2.same fun b hb => same b (ne_of_typ sT (m.ft b hb) (by decide))⟩
  · exact ownsRow_same m.mrow fun g hg => same g (ne_of_typ sT (own_typ m.mrow hg) (by decide))
  · exact ownsRow_same m.wk fun g hg => same g (ne_of_typ sT (own_typ m.wk hg) (by decide))
  · exact ownsRow_same m.tks fun g hg => same g (ne_of_typ sT (own_typ m.tks hg) (by decide))
  · exact ownsRow_same m.wts fun g hg => same g (ne_of_typ sT (own_typ m.wts hg) (by decide))
  · exact ownsRow_same m.mss fun g hg => same g (ne_of_typ sT (own_typ m.mss hg) (by decide))
  · have h1 := (m.st.srow.stored (i * 2 + 0) (.int .i64 x)).1
    simpa using h1
  · have hk' : k < s.count.length := by simpa using hk
    have hl : h.LS.length = s.count.length * 2 := m.st.srow.1
    show (h.LS.set (i * 2 + 0) (.int .i64 x))[k * 2 + j]? = (ksCells s.set k ((s.count.set i x)[k]'hk))[j]?
    rw [List.getElem?_set, List.getElem_set]
    by_cases e : i = k
    · subst e
      rw [if_pos rfl]
      by_cases e2 : 0 = j
      · subst e2
        rw [if_pos rfl, if_pos (by omega)]
        rfl
      · rw [if_neg (by omega), m.st.scells i hk' j hj]
        unfold ksCells
        rcases j with _ | _ | j
        · exact absurd rfl e2
        · rfl
        · omega
    · rw [if_neg (by omega), if_neg e]
      exact m.st.scells k hk' j hj
  · exact ownsRow_same m.st.qrow fun g hg => same g (ne_of_typ sT (own_typ m.st.qrow hg) (by decide))
  · exact ownsRow_same (m.st.boxes k hk) fun g hg => same g (ne_of_typ sT (own_typ (m.st.boxes k hk) hg) (by decide))
theorem KMem.scell (m : KMem F w kb h s tk wt ws) {i : Nat} (hi : i < s.count.length) (j : Nat) (hj : j < 2) : w.cell? ⟨h.gS, i * 2 + j, none⟩ = (ksCells s.set i s.count[i])[j]? := by
  rw [m.st.srow.cellAt _ (by omega), m.st.scells i hi j hj]
theorem KMem.sfrozen (m : KMem F w kb h s tk wt ws) (j : Nat) : w.frozen? ⟨h.gS, j, none⟩ = false := m.st.srow.frozenAt j
theorem KMem.qcell (m : KMem F w kb h s tk wt ws) {i : Nat} (hi : i < s.box.length) (j : Nat) (hj : j < 2) : w.cell? ⟨h.gQ, i * 2 + j, none⟩ = (kqCells s.set i (h.qv i))[j]? := by
  rw [m.st.qrow.cellAt _ (by omega), m.st.qcells i hi j hj]
theorem KMem.qfrozen (m : KMem F w kb h s tk wt ws) (j : Nat) : w.frozen? ⟨h.gQ, j, none⟩ = false := m.st.qrow.frozenAt j
/-- A queue's messages lie elsewhere, or were lengthened where they lie: w1 is the world in which the new list stands, the cell is written behind. -/
theorem KMem.setQ {w1 : World} (m : KMem F w kb h s tk wt ws) (i : Nat) (hi : i < s.box.length) {v : Value} {l : List Int}
    (hsame : ∀ b, b < w.heap.size → (h.qv i).ownBlock ≠ some b → w1.heap[b]? = w.heap[b]?) (hr : w1.ownsRow 0 3 1 v l.length (intCells l)) (hat : ∀ g, v.ownBlock = some g → (h.qv i).ownBlock = some g ∨ w.heap.size ≤ g) :
    KMem F (w1.setCell ⟨h.gQ, i * 2 + 1, none⟩ v) kb { h with LQ := h.LQ.set (i * 2 + 1) v, qv := fun k => if k = i then v else h.qv k } { s with box := s.box.set i l } tk wt ws := by
  have qT : Typ w h.gQ 125 := own_typ m.st.qrow rfl
  have hqi : KSB h h.gQ := .inr (.inl rfl)
  have bT : ∀ g, (h.qv i).ownBlock = some g → Typ w g 3 := fun g hg => own_typ (m.st.boxes i hi) hg
  have same1 : ∀ b e, Typ w b e → e ≠ 3 → w1.heap[b]? = w.heap[b]? := fun b e hb he => hsame b hb.lt fun x => (bT b x).ne hb (Ne.symm he) rfl
  have same0 : ∀ b, b ≠ h.gQ → (w1.setCell ⟨h.gQ, i * 2 + 1, none⟩ v).heap[b]? = w1.heap[b]? := fun b hb => Below.heap_setCell _ _ _ _ hb
  have same : ∀ b e, Typ w b e → e ≠ 3 → e ≠ 125 → (w1.setCell ⟨h.gQ, i * 2 + 1, none⟩ v).heap[b]? = w.heap[b]? := fun b e hb h1 h2 => by
    rw [same0 b (ne_of_typ qT hb (Ne.symm h2)), same1 b e hb h1]
  have ints : ∀ b, Typ w b 3 → (h.qv i).ownBlock ≠ some b → (w1.setCell ⟨h.gQ, i * 2 + 1, none⟩ v).heap[b]? = w.heap[b]? := fun b hb hn => by
    rw [same0 b (ne_of_typ qT hb (by decide)), hsame b hb.lt hn]
  have ksb : ∀ g, (h.qv i).ownBlock = some g → KSB h g := fun g hg => .inr (.inr ⟨i, by rw [m.st.nq]; exact hi, hg⟩)
  have gQ1 : w1.heap[h.gQ]? = w.heap[h.gQ]? := same1 _ _ qT (by decide)
  have hlQ : h.LQ.length = s.box.length * 2 := m.st.qrow.1
  have qrow1 : w1.ownsRow 0 125 2 (.slice (some ⟨h.gQ, 0, none⟩) s.box.length h.cQ) s.box.length h.LQ := ownsRow_same m.st.qrow fun g hg => by cases hg; exact gQ1
  have vT : ∀ g, v.ownBlock = some g → Typ w1 g 3 := fun g hg => own_typ hr hg
  have qT1 : Typ w1 h.gQ 125 := own_typ qrow1 rfl
  refine ⟨?_, ?_, m.cells, fun k hk => ?_, ?_, m.mcells, ?_, ?_, ?_, ?_, fun b hb => (m.ft b hb).same (same b _ (m.ft b hb) (by decide) (by decide)), m.dTk, m.dWt, ⟨?_, m.st.scells, ?_, by simpa using m.st.nq, fun k hk j hj => ?_, fun k hk => ?_, fun k1 k2 g h1 h2 hne hg => ?_⟩, fun g hg => ?_⟩
  · have := m.blk
    unfold Blk at this ⊢
    rw [same kb _ m.kT (by decide) (by decide)]
    simpa [kCells] using this
  · exact ownsRow_same m.rows fun g hg => same g _ (own_typ m.rows hg) (by decide) (by decide)
  · obtain ⟨cv, cc, h1, h2⟩ := m.codes k hk
    exact ⟨cv, cc, h1, h2.same fun b hb => same b _ (m.ft b hb) (by decide) (by decide)⟩
  · exact ownsRow_same m.mrow fun g hg => same g _ (own_typ m.mrow hg) (by decide) (by decide)
  · exact ownsRow_same m.wk fun g hg => ints g (own_typ m.wk hg) (fun e => (m.dSt g (ksb g e)).1 (by cases hg; rfl))
  · exact ownsRow_same m.tks fun g hg => ints g (own_typ m.tks hg) (fun e => (m.dSt g (ksb g e)).2.1 hg)
  · exact ownsRow_same m.wts fun g hg => ints g (own_typ m.wts hg) (fun e => (m.dSt g (ksb g e)).2.2 hg)
  · exact ownsRow_same m.mss fun g hg => same g _ (own_typ m.mss hg) (by decide) (by decide)
  · exact ownsRow_same m.st.srow fun g hg => same g _ (own_typ m.st.srow hg) (by decide) (by decide)
  · have h1 := (qrow1.stored (i * 2 + 1) v).1
    simpa using h1
  · have hk' : k < s.box.length := by simpa using hk
    show (h.LQ.set (i * 2 + 1) v)[k * 2 + j]? = (kqCells s.set k (if k = i then v else h.qv k))[j]?
    rw [List.getElem?_set]
    by_cases e : k = i
    · subst e
      rw [if_pos rfl]
      by_cases e2 : 1 = j
      · subst e2
        rw [if_pos rfl, if_pos (by omega)]
        rfl
      · rw [if_neg (by omega), m.st.qcells k hk' j hj]
        unfold kqCells
        rcases j with _ | _ | j
        · rfl
        · exact absurd rfl e2
        · omega
    · rw [if_neg (by omega), if_neg e]
      exact m.st.qcells k hk' j hj
  · have hk' : k < s.box.length := by simpa using hk
    show World.ownsRow _ 0 3 1 (if k = i then v else h.qv k) ((s.box.set i l)[k]'hk).length (intCells ((s.box.set i l)[k]'hk))
    rw [List.getElem_set]
    by_cases e : k = i
    · subst e
      rw [if_pos rfl, if_pos rfl]
      exact ownsRow_same hr fun g hg => same0 g (ne_of_typ qT1 (vT g hg) (by decide))
    · rw [if_neg e, if_neg (Ne.symm e)]
      exact ownsRow_same (m.st.boxes k hk') fun g hg => ints g (own_typ (m.st.boxes k hk') hg) (fun x => m.st.dist k i g hk' hi e hg x)
  · have h1' : k1 < s.box.length := by simpa using h1
    have h2' : k2 < s.box.length := by simpa using h2
    have old : ∀ k g, k < s.box.length → (h.qv k).ownBlock = some g → g < w.heap.size := fun k g hk hg => (own_typ (m.st.boxes k hk) hg).lt
    have hg' : (if k1 = i then v else h.qv k1).ownBlock = some g := hg
    show (if k2 = i then v else h.qv k2).ownBlock ≠ some g
    by_cases e1 : k1 = i
    · rw [if_pos e1] at hg'
      rw [if_neg (by omega)]
      intro e3
      rcases hat g hg' with e4 | e4
      · exact m.st.dist i k2 g hi h2' (by omega) e4 e3
      · have := old k2 g h2' e3
        omega
    · rw [if_neg e1] at hg'
      by_cases e2 : k2 = i
      · rw [if_pos e2]
        intro e3
        rcases hat g e3 with e4 | e4
        · exact m.st.dist k1 i g h1' hi (by omega) hg' e4
        · have := old k1 g h1' hg'
          omega
      · rw [if_neg e2]
        exact m.st.dist k1 k2 g h1' h2' hne hg'
  · rcases hg with e | e | ⟨k, hk, hg'⟩
    · exact m.dSt g (.inl e)
    · exact m.dSt g (.inr (.inl e))
    · have hg2 : (if k = i then v else h.qv k).ownBlock = some g := hg'
      by_cases e1 : k = i
      · rw [if_pos e1] at hg2
        rcases hat g hg2 with e4 | e4
        · exact m.dSt g (ksb g e4)
        · have hwl := m.wT.lt
          refine ⟨show g ≠ h.gW by omega, fun e => ?_, fun e => ?_⟩
          · have := (own_typ m.tks e).lt
            omega
          · have := (own_typ m.wts e).lt
            omega
      · rw [if_neg e1] at hg2
        exact m.dSt g (.inr (.inr ⟨k, hk, hg2⟩))
end

/-- A kernel within a call: in blocks of Q. -/
structure KS (Q : Nat → Prop) (w : World) (kb : Nat) (s : RS) (ws : List Int) : Prop where
  mem : ∃ F h tk wt, KMem F w kb h s tk wt ws ∧ Ln.Aux s tk wt ∧ ∀ b, KB F kb h b → Q b
  lt : ∀ b, Q b → b < w.heap.size
/-- What a call makes of it. -/
def KGo (Q : Nat → Prop) (w : World) (kb : Nat) (s' : RS) (ws' : List Int) (w' : World) : Prop := ∃ Q', KS Q' w' kb s' ws' ∧ (∀ b, Q' b → Q b ∨ w.heap.size ≤ b) ∧ Turns Q w w'

section
variable {Q : Nat → Prop} {w w' : World} {kb : Nat} {s s' : RS} {ws ws' : List Int}
theorem KGo.refl (k : KS Q w kb s ws) : KGo Q w kb s ws w := ⟨Q, k, fun _ h => .inl h, Turns.refl _ _⟩
theorem KS.frame (k : KS Q w kb s ws) (hs : ∀ b, Q b → w'.heap[b]? = w.heap[b]?) (hz : w.heap.size ≤ w'.heap.size) : KS Q w' kb s ws := by
  obtain ⟨F, h, tk, wt, m, a, hq⟩ := k.mem
  exact ⟨⟨F, h, tk, wt, m.frame (fun b hb => hs b (hq b hb)), a, hq⟩, fun b hb => Nat.lt_of_lt_of_le (k.lt b hb) hz⟩
theorem KS.below (k : KS Q w kb s ws) (hb : Below w.heap.size w w') : KS Q w' kb s ws := k.frame (fun b h => hb.block b (k.lt b h)) hb.size
theorem KGo.then {Q' : Nat → Prop} {w1 w2 : World} (hq : ∀ b, Q' b → Q b ∨ w.heap.size ≤ b) (ht : Turns Q w w1) (h2 : KGo Q' w1 kb s' ws' w2) : KGo Q w kb s' ws' w2 := by
  obtain ⟨Q2, k2, q2, t2⟩ := h2
  refine ⟨Q2, k2, fun b hb => ?_, ht.trans t2 hq⟩
  rcases q2 b hb with h | h
  · exact hq b h
  · exact .inr (Nat.le_trans ht.size h)
theorem KGo.below {w2 : World} (h : KGo Q w kb s' ws' w') (hb : Below w'.heap.size w' w2) : KGo Q w kb s' ws' w2 := by
  obtain ⟨Q', k, q, t⟩ := h
  exact ⟨Q', k.below hb, q, t.trans (Q' := Q') (Turns.of_below hb) q⟩
theorem KGo.after {w1 : World} (hb : Below w.heap.size w w1) (h : KGo Q w1 kb s' ws' w') : KGo Q w kb s' ws' w' := h.then (fun _ hb => .inl hb) (Turns.of_below hb) |>.elim fun Q' hh => ⟨Q', hh.1, fun b hb' => (hh.2.1 b hb').elim .inl .inr, hh.2.2⟩
/-- A call that writes some of the kernel's blocks, and lays new lists. -/
theorem KGo.of {F : Nat → Prop} {h : KH} {tk wt : List Nat} {L : List Nat} {F' : Nat → Prop} {h' : KH} {tk' wt' : List Nat} (_k : KS Q w kb s ws) (_m : KMem F w kb h s tk wt ws) (hq : ∀ b, KB F kb h b → Q b) (m' : KMem F' w' kb h' s' tk' wt' ws') (a' : Ln.Aux s' tk' wt') (ho : Only L w w') (hL : ∀ b, b ∈ L → Q b) (hB : ∀ b, KB F' kb h' b → KB F kb h b ∨ w.heap.size ≤ b) : KGo Q w kb s' ws' w' :=
  ⟨KB F' kb h', ⟨⟨F', h', tk', wt', m', a', fun _ hb => hb⟩, KB.lt m'⟩, fun b hb => (hB b hb).elim (fun x => .inl (hq b x)) .inr, Turns.of_only ho hL⟩
end

end Go.Proofs.Ytbkfildnijjioab

/-
  Walks over package donate: the leaves.
-/
namespace Go.Proofs.Ytbkfildnijjioab
open Go.RowKit

set_option maxHeartbeats 400000 in
theorem kPlaceOf_any (w : World) (ao : Option Addr) (ca : Nat) (l : List Int) (x : Int) (hl : IntsIn w.heap.size w ao l) (hll : l.length ≤ 1000) :
    Calls Try.prog 80 #[.slice ao l.length ca, .int .i64 x] w fun e w' => e = .returned (.int .i64 (Ln.placeIn l x)) ∧ w' = w := by
  have HL := hid hl
  clear hl
  go_enter Try.func80, Try.ntmps80
  go_wp2
  go_loop [9] (fun i => ∃ k : Nat, k ≤ l.length ∧ i = .int .i64 k ∧ ∀ j (hj : j < l.length), j < k → l[j] ≠ x) (fun i => l.length - (intOf i).toNat)
  case atStart => exact ⟨0, Nat.zero_le _, rfl, fun _ _ h => absurd h (Nat.not_lt_zero _)⟩
  case round =>
    obtain ⟨k, hk, rfl, hall⟩ := hrel
    have HA := hid hall
    clear hall
    by_cases hlt : k < l.length
    · obtain ⟨b, o, ha, _, hc⟩ := HL.out k hlt
      subst ha
      have hkI : (k : Int) < (l.length : Int) := by omega
      cases hq : (l[k] == x)
      · have HST : Hid (∀ j (hj : j < l.length), j < k + 1 → l[j] ≠ x) := by
          intro j hj hjk
          rcases Nat.lt_or_ge j k with h1 | h1
          · exact HA.out j hj h1
          · have e : j = k := by omega
            subst e
            simpa using hq
        generalize l[k] = y at *
        go_wp2
        go_round
        case rel => exact ⟨k + 1, by omega, by go_num, HST.out⟩
        case measure => simp [intOf]; omega
      · have HE : Hid (Ln.placeIn l x = k) := Ln.placeIn_at k hlt (by simpa using hq) (fun j hj => HA.out j (by omega) hj)
        generalize l[k] = y at *
        go_wp2
        go_ret
        exact ⟨ret_int HE.out.symm, rfl⟩
    · have HE : Hid (Ln.placeIn l x = -1) := Ln.placeIn_none (fun j hj => HA.out j hj (by omega))
      go_wp2
      go_ret
      exact ⟨ret_int HE.out.symm, rfl⟩

section
variable {F : Nat → Prop} {w : World} {kb : Nat} {h : KH} {s : RS} {tk wt : List Nat} {ws : List Int}

set_option maxHeartbeats 400000 in
theorem kHasJob_any (m : KMem F w kb h s tk wt ws) (t : Nat) (ht : t < s.T.length) (_hfew : s.T.length ≤ 16) :
    Calls Try.prog 95 #[.pointer (some ⟨kb, 0, none⟩), .int .i64 t] w fun e w' => e = .returned (.bool (decide (s.T[t].ended < s.T[t].rel))) ∧ ∃ n, w' = w.drewN n := by
  have c1 := m.blk.cell 1
  simp [kCells] at c1
  have a7 := m.tcell ht 8 (by decide)
  have a8 := m.tcell ht 9 (by decide)
  simp [ktCells] at a7 a8
  have htI : (t : Int) < (s.T.length : Int) := by omega
  clear m
  generalize s.T[t] = x at *
  go_enter Try.func95, Try.ntmps95
  go_wp2_with fail
  go_quiet (fail)
  go_wp2
  go_ret
  exact ⟨rfl, _, rfl⟩

set_option maxHeartbeats 400000 in
theorem kWaits_any (m : KMem F w kb h s tk wt ws) (t : Nat) (ht : t < s.T.length) (_hfew : s.T.length ≤ 16) :
    Calls Try.prog 111 #[.pointer (some ⟨kb, 0, none⟩), .int .i64 t] w fun e w' => e = .returned (.bool (s.T[t].for_ != 0)) ∧ w' = w := by
  have c1 := m.blk.cell 1
  simp [kCells] at c1
  have a9 := m.tcell ht 10 (by decide)
  simp [ktCells] at a9
  have htI : (t : Int) < (s.T.length : Int) := by omega
  clear m
  generalize s.T[t] = x at *
  go_enter Try.func111, Try.ntmps111
  go_wp2
  go_ret
  exact ⟨rfl, rfl⟩

def kAw (x : RT) : Bool := decide (x.ended < x.rel) && (x.for_ == 0)

set_option maxHeartbeats 400000 in
theorem kAwake_any (m : KMem F w kb h s tk wt ws) (t : Nat) (ht : t < s.T.length) (hfew : s.T.length ≤ 16) :
    Calls Try.prog 97 #[.pointer (some ⟨kb, 0, none⟩), .int .i64 t] w fun e w' => e = .returned (.bool (kAw s.T[t])) ∧ ∃ n, w' = w.drewN n := by
  have HJ := hid (kHasJob_any m t ht hfew)
  have HW := hid (fun n => kWaits_any (m.drewN n) t ht hfew)
  have EA : Hid (kAw s.T[t] = (decide (s.T[t].ended < s.T[t].rel) && (s.T[t].for_ == 0))) := rfl
  clear m
  generalize s.T[t] = x at *
  generalize kAw x = aw at *
  go_enter Try.func97, Try.ntmps97
  go_wp2_with fail
  refine HJ.out.mono ?_
  rintro e w1 ⟨rfl, n, rfl⟩
  cases hj : decide (x.ended < x.rel)
  · go_wp2
    go_ret
    refine ⟨?_, n, rfl⟩
    rw [EA.out, hj]
    rfl
  · go_wp2_with fail
    refine (HW.out n).mono ?_
    rintro e w2 ⟨rfl, hw2⟩
    have hw3 := hw2.symm
    subst hw3
    cases hw : (x.for_ != 0)
    · have e0 : (x.for_ == 0) = true := by simpa using hw
      go_wp2
      go_ret
      refine ⟨?_, n, rfl⟩
      rw [EA.out, hj, e0]
      rfl
    · have e0 : (x.for_ == 0) = false := by simpa using hw
      go_wp2
      go_ret
      refine ⟨?_, n, rfl⟩
      rw [EA.out, hj, e0]
      rfl

set_option maxHeartbeats 1000000 in
theorem kReleaseTime_any (m : KMem F w kb h s tk wt ws) (t : Nat) (ht : t < s.T.length) (_hfew : s.T.length ≤ 16) (job : Int) (hj : 0 ≤ job ∧ job ≤ 2000000000) (hf : 0 ≤ s.set.start ∧ s.set.start ≤ 1000000000) (ho : 0 ≤ (s.set.threads.getD t P3.none0).offset ∧ (s.set.threads.getD t P3.none0).offset ≤ 1000) (hp : 0 ≤ (s.set.threads.getD t P3.none0).period ∧ (s.set.threads.getD t P3.none0).period ≤ 1000) :
    Calls Try.prog 94 #[.pointer (some ⟨kb, 0, none⟩), .int .i64 t, .int .i64 job] w fun e w' => e = .returned (.int .i64 (s.set.start + (s.set.threads.getD t P3.none0).offset + job * (s.set.threads.getD t P3.none0).period)) ∧ ∃ n, w' = w.drewN n := by
  have c1 := m.blk.cell 1
  simp [kCells] at c1
  have a2 := m.tcell ht 2 (by decide)
  have a3 := m.tcell ht 3 (by decide)
  simp only [ktCells] at a2 a3
  have htI : (t : Int) < (s.T.length : Int) := by omega
  clear m
  generalize (s.set.threads.getD t P3.none0).period = pe at *
  generalize (s.set.threads.getD t P3.none0).offset = of at *
  generalize s.set.start = st at *
  simp at a2 a3
  obtain ⟨hj0, hj1⟩ := hj
  obtain ⟨hf0, hf1⟩ := hf
  obtain ⟨ho0, ho1⟩ := ho
  obtain ⟨hp0, hp1⟩ := hp
  have m0 : 0 ≤ job * pe := Int.mul_nonneg hj0 hp0
  have m1 : job * pe ≤ 2000000000 * 1000 := Int.mul_le_mul hj1 hp1 hp0 (by decide)
  go_enter Try.func94, Try.ntmps94
  go_wp2_with fail
  go_quiet (fail)
  go_wp2
  go_ret
  exact ⟨rfl, _, rfl⟩

/-- The next job has its time now. -/
def kDue (s : RS) (t : Nat) (rel : Int) : Bool := if (s.set.threads.getD t P3.none0).period = 0 ∧ 0 < rel then false else s.set.start + (s.set.threads.getD t P3.none0).offset + rel * (s.set.threads.getD t P3.none0).period == s.now
/-- What the walks want to know of the set. -/
structure KSet (s : RS) (t : Nat) : Prop where
  st : 0 ≤ s.set.start ∧ s.set.start ≤ 1000000000
  of : 0 ≤ (s.set.threads.getD t P3.none0).offset ∧ (s.set.threads.getD t P3.none0).offset ≤ 1000
  pe : 0 ≤ (s.set.threads.getD t P3.none0).period ∧ (s.set.threads.getD t P3.none0).period ≤ 1000
  dl : 0 ≤ (s.set.threads.getD t P3.none0).deadline ∧ (s.set.threads.getD t P3.none0).deadline ≤ 1000

set_option maxHeartbeats 1000000 in
theorem kJobIsDue_any (m : KMem F w kb h s tk wt ws) (t : Nat) (ht : t < s.T.length) (hfew : s.T.length ≤ 16) (hj : 0 ≤ s.T[t].rel ∧ s.T[t].rel ≤ 2000000000) (ks : KSet s t) :
    Calls Try.prog 76 #[.pointer (some ⟨kb, 0, none⟩), .int .i64 t] w fun e w' => e = .returned (.bool (kDue s t s.T[t].rel)) ∧ ∃ n, w' = w.drewN n := by
  have c0 := m.blk.cell 0
  have c1 := m.blk.cell 1
  simp [kCells] at c0 c1
  have a7 := m.tcell ht 8 (by decide)
  have a3 := m.tcell ht 3 (by decide)
  simp only [ktCells] at a7 a3
  have htI : (t : Int) < (s.T.length : Int) := by omega
  have CT := hid (kReleaseTime_any (m.below (Below.refl _ _).drew) t ht hfew s.T[t].rel hj ks.st ks.of ks.pe)
  have ED : Hid (kDue s t s.T[t].rel = if (s.set.threads.getD t P3.none0).period = 0 ∧ 0 < s.T[t].rel then false else s.set.start + (s.set.threads.getD t P3.none0).offset + s.T[t].rel * (s.set.threads.getD t P3.none0).period == s.now) := rfl
  obtain ⟨hj0, hj1⟩ := hj
  clear m ks
  generalize kDue s t s.T[t].rel = res at *
  generalize hrt : s.set.start + (s.set.threads.getD t P3.none0).offset + s.T[t].rel * (s.set.threads.getD t P3.none0).period = rt at *
  clear hrt
  generalize (s.set.threads.getD t P3.none0).period = pe at *
  generalize s.T[t].rel = rl at *
  simp at a7 a3
  have fin : ∀ b, ¬ (pe = 0 ∧ 0 < rl) → (rt == s.now) = b → res = b := by
    intro b h1 h2
    rw [ED.out, if_neg h1, h2]
  have FIN := hid fin
  clear fin
  go_enter Try.func76, Try.ntmps76
  cases hp0 : (pe == 0)
  · have hno : ¬ (pe = 0 ∧ 0 < rl) := fun hh => by simp [hh.1] at hp0
    have HNO := hid hno
    clear hno
    go_wp2_with fail
    go_region_held3 (fun w' => w'.cell? ⟨kb, 0, none⟩ = some (.int .i64 s.now)) (simp [*])
      (first
        | (go_at_call 94; refine CT.out.mono ?_; rintro e w3 ⟨rfl, n, rfl⟩; have k0 : (w.drew.drewN n).cell? ⟨kb, 0, none⟩ = some (.int .i64 s.now) := c0))
    go_wp2
    go_ret
    exact ⟨by rw [FIN.out _ HNO.out rfl]; rfl, _, rfl⟩
  · by_cases hr0 : 0 < rl
    · have hyes : pe = 0 ∧ 0 < rl := ⟨by simpa using hp0, hr0⟩
      have HY := hid hyes
      clear hyes
      go_wp2
      go_ret
      refine ⟨?_, 0, rfl⟩
      rw [ED.out, if_pos HY.out]
      rfl
    · have hno : ¬ (pe = 0 ∧ 0 < rl) := fun hh => hr0 hh.2
      have HNO := hid hno
      clear hno
      go_wp2_with fail
      go_region_held3 (fun w' => w'.cell? ⟨kb, 0, none⟩ = some (.int .i64 s.now)) (simp [*])
        (first
          | (go_at_call 94; refine CT.out.mono ?_; rintro e w3 ⟨rfl, n, rfl⟩; have k0 : (w.drew.drewN n).cell? ⟨kb, 0, none⟩ = some (.int .i64 s.now) := c0))
      go_wp2
      go_ret
      exact ⟨by rw [FIN.out _ HNO.out rfl]; rfl, _, rfl⟩

set_option maxHeartbeats 400000 in
theorem kOwnerAhead_any (m : KMem F w kb h s tk wt ws) (t : Nat) (ht : t < s.T.length) (_hfew : s.T.length ≤ 16) (ok : R.LinksOk s) (_hm8 : s.owner.length ≤ 8) :
    Calls Try.prog 127 #[.pointer (some ⟨kb, 0, none⟩), .int .i64 t] w fun e w' => e = .returned (.int .i64 (R.ahd s t)) ∧ ∃ n, w' = w.drewN n := by
  have c1 := m.blk.cell 1
  have c2 := m.blk.cell 2
  simp [kCells] at c1 c2
  have a9 := m.tcell ht 10 (by decide)
  have a10 := m.tcell ht 11 (by decide)
  simp [ktCells] at a9 a10
  have htI : (t : Int) < (s.T.length : Int) := by omega
  have M := hid m
  have EA : Hid (R.ahd s t = if s.T[t].for_ = 1 then s.owner.getD s.T[t].of_.toNat 0 else -1) := by
    unfold R.ahd
    rw [th_ext ht]
    exact hid rfl
  have OF1 := hid (ok.of1 t ht)
  rw [th_ext ht] at OF1
  clear m ok
  generalize s.T[t] = x at *
  generalize R.ahd s t = res at *
  go_enter Try.func127, Try.ntmps127
  cases hf : (x.for_ != 1)
  · have h1 : x.for_ = 1 := by simpa using hf
    obtain ⟨o0, o1⟩ := OF1.out h1
    obtain ⟨k, hk⟩ := Int.eq_ofNat_of_zero_le o0
    have hkl : k < s.owner.length := by omega
    have b2 := M.out.mcell hkl 2 (by decide)
    simp [kmCells] at b2
    have HE : Hid (res = s.owner[k]) := by
      rw [EA.out, if_pos h1, hk]
      exact hid (by simp [List.getD, hkl])
    have hkI : (k : Int) < (s.owner.length : Int) := by omega
    rw [hk] at a10
    clear h1 EA OF1 o0 o1
    generalize s.owner[k] = ow at *
    go_wp2_with fail
    go_quiet (fail)
    go_wp2
    go_ret
    exact ⟨ret_int HE.out.symm, _, rfl⟩
  · have h1 : ¬ x.for_ = 1 := by simpa using hf
    have HE : Hid (res = -1) := by
      rw [EA.out, if_neg h1]
      exact hid rfl
    clear h1 EA OF1
    go_wp2
    go_ret
    exact ⟨ret_int HE.out.symm, 0, rfl⟩

set_option maxHeartbeats 400000 in
theorem kBorrower_any (m : KMem F w kb h s tk wt ws) (t : Nat) (ht : t < s.T.length) (hfew : s.T.length ≤ 16) (ok : R.LinksOk s) (hm8 : s.owner.length ≤ 8) :
    Calls Try.prog 122 #[.pointer (some ⟨kb, 0, none⟩), .int .i64 t] w fun e w' => e = .returned (.int .i64 (R.lendee s t)) ∧ ∃ n, w' = w.drewN n := by
  have CA := hid (kOwnerAhead_any m t ht hfew ok hm8)
  have C1 := hid (fun n => (m.drewN n).blk.cell 1)
  have C2 := hid (fun n => (m.drewN n).blk.cell 2)
  have A10 := hid (fun n => (m.drewN n).tcell ht 11 (by decide))
  have B0 := hid (fun n k (hk : k < s.owner.length) => (m.drewN n).mcell hk 0 (by decide))
  have htI : (t : Int) < (s.T.length : Int) := by omega
  have EL : Hid (R.lendee s t = if R.ahd s t < 0 ∨ (s.set.mutexes.getD s.T[t].of_.toNat R.pair0).x ≠ 0 then -1 else R.ahd s t) := by
    unfold R.lendee
    rw [th_ext ht]
    exact hid rfl
  have EA : Hid (R.ahd s t = if s.T[t].for_ = 1 then s.owner.getD s.T[t].of_.toNat 0 else -1) := by
    unfold R.ahd
    rw [th_ext ht]
    exact hid rfl
  have OF1 := hid (ok.of1 t ht)
  rw [th_ext ht] at OF1
  have hbd := Ln.ahd_bd ok t ht
  clear m ok
  generalize s.T[t] = x at *
  generalize R.lendee s t = res at *
  generalize R.ahd s t = ah at *
  go_enter Try.func122, Try.ntmps122
  go_wp2_with fail
  refine CA.out.mono ?_
  rintro e w1 ⟨rfl, n, rfl⟩
  have c1 := C1.out n
  have c2 := C2.out n
  have a10 := A10.out n
  simp [kCells] at c1 c2
  simp [ktCells] at a10
  clear CA C1 C2 A10
  cases hn : (ah == -1)
  · have hn' : ¬ ah = -1 := by simpa using hn
    have h1 : x.for_ = 1 := by
      apply Classical.byContradiction
      intro hc
      apply hn'
      rw [EA.out, if_neg hc]
    obtain ⟨o0, o1⟩ := OF1.out h1
    obtain ⟨k, hk⟩ := Int.eq_ofNat_of_zero_le o0
    have hkl : k < s.owner.length := by omega
    have b0 := B0.out n k hkl
    simp only [kmCells] at b0
    have hkI : (k : Int) < (s.owner.length : Int) := by omega
    have hkn : x.of_.toNat = k := by omega
    rw [hk] at a10
    rw [hkn] at EL
    have hah : ¬ ah < 0 := by omega
    have HAH := hid hah
    clear h1 EA OF1 o0 o1 hn' hah hkn B0
    generalize (s.set.mutexes.getD k R.pair0).x = kd at *
    simp at b0
    cases hkd : (kd != 0)
    · have e : kd = 0 := by simpa using hkd
      have HE : Hid (res = ah) := by
        rw [EL.out, if_neg]
        · exact hid rfl
        · rintro (h' | h')
          · exact HAH.out h'
          · exact h' e
      clear EL e
      go_wp2_with fail
      go_quiet (fail)
      go_wp2
      go_ret
      exact ⟨ret_int HE.out.symm, _, World.drewN_drewN _ _ _⟩
    · have e : kd ≠ 0 := by simpa using hkd
      have HE : Hid (res = -1) := by
        rw [EL.out, if_pos (.inr e)]
        exact hid rfl
      clear EL e
      go_wp2_with fail
      go_quiet (fail)
      go_wp2
      go_ret
      exact ⟨ret_int HE.out.symm, _, World.drewN_drewN _ _ _⟩
  · have hn' : ah = -1 := by simpa using hn
    have HE : Hid (res = -1) := by
      rw [EL.out, if_pos (.inl (by omega))]
      exact hid rfl
    clear EL EA OF1 hn' B0
    go_wp2_with fail
    go_quiet (fail)
    go_wp2
    go_ret
    exact ⟨ret_int HE.out.symm, _, World.drewN_drewN _ _ _⟩

set_option maxHeartbeats 400000 in
theorem kTooHigh_any (m : KMem F w kb h s tk wt ws) (t k : Nat) (ht : t < s.T.length) (_hfew : s.T.length ≤ 16) (hk : k < s.owner.length) (_hm8 : s.owner.length ≤ 8) :
    Calls Try.prog 123 #[.pointer (some ⟨kb, 0, none⟩), .int .i64 t, .int .i64 k] w fun e w' => e = .returned (.bool (decide ((s.set.mutexes.getD k R.pair0).x = 1 ∧ (s.set.mutexes.getD k R.pair0).y < s.T[t].base))) ∧ ∃ n, w' = w.drewN n := by
  have c1 := m.blk.cell 1
  have c2 := m.blk.cell 2
  simp [kCells] at c1 c2
  have a1 := m.tcell ht 1 (by decide)
  simp [ktCells] at a1
  have b0 := m.mcell hk 0 (by decide)
  have b1 := m.mcell hk 1 (by decide)
  simp only [kmCells] at b0 b1
  have htI : (t : Int) < (s.T.length : Int) := by omega
  have hkI : (k : Int) < (s.owner.length : Int) := by omega
  clear m
  generalize s.T[t].base = ba at *
  generalize (s.set.mutexes.getD k R.pair0).x = kd at *
  generalize (s.set.mutexes.getD k R.pair0).y = tp at *
  simp at b0 b1
  go_enter Try.func123, Try.ntmps123
  cases hkd : (kd == 1)
  · have e : ¬ kd = 1 := by simpa using hkd
    have HE : Hid (decide (kd = 1 ∧ tp < ba) = false) := hid (by simp [e])
    clear e
    generalize decide (kd = 1 ∧ tp < ba) = res at *
    go_wp2_with fail
    go_quiet (fail)
    go_wp2
    go_ret
    refine ⟨?_, _, rfl⟩
    rw [HE.out]
    rfl
  · have e : kd = 1 := by simpa using hkd
    have HE : Hid (decide (kd = 1 ∧ tp < ba) = decide (tp < ba)) := hid (by simp [e])
    clear e
    generalize decide (kd = 1 ∧ tp < ba) = res at *
    go_wp2_with fail
    go_quiet (fail)
    go_wp2
    go_ret
    refine ⟨?_, _, rfl⟩
    rw [HE.out]
    rfl
end

end Go.Proofs.Ytbkfildnijjioab
