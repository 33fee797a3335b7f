import Derived.Test.YtbkfildnijjioabProg
import Derived.WalkKit
import Derived.WalkSpells
import Derived.WalkLawsBesides
import Derived.Laws.AppendOwnNone
/-
  The plain data of a set, and P3 in plain words over it. Nothing of the program is named here.
-/
namespace Go.Proofs.Ytbkfildnijjioab

structure InstrD where
  op : Int
  a : Int
  b : Int

structure ThreadD where
  base : Int
  offset : Int
  period : Int
  deadline : Int
  code : List InstrD

structure PairD where
  x : Int
  y : Int

structure SetD where
  workers : Int
  start : Int
  threads : List ThreadD
  mutexes : List PairD
  sems : List PairD
  queues : List Int

namespace P3

def sizesB (S : SetD) : Bool :=
  decide (1 ≤ S.workers ∧ S.workers ≤ 8 ∧ 0 ≤ S.start ∧ S.start ≤ 1000000000 ∧ 1 ≤ (S.threads.length : Int) ∧ (S.threads.length : Int) ≤ 16 ∧
    (S.mutexes.length : Int) ≤ 8 ∧ (S.sems.length : Int) ≤ 4 ∧ (S.queues.length : Int) ≤ 4)

def mutexB (k t : Int) : Bool := decide ((k = 0 ∧ t = 0) ∨ (k = 1 ∧ 0 ≤ t ∧ t ≤ 255))

def semB (f m : Int) : Bool := decide (1 ≤ m ∧ m ≤ 100 ∧ 0 ≤ f ∧ f ≤ m)

def queueB (q : Int) : Bool := decide (1 ≤ q ∧ q ≤ 8)

def latest (p : Int) : Int := if p = 0 then 1000 else p

def threadB (b o p d : Int) (n : Int) : Bool :=
  decide (0 ≤ b ∧ b ≤ 255 ∧ 0 ≤ o ∧ o ≤ 1000 ∧ 0 ≤ p ∧ p ≤ 1000 ∧ 0 ≤ d ∧ d ≤ latest p ∧ n ≤ 32)

/-- Of an operation: is it one; the least and the greatest A, the least and the greatest B. nt, nm, ns, nq: how many threads, mutexes, semaphores, queues there are; len: the code's length. -/
def known (op : Int) : Bool := decide (0 ≤ op ∧ op ≤ 11)
def lowA (op : Int) : Int := if op = 5 then 1 else 0
def highA (nt nm ns nq : Int) (op : Int) : Int :=
  if op = 3 then 7 else if op = 4 then nt - 1 else if op = 5 then 1000 else if op = 6 ∨ op = 7 then nm - 1 else if op = 8 ∨ op = 9 then ns - 1 else if op = 10 ∨ op = 11 then nq - 1 else 0
def lowB (op : Int) : Int := if op = 6 ∨ op = 8 ∨ op = 11 then -1 else 0
def highB (len : Int) (op : Int) : Int :=
  if op = 3 then len else if op = 4 then 255 else if op = 6 ∨ op = 8 ∨ op = 11 then 1000 else if op = 10 then 255 else 0

def fitsB (kn : Bool) (la ha lb hb a b : Int) : Bool := kn && decide (la ≤ a ∧ a ≤ ha ∧ lb ≤ b ∧ b ≤ hb)
def instrB (nt nm ns nq len op a b : Int) : Bool := fitsB (known op) (lowA op) (highA nt nm ns nq op) (lowB op) (highB len op) a b

/-- The place of the first entry that may not be; the length where all may be. -/
def bad {α : Type} (p : α → Bool) (l : List α) : Nat := l.findIdx (fun x => !p x)

/-- That place, or -1. -/
def badOr {α : Type} (p : α → Bool) (l : List α) : Int := if bad p l < l.length then (bad p l : Int) else -1

def mutexP (m : PairD) : Bool := mutexB m.x m.y
def semP (m : PairD) : Bool := semB m.x m.y
def threadP (t : ThreadD) : Bool := threadB t.base t.offset t.period t.deadline t.code.length
def instrP (S : SetD) (len : Nat) (i : InstrD) : Bool := instrB S.threads.length S.mutexes.length S.sems.length S.queues.length len i.op i.a i.b
/-- Has a thread no bad instruction? -/
def codeP (S : SetD) (t : ThreadD) : Bool := decide (bad (instrP S t.code.length) t.code = t.code.length)
def none0 : ThreadD := ⟨0, 0, 0, 0, []⟩
/-- The place of the first bad instruction of the first thread that has such; -1: there is none. -/
def badCode (S : SetD) : Int :=
  if bad (codeP S) S.threads < S.threads.length then
    100 * (bad (codeP S) S.threads : Int) + (bad (instrP S (S.threads.getD (bad (codeP S) S.threads) none0).code.length) (S.threads.getD (bad (codeP S) S.threads) none0).code : Int)
  else -1

/-- P3. -/
def err (S : SetD) : Int :=
  if sizesB S = false then 1 else if badOr mutexP S.mutexes ≠ -1 then 2 else if badOr semP S.sems ≠ -1 then 3 else if badOr queueB S.queues ≠ -1 then 4
  else if badOr threadP S.threads ≠ -1 then 5 else if badCode S ≠ -1 then 6 else 0
def place (S : SetD) : Int :=
  if sizesB S = false then 0 else if badOr mutexP S.mutexes ≠ -1 then badOr mutexP S.mutexes else if badOr semP S.sems ≠ -1 then badOr semP S.sems else if badOr queueB S.queues ≠ -1 then badOr queueB S.queues
  else if badOr threadP S.threads ≠ -1 then badOr threadP S.threads else if badCode S ≠ -1 then badCode S else 0

theorem bad_le {α : Type} (p : α → Bool) (l : List α) : bad p l ≤ l.length := List.findIdx_le_length

/-- All entries ahead of k may be, the k-th may not: k is the place. -/
theorem bad_eq {α : Type} (p : α → Bool) (l : List α) (k : Nat) (hk : k < l.length) (hp : p l[k] = false) (hb : ∀ j (h : j < k), p (l[j]'(by omega)) = true) : bad p l = k := by
  unfold bad
  rw [List.findIdx_eq hk]
  exact ⟨by simp [hp], fun j hj => by simp [hb j hj]⟩

theorem bad_all {α : Type} (p : α → Bool) (l : List α) (hb : ∀ j (h : j < l.length), p l[j] = true) : bad p l = l.length := by
  unfold bad
  rw [List.findIdx_eq_length]
  intro x hx
  obtain ⟨j, hj, rfl⟩ := List.mem_iff_getElem.1 hx
  simp [hb j hj]

theorem badOr_at {α : Type} (p : α → Bool) (l : List α) (k : Nat) (hk : k < l.length) (hp : p l[k] = false) (hb : ∀ j (h : j < k), p (l[j]'(by omega)) = true) : badOr p l = k := by
  unfold badOr
  rw [bad_eq p l k hk hp hb, if_pos hk]

theorem badOr_none {α : Type} (p : α → Bool) (l : List α) (hb : ∀ j (h : j < l.length), p l[j] = true) : badOr p l = -1 := by
  unfold badOr
  rw [bad_all p l hb, if_neg (by omega)]

theorem badOr_bd {α : Type} (p : α → Bool) (l : List α) : -1 ≤ badOr p l ∧ badOr p l < l.length + 1 := by
  unfold badOr
  split <;> omega

theorem below_step {α : Type} {p : α → Bool} {l : List α} {k : Nat} (hk : k < l.length) (hb : ∀ j (h : j < k), p (l[j]'(by omega)) = true) (hp : p l[k] = true) :
    ∀ j (h : j < k + 1), p (l[j]'(by omega)) = true := by
  intro j h
  rcases Nat.lt_succ_iff_lt_or_eq.1 h with h1 | rfl
  · exact hb j h1
  · exact hp

end P3
theorem sizes_of {S : SetD} (h : P3.sizesB S = true) : (S.threads.length : Int) ≤ 16 ∧ (S.mutexes.length : Int) ≤ 8 ∧ (S.sems.length : Int) ≤ 4 ∧ (S.queues.length : Int) ≤ 4 := by
  unfold P3.sizesB at h
  rw [decide_eq_true_iff] at h
  omega

theorem codes_of {l : List ThreadD} (h : P3.badOr P3.threadP l = -1) : ∀ j (_ : j < l.length), (l[j].code.length : Int) ≤ 32 := by
  intro j hj
  have hb : P3.threadP l[j] = true := by
    unfold P3.badOr at h
    split at h
    · omega
    · rename_i hn
      have hle := P3.bad_le P3.threadP l
      have := List.not_of_lt_findIdx (p := fun x => !P3.threadP x) (xs := l) (i := j) (show j < P3.bad P3.threadP l by omega)
      simpa using this
  unfold P3.threadP P3.threadB at hb
  rw [decide_eq_true_iff] at hb
  omega

end Go.Proofs.Ytbkfildnijjioab

/-
  Walks: the leaves of the program's own check (package check): what each call does, by the plain words of Plain.
-/
namespace Go.Proofs.Ytbkfildnijjioab
open Go.RowKit

theorem ret_bool {a b : Bool} (h : a = b) : Ending.returned (.bool a) = .returned (.bool b) := by rw [h]
theorem ret_int {a b : Int} (h : a = b) : Ending.returned (.int .i64 a) = .returned (.int .i64 b) := by rw [h]
theorem bcell {W w1 : World} (hb : Below W.heap.size W w1) : (∀ b o, b < W.heap.size → w1.cell? ⟨b, o, none⟩ = W.cell? ⟨b, o, none⟩) ∧ (∀ b o, b < W.heap.size → w1.frozen? ⟨b, o, none⟩ = W.frozen? ⟨b, o, none⟩) :=
  ⟨fun b o h => hb.cell (p := ⟨b, o, none⟩) h, fun b o h => hb.frozen (p := ⟨b, o, none⟩) h⟩

set_option maxHeartbeats 400000 in
theorem mutexFits_any (k t : Int) (w : World) :
    Calls Try.prog 90 #[.agg #[.int .i64 k, .int .i64 t]] w fun e w' => e = .returned (.bool (P3.mutexB k t)) ∧ Below w.heap.size w w' := by
  go_enter Try.func90, Try.ntmps90
  go_wp2
  all_goals
    go_ret
    refine ⟨ret_bool ?_, (Below.refl _ _).alloc (Nat.le_refl _) _⟩
    unfold P3.mutexB
    rw [Bool.eq_iff_iff]
    simp_all
    try omega

set_option maxHeartbeats 400000 in
theorem sizesFit_any (tv mv sv qv : Option Addr) (tc mc sc qc : Nat) (S : SetD) (w : World) :
    Calls Try.prog 70 #[.agg #[.int .i64 S.workers, .int .i64 S.start, .slice tv S.threads.length tc, .slice mv S.mutexes.length mc, .slice sv S.sems.length sc, .slice qv S.queues.length qc]] w fun e w' => e = .returned (.bool (P3.sizesB S)) ∧ Below w.heap.size w w' := by
  go_enter Try.func70, Try.ntmps70
  go_wp2
  all_goals
    go_ret
    refine ⟨ret_bool ?_, (Below.refl _ _).alloc (Nat.le_refl _) _⟩
    unfold P3.sizesB
    rw [Bool.eq_iff_iff]
    simp
    try omega

set_option maxHeartbeats 400000 in
theorem threadFits_any (b o p d : Int) (cv : Option Addr) (cn cc : Nat) (w : World) :
    Calls Try.prog 91 #[.agg #[.int .i64 b, .int .i64 o, .int .i64 p, .int .i64 d, .slice cv cn cc]] w fun e w' => e = .returned (.bool (P3.threadB b o p d cn)) ∧ Below w.heap.size w w' := by
  go_enter Try.func91, Try.ntmps91
  go_wp2
  all_goals
    go_ret
    refine ⟨ret_bool ?_, (Below.refl _ _).alloc (Nat.le_refl _) _⟩
    unfold P3.threadB P3.latest
    rw [Bool.eq_iff_iff]
    simp_all
    try omega

set_option maxHeartbeats 400000 in
theorem instrFits_any (op a b : Int) (kn : Bool) (la ha lb hb : Int) (w : World) :
    Calls Try.prog 93 #[.agg #[.int .i64 op, .int .i64 a, .int .i64 b], .agg #[.bool kn, .int .i64 la, .int .i64 ha, .int .i64 lb, .int .i64 hb]] w fun e w' => e = .returned (.bool (P3.fitsB kn la ha lb hb a b)) ∧ Below w.heap.size w w' := by
  go_enter Try.func93, Try.ntmps93
  go_wp2
  all_goals
    go_ret
    refine ⟨ret_bool ?_, ((Below.refl _ _).alloc (Nat.le_refl _) _).alloc (by simp) _⟩
    unfold P3.fitsB
    rw [Bool.eq_iff_iff]
    simp_all
    try omega

end Go.Proofs.Ytbkfildnijjioab

/-
  Walks: the bounds of an operation (package check).
-/
namespace Go.Proofs.Ytbkfildnijjioab
open Go.RowKit

set_option maxHeartbeats 400000 in
theorem boundsOf_any (wk st : Int) (tv mv sv qv : Option Addr) (tn tc mn mc sn sc qn qc : Nat) (len op : Int) (w : World) (h1 : (tn : Int) ≤ 16) (h2 : (mn : Int) ≤ 8) (h3 : (sn : Int) ≤ 4) (h4 : (qn : Int) ≤ 4) :
    Calls Try.prog 92 #[.agg #[.int .i64 wk, .int .i64 st, .slice tv tn tc, .slice mv mn mc, .slice sv sn sc, .slice qv qn qc], .int .i64 len, .int .i64 op] w fun e w' =>
      e = .returned (.agg #[.bool (P3.known op), .int .i64 (P3.lowA op), .int .i64 (P3.highA tn mn sn qn op), .int .i64 (P3.lowB op), .int .i64 (P3.highB len op)]) ∧ Below w.heap.size w w' := by
  go_enter Try.func92, Try.ntmps92
  go_wp2
  all_goals
    refine bodyPost_ret (v := .agg #[.bool (P3.known op), .int .i64 (P3.lowA op), .int .i64 (P3.highA tn mn sn qn op), .int .i64 (P3.lowB op), .int .i64 (P3.highB len op)]) ?_ rfl ⟨rfl, ((Below.refl _ _).alloc (Nat.le_refl _) _).alloc (by simp) _⟩
    first | (have e : op = 0 := beq_iff_eq.1 ‹_›; subst e) | (have e : op = 1 := beq_iff_eq.1 ‹_›; subst e) | (have e : op = 2 := beq_iff_eq.1 ‹_›; subst e) | (have e : op = 3 := beq_iff_eq.1 ‹_›; subst e) | (have e : op = 4 := beq_iff_eq.1 ‹_›; subst e) | (have e : op = 5 := beq_iff_eq.1 ‹_›; subst e) | (have e : op = 6 := beq_iff_eq.1 ‹_›; subst e) | (have e : op = 7 := beq_iff_eq.1 ‹_›; subst e) | (have e : op = 8 := beq_iff_eq.1 ‹_›; subst e) | (have e : op = 9 := beq_iff_eq.1 ‹_›; subst e) | (have e : op = 10 := beq_iff_eq.1 ‹_›; subst e) | (have e : op = 11 := beq_iff_eq.1 ‹_›; subst e) | skip
    all_goals simp_all [results, Try.results92, go_sem, P3.known, P3.lowA, P3.highA, P3.lowB, P3.highB]
    all_goals try omega

end Go.Proofs.Ytbkfildnijjioab

/-
  How the plain data of a set lie in memory; that they lie on where nothing below B turns.
-/
namespace Go.Proofs.Ytbkfildnijjioab
open Go.RowKit

/-- Two numbers an entry, from that address on, in a block below B. -/
def PairsIn (B : Nat) (w : World) (ao : Option Addr) (l : List PairD) : Prop :=
  ∀ i (h : i < l.length), ∃ b o, ao = some ⟨b, o, none⟩ ∧ b < B ∧ w.cell? ⟨b, o + i * 2, none⟩ = some (.int .i64 l[i].x) ∧ w.cell? ⟨b, o + i * 2 + 1, none⟩ = some (.int .i64 l[i].y)

theorem PairsIn.stays {B : Nat} {w w' : World} {ao : Option Addr} {l : List PairD} (h : PairsIn B w ao l) (hb : Below B w w') : PairsIn B w' ao l := by
  intro i hi
  obtain ⟨b, o, ha, hlt, hx, hy⟩ := h i hi
  exact ⟨b, o, ha, hlt, (hb.cell (p := ⟨b, _, none⟩) hlt).trans hx, (hb.cell (p := ⟨b, _, none⟩) hlt).trans hy⟩

/-- One number an entry. -/
def IntsIn (B : Nat) (w : World) (ao : Option Addr) (l : List Int) : Prop :=
  ∀ i (h : i < l.length), ∃ b o, ao = some ⟨b, o, none⟩ ∧ b < B ∧ w.cell? ⟨b, o + i, none⟩ = some (.int .i64 l[i])

theorem IntsIn.stays {B : Nat} {w w' : World} {ao : Option Addr} {l : List Int} (h : IntsIn B w ao l) (hb : Below B w w') : IntsIn B w' ao l := by
  intro i hi
  obtain ⟨b, o, ha, hlt, hx⟩ := h i hi
  exact ⟨b, o, ha, hlt, (hb.cell (p := ⟨b, _, none⟩) hlt).trans hx⟩

/-- Three numbers an instruction. -/
def InstrsIn (B : Nat) (w : World) (ao : Option Addr) (l : List InstrD) : Prop :=
  ∀ i (h : i < l.length), ∃ b o, ao = some ⟨b, o, none⟩ ∧ b < B ∧ w.cell? ⟨b, o + i * 3, none⟩ = some (.int .i64 l[i].op) ∧ w.cell? ⟨b, o + i * 3 + 1, none⟩ = some (.int .i64 l[i].a) ∧
    w.cell? ⟨b, o + i * 3 + 2, none⟩ = some (.int .i64 l[i].b)

theorem InstrsIn.stays {B : Nat} {w w' : World} {ao : Option Addr} {l : List InstrD} (h : InstrsIn B w ao l) (hb : Below B w w') : InstrsIn B w' ao l := by
  intro i hi
  obtain ⟨b, o, ha, hlt, hx, hy, hz⟩ := h i hi
  exact ⟨b, o, ha, hlt, (hb.cell (p := ⟨b, _, none⟩) hlt).trans hx, (hb.cell (p := ⟨b, _, none⟩) hlt).trans hy, (hb.cell (p := ⟨b, _, none⟩) hlt).trans hz⟩

/-- Four numbers and a code a thread; its code lies below B too. -/
def ThreadsIn (B : Nat) (w : World) (ao : Option Addr) (l : List ThreadD) : Prop :=
  ∀ i (h : i < l.length), ∃ b o cv cc, ao = some ⟨b, o, none⟩ ∧ b < B ∧ w.cell? ⟨b, o + i * 5, none⟩ = some (.int .i64 l[i].base) ∧ w.cell? ⟨b, o + i * 5 + 1, none⟩ = some (.int .i64 l[i].offset) ∧
    w.cell? ⟨b, o + i * 5 + 2, none⟩ = some (.int .i64 l[i].period) ∧ w.cell? ⟨b, o + i * 5 + 3, none⟩ = some (.int .i64 l[i].deadline) ∧
    w.cell? ⟨b, o + i * 5 + 4, none⟩ = some (.slice cv l[i].code.length cc) ∧ InstrsIn B w cv l[i].code ∧ (cv = none → cc = 0)

theorem ThreadsIn.stays {B : Nat} {w w' : World} {ao : Option Addr} {l : List ThreadD} (h : ThreadsIn B w ao l) (hb : Below B w w') : ThreadsIn B w' ao l := by
  intro i hi
  obtain ⟨b, o, cv, cc, ha, hlt, h0, h1, h2, h3, h4, hc, hn⟩ := h i hi
  exact ⟨b, o, cv, cc, ha, hlt, (hb.cell (p := ⟨b, _, none⟩) hlt).trans h0, (hb.cell (p := ⟨b, _, none⟩) hlt).trans h1, (hb.cell (p := ⟨b, _, none⟩) hlt).trans h2,
    (hb.cell (p := ⟨b, _, none⟩) hlt).trans h3, (hb.cell (p := ⟨b, _, none⟩) hlt).trans h4, hc.stays hb, hn⟩

/-- A set's four lists. -/
structure SetIn (B : Nat) (w : World) (tv mv sv qv : Option Addr) (S : SetD) : Prop where
  threads : ThreadsIn B w tv S.threads
  mutexes : PairsIn B w mv S.mutexes
  sems : PairsIn B w sv S.sems
  queues : IntsIn B w qv S.queues

theorem SetIn.stays {B : Nat} {w w' : World} {tv mv sv qv : Option Addr} {S : SetD} (h : SetIn B w tv mv sv qv S) (hb : Below B w w') : SetIn B w' tv mv sv qv S :=
  ⟨h.threads.stays hb, h.mutexes.stays hb, h.sems.stays hb, h.queues.stays hb⟩

theorem PairsIn.mono {B B' : Nat} {w : World} {ao : Option Addr} {l : List PairD} (h : PairsIn B w ao l) (hB : B ≤ B') : PairsIn B' w ao l := by
  intro i hi
  obtain ⟨b, o, ha, hlt, r⟩ := h i hi
  exact ⟨b, o, ha, by omega, r⟩
theorem IntsIn.mono {B B' : Nat} {w : World} {ao : Option Addr} {l : List Int} (h : IntsIn B w ao l) (hB : B ≤ B') : IntsIn B' w ao l := by
  intro i hi
  obtain ⟨b, o, ha, hlt, r⟩ := h i hi
  exact ⟨b, o, ha, by omega, r⟩
theorem InstrsIn.mono {B B' : Nat} {w : World} {ao : Option Addr} {l : List InstrD} (h : InstrsIn B w ao l) (hB : B ≤ B') : InstrsIn B' w ao l := by
  intro i hi
  obtain ⟨b, o, ha, hlt, r⟩ := h i hi
  exact ⟨b, o, ha, by omega, r⟩
theorem ThreadsIn.mono {B B' : Nat} {w : World} {ao : Option Addr} {l : List ThreadD} (h : ThreadsIn B w ao l) (hB : B ≤ B') : ThreadsIn B' w ao l := by
  intro i hi
  obtain ⟨b, o, cv, cc, ha, hlt, h0, h1, h2, h3, h4, hc, hn⟩ := h i hi
  exact ⟨b, o, cv, cc, ha, by omega, h0, h1, h2, h3, h4, hc.mono hB, hn⟩
theorem SetIn.mono {B B' : Nat} {w : World} {tv mv sv qv : Option Addr} {S : SetD} (h : SetIn B w tv mv sv qv S) (hB : B ≤ B') : SetIn B' w tv mv sv qv S :=
  ⟨h.threads.mono hB, h.mutexes.mono hB, h.sems.mono hB, h.queues.mono hB⟩
/-- A set that lies in a world lies in every later one that has turned nothing of it. -/
theorem SetIn.later {w w' : World} {tv mv sv qv : Option Addr} {S : SetD} (h : SetIn w.heap.size w tv mv sv qv S) (hb : Below w.heap.size w w') : SetIn w'.heap.size w' tv mv sv qv S :=
  (h.stays hb).mono hb.size

/-- Behind a callee that makes memory of its own. -/
theorem via {B : Nat} {w w0 w1 : World} (hb : Below B w w0) (hB : B ≤ w0.heap.size) (h1 : Below w0.heap.size w0 w1) : Below B w w1 := hb.trans (h1.mono hB)

end Go.Proofs.Ytbkfildnijjioab

/-
  Laws for what donateref.Copy does: append onto a list of the call's own, from whatever source; memory that is kept but for one block.
-/
namespace Go.Proofs.Ytbkfildnijjioab
open Go.RowKit

theorem Try.infoMutex : (Try.prog.info? 77).map (fun i => (i.zero, i.size, i.bytes)) = some (some (.agg #[.int .i64 0, .int .i64 0]), 2, 16) := by kernel_rfl
theorem Try.infoSem : (Try.prog.info? 56).map (fun i => (i.zero, i.size, i.bytes)) = some (some (.agg #[.int .i64 0, .int .i64 0]), 2, 16) := by kernel_rfl
theorem Try.infoInt : (Try.prog.info? 3).map (fun i => (i.zero, i.size, i.bytes)) = some (some (.int .i64 0), 1, 8) := by kernel_rfl
theorem Try.infoInstr : (Try.prog.info? 46).map (fun i => (i.zero, i.size, i.bytes)) = some (some (.agg #[.int .i64 0, .int .i64 0, .int .i64 0]), 3, 24) := by kernel_rfl
theorem Try.infoThread : (Try.prog.info? 75).map (fun i => (i.zero, i.size, i.bytes)) = some (some (.agg #[.int .i64 0, .int .i64 0, .int .i64 0, .int .i64 0, .slice none 0 0]), 5, 56) := by kernel_rfl

theorem hid {p : Prop} (h : p) : Hid p := h

/-- 'append(out, src...)', out the call's own, src nil or not. -/
theorem wpList_append_src {P : Program} {w : World} {ops : Array Oper} {rest : List Oper} {o : Oper} {a : Act} {Q : Exit → Act → World → Prop} (hgd : o.guard = none) (s x : Operand) (t : TypeId)
    (ho : o.op = .call { callee := .builtin .append, args := #[s, x], argTypes := #[t, t] })
    (base : Nat) (e : TypeId) (i : TypeInfo) (z : Value) (size bytes : Nat) (ht : P.underlying t = some (.slice e)) (hi : P.info? e = some i) (hz : i.zero = some z)
    (hsize : i.size = size) (hby : i.bytes = bytes) (hzs : z.cells.size = size) (hsz : 0 < size)
    (v : Value) (n : Nat) (xs : List Value) (hs : a.eval s = v) (hown : w.ownsRow base e size v n xs)
    (ao : Option Addr) (m c : Nat) (news : List Value) (hx : a.eval x = .slice ao m c) (hl : news.length = m * size) (hnil : ao = none → c = 0)
    (hnews : ∀ j u, news[j]? = some u → ∃ ad, ao = some ad ∧ w.cell? (ad.add j) = some u) (h1 : ∀ u ∈ news, u.oneCell' = true)
    (h63 : n + m ≤ maxLen) (hbytes : (n + m) * bytes ≤ 140737488355328) (hbase : base ≤ w.heap.size)
    (h : ∀ v' w', w'.ownsRow base e size v' (n + m) (xs ++ news) → w.grownBy w' v.ownBlock → wpList P ops Q rest (a.put o.dst v') w') : wpList P ops Q (o :: rest) a w := by
  cases ao with
  | none =>
    have hm : m = 0 := by
      cases m with
      | zero => rfl
      | succ k =>
        have hpos : 0 < news.length := by rw [hl]; exact Nat.mul_pos (Nat.succ_pos _) hsz
        obtain ⟨ad, hh, _⟩ := hnews 0 news[0] (List.getElem?_eq_getElem hpos)
        cases hh
    subst hm
    have hc := hnil rfl
    subst hc
    have hn : news = [] := by
      apply List.eq_nil_of_length_eq_zero
      rw [hl, Nat.zero_mul]
    subst hn
    refine wpList_append_own_none hgd s x t ho base e i size ht hi v n xs hs hown hx (h v w (by simpa using hown) ⟨rfl, rfl, rfl, Nat.le_refl _, fun _ _ _ => rfl⟩)
  | some ad =>
    refine wpList_append_own w hgd s x t ho base e i z size bytes ht hi hz hsize hby hzs hsz v n xs hs hown ad m c news hx hl (fun j u hj => ?_) h1 h63 hbytes hbase (fun v' w' h2 h3 _ => h v' w' h2 h3)
    obtain ⟨ad', hh, hcell⟩ := hnews j u hj
    cases hh
    exact hcell

/-- Below B all is as it was, but for block c. -/
structure But (B c : Nat) (w w' : World) : Prop where
  os : w'.os = w.os
  tape : w'.tape = w.tape
  output : w'.output = w.output
  size : w.heap.size ≤ w'.heap.size
  block : ∀ k, k < B → k ≠ c → w'.heap[k]? = w.heap[k]?

theorem But.refl (B c : Nat) (w : World) : But B c w w := ⟨rfl, rfl, rfl, Nat.le_refl _, fun _ _ _ => rfl⟩
theorem But.trans {B c : Nat} {w0 w1 w2 : World} (h : But B c w0 w1) (k : But B c w1 w2) : But B c w0 w2 :=
  ⟨k.os.trans h.os, k.tape.trans h.tape, k.output.trans h.output, Nat.le_trans h.size k.size, fun i hi hc => (k.block i hi hc).trans (h.block i hi hc)⟩
theorem But.mono {B B' c : Nat} {w w' : World} (h : But B c w w') (hB : B' ≤ B) : But B' c w w' := ⟨h.os, h.tape, h.output, h.size, fun k hk hc => h.block k (by omega) hc⟩
theorem But.of_below {B c : Nat} {w w' : World} (h : Below B w w') : But B c w w' := ⟨h.os, h.tape, h.output, h.size, fun k hk _ => h.block k hk⟩
theorem But.below {B c B' : Nat} {w w' : World} (h : But B c w w') (h1 : B' ≤ B) (h2 : B' ≤ c) : Below B' w w' := ⟨h.os, h.tape, h.output, h.size, fun k hk => h.block k (by omega) (by omega)⟩
theorem But.alloc {B c : Nat} {w0 w : World} (h : But B c w0 w) (hB : B ≤ w.heap.size) (o : Obj) : But B c w0 (w.alloc o) := h.trans (But.of_below ((Below.refl _ _).alloc hB o))
theorem But.setCell {B c : Nat} {w0 w : World} (h : But B c w0 w) {p : Addr} (hp : p.block = c ∨ B ≤ p.block) (u : Value) : But B c w0 (w.setCell p u) :=
  h.trans ⟨rfl, rfl, rfl, by simp [World.setCell], fun k hk hc => Below.heap_setCell _ _ _ _ (by omega)⟩
theorem But.grown {B c : Nat} {w0 w w' : World} {row : Option Nat} (h : But B c w0 w) (hg : w.grownBy w' row) (hB : B ≤ w.heap.size) (hr : ∀ k, row = some k → B ≤ k) : But B c w0 w' :=
  h.trans ⟨hg.os, hg.tape, hg.output, hg.size, fun k hk _ => hg.block k (by omega) (fun e => by have := hr k e.symm; omega)⟩
theorem But.cell {B c : Nat} {w w' : World} (h : But B c w w') {p : Addr} (hp : p.block < B) (hc : p.block ≠ c) : w'.cell? p = w.cell? p := World.cell?_of_block (w := w) (h.block p.block hp hc)
theorem But.drew {B c : Nat} {w0 w : World} (h : But B c w0 w) : But B c w0 w.drew := ⟨h.os, h.tape, h.output, h.size, h.block⟩

/-- The cells of a list of pairs, of numbers, of instructions. -/
def pairCells (l : List PairD) : List Value := l.flatMap fun p => [.int .i64 p.x, .int .i64 p.y]
def intCells (l : List Int) : List Value := l.map (.int .i64)
def instrCells (l : List InstrD) : List Value := l.flatMap fun p => [.int .i64 p.op, .int .i64 p.a, .int .i64 p.b]

theorem pairCells_length (l : List PairD) : (pairCells l).length = l.length * 2 := by
  induction l with
  | nil => rfl
  | cons p l ih => simp [pairCells] at ih ⊢; omega
theorem instrCells_length (l : List InstrD) : (instrCells l).length = l.length * 3 := by
  induction l with
  | nil => rfl
  | cons p l ih => simp [instrCells] at ih ⊢; omega
theorem intCells_length (l : List Int) : (intCells l).length = l.length * 1 := by simp [intCells]

theorem pairCells_get (l : List PairD) : ∀ i (h : i < l.length), (pairCells l)[i * 2]? = some (.int .i64 l[i].x) ∧ (pairCells l)[i * 2 + 1]? = some (.int .i64 l[i].y) := by
  induction l with
  | nil => intro i h; simp at h
  | cons p l ih =>
    intro i h
    cases i with
    | zero => simp [pairCells]
    | succ i =>
      have := ih i (by simpa using h)
      simp only [pairCells] at this
      simp [pairCells, show (i + 1) * 2 = i * 2 + 2 by omega, this]
theorem instrCells_get (l : List InstrD) : ∀ i (h : i < l.length), (instrCells l)[i * 3]? = some (.int .i64 l[i].op) ∧ (instrCells l)[i * 3 + 1]? = some (.int .i64 l[i].a) ∧ (instrCells l)[i * 3 + 2]? = some (.int .i64 l[i].b) := by
  induction l with
  | nil => intro i h; simp at h
  | cons p l ih =>
    intro i h
    cases i with
    | zero => simp [instrCells]
    | succ i =>
      have := ih i (by simpa using h)
      simp only [instrCells] at this
      simp [instrCells, show (i + 1) * 3 = i * 3 + 3 by omega, this]

theorem pairCells_one (l : List PairD) : ∀ u ∈ pairCells l, u.oneCell' = true := by
  intro u hu
  simp only [pairCells, List.mem_flatMap] at hu
  obtain ⟨p, _, hp⟩ := hu
  simp at hp
  rcases hp with rfl | rfl <;> rfl
theorem instrCells_one (l : List InstrD) : ∀ u ∈ instrCells l, u.oneCell' = true := by
  intro u hu
  simp only [instrCells, List.mem_flatMap] at hu
  obtain ⟨p, _, hp⟩ := hu
  simp at hp
  rcases hp with rfl | rfl | rfl <;> rfl
theorem intCells_one (l : List Int) : ∀ u ∈ intCells l, u.oneCell' = true := by
  intro u hu
  simp only [intCells, List.mem_map] at hu
  obtain ⟨p, _, rfl⟩ := hu
  rfl

/-- What the append law asks of its source, out of the lists as they lie. -/
theorem PairsIn.src {B : Nat} {w : World} {ao : Option Addr} {l : List PairD} (h : PairsIn B w ao l) : ∀ j u, (pairCells l)[j]? = some u → ∃ ad, ao = some ad ∧ w.cell? (ad.add j) = some u := by
  intro j u hj
  have hlt : j < (pairCells l).length := by
    rcases Nat.lt_or_ge j (pairCells l).length with h' | h'
    · exact h'
    · rw [List.getElem?_eq_none h'] at hj; cases hj
  rw [pairCells_length] at hlt
  have hi : j / 2 < l.length := by omega
  obtain ⟨b, o, ha, _, hx, hy⟩ := h (j / 2) hi
  have hg := pairCells_get l (j / 2) hi
  refine ⟨_, ha, ?_⟩
  rw [Addr.add_lit]
  rcases (show j = j / 2 * 2 ∨ j = j / 2 * 2 + 1 by omega) with hh | hh
  · rw [hh] at hj ⊢
    rw [hg.1] at hj
    rw [← hj]; exact hx
  · rw [hh] at hj ⊢
    rw [hg.2] at hj
    rw [← hj]; exact hy
theorem IntsIn.src {B : Nat} {w : World} {ao : Option Addr} {l : List Int} (h : IntsIn B w ao l) : ∀ j u, (intCells l)[j]? = some u → ∃ ad, ao = some ad ∧ w.cell? (ad.add j) = some u := by
  intro j u hj
  have hlt : j < (intCells l).length := by
    rcases Nat.lt_or_ge j (intCells l).length with h' | h'
    · exact h'
    · rw [List.getElem?_eq_none h'] at hj; cases hj
  rw [intCells_length] at hlt
  obtain ⟨b, o, ha, _, hx⟩ := h j (by omega)
  refine ⟨_, ha, ?_⟩
  rw [Addr.add_lit, hx]
  simpa [intCells, List.getElem?_eq_getElem (show j < l.length by omega)] using hj

theorem InstrsIn.src {B : Nat} {w : World} {ao : Option Addr} {l : List InstrD} (h : InstrsIn B w ao l) : ∀ j u, (instrCells l)[j]? = some u → ∃ ad, ao = some ad ∧ w.cell? (ad.add j) = some u := by
  intro j u hj
  have hlt : j < (instrCells l).length := by
    rcases Nat.lt_or_ge j (instrCells l).length with h' | h'
    · exact h'
    · rw [List.getElem?_eq_none h'] at hj; cases hj
  rw [instrCells_length] at hlt
  have hi : j / 3 < l.length := by omega
  obtain ⟨b, o, ha, _, hx, hy, hz⟩ := h (j / 3) hi
  have hg := instrCells_get l (j / 3) hi
  refine ⟨_, ha, ?_⟩
  rw [Addr.add_lit]
  rcases (show j = j / 3 * 3 ∨ j = j / 3 * 3 + 1 ∨ j = j / 3 * 3 + 2 by omega) with hh | hh | hh
  · rw [hh] at hj ⊢
    rw [hg.1] at hj
    rw [← hj]; exact hx
  · rw [hh] at hj ⊢
    rw [hg.2.1] at hj
    rw [← hj]; exact hy
  · rw [hh] at hj ⊢
    rw [hg.2.2] at hj
    rw [← hj]; exact hz

/-- A list of the call's own, told by its cells. -/
theorem owns_cells {w : World} {base : Nat} {e : TypeId} {size n : Nat} {v : Value} {xs : List Value} (h : w.ownsRow base e size v n xs) :
    ∃ ao cap, v = .slice ao n cap ∧ (ao = none → n = 0 ∧ cap = 0) ∧ ∀ a, ao = some a → ∃ g, a = ⟨g, 0, none⟩ ∧ base ≤ g ∧ g < w.heap.size ∧ (∃ cur, w.heap[g]? = some (.cells cur e (0, 0))) ∧ ∀ j, j < n * size → w.cell? ⟨g, j, none⟩ = xs[j]? := by
  have h0 := h
  obtain ⟨_, ⟨rfl, rfl⟩ | ⟨g, cap, cur, rfl, hbg, hg, hr⟩⟩ := h
  · exact ⟨none, 0, rfl, fun _ => ⟨rfl, rfl⟩, fun a ha => by cases ha⟩
  · refine ⟨some ⟨g, 0, none⟩, cap, rfl, fun hh => (by cases hh), fun a ha => ?_⟩
    cases ha
    refine ⟨g, rfl, hbg, ?_, ⟨cur, hg⟩, fun j hj => h0.cellAt j hj⟩
    rcases Nat.lt_or_ge g w.heap.size with h' | h'
    · exact h'
    · rw [Array.getElem?_eq_none h'] at hg; cases hg

theorem PairsIn.of_owns {w : World} {base : Nat} {e : TypeId} {v : Value} {l : List PairD} (h : w.ownsRow base e 2 v l.length (pairCells l)) :
    ∃ ao cap, v = .slice ao l.length cap ∧ (ao = none → cap = 0) ∧ PairsIn w.heap.size w ao l ∧ ∀ a, ao = some a → ∃ g, a = ⟨g, 0, none⟩ ∧ base ≤ g ∧ g < w.heap.size := by
  obtain ⟨ao, cap, rfl, hn, ha⟩ := owns_cells h
  refine ⟨ao, cap, rfl, fun hh => (hn hh).2, fun i hi => ?_, fun a haa => ?_⟩
  · cases ao with
    | none => have := (hn rfl).1; omega
    | some a =>
      obtain ⟨g, rfl, hb, hlt, _, hc⟩ := ha a rfl
      have hg := pairCells_get l i hi
      exact ⟨g, 0, rfl, hlt, by rw [hc _ (by omega)]; simpa using hg.1, by rw [hc _ (by omega)]; simpa using hg.2⟩
  · obtain ⟨g, rfl, hb, hlt, _⟩ := ha a haa
    exact ⟨g, rfl, hb, hlt⟩

theorem InstrsIn.of_owns {w : World} {base : Nat} {e : TypeId} {v : Value} {l : List InstrD} (h : w.ownsRow base e 3 v l.length (instrCells l)) :
    ∃ ao cap, v = .slice ao l.length cap ∧ (ao = none → cap = 0) ∧ InstrsIn w.heap.size w ao l ∧ ∀ a, ao = some a → ∃ g, a = ⟨g, 0, none⟩ ∧ base ≤ g ∧ g < w.heap.size := by
  obtain ⟨ao, cap, rfl, hn, ha⟩ := owns_cells h
  refine ⟨ao, cap, rfl, fun hh => (hn hh).2, fun i hi => ?_, fun a haa => ?_⟩
  · cases ao with
    | none => have := (hn rfl).1; omega
    | some a =>
      obtain ⟨g, rfl, hb, hlt, _, hc⟩ := ha a rfl
      have hg := instrCells_get l i hi
      exact ⟨g, 0, rfl, hlt, by rw [hc _ (by omega)]; simpa using hg.1, by rw [hc _ (by omega)]; simpa using hg.2.1, by rw [hc _ (by omega)]; simpa using hg.2.2⟩
  · obtain ⟨g, rfl, hb, hlt, _⟩ := ha a haa
    exact ⟨g, rfl, hb, hlt⟩

theorem IntsIn.of_owns {w : World} {base : Nat} {e : TypeId} {v : Value} {l : List Int} (h : w.ownsRow base e 1 v l.length (intCells l)) :
    ∃ ao cap, v = .slice ao l.length cap ∧ (ao = none → cap = 0) ∧ IntsIn w.heap.size w ao l ∧ ∀ a, ao = some a → ∃ g, a = ⟨g, 0, none⟩ ∧ base ≤ g ∧ g < w.heap.size := by
  obtain ⟨ao, cap, rfl, hn, ha⟩ := owns_cells h
  refine ⟨ao, cap, rfl, fun hh => (hn hh).2, fun i hi => ?_, fun a haa => ?_⟩
  · cases ao with
    | none => have := (hn rfl).1; omega
    | some a =>
      obtain ⟨g, rfl, hb, hlt, _, hc⟩ := ha a rfl
      exact ⟨g, 0, rfl, hlt, by rw [hc _ (by omega)]; simp [intCells, List.getElem?_eq_getElem hi]⟩
  · obtain ⟨g, rfl, hb, hlt, _⟩ := ha a haa
    exact ⟨g, rfl, hb, hlt⟩

/-- A block of cells that are not frozen. -/
def Blk (w : World) (b : Nat) (cs : Array Value) (e : TypeId) : Prop := w.heap[b]? = some (.cells cs e (0, 0))

theorem Blk.cell {w : World} {b : Nat} {cs : Array Value} {e : TypeId} (h : Blk w b cs e) (j : Nat) : w.cell? ⟨b, j, none⟩ = cs[j]? := by
  unfold Blk at h
  simp [World.cell?, h]
theorem Blk.frozen {w : World} {b : Nat} {cs : Array Value} {e : TypeId} (h : Blk w b cs e) (j : Nat) : w.frozen? ⟨b, j, none⟩ = false := by
  unfold Blk at h
  simp [World.frozen?, h]
theorem Blk.lt {w : World} {b : Nat} {cs : Array Value} {e : TypeId} (h : Blk w b cs e) : b < w.heap.size := by
  unfold Blk at h
  rcases Nat.lt_or_ge b w.heap.size with h' | h'
  · exact h'
  · rw [Array.getElem?_eq_none h'] at h; cases h
theorem Blk.set {w : World} {b : Nat} {cs : Array Value} {e : TypeId} (h : Blk w b cs e) (j : Nat) (u : Value) : Blk (w.setCell ⟨b, j, none⟩ u) b (cs.setIfInBounds j u) e := by
  unfold Blk at h ⊢
  simp [World.setCell, Array.getElem?_modify, h]
theorem Blk.other {w : World} {b : Nat} {cs : Array Value} {e : TypeId} (h : Blk w b cs e) {p : Addr} (hp : b ≠ p.block) (u : Value) : Blk (w.setCell p u) b cs e := by
  unfold Blk at h ⊢
  rw [Below.heap_setCell _ _ _ _ hp]
  exact h
theorem Blk.new (w : World) (cs : Array Value) (e : TypeId) : Blk (w.alloc (.cells cs e)) w.heap.size cs e := heap_alloc_new w _
theorem Blk.alloc {w : World} {b : Nat} {cs : Array Value} {e : TypeId} (h : Blk w b cs e) (o : Obj) : Blk (w.alloc o) b cs e := by
  have hb := h.lt
  unfold Blk at h ⊢
  rw [Below.heap_alloc _ _ _ hb]
  exact h
theorem Blk.but {w w' : World} {b : Nat} {cs : Array Value} {e : TypeId} (h : Blk w b cs e) {B c : Nat} (hb : But B c w w') (h1 : b < B) (h2 : b ≠ c) : Blk w' b cs e := by
  unfold Blk at h ⊢
  rw [hb.block b h1 h2]
  exact h
theorem Blk.grown {w w' : World} {b : Nat} {cs : Array Value} {e : TypeId} (h : Blk w b cs e) {row : Option Nat} (hg : w.grownBy w' row) (hr : some b ≠ row) : Blk w' b cs e := by
  have hb := h.lt
  unfold Blk at h ⊢
  rw [hg.block b hb hr]
  exact h
theorem PairsIn.carry {B : Nat} {w w' : World} {ao : Option Addr} {l : List PairD} (h : PairsIn B w ao l) (hc : ∀ a, ao = some a → ∀ j, w'.cell? ⟨a.block, j, none⟩ = w.cell? ⟨a.block, j, none⟩) : PairsIn B w' ao l := by
  intro i hi
  obtain ⟨b, o, ha, hlt, hx, hy⟩ := h i hi
  exact ⟨b, o, ha, hlt, (hc _ ha _).trans hx, (hc _ ha _).trans hy⟩
theorem IntsIn.carry {B : Nat} {w w' : World} {ao : Option Addr} {l : List Int} (h : IntsIn B w ao l) (hc : ∀ a, ao = some a → ∀ j, w'.cell? ⟨a.block, j, none⟩ = w.cell? ⟨a.block, j, none⟩) : IntsIn B w' ao l := by
  intro i hi
  obtain ⟨b, o, ha, hlt, hx⟩ := h i hi
  exact ⟨b, o, ha, hlt, (hc _ ha _).trans hx⟩
theorem InstrsIn.carry {B : Nat} {w w' : World} {ao : Option Addr} {l : List InstrD} (h : InstrsIn B w ao l) (hc : ∀ a, ao = some a → ∀ j, w'.cell? ⟨a.block, j, none⟩ = w.cell? ⟨a.block, j, none⟩) : InstrsIn B w' ao l := by
  intro i hi
  obtain ⟨b, o, ha, hlt, hx, hy, hz⟩ := h i hi
  exact ⟨b, o, ha, hlt, (hc _ ha _).trans hx, (hc _ ha _).trans hy, (hc _ ha _).trans hz⟩

end Go.Proofs.Ytbkfildnijjioab

/-
  What lies in memory while donateref.Copy runs: the threads copied so far.
-/
namespace Go.Proofs.Ytbkfildnijjioab
open Go.RowKit

theorem ownsRow_mono {w : World} {base base' : Nat} {e : TypeId} {size n : Nat} {v : Value} {xs : List Value} (h : w.ownsRow base e size v n xs) (hb : base' ≤ base) : w.ownsRow base' e size v n xs := by
  obtain ⟨h1, h2⟩ := h
  refine ⟨h1, ?_⟩
  rcases h2 with h2 | ⟨g, cap, cur, hv, hg, r⟩
  · exact Or.inl h2
  · exact Or.inr ⟨g, cap, cur, hv, Nat.le_trans hb hg, r⟩

/-- What is owned stays owned where its block is as it was. -/
theorem ownsRow_same {w w' : World} {base : Nat} {e : TypeId} {size n : Nat} {v : Value} {xs : List Value} (h : w.ownsRow base e size v n xs) (hb : ∀ g, v.ownBlock = some g → w'.heap[g]? = w.heap[g]?) : w'.ownsRow base e size v n xs := by
  obtain ⟨h1, h2⟩ := h
  refine ⟨h1, ?_⟩
  rcases h2 with h2 | ⟨g, cap, cur, rfl, hg, hh, r⟩
  · exact Or.inl h2
  · exact Or.inr ⟨g, cap, cur, rfl, hg, (hb g rfl).trans hh, r⟩

/-- The block of what is owned: where it is, of which type. -/
theorem ownsRow_block {w : World} {base : Nat} {e : TypeId} {size n : Nat} {v : Value} {xs : List Value} (h : w.ownsRow base e size v n xs) {g : Nat} (hv : v.ownBlock = some g) : base ≤ g ∧ g < w.heap.size ∧ ∃ cur, w.heap[g]? = some (.cells cur e (0, 0)) := by
  have hl := h.lt g hv
  obtain ⟨h1, h2⟩ := h
  rcases h2 with ⟨rfl, _⟩ | ⟨g', cap, cur, rfl, hg, hh, r⟩
  · cases hv
  · simp only [Value.ownBlock, Option.some.injEq] at hv
    subst hv
    exact ⟨hl.1, hl.2, cur, hh⟩

def thCells (l : List ThreadD) (cs : Nat → Value) (k : Nat) : List Value :=
  (List.range k).flatMap fun i => [.int .i64 (l.getD i P3.none0).base, .int .i64 (l.getD i P3.none0).offset, .int .i64 (l.getD i P3.none0).period, .int .i64 (l.getD i P3.none0).deadline, cs i]

theorem thCells_succ (l : List ThreadD) (cs : Nat → Value) (k : Nat) : thCells l cs (k + 1) = thCells l cs k ++ [.int .i64 (l.getD k P3.none0).base, .int .i64 (l.getD k P3.none0).offset, .int .i64 (l.getD k P3.none0).period, .int .i64 (l.getD k P3.none0).deadline, cs k] := by
  simp [thCells, List.range_succ]

theorem thCells_congr (l : List ThreadD) (cs cs' : Nat → Value) (k : Nat) (h : ∀ i, i < k → cs i = cs' i) : thCells l cs k = thCells l cs' k := by
  induction k with
  | zero => rfl
  | succ k ih => rw [thCells_succ, thCells_succ, ih (fun i hi => h i (by omega)), h k (by omega)]

theorem thCells_length (l : List ThreadD) (cs : Nat → Value) (k : Nat) : (thCells l cs k).length = k * 5 := by
  induction k with
  | zero => rfl
  | succ k ih => rw [thCells_succ, List.length_append, ih]; simp; omega

theorem thCells_get (l : List ThreadD) (cs : Nat → Value) (k i : Nat) (h : i < k) (hl : i < l.length) :
    (thCells l cs k)[i * 5]? = some (.int .i64 l[i].base) ∧ (thCells l cs k)[i * 5 + 1]? = some (.int .i64 l[i].offset) ∧ (thCells l cs k)[i * 5 + 2]? = some (.int .i64 l[i].period) ∧
      (thCells l cs k)[i * 5 + 3]? = some (.int .i64 l[i].deadline) ∧ (thCells l cs k)[i * 5 + 4]? = some (cs i) := by
  induction k with
  | zero => omega
  | succ k ih =>
    rw [thCells_succ]
    have hlen := thCells_length l cs k
    rcases Nat.lt_succ_iff_lt_or_eq.1 h with h1 | rfl
    · obtain ⟨a, b, c, d, e⟩ := ih h1
      refine ⟨?_, ?_, ?_, ?_, ?_⟩ <;> rw [List.getElem?_append_left (by omega)] <;> assumption
    · have hd : l.getD i P3.none0 = l[i] := by simp [List.getD, hl]
      refine ⟨?_, ?_, ?_, ?_, ?_⟩ <;> rw [List.getElem?_append_right (by omega)] <;> simp [hlen, List.getElem?_eq_getElem hl]

/-- The threads copied so far, and their codes. -/
def ThRows (B : Nat) (wr : World) (vt : Value) (l : List ThreadD) (k : Nat) (cs : Nat → Value) : Prop :=
  wr.ownsRow B 75 5 vt k (thCells l cs k) ∧ ∀ i (h : i < l.length), i < k → wr.ownsRow B 46 3 (cs i) l[i].code.length (instrCells l[i].code)

theorem ThRows.zero (B : Nat) (wr : World) (l : List ThreadD) (cs : Nat → Value) : ThRows B wr (.slice none 0 0) l 0 cs := ⟨World.ownsRow_nil _ _ _ _, fun _ _ h => absurd h (Nat.not_lt_zero _)⟩

/-- Nothing of the blocks that were there has turned, but for blocks below B. -/
theorem ThRows.same {B : Nat} {wr w' : World} {vt : Value} {l : List ThreadD} {k : Nat} {cs : Nat → Value} (h : ThRows B wr vt l k cs) (hs : ∀ g, B ≤ g → g < wr.heap.size → w'.heap[g]? = wr.heap[g]?) : ThRows B w' vt l k cs := by
  obtain ⟨h1, h2⟩ := h
  refine ⟨ownsRow_same h1 fun g hg => ?_, fun i hi hk => ownsRow_same (h2 i hi hk) fun g hg => ?_⟩
  · obtain ⟨a, b, _⟩ := ownsRow_block h1 hg
    exact hs g a b
  · obtain ⟨a, b, _⟩ := ownsRow_block (h2 i hi hk) hg
    exact hs g a b

/-- One thread more: its code vc is owned, its cells are appended. -/
theorem ThRows.step {B : Nat} {w0 w1 : World} {vt vt' vc : Value} {l : List ThreadD} {k : Nat} {cs : Nat → Value} (h : ThRows B w0 vt l k cs) (hk : k < l.length) (hc : w0.ownsRow B 46 3 vc l[k].code.length (instrCells l[k].code))
    (hg : w0.grownBy w1 vt.ownBlock)
    (hv : w1.ownsRow B 75 5 vt' (k + 1) (thCells l cs k ++ [.int .i64 l[k].base, .int .i64 l[k].offset, .int .i64 l[k].period, .int .i64 l[k].deadline, vc])) : ∃ cs', ThRows B w1 vt' l (k + 1) cs' := by
  obtain ⟨h1, h2⟩ := h
  have hd : l.getD k P3.none0 = l[k] := by simp [List.getD, hk]
  have keep : ∀ {v : Value} {n : Nat} {xs : List Value}, w0.ownsRow B 46 3 v n xs → w1.ownsRow B 46 3 v n xs := by
    intro v n xs ho
    refine ownsRow_same ho fun g hgv => ?_
    obtain ⟨_, hlt, cur, hcur⟩ := ownsRow_block ho hgv
    refine hg.block g hlt fun e => ?_
    obtain ⟨_, _, cur', hcur'⟩ := ownsRow_block h1 e.symm
    rw [hcur] at hcur'
    cases hcur'
  refine ⟨fun i => if i = k then vc else cs i, ?_, fun i hi hik => ?_⟩
  · rw [thCells_succ, thCells_congr l (fun i => if i = k then vc else cs i) cs k (fun i hi => by simp; omega), hd]
    simpa using hv
  · by_cases e : i = k
    · subst e
      simpa using keep hc
    · simp only [if_neg e]
      exact keep (h2 i hi (by omega))

theorem ThreadsIn.of_rows {B : Nat} {w : World} {vt : Value} {l : List ThreadD} {cs : Nat → Value} (h : ThRows B w vt l l.length cs) :
    ∃ ao cap, vt = .slice ao l.length cap ∧ (ao = none → cap = 0) ∧ ThreadsIn w.heap.size w ao l := by
  obtain ⟨h1, h2⟩ := h
  obtain ⟨ao, cap, rfl, hn, ha⟩ := owns_cells h1
  refine ⟨ao, cap, rfl, fun hh => (hn hh).2, fun i hi => ?_⟩
  cases ao with
  | none => have := (hn rfl).1; omega
  | some a =>
    obtain ⟨g, rfl, hb, hlt, _, hc⟩ := ha a rfl
    obtain ⟨g0, g1, g2, g3, g4⟩ := thCells_get l cs l.length i hi hi
    obtain ⟨cv, cc, hcv, hcn, hci, _⟩ := InstrsIn.of_owns (h2 i hi hi)
    rw [hcv] at g4
    exact ⟨g, 0, cv, cc, rfl, hlt, by rw [hc _ (by omega)]; simpa using g0, by rw [hc _ (by omega)]; simpa using g1, by rw [hc _ (by omega)]; simpa using g2, by rw [hc _ (by omega)]; simpa using g3,
      by rw [hc _ (by omega)]; simpa using g4, hci, hcn⟩

theorem ThreadsIn.of_rows_later {B : Nat} {w : World} {vt : Value} {l : List ThreadD} {cs : Nat → Value} (h : ThRows B w vt l l.length cs) :
    ∃ ao cap, vt = .slice ao l.length cap ∧ (ao = none → cap = 0) ∧ ∀ w', (∀ g, B ≤ g → g < w.heap.size → w'.heap[g]? = w.heap[g]?) → ThreadsIn w'.heap.size w' ao l := by
  obtain ⟨ao, cap, rfl, hn, _⟩ := ThreadsIn.of_rows h
  refine ⟨ao, cap, rfl, hn, fun w' hs => ?_⟩
  obtain ⟨ao', cap', he, _, hin⟩ := ThreadsIn.of_rows (h.same hs)
  cases he
  exact hin

theorem six_same (w : World) (c : Nat) (v0 v1 v2 v3 v4 v5 : Value) (g : Nat) (hg : g ≠ c) :
    ((((((w.setCell ⟨c, 0, none⟩ v0).setCell ⟨c, 1, none⟩ v1).setCell ⟨c, 2, none⟩ v2).setCell ⟨c, 3, none⟩ v3).setCell ⟨c, 4, none⟩ v4).setCell ⟨c, 5, none⟩ v5).heap[g]? = w.heap[g]? := by
  rw [Below.heap_setCell _ _ _ _ hg, Below.heap_setCell _ _ _ _ hg, Below.heap_setCell _ _ _ _ hg, Below.heap_setCell _ _ _ _ hg, Below.heap_setCell _ _ _ _ hg, Below.heap_setCell _ _ _ _ hg]
theorem six_size (w : World) (c : Nat) (v0 v1 v2 v3 v4 v5 : Value) :
    ((((((w.setCell ⟨c, 0, none⟩ v0).setCell ⟨c, 1, none⟩ v1).setCell ⟨c, 2, none⟩ v2).setCell ⟨c, 3, none⟩ v3).setCell ⟨c, 4, none⟩ v4).setCell ⟨c, 5, none⟩ v5).heap.size = w.heap.size := by
  simp [World.setCell]
theorem six_below {B : Nat} {w0 w : World} (h : Below B w0 w) (c : Nat) (hc : B ≤ c) (v0 v1 v2 v3 v4 v5 : Value) :
    Below B w0 ((((((w.setCell ⟨c, 0, none⟩ v0).setCell ⟨c, 1, none⟩ v1).setCell ⟨c, 2, none⟩ v2).setCell ⟨c, 3, none⟩ v3).setCell ⟨c, 4, none⟩ v4).setCell ⟨c, 5, none⟩ v5) :=
  (((((h.setCell (by exact hc) _).setCell (by exact hc) _).setCell (by exact hc) _).setCell (by exact hc) _).setCell (by exact hc) _).setCell (by exact hc) _

/-- A list of the call's own lies in blocks from lo on. -/
def NewAt (lo hi : Nat) (ao : Option Addr) : Prop := ∀ a, ao = some a → ∃ g, a = ⟨g, 0, none⟩ ∧ lo ≤ g ∧ g < hi

theorem PairsIn.keep {w w' : World} {ao : Option Addr} {l : List PairD} {lo hi : Nat} (h : PairsIn w.heap.size w ao l) (hn : NewAt lo hi ao) (hs : ∀ g, lo ≤ g → g < hi → w'.heap[g]? = w.heap[g]?) (hz : w.heap.size ≤ w'.heap.size) : PairsIn w'.heap.size w' ao l := by
  refine (h.carry fun a ha j => ?_).mono hz
  obtain ⟨g, rfl, h1, h2⟩ := hn a ha
  exact World.cell?_of_block (hs g h1 h2)
theorem IntsIn.keep {w w' : World} {ao : Option Addr} {l : List Int} {lo hi : Nat} (h : IntsIn w.heap.size w ao l) (hn : NewAt lo hi ao) (hs : ∀ g, lo ≤ g → g < hi → w'.heap[g]? = w.heap[g]?) (hz : w.heap.size ≤ w'.heap.size) : IntsIn w'.heap.size w' ao l := by
  refine (h.carry fun a ha j => ?_).mono hz
  obtain ⟨g, rfl, h1, h2⟩ := hn a ha
  exact World.cell?_of_block (hs g h1 h2)

/-- The call's three structs: the set as it came, the result, the copy under way (its lists: vt, vm, vs, vq). -/
structure CM (w : World) (S : SetD) (vT vM vS vQ : Value) (wx : World) (vt vm vs vq : Value) : Prop where
  x : Blk wx w.heap.size #[.int .i64 S.workers, .int .i64 S.start, vT, vM, vS, vQ] 27
  r : Blk wx (w.heap.size + 1) #[.int .i64 0, .int .i64 0, .slice none 0 0, .slice none 0 0, .slice none 0 0, .slice none 0 0] 27
  c : Blk wx (w.heap.size + 1 + 1) #[.int .i64 S.workers, .int .i64 S.start, vt, vm, vs, vq] 27
  below : Below w.heap.size w wx
  size : w.heap.size + 3 ≤ wx.heap.size

section
variable {w wx w' : World} {S : SetD} {vT vM vS vQ vt vm vs vq : Value}
theorem setCell_same (w : World) (p : Addr) (u : Value) (lo hi : Nat) (hp : p.block < lo) : ∀ g, lo ≤ g → g < hi → (w.setCell p u).heap[g]? = w.heap[g]? := fun g hg _ => Below.heap_setCell _ _ _ _ (by omega)
theorem setCell_size (w : World) (p : Addr) (u : Value) : (w.setCell p u).heap.size = w.heap.size := by simp [World.setCell]
theorem grown_same {w w' : World} {row : Option Nat} (hg : w.grownBy w' row) (lo hi : Nat) (hh : hi ≤ w.heap.size) (hr : ∀ k, row = some k → hi ≤ k) : ∀ g, lo ≤ g → g < hi → w'.heap[g]? = w.heap[g]? := fun g _ h2 => hg.block g (by omega) (fun e => by have := hr g e.symm; omega)
theorem NewAt.mono {lo hi hi' : Nat} {ao : Option Addr} (h : NewAt lo hi ao) (hh : hi ≤ hi') : NewAt lo hi' ao := fun a ha => by
  obtain ⟨g, h1, h2, h3⟩ := h a ha
  exact ⟨g, h1, h2, by omega⟩
theorem CM.start (w : World) (S : SetD) (vT vM vS vQ : Value) :
    CM w S vT vM vS vQ (((w.alloc (.cells #[.int .i64 S.workers, .int .i64 S.start, vT, vM, vS, vQ] 27)).alloc (.cells #[.int .i64 0, .int .i64 0, .slice none 0 0, .slice none 0 0, .slice none 0 0, .slice none 0 0] 27)).alloc (.cells #[.int .i64 S.workers, .int .i64 S.start, .slice none 0 0, .slice none 0 0, .slice none 0 0, .slice none 0 0] 27)) (.slice none 0 0) (.slice none 0 0) (.slice none 0 0) (.slice none 0 0) := by
  refine ⟨((Blk.new _ _ _).alloc _).alloc _, ?_, ?_, (((Below.refl _ _).alloc (Nat.le_refl _) _).alloc (by simp) _).alloc (by simp; omega) _, by simp⟩
  · have := Blk.new (w.alloc (.cells #[.int .i64 S.workers, .int .i64 S.start, vT, vM, vS, vQ] 27)) #[.int .i64 0, .int .i64 0, .slice none 0 0, .slice none 0 0, .slice none 0 0, .slice none 0 0] 27
    simp at this
    exact this.alloc _
  · have := Blk.new ((w.alloc (.cells #[.int .i64 S.workers, .int .i64 S.start, vT, vM, vS, vQ] 27)).alloc (.cells #[.int .i64 0, .int .i64 0, .slice none 0 0, .slice none 0 0, .slice none 0 0, .slice none 0 0] 27)) #[.int .i64 S.workers, .int .i64 S.start, .slice none 0 0, .slice none 0 0, .slice none 0 0, .slice none 0 0] 27
    simp at this
    exact this
theorem CM.grown (h : CM w S vT vM vS vQ wx vt vm vs vq) {row : Option Nat} (hg : wx.grownBy w' row) (hr : ∀ k, row = some k → w.heap.size + 3 ≤ k) : CM w S vT vM vS vQ w' vt vm vs vq :=
  ⟨h.x.grown hg (fun e => by have := hr _ e.symm; omega), h.r.grown hg (fun e => by have := hr _ e.symm; omega), h.c.grown hg (fun e => by have := hr _ e.symm; omega),
    h.below.grown hg (by have := h.size; omega) (fun k hk => by have := hr k hk; omega), Nat.le_trans h.size hg.size⟩
theorem CM.alloc (h : CM w S vT vM vS vQ wx vt vm vs vq) (o : Obj) : CM w S vT vM vS vQ (wx.alloc o) vt vm vs vq :=
  ⟨h.x.alloc o, h.r.alloc o, h.c.alloc o, h.below.alloc (by have := h.size; omega) o, by have := h.size; simp; omega⟩
theorem CM.other (h : CM w S vT vM vS vQ wx vt vm vs vq) {p : Addr} (hp : w.heap.size + 3 ≤ p.block) (u : Value) : CM w S vT vM vS vQ (wx.setCell p u) vt vm vs vq :=
  ⟨h.x.other (by omega) u, h.r.other (by omega) u, h.c.other (by omega) u, h.below.setCell (by omega) u, by simpa [World.setCell] using h.size⟩
theorem CM.set2 (h : CM w S vT vM vS vQ wx vt vm vs vq) (u : Value) : CM w S vT vM vS vQ (wx.setCell ⟨w.heap.size + 1 + 1, 2, none⟩ u) u vm vs vq :=
  ⟨h.x.other (by show w.heap.size ≠ w.heap.size + 1 + 1; omega) u, h.r.other (by show w.heap.size + 1 ≠ _; simp) u, by simpa using h.c.set 2 u, h.below.setCell (by show w.heap.size ≤ _; simp; omega) u, by simpa [World.setCell] using h.size⟩
theorem CM.set3 (h : CM w S vT vM vS vQ wx vt vm vs vq) (u : Value) : CM w S vT vM vS vQ (wx.setCell ⟨w.heap.size + 1 + 1, 3, none⟩ u) vt u vs vq :=
  ⟨h.x.other (by show w.heap.size ≠ w.heap.size + 1 + 1; omega) u, h.r.other (by show w.heap.size + 1 ≠ _; simp) u, by simpa using h.c.set 3 u, h.below.setCell (by show w.heap.size ≤ _; simp; omega) u, by simpa [World.setCell] using h.size⟩
theorem CM.set4 (h : CM w S vT vM vS vQ wx vt vm vs vq) (u : Value) : CM w S vT vM vS vQ (wx.setCell ⟨w.heap.size + 1 + 1, 4, none⟩ u) vt vm u vq :=
  ⟨h.x.other (by show w.heap.size ≠ w.heap.size + 1 + 1; omega) u, h.r.other (by show w.heap.size + 1 ≠ _; simp) u, by simpa using h.c.set 4 u, h.below.setCell (by show w.heap.size ≤ _; simp; omega) u, by simpa [World.setCell] using h.size⟩
theorem CM.set5 (h : CM w S vT vM vS vQ wx vt vm vs vq) (u : Value) : CM w S vT vM vS vQ (wx.setCell ⟨w.heap.size + 1 + 1, 5, none⟩ u) vt vm vs u :=
  ⟨h.x.other (by show w.heap.size ≠ w.heap.size + 1 + 1; omega) u, h.r.other (by show w.heap.size + 1 ≠ _; simp) u, by simpa using h.c.set 5 u, h.below.setCell (by show w.heap.size ≤ _; simp; omega) u, by simpa [World.setCell] using h.size⟩
end

end Go.Proofs.Ytbkfildnijjioab
