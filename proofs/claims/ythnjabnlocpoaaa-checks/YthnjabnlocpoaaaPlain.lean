/-
  The plain data of a set, and P3 in plain words over it. Nothing of the program is named here.
-/
namespace Go.Proofs.Ythnjabnlocpoaaa

structure InstrD where
  op : Int
  a : Int
  b : Int

structure ThreadD where
  base : Int
  offset : Int
  period : Int
  deadline : Int
  code : List InstrD

structure PairD where
  x : Int
  y : Int

structure SetD where
  workers : Int
  start : Int
  threads : List ThreadD
  mutexes : List PairD
  sems : List PairD
  queues : List Int

namespace P3

def sizesB (S : SetD) : Bool :=
  decide (1 ≤ S.workers ∧ S.workers ≤ 8 ∧ 0 ≤ S.start ∧ S.start ≤ 1000000000 ∧ 1 ≤ (S.threads.length : Int) ∧ (S.threads.length : Int) ≤ 16 ∧
    (S.mutexes.length : Int) ≤ 8 ∧ (S.sems.length : Int) ≤ 4 ∧ (S.queues.length : Int) ≤ 4)

def mutexB (k t : Int) : Bool := decide ((k = 0 ∧ t = 0) ∨ (k = 1 ∧ 0 ≤ t ∧ t ≤ 255))

def semB (f m : Int) : Bool := decide (1 ≤ m ∧ m ≤ 100 ∧ 0 ≤ f ∧ f ≤ m)

def queueB (q : Int) : Bool := decide (1 ≤ q ∧ q ≤ 8)

def latest (p : Int) : Int := if p = 0 then 1000 else p

def threadB (b o p d : Int) (n : Int) : Bool :=
  decide (0 ≤ b ∧ b ≤ 255 ∧ 0 ≤ o ∧ o ≤ 1000 ∧ 0 ≤ p ∧ p ≤ 1000 ∧ 0 ≤ d ∧ d ≤ latest p ∧ n ≤ 32)

/-- Of an operation: is it one; the least and the greatest A, the least and the greatest B. nt, nm, ns, nq: how many threads, mutexes, semaphores, queues there are; len: the code's length. -/
def known (op : Int) : Bool := decide (0 ≤ op ∧ op ≤ 11)
def lowA (op : Int) : Int := if op = 5 then 1 else 0
def highA (nt nm ns nq : Int) (op : Int) : Int :=
  if op = 3 then 7 else if op = 4 then nt - 1 else if op = 5 then 1000 else if op = 6 ∨ op = 7 then nm - 1 else if op = 8 ∨ op = 9 then ns - 1 else if op = 10 ∨ op = 11 then nq - 1 else 0
def lowB (op : Int) : Int := if op = 6 ∨ op = 8 ∨ op = 11 then -1 else 0
def highB (len : Int) (op : Int) : Int :=
  if op = 3 then len else if op = 4 then 255 else if op = 6 ∨ op = 8 ∨ op = 11 then 1000 else if op = 10 then 255 else 0

def fitsB (kn : Bool) (la ha lb hb a b : Int) : Bool := kn && decide (la ≤ a ∧ a ≤ ha ∧ lb ≤ b ∧ b ≤ hb)
def instrB (nt nm ns nq len op a b : Int) : Bool := fitsB (known op) (lowA op) (highA nt nm ns nq op) (lowB op) (highB len op) a b

/-- The place of the first entry that may not be; the length where all may be. -/
def bad {α : Type} (p : α → Bool) (l : List α) : Nat := l.findIdx (fun x => !p x)

/-- That place, or -1. -/
def badOr {α : Type} (p : α → Bool) (l : List α) : Int := if bad p l < l.length then (bad p l : Int) else -1

def mutexP (m : PairD) : Bool := mutexB m.x m.y
def semP (m : PairD) : Bool := semB m.x m.y
def threadP (t : ThreadD) : Bool := threadB t.base t.offset t.period t.deadline t.code.length
def instrP (S : SetD) (len : Nat) (i : InstrD) : Bool := instrB S.threads.length S.mutexes.length S.sems.length S.queues.length len i.op i.a i.b
/-- Has a thread no bad instruction? -/
def codeP (S : SetD) (t : ThreadD) : Bool := decide (bad (instrP S t.code.length) t.code = t.code.length)
def none0 : ThreadD := ⟨0, 0, 0, 0, []⟩
/-- The place of the first bad instruction of the first thread that has such; -1: there is none. -/
def badCode (S : SetD) : Int :=
  if bad (codeP S) S.threads < S.threads.length then
    100 * (bad (codeP S) S.threads : Int) + (bad (instrP S (S.threads.getD (bad (codeP S) S.threads) none0).code.length) (S.threads.getD (bad (codeP S) S.threads) none0).code : Int)
  else -1

/-- P3. -/
def err (S : SetD) : Int :=
  if sizesB S = false then 1 else if badOr mutexP S.mutexes ≠ -1 then 2 else if badOr semP S.sems ≠ -1 then 3 else if badOr queueB S.queues ≠ -1 then 4
  else if badOr threadP S.threads ≠ -1 then 5 else if badCode S ≠ -1 then 6 else 0
def place (S : SetD) : Int :=
  if sizesB S = false then 0 else if badOr mutexP S.mutexes ≠ -1 then badOr mutexP S.mutexes else if badOr semP S.sems ≠ -1 then badOr semP S.sems else if badOr queueB S.queues ≠ -1 then badOr queueB S.queues
  else if badOr threadP S.threads ≠ -1 then badOr threadP S.threads else if badCode S ≠ -1 then badCode S else 0

theorem bad_le {α : Type} (p : α → Bool) (l : List α) : bad p l ≤ l.length := List.findIdx_le_length

/-- All entries ahead of k may be, the k-th may not: k is the place. -/
theorem bad_eq {α : Type} (p : α → Bool) (l : List α) (k : Nat) (hk : k < l.length) (hp : p l[k] = false) (hb : ∀ j (h : j < k), p (l[j]'(by omega)) = true) : bad p l = k := by
  unfold bad
  rw [List.findIdx_eq hk]
  exact ⟨by simp [hp], fun j hj => by simp [hb j hj]⟩

theorem bad_all {α : Type} (p : α → Bool) (l : List α) (hb : ∀ j (h : j < l.length), p l[j] = true) : bad p l = l.length := by
  unfold bad
  rw [List.findIdx_eq_length]
  intro x hx
  obtain ⟨j, hj, rfl⟩ := List.mem_iff_getElem.1 hx
  simp [hb j hj]

theorem badOr_at {α : Type} (p : α → Bool) (l : List α) (k : Nat) (hk : k < l.length) (hp : p l[k] = false) (hb : ∀ j (h : j < k), p (l[j]'(by omega)) = true) : badOr p l = k := by
  unfold badOr
  rw [bad_eq p l k hk hp hb, if_pos hk]

theorem badOr_none {α : Type} (p : α → Bool) (l : List α) (hb : ∀ j (h : j < l.length), p l[j] = true) : badOr p l = -1 := by
  unfold badOr
  rw [bad_all p l hb, if_neg (by omega)]

theorem badOr_bd {α : Type} (p : α → Bool) (l : List α) : -1 ≤ badOr p l ∧ badOr p l < l.length + 1 := by
  unfold badOr
  split <;> omega

theorem below_step {α : Type} {p : α → Bool} {l : List α} {k : Nat} (hk : k < l.length) (hb : ∀ j (h : j < k), p (l[j]'(by omega)) = true) (hp : p l[k] = true) :
    ∀ j (h : j < k + 1), p (l[j]'(by omega)) = true := by
  intro j h
  rcases Nat.lt_succ_iff_lt_or_eq.1 h with h1 | rfl
  · exact hb j h1
  · exact hp

end P3
theorem sizes_of {S : SetD} (h : P3.sizesB S = true) : (S.threads.length : Int) ≤ 16 ∧ (S.mutexes.length : Int) ≤ 8 ∧ (S.sems.length : Int) ≤ 4 ∧ (S.queues.length : Int) ≤ 4 := by
  unfold P3.sizesB at h
  rw [decide_eq_true_iff] at h
  omega

theorem codes_of {l : List ThreadD} (h : P3.badOr P3.threadP l = -1) : ∀ j (_ : j < l.length), (l[j].code.length : Int) ≤ 32 := by
  intro j hj
  have hb : P3.threadP l[j] = true := by
    unfold P3.badOr at h
    split at h
    · omega
    · rename_i hn
      have hle := P3.bad_le P3.threadP l
      have := List.not_of_lt_findIdx (p := fun x => !P3.threadP x) (xs := l) (i := j) (show j < P3.bad P3.threadP l by omega)
      simpa using this
  unfold P3.threadP P3.threadB at hb
  rw [decide_eq_true_iff] at hb
  omega

end Go.Proofs.Ythnjabnlocpoaaa
