/-
  No cell of these rows narrows 'for every input' (looked for: loops, veiled, ifaces, maps, wideKeys, modest, calm, conditions, laid).
  DERIVED. THE GIVEN ROWS OF THIS SEAT. 7 by the template 'for every input the law returns true; each argument reads behind the call as it read before'; 0 by the template 'total and deterministic' (their statements: YtbkfildnijjioabTotals.lean).
  GIVEN WITH THE SEED: the statements are not yours to turn. If you find one false, say at which input.
  Laid BY PROGRAM, IN A SANDBOX (cutbox-rows.mjs): the forced cells as the released guide's own fill.sh prints them over the translation ab3d4e7950f71ed1… (all of the seat's roots in one cut). By AI agents, Wed Nov 11 2026. No macro, syntax, notation, axiom, sorry.
-/
import Derived.Test.YtbkfildnijjioabChecked
import GoSem.Claim
import GoSem.ClaimJoined
import GoSem.ClaimMapViews
import Derived.JoinedTies
import Derived.KernelRfl
namespace Go.Proofs.Ytbkfildnijjioab
/- THE CELL 'sum', in the pinned program and in every row, IS THE sha256 OF THE DUMP (.gsa) THAT YtbkfildnijjioabProg.lean LOADS. Nothing in Lean hashes anything: it is a label: what it is worth is what the hold of that sum in a sandbox is worth. -/
noncomputable def Try.pinned : Pinned := { name := "ytbkfildnijjioab", sum := "ab3d4e7950f71ed1deb238d2ee14d8fce02bf42ca796db71a10f7f82bf70968c", checked := Try.checked }
namespace Rows
def none {H : Type} : Left H := { results := [], args := [] }

/-- 'donatekeep.Lent': WHATEVER THE INPUT: true; the input reads as it did. -/
def lentSpec : ChangeSpec := { name := "lent", fn := fun _ => fun
  | [d1, d2] => { results := [.lit (.bool true)], args := [d1, d2] }
  | _ => none }
def lentRow : OpenClaim := { program := "ytbkfildnijjioab", sum := "ab3d4e7950f71ed1deb238d2ee14d8fce02bf42ca796db71a10f7f82bf70968c", func := "donate/donatekeep.Lent", spec := "lent", apart := false }
def LentSaid : Prop := lentRow.holds Try.pinned (OpenSpec.ofChange lentSpec)

/-- ITS FALSE NEIGHBOUR: 'it returns false'. Refute it at one input. -/
def lentWrong : ChangeSpec := { name := "lent", fn := fun _ => fun
  | [d1, d2] => { results := [.lit (.bool false)], args := [d1, d2] }
  | _ => none }
def LentWrongFalsely : Prop := lentRow.holds Try.pinned (OpenSpec.ofChange lentWrong)

/-- 'donatekeep.Chains': WHATEVER THE INPUT: true; the input reads as it did. -/
def chainsSpec : ChangeSpec := { name := "chains", fn := fun _ => fun
  | [d1, d2] => { results := [.lit (.bool true)], args := [d1, d2] }
  | _ => none }
def chainsRow : OpenClaim := { program := "ytbkfildnijjioab", sum := "ab3d4e7950f71ed1deb238d2ee14d8fce02bf42ca796db71a10f7f82bf70968c", func := "donate/donatekeep.Chains", spec := "chains", apart := false }
def ChainsSaid : Prop := chainsRow.holds Try.pinned (OpenSpec.ofChange chainsSpec)

/-- ITS FALSE NEIGHBOUR: 'it returns false'. Refute it at one input. -/
def chainsWrong : ChangeSpec := { name := "chains", fn := fun _ => fun
  | [d1, d2] => { results := [.lit (.bool false)], args := [d1, d2] }
  | _ => none }
def ChainsWrongFalsely : Prop := chainsRow.holds Try.pinned (OpenSpec.ofChange chainsWrong)

/-- 'donatekeep.Punctual': WHATEVER THE INPUT: true; the input reads as it did. -/
def punctualSpec : ChangeSpec := { name := "punctual", fn := fun _ => fun
  | [d1, d2] => { results := [.lit (.bool true)], args := [d1, d2] }
  | _ => none }
def punctualRow : OpenClaim := { program := "ytbkfildnijjioab", sum := "ab3d4e7950f71ed1deb238d2ee14d8fce02bf42ca796db71a10f7f82bf70968c", func := "donate/donatekeep.Punctual", spec := "punctual", apart := false }
def PunctualSaid : Prop := punctualRow.holds Try.pinned (OpenSpec.ofChange punctualSpec)

/-- ITS FALSE NEIGHBOUR: 'it returns false'. Refute it at one input. -/
def punctualWrong : ChangeSpec := { name := "punctual", fn := fun _ => fun
  | [d1, d2] => { results := [.lit (.bool false)], args := [d1, d2] }
  | _ => none }
def PunctualWrongFalsely : Prop := punctualRow.holds Try.pinned (OpenSpec.ofChange punctualWrong)

/-- 'donatekeep.Timely': WHATEVER THE INPUT: true; the input reads as it did. -/
def timelySpec : ChangeSpec := { name := "timely", fn := fun _ => fun
  | [d1, d2] => { results := [.lit (.bool true)], args := [d1, d2] }
  | _ => none }
def timelyRow : OpenClaim := { program := "ytbkfildnijjioab", sum := "ab3d4e7950f71ed1deb238d2ee14d8fce02bf42ca796db71a10f7f82bf70968c", func := "donate/donatekeep.Timely", spec := "timely", apart := false }
def TimelySaid : Prop := timelyRow.holds Try.pinned (OpenSpec.ofChange timelySpec)

/-- ITS FALSE NEIGHBOUR: 'it returns false'. Refute it at one input. -/
def timelyWrong : ChangeSpec := { name := "timely", fn := fun _ => fun
  | [d1, d2] => { results := [.lit (.bool false)], args := [d1, d2] }
  | _ => none }
def TimelyWrongFalsely : Prop := timelyRow.holds Try.pinned (OpenSpec.ofChange timelyWrong)

/-- 'donatekeep.Ceilings': WHATEVER THE INPUT: true; the input reads as it did. -/
def ceilingsSpec : ChangeSpec := { name := "ceilings", fn := fun _ => fun
  | [d1, d2] => { results := [.lit (.bool true)], args := [d1, d2] }
  | _ => none }
def ceilingsRow : OpenClaim := { program := "ytbkfildnijjioab", sum := "ab3d4e7950f71ed1deb238d2ee14d8fce02bf42ca796db71a10f7f82bf70968c", func := "donate/donatekeep.Ceilings", spec := "ceilings", apart := false }
def CeilingsSaid : Prop := ceilingsRow.holds Try.pinned (OpenSpec.ofChange ceilingsSpec)

/-- ITS FALSE NEIGHBOUR: 'it returns false'. Refute it at one input. -/
def ceilingsWrong : ChangeSpec := { name := "ceilings", fn := fun _ => fun
  | [d1, d2] => { results := [.lit (.bool false)], args := [d1, d2] }
  | _ => none }
def CeilingsWrongFalsely : Prop := ceilingsRow.holds Try.pinned (OpenSpec.ofChange ceilingsWrong)

/-- 'donatekeep.Tokens': WHATEVER THE INPUT: true; the input reads as it did. -/
def tokensSpec : ChangeSpec := { name := "tokens", fn := fun _ => fun
  | [d1, d2] => { results := [.lit (.bool true)], args := [d1, d2] }
  | _ => none }
def tokensRow : OpenClaim := { program := "ytbkfildnijjioab", sum := "ab3d4e7950f71ed1deb238d2ee14d8fce02bf42ca796db71a10f7f82bf70968c", func := "donate/donatekeep.Tokens", spec := "tokens", apart := false }
def TokensSaid : Prop := tokensRow.holds Try.pinned (OpenSpec.ofChange tokensSpec)

/-- ITS FALSE NEIGHBOUR: 'it returns false'. Refute it at one input. -/
def tokensWrong : ChangeSpec := { name := "tokens", fn := fun _ => fun
  | [d1, d2] => { results := [.lit (.bool false)], args := [d1, d2] }
  | _ => none }
def TokensWrongFalsely : Prop := tokensRow.holds Try.pinned (OpenSpec.ofChange tokensWrong)

/-- 'donatekeep.Delivered': WHATEVER THE INPUT: true; the input reads as it did. -/
def deliveredSpec : ChangeSpec := { name := "delivered", fn := fun _ => fun
  | [d1, d2] => { results := [.lit (.bool true)], args := [d1, d2] }
  | _ => none }
def deliveredRow : OpenClaim := { program := "ytbkfildnijjioab", sum := "ab3d4e7950f71ed1deb238d2ee14d8fce02bf42ca796db71a10f7f82bf70968c", func := "donate/donatekeep.Delivered", spec := "delivered", apart := false }
def DeliveredSaid : Prop := deliveredRow.holds Try.pinned (OpenSpec.ofChange deliveredSpec)

/-- ITS FALSE NEIGHBOUR: 'it returns false'. Refute it at one input. -/
def deliveredWrong : ChangeSpec := { name := "delivered", fn := fun _ => fun
  | [d1, d2] => { results := [.lit (.bool false)], args := [d1, d2] }
  | _ => none }
def DeliveredWrongFalsely : Prop := deliveredRow.holds Try.pinned (OpenSpec.ofChange deliveredWrong)

/- THE SECOND FORM. 'bulk': how many values and letters a reading holds, each counted each time it is reached (what is shared counts as often as it is met; a slice's spare places count too). A statement '..UptoSaid' is the law's where the arguments, and the package variables that the reading takes, are together of bulk at most 1048576: NARROWER than '..Said'. Prove '..Said' where nothing that the law and all that it calls make is longer than what came in: it says more and counts as full. Else prove '..UptoSaid'. A law counts once. -/
mutual
def uptoBulk {H : Type} : DataW H → Nat
  | .lit (.string bytes) => bytes.length + 1
  | .lit _ => 1
  | .nil => 1
  | .ptr d => uptoBulk d + 1
  | .slice elems spare => uptoBulkAll elems + uptoBulkAll spare + 1
  | .agg parts => uptoBulkAll parts + 1
  | .iface _ d => uptoBulk d + 1
  | .map entries => uptoBulkEntries entries + 1
  | .held _ => 1
def uptoBulkAll {H : Type} : List (DataW H) → Nat
  | [] => 0
  | d :: r => uptoBulk d + uptoBulkAll r
def uptoBulkEntries {H : Type} : List (Lit × DataW H) → Nat
  | [] => 0
  | x :: r => uptoBulkEntry x + uptoBulkEntries r
def uptoBulkEntry {H : Type} : Lit × DataW H → Nat
  | (.string bytes, d) => bytes.length + uptoBulk d + 1
  | (_, d) => uptoBulk d + 1
 end
def uptoSmall : (H : Type) → List (DataW H) → Bool := fun _ ds => decide (uptoBulkAll ds ≤ 1048576)
def OpenSpec.upto (s : _root_.Go.ChangeSpec) : _root_.Go.OpenSpec := { _root_.Go.OpenSpec.ofChange s with cond := some uptoSmall }

/-- 'donatekeep.Lent', WHERE WHAT IT READS IS OF BULK AT MOST 1048576: true; the input reads as it did. -/
def lentUptoRow : OpenClaim := { program := "ytbkfildnijjioab", sum := "ab3d4e7950f71ed1deb238d2ee14d8fce02bf42ca796db71a10f7f82bf70968c", func := "donate/donatekeep.Lent", spec := "lent", apart := false, narrowed := true }
def LentUptoSaid : Prop := lentUptoRow.holds Try.pinned (OpenSpec.upto lentSpec)

/-- 'donatekeep.Chains', WHERE WHAT IT READS IS OF BULK AT MOST 1048576: true; the input reads as it did. -/
def chainsUptoRow : OpenClaim := { program := "ytbkfildnijjioab", sum := "ab3d4e7950f71ed1deb238d2ee14d8fce02bf42ca796db71a10f7f82bf70968c", func := "donate/donatekeep.Chains", spec := "chains", apart := false, narrowed := true }
def ChainsUptoSaid : Prop := chainsUptoRow.holds Try.pinned (OpenSpec.upto chainsSpec)

/-- 'donatekeep.Punctual', WHERE WHAT IT READS IS OF BULK AT MOST 1048576: true; the input reads as it did. -/
def punctualUptoRow : OpenClaim := { program := "ytbkfildnijjioab", sum := "ab3d4e7950f71ed1deb238d2ee14d8fce02bf42ca796db71a10f7f82bf70968c", func := "donate/donatekeep.Punctual", spec := "punctual", apart := false, narrowed := true }
def PunctualUptoSaid : Prop := punctualUptoRow.holds Try.pinned (OpenSpec.upto punctualSpec)

/-- 'donatekeep.Timely', WHERE WHAT IT READS IS OF BULK AT MOST 1048576: true; the input reads as it did. -/
def timelyUptoRow : OpenClaim := { program := "ytbkfildnijjioab", sum := "ab3d4e7950f71ed1deb238d2ee14d8fce02bf42ca796db71a10f7f82bf70968c", func := "donate/donatekeep.Timely", spec := "timely", apart := false, narrowed := true }
def TimelyUptoSaid : Prop := timelyUptoRow.holds Try.pinned (OpenSpec.upto timelySpec)

/-- 'donatekeep.Ceilings', WHERE WHAT IT READS IS OF BULK AT MOST 1048576: true; the input reads as it did. -/
def ceilingsUptoRow : OpenClaim := { program := "ytbkfildnijjioab", sum := "ab3d4e7950f71ed1deb238d2ee14d8fce02bf42ca796db71a10f7f82bf70968c", func := "donate/donatekeep.Ceilings", spec := "ceilings", apart := false, narrowed := true }
def CeilingsUptoSaid : Prop := ceilingsUptoRow.holds Try.pinned (OpenSpec.upto ceilingsSpec)

/-- 'donatekeep.Tokens', WHERE WHAT IT READS IS OF BULK AT MOST 1048576: true; the input reads as it did. -/
def tokensUptoRow : OpenClaim := { program := "ytbkfildnijjioab", sum := "ab3d4e7950f71ed1deb238d2ee14d8fce02bf42ca796db71a10f7f82bf70968c", func := "donate/donatekeep.Tokens", spec := "tokens", apart := false, narrowed := true }
def TokensUptoSaid : Prop := tokensUptoRow.holds Try.pinned (OpenSpec.upto tokensSpec)

/-- 'donatekeep.Delivered', WHERE WHAT IT READS IS OF BULK AT MOST 1048576: true; the input reads as it did. -/
def deliveredUptoRow : OpenClaim := { program := "ytbkfildnijjioab", sum := "ab3d4e7950f71ed1deb238d2ee14d8fce02bf42ca796db71a10f7f82bf70968c", func := "donate/donatekeep.Delivered", spec := "delivered", apart := false, narrowed := true }
def DeliveredUptoSaid : Prop := deliveredUptoRow.holds Try.pinned (OpenSpec.upto deliveredSpec)

end Rows
end Go.Proofs.Ytbkfildnijjioab
