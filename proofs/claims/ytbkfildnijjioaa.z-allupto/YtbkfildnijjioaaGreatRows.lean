/-
  No cell of these rows narrows 'for every input' (looked for: loops, veiled, ifaces, maps, wideKeys, modest, calm, conditions, laid).
  DERIVED. THE GIVEN ROWS OF THIS SEAT. 10 by the template 'for every input the law returns true; each argument reads behind the call as it read before'; 0 by the template 'total and deterministic' (their statements: YtbkfildnijjioaaGreatTotals.lean).
  GIVEN WITH THE SEED: the statements are not yours to turn. If you find one false, say at which input.
  Laid BY PROGRAM, IN A SANDBOX (cutbox-rows.mjs): the forced cells as the released guide's own fill.sh prints them over the translation d826f8e61cbfcd43… (all of the seat's roots in one cut). By AI agents, Wed Nov 11 2026. No macro, syntax, notation, axiom, sorry.
-/
import Derived.Test.YtbkfildnijjioaaGreatChecked
import GoSem.Claim
import GoSem.ClaimJoined
import GoSem.ClaimMapViews
import Derived.JoinedTies
import Derived.KernelRfl
namespace Go.Proofs.YtbkfildnijjioaaGreat
/- THE CELL 'sum', in the pinned program and in every row, IS THE sha256 OF THE DUMP (.gsa) THAT YtbkfildnijjioaaGreatProg.lean LOADS. Nothing in Lean hashes anything: it is a label: what it is worth is what the hold of that sum in a sandbox is worth. -/
noncomputable def Tryz.pinned : Pinned := { name := "ytbkfildnijjioaagreat", sum := "d826f8e61cbfcd4394efc103b0df0a72077e5fdbcc88b59023742ff8417f6586", checked := Tryz.checked }
namespace Rows
def none {H : Type} : Left H := { results := [], args := [] }

/-- 'donatelaw.News': WHATEVER THE INPUT: true; the input reads as it did. -/
def newsSpec : ChangeSpec := { name := "news", fn := fun _ => fun
  | [d] => { results := [.lit (.bool true)], args := [d] }
  | _ => none }
def newsRow : OpenClaim := { program := "ytbkfildnijjioaagreat", sum := "d826f8e61cbfcd4394efc103b0df0a72077e5fdbcc88b59023742ff8417f6586", func := "donate/donatelaw.News", spec := "news", recurses := true, apart := false }
def NewsSaid : Prop := newsRow.holds Tryz.pinned (OpenSpec.ofChange newsSpec)

/-- ITS FALSE NEIGHBOUR: 'it returns false'. Refute it at one input. -/
def newsWrong : ChangeSpec := { name := "news", fn := fun _ => fun
  | [d] => { results := [.lit (.bool false)], args := [d] }
  | _ => none }
def NewsWrongFalsely : Prop := newsRow.holds Tryz.pinned (OpenSpec.ofChange newsWrong)

/-- 'donatelaw.Queued': WHATEVER THE INPUT: true; the input reads as it did. -/
def queuedSpec : ChangeSpec := { name := "queued", fn := fun _ => fun
  | [d1, d2] => { results := [.lit (.bool true)], args := [d1, d2] }
  | _ => none }
def queuedRow : OpenClaim := { program := "ytbkfildnijjioaagreat", sum := "d826f8e61cbfcd4394efc103b0df0a72077e5fdbcc88b59023742ff8417f6586", func := "donate/donatelaw.Queued", spec := "queued", recurses := true, apart := false }
def QueuedSaid : Prop := queuedRow.holds Tryz.pinned (OpenSpec.ofChange queuedSpec)

/-- ITS FALSE NEIGHBOUR: 'it returns false'. Refute it at one input. -/
def queuedWrong : ChangeSpec := { name := "queued", fn := fun _ => fun
  | [d1, d2] => { results := [.lit (.bool false)], args := [d1, d2] }
  | _ => none }
def QueuedWrongFalsely : Prop := queuedRow.holds Tryz.pinned (OpenSpec.ofChange queuedWrong)

/-- 'donatelaw.Timed': WHATEVER THE INPUT: true; the input reads as it did. -/
def timedSpec : ChangeSpec := { name := "timed", fn := fun _ => fun
  | [d1, d2] => { results := [.lit (.bool true)], args := [d1, d2] }
  | _ => none }
def timedRow : OpenClaim := { program := "ytbkfildnijjioaagreat", sum := "d826f8e61cbfcd4394efc103b0df0a72077e5fdbcc88b59023742ff8417f6586", func := "donate/donatelaw.Timed", spec := "timed", recurses := true, apart := false }
def TimedSaid : Prop := timedRow.holds Tryz.pinned (OpenSpec.ofChange timedSpec)

/-- ITS FALSE NEIGHBOUR: 'it returns false'. Refute it at one input. -/
def timedWrong : ChangeSpec := { name := "timed", fn := fun _ => fun
  | [d1, d2] => { results := [.lit (.bool false)], args := [d1, d2] }
  | _ => none }
def TimedWrongFalsely : Prop := timedRow.holds Tryz.pinned (OpenSpec.ofChange timedWrong)

/-- 'donatelaw.Locked': WHATEVER THE INPUT: true; the input reads as it did. -/
def lockedSpec : ChangeSpec := { name := "locked", fn := fun _ => fun
  | [d1, d2] => { results := [.lit (.bool true)], args := [d1, d2] }
  | _ => none }
def lockedRow : OpenClaim := { program := "ytbkfildnijjioaagreat", sum := "d826f8e61cbfcd4394efc103b0df0a72077e5fdbcc88b59023742ff8417f6586", func := "donate/donatelaw.Locked", spec := "locked", recurses := true, apart := false }
def LockedSaid : Prop := lockedRow.holds Tryz.pinned (OpenSpec.ofChange lockedSpec)

/-- ITS FALSE NEIGHBOUR: 'it returns false'. Refute it at one input. -/
def lockedWrong : ChangeSpec := { name := "locked", fn := fun _ => fun
  | [d1, d2] => { results := [.lit (.bool false)], args := [d1, d2] }
  | _ => none }
def LockedWrongFalsely : Prop := lockedRow.holds Tryz.pinned (OpenSpec.ofChange lockedWrong)

/-- 'donatelaw.Picks': WHATEVER THE INPUT: true; the input reads as it did. -/
def picksSpec : ChangeSpec := { name := "picks", fn := fun _ => fun
  | [d1, d2] => { results := [.lit (.bool true)], args := [d1, d2] }
  | _ => none }
def picksRow : OpenClaim := { program := "ytbkfildnijjioaagreat", sum := "d826f8e61cbfcd4394efc103b0df0a72077e5fdbcc88b59023742ff8417f6586", func := "donate/donatelaw.Picks", spec := "picks", recurses := true, apart := false }
def PicksSaid : Prop := picksRow.holds Tryz.pinned (OpenSpec.ofChange picksSpec)

/-- ITS FALSE NEIGHBOUR: 'it returns false'. Refute it at one input. -/
def picksWrong : ChangeSpec := { name := "picks", fn := fun _ => fun
  | [d1, d2] => { results := [.lit (.bool false)], args := [d1, d2] }
  | _ => none }
def PicksWrongFalsely : Prop := picksRow.holds Tryz.pinned (OpenSpec.ofChange picksWrong)

/-- 'donatelaw.Seats': WHATEVER THE INPUT: true; the input reads as it did. -/
def seatsSpec : ChangeSpec := { name := "seats", fn := fun _ => fun
  | [d1, d2] => { results := [.lit (.bool true)], args := [d1, d2] }
  | _ => none }
def seatsRow : OpenClaim := { program := "ytbkfildnijjioaagreat", sum := "d826f8e61cbfcd4394efc103b0df0a72077e5fdbcc88b59023742ff8417f6586", func := "donate/donatelaw.Seats", spec := "seats", recurses := true, apart := false }
def SeatsSaid : Prop := seatsRow.holds Tryz.pinned (OpenSpec.ofChange seatsSpec)

/-- ITS FALSE NEIGHBOUR: 'it returns false'. Refute it at one input. -/
def seatsWrong : ChangeSpec := { name := "seats", fn := fun _ => fun
  | [d1, d2] => { results := [.lit (.bool false)], args := [d1, d2] }
  | _ => none }
def SeatsWrongFalsely : Prop := seatsRow.holds Tryz.pinned (OpenSpec.ofChange seatsWrong)

/-- 'donatelaw.Looks': WHATEVER THE INPUT: true; the input reads as it did. -/
def looksSpec : ChangeSpec := { name := "looks", fn := fun _ => fun
  | [d1, d2] => { results := [.lit (.bool true)], args := [d1, d2] }
  | _ => none }
def looksRow : OpenClaim := { program := "ytbkfildnijjioaagreat", sum := "d826f8e61cbfcd4394efc103b0df0a72077e5fdbcc88b59023742ff8417f6586", func := "donate/donatelaw.Looks", spec := "looks", recurses := true, apart := false }
def LooksSaid : Prop := looksRow.holds Tryz.pinned (OpenSpec.ofChange looksSpec)

/-- ITS FALSE NEIGHBOUR: 'it returns false'. Refute it at one input. -/
def looksWrong : ChangeSpec := { name := "looks", fn := fun _ => fun
  | [d1, d2] => { results := [.lit (.bool false)], args := [d1, d2] }
  | _ => none }
def LooksWrongFalsely : Prop := looksRow.holds Tryz.pinned (OpenSpec.ofChange looksWrong)

/-- 'donatelaw.Stores': WHATEVER THE INPUT: true; the input reads as it did. -/
def storesSpec : ChangeSpec := { name := "stores", fn := fun _ => fun
  | [d1, d2] => { results := [.lit (.bool true)], args := [d1, d2] }
  | _ => none }
def storesRow : OpenClaim := { program := "ytbkfildnijjioaagreat", sum := "d826f8e61cbfcd4394efc103b0df0a72077e5fdbcc88b59023742ff8417f6586", func := "donate/donatelaw.Stores", spec := "stores", recurses := true, apart := false }
def StoresSaid : Prop := storesRow.holds Tryz.pinned (OpenSpec.ofChange storesSpec)

/-- ITS FALSE NEIGHBOUR: 'it returns false'. Refute it at one input. -/
def storesWrong : ChangeSpec := { name := "stores", fn := fun _ => fun
  | [d1, d2] => { results := [.lit (.bool false)], args := [d1, d2] }
  | _ => none }
def StoresWrongFalsely : Prop := storesRow.holds Tryz.pinned (OpenSpec.ofChange storesWrong)

/-- 'donatelaw.Runs': WHATEVER THE INPUT: true; the input reads as it did. -/
def runsSpec : ChangeSpec := { name := "runs", fn := fun _ => fun
  | [d1, d2] => { results := [.lit (.bool true)], args := [d1, d2] }
  | _ => none }
def runsRow : OpenClaim := { program := "ytbkfildnijjioaagreat", sum := "d826f8e61cbfcd4394efc103b0df0a72077e5fdbcc88b59023742ff8417f6586", func := "donate/donatelaw.Runs", spec := "runs", recurses := true, apart := false }
def RunsSaid : Prop := runsRow.holds Tryz.pinned (OpenSpec.ofChange runsSpec)

/-- ITS FALSE NEIGHBOUR: 'it returns false'. Refute it at one input. -/
def runsWrong : ChangeSpec := { name := "runs", fn := fun _ => fun
  | [d1, d2] => { results := [.lit (.bool false)], args := [d1, d2] }
  | _ => none }
def RunsWrongFalsely : Prop := runsRow.holds Tryz.pinned (OpenSpec.ofChange runsWrong)

/-- 'donatelaw.All': WHATEVER THE INPUT: true; the input reads as it did. -/
def allSpec : ChangeSpec := { name := "all", fn := fun _ => fun
  | [d1, d2] => { results := [.lit (.bool true)], args := [d1, d2] }
  | _ => none }
def allRow : OpenClaim := { program := "ytbkfildnijjioaagreat", sum := "d826f8e61cbfcd4394efc103b0df0a72077e5fdbcc88b59023742ff8417f6586", func := "donate/donatelaw.All", spec := "all", recurses := true, apart := false }
def AllSaid : Prop := allRow.holds Tryz.pinned (OpenSpec.ofChange allSpec)

/-- ITS FALSE NEIGHBOUR: 'it returns false'. Refute it at one input. -/
def allWrong : ChangeSpec := { name := "all", fn := fun _ => fun
  | [d1, d2] => { results := [.lit (.bool false)], args := [d1, d2] }
  | _ => none }
def AllWrongFalsely : Prop := allRow.holds Tryz.pinned (OpenSpec.ofChange allWrong)

/- THE SECOND FORM. 'bulk': how many values and letters a reading holds, each counted each time it is reached (what is shared counts as often as it is met; a slice's spare places count too). A statement '..UptoSaid' is the law's where the arguments, and the package variables that the reading takes, are together of bulk at most 1048576: NARROWER than '..Said'. Prove '..Said' where nothing that the law and all that it calls make is longer than what came in: it says more and counts as full. Else prove '..UptoSaid'. A law counts once. -/
mutual
def uptoBulk {H : Type} : DataW H → Nat
  | .lit (.string bytes) => bytes.length + 1
  | .lit _ => 1
  | .nil => 1
  | .ptr d => uptoBulk d + 1
  | .slice elems spare => uptoBulkAll elems + uptoBulkAll spare + 1
  | .agg parts => uptoBulkAll parts + 1
  | .iface _ d => uptoBulk d + 1
  | .map entries => uptoBulkEntries entries + 1
  | .held _ => 1
def uptoBulkAll {H : Type} : List (DataW H) → Nat
  | [] => 0
  | d :: r => uptoBulk d + uptoBulkAll r
def uptoBulkEntries {H : Type} : List (Lit × DataW H) → Nat
  | [] => 0
  | x :: r => uptoBulkEntry x + uptoBulkEntries r
def uptoBulkEntry {H : Type} : Lit × DataW H → Nat
  | (.string bytes, d) => bytes.length + uptoBulk d + 1
  | (_, d) => uptoBulk d + 1
 end
def uptoSmall : (H : Type) → List (DataW H) → Bool := fun _ ds => decide (uptoBulkAll ds ≤ 1048576)
def OpenSpec.upto (s : _root_.Go.ChangeSpec) : _root_.Go.OpenSpec := { _root_.Go.OpenSpec.ofChange s with cond := some uptoSmall }

/-- 'donatelaw.News', WHERE WHAT IT READS IS OF BULK AT MOST 1048576: true; the input reads as it did. -/
def newsUptoRow : OpenClaim := { program := "ytbkfildnijjioaagreat", sum := "d826f8e61cbfcd4394efc103b0df0a72077e5fdbcc88b59023742ff8417f6586", func := "donate/donatelaw.News", spec := "news", recurses := true, apart := false, narrowed := true }
def NewsUptoSaid : Prop := newsUptoRow.holds Tryz.pinned (OpenSpec.upto newsSpec)

/-- 'donatelaw.Queued', WHERE WHAT IT READS IS OF BULK AT MOST 1048576: true; the input reads as it did. -/
def queuedUptoRow : OpenClaim := { program := "ytbkfildnijjioaagreat", sum := "d826f8e61cbfcd4394efc103b0df0a72077e5fdbcc88b59023742ff8417f6586", func := "donate/donatelaw.Queued", spec := "queued", recurses := true, apart := false, narrowed := true }
def QueuedUptoSaid : Prop := queuedUptoRow.holds Tryz.pinned (OpenSpec.upto queuedSpec)

/-- 'donatelaw.Timed', WHERE WHAT IT READS IS OF BULK AT MOST 1048576: true; the input reads as it did. -/
def timedUptoRow : OpenClaim := { program := "ytbkfildnijjioaagreat", sum := "d826f8e61cbfcd4394efc103b0df0a72077e5fdbcc88b59023742ff8417f6586", func := "donate/donatelaw.Timed", spec := "timed", recurses := true, apart := false, narrowed := true }
def TimedUptoSaid : Prop := timedUptoRow.holds Tryz.pinned (OpenSpec.upto timedSpec)

/-- 'donatelaw.Locked', WHERE WHAT IT READS IS OF BULK AT MOST 1048576: true; the input reads as it did. -/
def lockedUptoRow : OpenClaim := { program := "ytbkfildnijjioaagreat", sum := "d826f8e61cbfcd4394efc103b0df0a72077e5fdbcc88b59023742ff8417f6586", func := "donate/donatelaw.Locked", spec := "locked", recurses := true, apart := false, narrowed := true }
def LockedUptoSaid : Prop := lockedUptoRow.holds Tryz.pinned (OpenSpec.upto lockedSpec)

/-- 'donatelaw.Picks', WHERE WHAT IT READS IS OF BULK AT MOST 1048576: true; the input reads as it did. -/
def picksUptoRow : OpenClaim := { program := "ytbkfildnijjioaagreat", sum := "d826f8e61cbfcd4394efc103b0df0a72077e5fdbcc88b59023742ff8417f6586", func := "donate/donatelaw.Picks", spec := "picks", recurses := true, apart := false, narrowed := true }
def PicksUptoSaid : Prop := picksUptoRow.holds Tryz.pinned (OpenSpec.upto picksSpec)

/-- 'donatelaw.Seats', WHERE WHAT IT READS IS OF BULK AT MOST 1048576: true; the input reads as it did. -/
def seatsUptoRow : OpenClaim := { program := "ytbkfildnijjioaagreat", sum := "d826f8e61cbfcd4394efc103b0df0a72077e5fdbcc88b59023742ff8417f6586", func := "donate/donatelaw.Seats", spec := "seats", recurses := true, apart := false, narrowed := true }
def SeatsUptoSaid : Prop := seatsUptoRow.holds Tryz.pinned (OpenSpec.upto seatsSpec)

/-- 'donatelaw.Looks', WHERE WHAT IT READS IS OF BULK AT MOST 1048576: true; the input reads as it did. -/
def looksUptoRow : OpenClaim := { program := "ytbkfildnijjioaagreat", sum := "d826f8e61cbfcd4394efc103b0df0a72077e5fdbcc88b59023742ff8417f6586", func := "donate/donatelaw.Looks", spec := "looks", recurses := true, apart := false, narrowed := true }
def LooksUptoSaid : Prop := looksUptoRow.holds Tryz.pinned (OpenSpec.upto looksSpec)

/-- 'donatelaw.Stores', WHERE WHAT IT READS IS OF BULK AT MOST 1048576: true; the input reads as it did. -/
def storesUptoRow : OpenClaim := { program := "ytbkfildnijjioaagreat", sum := "d826f8e61cbfcd4394efc103b0df0a72077e5fdbcc88b59023742ff8417f6586", func := "donate/donatelaw.Stores", spec := "stores", recurses := true, apart := false, narrowed := true }
def StoresUptoSaid : Prop := storesUptoRow.holds Tryz.pinned (OpenSpec.upto storesSpec)

/-- 'donatelaw.Runs', WHERE WHAT IT READS IS OF BULK AT MOST 1048576: true; the input reads as it did. -/
def runsUptoRow : OpenClaim := { program := "ytbkfildnijjioaagreat", sum := "d826f8e61cbfcd4394efc103b0df0a72077e5fdbcc88b59023742ff8417f6586", func := "donate/donatelaw.Runs", spec := "runs", recurses := true, apart := false, narrowed := true }
def RunsUptoSaid : Prop := runsUptoRow.holds Tryz.pinned (OpenSpec.upto runsSpec)

/-- 'donatelaw.All', WHERE WHAT IT READS IS OF BULK AT MOST 1048576: true; the input reads as it did. -/
def allUptoRow : OpenClaim := { program := "ytbkfildnijjioaagreat", sum := "d826f8e61cbfcd4394efc103b0df0a72077e5fdbcc88b59023742ff8417f6586", func := "donate/donatelaw.All", spec := "all", recurses := true, apart := false, narrowed := true }
def AllUptoSaid : Prop := allUptoRow.holds Tryz.pinned (OpenSpec.upto allSpec)

end Rows
end Go.Proofs.YtbkfildnijjioaaGreat
