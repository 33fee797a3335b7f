import Derived.Test.YtbkfildnijjioaaGreatA15
import Derived.Test.YtbkfildnijjioaaGreatA12
import Derived.Test.YtbkfildnijjioaaGreatA24
/-
  Locked, of this program.
-/
namespace Go.Proofs.YtbkfildnijjioaaGreat

theorem locked_holds : Rows.LockedSaid := locked_of kframe (cNew' _) (cSee 31) cPick cTick

end Go.Proofs.YtbkfildnijjioaaGreat
