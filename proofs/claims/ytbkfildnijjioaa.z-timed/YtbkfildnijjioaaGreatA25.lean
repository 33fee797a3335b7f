import Derived.Test.YtbkfildnijjioaaGreatA15
import Derived.Test.YtbkfildnijjioaaGreatA12
import Derived.Test.YtbkfildnijjioaaGreatA24
/-
  Timed, of this program.
-/
namespace Go.Proofs.YtbkfildnijjioaaGreat

theorem timed_holds : Rows.TimedSaid := timed_of kframe (cNew' _) (cSee 15) cPick cTick

end Go.Proofs.YtbkfildnijjioaaGreat
