import Derived.Test.YtbkfildnijjioaaGreatA15
import Derived.Test.YtbkfildnijjioaaGreatA12
import Derived.Test.YtbkfildnijjioaaGreatA24
/-
  Picks, of this program.
-/
namespace Go.Proofs.YtbkfildnijjioaaGreat

theorem picks_holds : Rows.PicksSaid := picks_of kframe cNew (cSee 1) cPick cTick

end Go.Proofs.YtbkfildnijjioaaGreat
