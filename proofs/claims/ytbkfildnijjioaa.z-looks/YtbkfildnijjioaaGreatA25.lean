import Derived.Test.YtbkfildnijjioaaGreatA15
import Derived.Test.YtbkfildnijjioaaGreatA12
import Derived.Test.YtbkfildnijjioaaGreatA24
/-
  Looks, of this program.
-/
namespace Go.Proofs.YtbkfildnijjioaaGreat

theorem looks_holds : Rows.LooksSaid := looks_of kframe cNew (cSee 8) cPick cTick

end Go.Proofs.YtbkfildnijjioaaGreat
