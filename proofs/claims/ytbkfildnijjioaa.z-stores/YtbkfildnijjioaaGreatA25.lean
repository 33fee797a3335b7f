import Derived.Test.YtbkfildnijjioaaGreatA15
import Derived.Test.YtbkfildnijjioaaGreatA12
import Derived.Test.YtbkfildnijjioaaGreatA24
/-
  Stores, of this program.
-/
namespace Go.Proofs.YtbkfildnijjioaaGreat

theorem stores_holds : Rows.StoresSaid := stores_of kframe cNew (cSee 32) cPick cTick

end Go.Proofs.YtbkfildnijjioaaGreat
