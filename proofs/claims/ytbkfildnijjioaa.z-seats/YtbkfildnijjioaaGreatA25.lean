import Derived.Test.YtbkfildnijjioaaGreatA15
import Derived.Test.YtbkfildnijjioaaGreatA12
import Derived.Test.YtbkfildnijjioaaGreatA24
/-
  Seats, of this program.
-/
namespace Go.Proofs.YtbkfildnijjioaaGreat

theorem seats_holds : Rows.SeatsSaid := seats_of kframe cNew (cSee 4) cPick cTick

end Go.Proofs.YtbkfildnijjioaaGreat
