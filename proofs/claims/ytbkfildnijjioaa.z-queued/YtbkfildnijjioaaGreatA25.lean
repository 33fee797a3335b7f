import Derived.Test.YtbkfildnijjioaaGreatA14
import Derived.Test.YtbkfildnijjioaaGreatA12
import Derived.Test.YtbkfildnijjioaaGreatA24
/-
  Queued, of this program.
-/
namespace Go.Proofs.YtbkfildnijjioaaGreat

theorem queued_holds : Rows.QueuedSaid := queued_of kframe (cNew' _) (cSee 13) cPick

end Go.Proofs.YtbkfildnijjioaaGreat
