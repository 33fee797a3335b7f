import Derived.Test.YtbkfildnijjioaaGreatA12
import Derived.Test.YtbkfildnijjioaaGreatA24
/-
  News, of this program.
-/
namespace Go.Proofs.YtbkfildnijjioaaGreat

theorem news_holds : Rows.NewsSaid := news_of kframe cNew (cSee 14)

end Go.Proofs.YtbkfildnijjioaaGreat
