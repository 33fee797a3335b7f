import Derived.Test.YthnjabnlocpoaaaGreatB21
import Derived.Test.YthnjabnlocpoaaaGreatB22
/-
  Queued, of this program.
-/
namespace Go.Proofs.YthnjabnlocpoaaaGreat

theorem queued_holds : Rows.QueuedSaid := queued_of KPL.frame (KPL.new (by decide)) (KPL.see 13 (by decide)) KPL.pick

end Go.Proofs.YthnjabnlocpoaaaGreat
