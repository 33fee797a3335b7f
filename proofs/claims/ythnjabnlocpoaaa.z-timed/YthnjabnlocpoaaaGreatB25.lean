import Derived.Test.YthnjabnlocpoaaaGreatB23
import Derived.Test.YthnjabnlocpoaaaGreatB24
/-
  Timed, of this program.
-/
namespace Go.Proofs.YthnjabnlocpoaaaGreat

theorem timed_holds : Rows.TimedSaid := timed_of KPL.frame (KPL.new (by decide)) (KPL.see 15 (by decide)) KPL.pick KPL.tick

end Go.Proofs.YthnjabnlocpoaaaGreat
