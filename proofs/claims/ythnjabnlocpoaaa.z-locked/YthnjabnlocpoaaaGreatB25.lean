import Derived.Test.YthnjabnlocpoaaaGreatB23
import Derived.Test.YthnjabnlocpoaaaGreatB24
/-
  Locked, of this program.
-/
namespace Go.Proofs.YthnjabnlocpoaaaGreat

theorem locked_holds : Rows.LockedSaid := locked_of KPL.frame (KPL.new (by decide)) (KPL.see 31 (by decide)) KPL.pick KPL.tick

end Go.Proofs.YthnjabnlocpoaaaGreat
