/-
  PROVED: the law TickFirst returns true for any slice of ints (nil too), and leaves it as it was. No further conditions.
-/
import Derived.Test.YtdbgpmfdiljopaaTickFirstR
import Derived.Test.YtdbgpmfdiljopaaTickDueC
namespace Go.Proofs.Ytdbgpmfdiljopaa

theorem tickFirst_holds : Rows.TickFirstSaid := tickFirst.over Tick.said
end Go.Proofs.Ytdbgpmfdiljopaa
