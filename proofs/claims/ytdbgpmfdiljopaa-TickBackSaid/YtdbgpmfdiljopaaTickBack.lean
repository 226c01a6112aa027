/-
  PROVED: the law TickBack returns true for any two ints. No further conditions.
-/
import Derived.Test.YtdbgpmfdiljopaaTickBackR
import Derived.Test.YtdbgpmfdiljopaaTickDueC
namespace Go.Proofs.Ytdbgpmfdiljopaa

theorem tickBack_holds : Rows.TickBackSaid := tickBack.over Tick.said
end Go.Proofs.Ytdbgpmfdiljopaa
