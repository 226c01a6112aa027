/-
  PROVED: the law TickDue returns true for any two ints and any slice of ints (nil too), and leaves them as they were. No further conditions.
-/
import Derived.Test.YtdbgpmfdiljopaaTickDueR
import Derived.Test.YtdbgpmfdiljopaaTickDueC
namespace Go.Proofs.Ytdbgpmfdiljopaa

theorem tickDue_holds : Rows.TickDueSaid := tickDue.over Tick.said
end Go.Proofs.Ytdbgpmfdiljopaa
