/-
  PROVED: the law TickOrder returns true for any slice of ints (nil too) and any two ints, and leaves them as they were. No further conditions.
-/
import Derived.Test.YtdbgpmfdiljopaaTickOrderR
import Derived.Test.YtdbgpmfdiljopaaTickDueC
namespace Go.Proofs.Ytdbgpmfdiljopaa

theorem tickOrder_holds : Rows.TickOrderSaid := tickOrder.over Tick.said
end Go.Proofs.Ytdbgpmfdiljopaa
