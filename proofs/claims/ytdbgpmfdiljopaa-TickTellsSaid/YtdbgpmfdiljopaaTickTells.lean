/-
  PROVED: the law TickTells returns true for any two ints and any slice of ints (nil too), and leaves them as they were. No further conditions.
-/
import Derived.Test.YtdbgpmfdiljopaaTickTellsR
import Derived.Test.YtdbgpmfdiljopaaTickDueC
namespace Go.Proofs.Ytdbgpmfdiljopaa

theorem tickTells_holds : Rows.TickTellsSaid := tickTells.over Tick.said
end Go.Proofs.Ytdbgpmfdiljopaa
