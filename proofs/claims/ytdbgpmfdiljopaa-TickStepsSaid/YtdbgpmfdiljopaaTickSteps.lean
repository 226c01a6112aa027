/-
  PROVED: the law TickSteps returns true for any uint32 and any uint8. No further conditions.
-/
import Derived.Test.YtdbgpmfdiljopaaTickStepsR
import Derived.Test.YtdbgpmfdiljopaaTickDueC
namespace Go.Proofs.Ytdbgpmfdiljopaa

theorem tickSteps_holds : Rows.TickStepsSaid := tickSteps.over Tick.said
end Go.Proofs.Ytdbgpmfdiljopaa
