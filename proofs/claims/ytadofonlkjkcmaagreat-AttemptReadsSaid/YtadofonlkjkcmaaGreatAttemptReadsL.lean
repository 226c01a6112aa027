/-
  PROVED: the law AttemptReads returns true for any steps, any two numbers and any worlds (at most 40 steps, of at most 20 operations each, and 60 worlds, of at most 80 cells and 30 records each, are looked at). No further conditions.
-/
import Derived.Test.YtadofonlkjkcmaaGreatAttemptReadsR
namespace Go.Proofs.YtadofonlkjkcmaaGreat

theorem attemptReads_holds : Rows.AttemptReadsSaid := attemptReads.over
end Go.Proofs.YtadofonlkjkcmaaGreat
