/-
  PROVED: the law AttemptStill returns true for any steps, any three numbers and any world (at most 40 steps, of at most 20 operations each, and a world of at most 80 cells and 30 records are looked at). No further conditions.
-/
import Derived.Test.YtclbeboiojgejaaGreatAttemptStillR
namespace Go.Proofs.YtclbeboiojgejaaGreat

theorem attemptStill_holds : Rows.AttemptStillSaid := attemptStill.over
end Go.Proofs.YtclbeboiojgejaaGreat
