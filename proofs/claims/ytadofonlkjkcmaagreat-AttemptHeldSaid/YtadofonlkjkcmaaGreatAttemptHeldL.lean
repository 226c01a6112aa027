/-
  PROVED: the law AttemptHeld returns true for any steps, any three bytes and any cells (at most 40 steps, of at most 20 operations each, and 64 cells are looked at). No further conditions.
-/
import Derived.Test.YtadofonlkjkcmaaGreatAttemptHeldR
namespace Go.Proofs.YtadofonlkjkcmaaGreat

theorem attemptHeld_holds : Rows.AttemptHeldSaid := attemptHeld.over
end Go.Proofs.YtadofonlkjkcmaaGreat
