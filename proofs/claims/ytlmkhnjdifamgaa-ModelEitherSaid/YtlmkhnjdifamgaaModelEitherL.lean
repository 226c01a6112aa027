/-
  PROVED: the law ModelEither returns true for any two lists of steps (at most 40 each, of at most 20 operations each) and any cells (at most 64 are looked at). No further conditions.
-/
import Derived.Test.YtlmkhnjdifamgaaModelEitherR
import Derived.Test.YtlmkhnjdifamgaaModelRunYes
namespace Go.Proofs.Ytlmkhnjdifamgaa

theorem modelEither_holds : Rows.ModelEitherSaid := modelEither.over Model.said
end Go.Proofs.Ytlmkhnjdifamgaa
