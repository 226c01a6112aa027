/-
  PROVED: the law ModelNothing returns true for any steps and any cells (at most 40 steps, of at most 20 operations each, and 64 cells are looked at). No further conditions.
-/
import Derived.Test.YtlmkhnjdifamgaaModelNothingR
import Derived.Test.YtlmkhnjdifamgaaModelRunYes
namespace Go.Proofs.Ytlmkhnjdifamgaa

theorem modelNothing_holds : Rows.ModelNothingSaid := modelNothing.over Model.said
end Go.Proofs.Ytlmkhnjdifamgaa
