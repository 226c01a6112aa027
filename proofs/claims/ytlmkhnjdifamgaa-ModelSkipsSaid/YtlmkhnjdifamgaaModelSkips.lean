/-
  PROVED: the law ModelSkips returns true for any steps, any number and any cells (at most 20 steps, of at most 20 operations each, and 64 cells are looked at). No further conditions.
-/
import Derived.Test.YtlmkhnjdifamgaaModelSkipsR
import Derived.Test.YtlmkhnjdifamgaaModelRunYes
namespace Go.Proofs.Ytlmkhnjdifamgaa

theorem modelSkips_holds : Rows.ModelSkipsSaid := modelSkips.over Model.said
end Go.Proofs.Ytlmkhnjdifamgaa
