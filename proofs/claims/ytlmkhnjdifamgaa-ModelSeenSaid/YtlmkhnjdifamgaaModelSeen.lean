/-
  PROVED: the law ModelSeen returns true for any steps (at most 40, of at most 20 operations each), any cells (at most 64 are looked at) and any numbers. No further conditions.
-/
import Derived.Test.YtlmkhnjdifamgaaModelSeenR
import Derived.Test.YtlmkhnjdifamgaaModelRunYes
namespace Go.Proofs.Ytlmkhnjdifamgaa

theorem modelSeen_holds : Rows.ModelSeenSaid := modelSeen.over Model.said
end Go.Proofs.Ytlmkhnjdifamgaa
