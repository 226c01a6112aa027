/-
  PROVED: the law ModelTells returns true for any steps and any cells (at most 40 steps, of at most 20 operations each, and 100 cells are looked at). No further conditions.
-/
import Derived.Test.YtbeeojccadeboaaGreatModelTellsR
import Derived.Test.YtbeeojccadeboaaGreatModelRunYes
namespace Go.Proofs.YtbeeojccadeboaaGreat

theorem modelTells_holds : Rows.ModelTellsSaid := modelTells.over Model.said
end Go.Proofs.YtbeeojccadeboaaGreat
