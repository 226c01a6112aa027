/-
  PROVED: the law ShapeJoins returns true for any codes (at most 12, of at most 40 steps, of at most 20 operations each, are looked at). No further conditions.
-/
import Derived.Test.YtilfkohckmknkaaShapeJoinsR
namespace Go.Proofs.Ytilfkohckmknkaa

theorem shapeJoins_holds : Rows.ShapeJoinsSaid := shapeJoins.over
end Go.Proofs.Ytilfkohckmknkaa
