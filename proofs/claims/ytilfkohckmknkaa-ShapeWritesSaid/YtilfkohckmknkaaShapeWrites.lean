/-
  PROVED: the law ShapeWrites returns true for any codes (at most 12, of at most 40 steps, of at most 20 operations each, are looked at). No further conditions.
-/
import Derived.Test.YtilfkohckmknkaaShapeWritesR
namespace Go.Proofs.Ytilfkohckmknkaa

theorem shapeWrites_holds : Rows.ShapeWritesSaid := shapeWrites.over
end Go.Proofs.Ytilfkohckmknkaa
