/-
  PROVED: the law ShapeReads returns true for any bytes (at most 400, of which the first one is at most 20, are looked at). No further conditions.
-/
import Derived.Test.YtilfkohckmknkaaShapeReadsR
namespace Go.Proofs.Ytilfkohckmknkaa

theorem shapeReads_holds : Rows.ShapeReadsSaid := shapeReads.over
end Go.Proofs.Ytilfkohckmknkaa
