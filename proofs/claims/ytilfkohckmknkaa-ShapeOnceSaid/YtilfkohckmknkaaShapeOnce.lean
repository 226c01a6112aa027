/-
  PROVED: the law ShapeOnce returns true for any bytes (at most 400, of which the first one is at most 20, are looked at). No further conditions.
-/
import Derived.Test.YtilfkohckmknkaaShapeOnceR
namespace Go.Proofs.Ytilfkohckmknkaa

theorem shapeOnce_holds : Rows.ShapeOnceSaid := shapeOnce.over
end Go.Proofs.Ytilfkohckmknkaa
