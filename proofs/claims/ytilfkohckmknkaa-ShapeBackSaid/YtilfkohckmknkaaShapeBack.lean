/-
  PROVED: the law ShapeBack returns true for any codes, any place and any bytes (at most 12 codes, of at most 40 steps, of at most 20 operations each, and at most 20 bytes, are looked at). No further conditions.
-/
import Derived.Test.YtilfkohckmknkaaShapeBackR
namespace Go.Proofs.Ytilfkohckmknkaa

theorem shapeBack_holds : Rows.ShapeBackSaid := shapeBack.over
end Go.Proofs.Ytilfkohckmknkaa
