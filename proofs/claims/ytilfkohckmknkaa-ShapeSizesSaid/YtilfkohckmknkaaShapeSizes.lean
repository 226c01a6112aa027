/-
  PROVED: the law ShapeSizes returns true for any two lists of steps (at most 40 each, of at most 20 operations each, are looked at). No further conditions.
-/
import Derived.Test.YtilfkohckmknkaaShapeSizesR
namespace Go.Proofs.Ytilfkohckmknkaa

theorem shapeSizes_holds : Rows.ShapeSizesSaid := shapeSizes.over
end Go.Proofs.Ytilfkohckmknkaa
