/-
  PROVED: the law TermTells returns true for any operations, any cells and any registers (at most 30, 100 and 20 are looked at). No further conditions.
-/
import Derived.Test.YtcdcikjkpbcjgaaTermTellsR
namespace Go.Proofs.Ytcdcikjkpbcjgaa

theorem termTells_holds : Rows.TermTellsSaid := termTells.over
end Go.Proofs.Ytcdcikjkpbcjgaa
