/-
  PROVED: the law TermTwo returns true for any two lists of operations, any cells and registers (at most 5 operations each, 64 cells and 8 registers are looked at). No further conditions.
-/
import Derived.Test.YtcdcikjkpbcjgaaTermTwoR
namespace Go.Proofs.Ytcdcikjkpbcjgaa

theorem termTwo_holds : Rows.TermTwoSaid := termTwo.over
end Go.Proofs.Ytcdcikjkpbcjgaa
