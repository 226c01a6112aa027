/-
  PROVED: the law TermEqual returns true for any two lists of operations, any cells and registers (at most 5 operations each, 64 cells and 8 registers are looked at). No further conditions.
-/
import Derived.Test.YtcdcikjkpbcjgaaTermEqualR
namespace Go.Proofs.Ytcdcikjkpbcjgaa

theorem termEqual_holds : Rows.TermEqualSaid := termEqual.over
end Go.Proofs.Ytcdcikjkpbcjgaa
