/-
  PROVED: the law TermLong returns true for any count, value and way of piling. No further conditions.
-/
import Derived.Test.YtcdcikjkpbcjgaaTermLongR
namespace Go.Proofs.Ytcdcikjkpbcjgaa

theorem termLong_holds : Rows.TermLongSaid := termLong.over
end Go.Proofs.Ytcdcikjkpbcjgaa
