/-
  PROVED: the law CodeBehind returns true for any two lists of steps (at most 40 each, of at most 20 operations each, are looked at). No further conditions.
-/
import Derived.Test.YtcjooibadbhjaaaCodeBehindR
import Derived.Test.YtcjooibadbhjaaaCodeCode3
namespace Go.Proofs.Ytcjooibadbhjaaa

theorem codeBehind_holds : Rows.CodeBehindSaid := codeBehind.over Code.said
end Go.Proofs.Ytcjooibadbhjaaa
