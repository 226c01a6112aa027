/-
  PROVED: the law CodeSkips returns true for any two numbers. No further conditions.
-/
import Derived.Test.YtcjooibadbhjaaaCodeSkipsR
import Derived.Test.YtcjooibadbhjaaaCodeCode3
namespace Go.Proofs.Ytcjooibadbhjaaa

theorem codeSkips_holds : Rows.CodeSkipsSaid := codeSkips.over Code.said
end Go.Proofs.Ytcjooibadbhjaaa
