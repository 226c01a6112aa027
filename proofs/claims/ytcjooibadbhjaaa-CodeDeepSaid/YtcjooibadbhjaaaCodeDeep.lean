/-
  PROVED: the law CodeDeep returns true for any count of Eithers. No further conditions.
-/
import Derived.Test.YtcjooibadbhjaaaCodeDeepR
import Derived.Test.YtcjooibadbhjaaaCodeCode3
namespace Go.Proofs.Ytcjooibadbhjaaa

theorem codeDeep_holds : Rows.CodeDeepSaid := codeDeep.over Code.said
end Go.Proofs.Ytcjooibadbhjaaa
