/-
  PROVED: the law CodeTells returns true for any steps (at most 40, of at most 20 operations each, are looked at). No further conditions.
-/
import Derived.Test.YtcjooibadbhjaaaCodeTellsR
import Derived.Test.YtcjooibadbhjaaaCodeCode3
namespace Go.Proofs.Ytcjooibadbhjaaa

theorem codeTells_holds : Rows.CodeTellsSaid := codeTells.over Code.said
end Go.Proofs.Ytcjooibadbhjaaa
