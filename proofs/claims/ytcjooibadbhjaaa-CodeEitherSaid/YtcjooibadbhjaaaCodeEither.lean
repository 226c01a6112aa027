/-
  PROVED: the law CodeEither returns true for any two lists of steps (at most 40 each, of at most 20 operations each, are looked at). No further conditions.
-/
import Derived.Test.YtcjooibadbhjaaaCodeEitherR
import Derived.Test.YtcjooibadbhjaaaCodeCode3
namespace Go.Proofs.Ytcjooibadbhjaaa

theorem codeEither_holds : Rows.CodeEitherSaid := codeEither.over Code.said
end Go.Proofs.Ytcjooibadbhjaaa
