/-
  PROVED: the law handshakerlaw06.WritesBack returns true for any log, writes and flag. No further conditions.
-/
import Derived.Test.YtjmilnfemjnhoaaWritesBackR
import Derived.Test.YtjmilnfemjnhoaaWritesSaid
namespace Go.Proofs.Ytjmilnfemjnhoaa

theorem writesBack_holds : Rows.WritesBackSaid := writesBack.over Writes.said
end Go.Proofs.Ytjmilnfemjnhoaa
