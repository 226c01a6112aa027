/-
  PROVED: the law handshakerlaw06.WritesOther returns true for any log, write and cell. No further conditions.
-/
import Derived.Test.YtjmilnfemjnhoaaWritesOtherR
import Derived.Test.YtjmilnfemjnhoaaWritesSaid
namespace Go.Proofs.Ytjmilnfemjnhoaa

theorem writesOther_holds : Rows.WritesOtherSaid := writesOther.over Writes.said
end Go.Proofs.Ytjmilnfemjnhoaa
