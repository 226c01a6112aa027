/-
  PROVED: the law handshakerlaw06.WritesKeeps returns true for any log and cell. No further conditions.
-/
import Derived.Test.YtjmilnfemjnhoaaWritesKeepsR
import Derived.Test.YtjmilnfemjnhoaaWritesSaid
namespace Go.Proofs.Ytjmilnfemjnhoaa

theorem writesKeeps_holds : Rows.WritesKeepsSaid := writesKeeps.over Writes.said
end Go.Proofs.Ytjmilnfemjnhoaa
