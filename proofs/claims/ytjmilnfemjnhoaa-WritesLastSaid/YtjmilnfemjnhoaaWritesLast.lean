/-
  PROVED: the law handshakerlaw06.WritesLast returns true for any log and heap. No further conditions.
-/
import Derived.Test.YtjmilnfemjnhoaaWritesLastR
import Derived.Test.YtjmilnfemjnhoaaWritesSaid
namespace Go.Proofs.Ytjmilnfemjnhoaa

theorem writesLast_holds : Rows.WritesLastSaid := writesLast.over Writes.said
end Go.Proofs.Ytjmilnfemjnhoaa
