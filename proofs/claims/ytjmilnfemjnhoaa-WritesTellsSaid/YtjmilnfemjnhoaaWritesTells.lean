/-
  PROVED: the law handshakerlaw06.WritesTells returns true for any log, write and cell. No further conditions.
-/
import Derived.Test.YtjmilnfemjnhoaaWritesTellsR
import Derived.Test.YtjmilnfemjnhoaaWritesSaid
namespace Go.Proofs.Ytjmilnfemjnhoaa

theorem writesTells_holds : Rows.WritesTellsSaid := writesTells.over Writes.said
end Go.Proofs.Ytjmilnfemjnhoaa
