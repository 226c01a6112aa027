/-
  PROVED: the law handshakerlaw06.WritesFills returns true for any cell and value. No further conditions.
-/
import Derived.Test.YtjmilnfemjnhoaaWritesFillsR
import Derived.Test.YtjmilnfemjnhoaaWritesSaid
namespace Go.Proofs.Ytjmilnfemjnhoaa

theorem writesFills_holds : Rows.WritesFillsSaid := writesFills.over Writes.said
end Go.Proofs.Ytjmilnfemjnhoaa
