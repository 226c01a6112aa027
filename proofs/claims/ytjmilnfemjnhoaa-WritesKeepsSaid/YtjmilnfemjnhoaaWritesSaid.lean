/-
  ALL THE FUNCTIONS OF THE LAYER writes DO WHAT THE CHAPTER ASKS: the laws' premise 'Said' holds.
-/
import Derived.Test.YtjmilnfemjnhoaaWritesLaw
import Derived.Test.YtjmilnfemjnhoaaWritesCode3
import Derived.Test.YtjmilnfemjnhoaaWritesCode4
namespace Go.Proofs.Ytjmilnfemjnhoaa.Writes

theorem said : Said where
  right := right_c
  get := get_c
  put := put_p
  mark := mark_p
  back := back_p
  keep := keep_p
  last := last_c
end Go.Proofs.Ytjmilnfemjnhoaa.Writes
