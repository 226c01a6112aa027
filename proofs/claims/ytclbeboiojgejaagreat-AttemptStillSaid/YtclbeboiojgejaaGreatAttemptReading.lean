/-
  PLAIN LEMMAS ON TRIES: what a step has read. No conditions beyond those that each theorem states.
-/
import Derived.Test.YtclbeboiojgejaaGreatAttG
namespace Go.Proofs.YtclbeboiojgejaaGreat.Attempt
open Go.ChangeShapes Go.WideShapes Go.ChangeAt Go.RowKit Mem Go.Proofs.YtclbeboiojgejaaGreat.Code

end Go.Proofs.YtclbeboiojgejaaGreat.Attempt
