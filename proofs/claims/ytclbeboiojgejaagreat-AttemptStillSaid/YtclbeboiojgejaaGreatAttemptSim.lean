/-
  PLAIN LEMMAS ON TRIES: what a try stands for, as a run of the model; its frames are the parts around. No conditions beyond those that each theorem states. Nothing of the program is named here.
-/
import Derived.Test.YtclbeboiojgejaaGreatAttE
import Derived.Test.YtclbeboiojgejaaGreatModelA
namespace Go.Proofs.YtclbeboiojgejaaGreat.Attempt
open Mem Go.Proofs.YtclbeboiojgejaaGreat.Code
open Model (St CS)

section
variable {c : List Step} {h : List Heap.Cell} {t u : Try} {s : Step} {r : List Stripe.Rec}
end
end Go.Proofs.YtclbeboiojgejaaGreat.Attempt
