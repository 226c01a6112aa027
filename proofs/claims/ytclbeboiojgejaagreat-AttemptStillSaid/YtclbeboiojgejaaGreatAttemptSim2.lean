/-
  PLAIN LEMMAS ON TRIES: how a try has ended, beside how the model's run ends. No conditions beyond those that each theorem states.
-/
import Derived.Test.YtclbeboiojgejaaGreatAttemptSim
import Derived.Test.YtclbeboiojgejaaGreatAttE
import Derived.Test.YtclbeboiojgejaaGreatReadsA
namespace Go.Proofs.YtclbeboiojgejaaGreat.Attempt
open Mem Go.Proofs.YtclbeboiojgejaaGreat.Code
open Model (St CS)

section
variable {c : List Step} {h : List Heap.Cell} {t T : Try} {r : List Stripe.Rec} {S : St}
end
end Go.Proofs.YtclbeboiojgejaaGreat.Attempt
