/-
  A CODE'S SMALLNESS AS A NUMBER. No conditions beyond those that each theorem states.
-/
import Derived.Test.YtclbeboiojgejaaGreatAttG
namespace Go.Proofs.YtclbeboiojgejaaGreat.Attempt
open Go.ChangeShapes Go.WideShapes Go.ChangeAt Go.RowKit Mem Go.Proofs.YtclbeboiojgejaaGreat.Code

theorem small_val (l : List Raw) (n : Nat) (hl : l.length = n) (h : smallB l = true) : smallI l = (n : Int) := by unfold smallI; rw [if_pos h, hl]
theorem small_neg (l : List Raw) (h : smallB l = false) : smallI l = -1 := by unfold smallI; rw [h]; rfl
end Go.Proofs.YtclbeboiojgejaaGreat.Attempt
