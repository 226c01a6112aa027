/-
  WHAT THE LAWS OF LAYER 8 ASK OF THE LAYER'S FUNCTIONS ('Said').
-/
import Derived.Test.YtilfkohckmknkaaCodeLaw2
namespace Go.Proofs.Ytilfkohckmknkaa.Code
open Go.ChangeShapes Go.WideShapes Go.ChangeAt Go.RowKit Mem

theorem cells_le (c : List Step) : (cellsS c).length ≤ 64 := by
  unfold cellsS; split
  · exact pick_len _ _
  · exact Nat.zero_le _
end Go.Proofs.Ytilfkohckmknkaa.Code
