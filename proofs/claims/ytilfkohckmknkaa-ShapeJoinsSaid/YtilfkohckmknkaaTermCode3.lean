/-
  WHAT EACH FUNCTION OF THE LAYER term RETURNS, AS IT IS WRITTEN: tell.
-/
import Derived.Test.YtilfkohckmknkaaTermCode2
namespace Go.Proofs.Ytilfkohckmknkaa.Term
open Go.ChangeShapes Go.WideShapes Go.ChangeAt Go.RowKit Mem

theorem heap_told (h : List Heap.Cell) (hr : Heap.rightB h = true) (nn : Int) (rg : List Int) (ys : List Int) : Heap.getS h nn = told (tellS h rg ⟨2, nn⟩ ys) := by
  unfold Heap.getS tellS
  rw [if_pos hr]
  cases hl : Heap.liveAt h nn
  · simp [told]
  · simp [told]
end Go.Proofs.Ytilfkohckmknkaa.Term
