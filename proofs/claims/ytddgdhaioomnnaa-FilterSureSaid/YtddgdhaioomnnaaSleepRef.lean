/-
  WHAT THE DOCUMENT'S ANSWER FOR LAYER 15 RETURNS: One, Right, Find.
-/
import Derived.Test.YtddgdhaioomnnaaSleepMem
import Derived.Test.YtddgdhaioomnnaaTermA
import Derived.Test.YtddgdhaioomnnaaReadsA
import Derived.Deep.QuietTactic
import Derived.BigQuiet
namespace Go.Proofs.Ytddgdhaioomnnaa.Sleep
open Go.ChangeShapes Go.WideShapes Go.ChangeAt Go.RowKit Mem
open Heap (Write)

theorem termcells_len (T : List Term.Op) : (Term.cellsS T).length ≤ 64 := by
  unfold Term.cellsS
  split
  · exact pick_len _ _
  · simp
def hasReg (T : List Term.Op) : Bool := T.any (fun o => decide (o.kind = 3))
end Go.Proofs.Ytddgdhaioomnnaa.Sleep
