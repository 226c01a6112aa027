/-
  WHAT THE DOCUMENT'S ANSWER FOR LAYER 2 RETURNS: Alloc, Put.
-/
import Derived.Test.YthgmjmecedhkoaaRef02b
namespace Go.Proofs.Ythgmjmecedhkoaa.Heap
open Go.ChangeShapes Go.WideShapes Go.ChangeAt Go.RowKit Mem

/-- A heap, a cell's number, and an error's number, are returned. -/
def RetA (w : World) (n : Nat) (r : List Cell × Int × Int) (e : Ending) (w' : World) : Prop :=
  ∃ B d, e = .returned (.tuple #[.slice B n d, .int .i64 r.2.1, .int .i64 r.2.2]) ∧ Rd w' 2 B n (cs r.1) ∧ Below w.heap.size w w'


end Go.Proofs.Ythgmjmecedhkoaa.Heap
