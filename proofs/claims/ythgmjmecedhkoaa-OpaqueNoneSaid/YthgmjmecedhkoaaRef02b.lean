/-
  WHAT THE DOCUMENT'S ANSWER FOR LAYER 2 RETURNS: Live, Get, Free, Alloc, Put.
-/
import Derived.Test.YthgmjmecedhkoaaRef02
import Derived.StillTailTactics
namespace Go.Proofs.Ythgmjmecedhkoaa.Heap
open Go.ChangeShapes Go.WideShapes Go.ChangeAt Go.RowKit Mem



/-- A heap, and an error's number, are returned. -/
def RetH (w : World) (n : Nat) (r : List Cell × Int) (e : Ending) (w' : World) : Prop :=
  ∃ B d, e = .returned (.tuple #[.slice B n d, .int .i64 r.2]) ∧ Rd w' 2 B n (cs r.1) ∧ Below w.heap.size w w'

end Go.Proofs.Ythgmjmecedhkoaa.Heap
