/-
  WHAT THE DOCUMENT'S ANSWER FOR LAYER 5 RETURNS: Add, Cells.
-/
import Derived.Test.YthgmjmecedhkoaaReadsRef2
import Derived.Test.YthgmjmecedhkoaaNumbers
namespace Go.Proofs.Ythgmjmecedhkoaa.Reads
open Go.ChangeShapes Go.WideShapes Go.ChangeAt Go.RowKit Mem


def lenV : Value → Nat
  | .slice _ n _ => n
  | _ => 0
end Go.Proofs.Ythgmjmecedhkoaa.Reads
