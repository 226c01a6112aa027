/-
  WHAT EACH FUNCTION OF THE DOCUMENT'S ANSWER FOR LAYER 2 RETURNS.
-/
import Derived.Test.YthgmjmecedhkoaaRows
import Derived.Test.YthgmjmecedhkoaaHeapPlain
import Derived.LoopTactic
import Derived.Deep.QuietTactic
import Derived.BigQuiet
import Derived.RegionTactic
import Derived.Laws.StructEq
namespace Go.Proofs.Ythgmjmecedhkoaa.Heap
open Go.ChangeShapes Go.WideShapes Go.ChangeAt Go.RowKit Mem

set_option maxRecDepth 100000 in
theorem tCell : SliceT Try.prog 29 33 2 16 := SliceT.mk_ (z := .agg #[.bool false, .int .i64 0]) Try.underlying29 (by kernel_rfl) rfl (by decide)




end Go.Proofs.Ythgmjmecedhkoaa.Heap
