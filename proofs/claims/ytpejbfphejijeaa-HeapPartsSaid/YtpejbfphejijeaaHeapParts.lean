/-
  PROVED: the law HeapParts returns true for whatever it is handed. No further conditions.
-/
import Derived.Test.YtpejbfphejijeaaHeapPartsR
import Derived.Test.YtpejbfphejijeaaHeapCode3
namespace Go.Proofs.Ytpejbfphejijeaa

theorem heapParts_holds : Rows.HeapPartsSaid := heapParts.over Heap.said
end Go.Proofs.Ytpejbfphejijeaa
