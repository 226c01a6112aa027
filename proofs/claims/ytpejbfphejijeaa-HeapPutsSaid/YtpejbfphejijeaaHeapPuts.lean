/-
  PROVED: the law HeapPuts returns true for any slice of cells and any slice of writes. No further conditions.
-/
import Derived.Test.YtpejbfphejijeaaHeapPutsR
import Derived.Test.YtpejbfphejijeaaHeapCode3
namespace Go.Proofs.Ytpejbfphejijeaa

theorem heapPuts_holds : Rows.HeapPutsSaid := heapPuts.over Heap.said
end Go.Proofs.Ytpejbfphejijeaa
