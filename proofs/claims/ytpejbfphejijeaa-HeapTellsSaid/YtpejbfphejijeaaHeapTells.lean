/-
  PROVED: the law HeapTells returns true for any slice of cells, any two whole numbers of 64 bits and any slice of writes. No further conditions.
-/
import Derived.Test.YtpejbfphejijeaaHeapTellsR
import Derived.Test.YtpejbfphejijeaaHeapCode3
namespace Go.Proofs.Ytpejbfphejijeaa

theorem heapTells_holds : Rows.HeapTellsSaid := heapTells.over Heap.said
end Go.Proofs.Ytpejbfphejijeaa
