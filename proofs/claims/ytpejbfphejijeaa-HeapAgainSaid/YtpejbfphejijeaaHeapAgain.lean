/-
  PROVED: the law HeapAgain returns true for any slice of cells, any whole number of 64 bits and any of 32 bits. No further conditions.
-/
import Derived.Test.YtpejbfphejijeaaHeapAgainR
import Derived.Test.YtpejbfphejijeaaHeapCode3
namespace Go.Proofs.Ytpejbfphejijeaa

theorem heapAgain_holds : Rows.HeapAgainSaid := heapAgain.over Heap.said
end Go.Proofs.Ytpejbfphejijeaa
