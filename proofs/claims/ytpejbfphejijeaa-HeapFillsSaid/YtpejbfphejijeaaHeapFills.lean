/-
  PROVED: the law HeapFills returns true for any whole number of 64 bits and any of 32 bits. No further conditions.
-/
import Derived.Test.YtpejbfphejijeaaHeapFillsR
import Derived.Test.YtpejbfphejijeaaHeapCode3
namespace Go.Proofs.Ytpejbfphejijeaa

theorem heapFills_holds : Rows.HeapFillsSaid := heapFills.over Heap.said
end Go.Proofs.Ytpejbfphejijeaa
