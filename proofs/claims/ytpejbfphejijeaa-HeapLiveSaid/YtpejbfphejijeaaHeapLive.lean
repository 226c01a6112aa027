/-
  PROVED: the law HeapLive returns true for any slice of cells and any whole number of 32 bits. No further conditions.
-/
import Derived.Test.YtpejbfphejijeaaHeapLiveR
import Derived.Test.YtpejbfphejijeaaHeapCode3
namespace Go.Proofs.Ytpejbfphejijeaa

theorem heapLive_holds : Rows.HeapLiveSaid := heapLive.over Heap.said
end Go.Proofs.Ytpejbfphejijeaa
