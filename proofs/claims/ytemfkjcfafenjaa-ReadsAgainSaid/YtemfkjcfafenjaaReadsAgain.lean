/-
  PROVED: the law ReadsAgain returns true for any reads, any read and any cell. No further conditions.
-/
import Derived.Test.YtemfkjcfafenjaaReadsAgainR
import Derived.Test.YtemfkjcfafenjaaReadsCode5
namespace Go.Proofs.Ytemfkjcfafenjaa

theorem readsAgain_holds : Rows.ReadsAgainSaid := readsAgain.over Reads.said
end Go.Proofs.Ytemfkjcfafenjaa
