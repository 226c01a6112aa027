/-
  PROVED: the law ReadsValid returns true for any reads, any table, anybody and any heap. No further conditions.
-/
import Derived.Test.YtemfkjcfafenjaaReadsValidR
import Derived.Test.YtemfkjcfafenjaaReadsCode5
namespace Go.Proofs.Ytemfkjcfafenjaa

theorem readsValid_holds : Rows.ReadsValidSaid := readsValid.over Reads.said
end Go.Proofs.Ytemfkjcfafenjaa
