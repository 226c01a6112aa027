/-
  PROVED: the law ReadsParts returns true for any reads, any table, anybody, any heap, any cut and any turn. No further conditions.
-/
import Derived.Test.YtemfkjcfafenjaaReadsPartsR
import Derived.Test.YtemfkjcfafenjaaReadsCode5
namespace Go.Proofs.Ytemfkjcfafenjaa

theorem readsParts_holds : Rows.ReadsPartsSaid := readsParts.over Reads.said
end Go.Proofs.Ytemfkjcfafenjaa
