/-
  PROVED: the law ReadsTells returns true for any reads (at most 40 are looked at), any read and any cell. No further conditions.
-/
import Derived.Test.YtemfkjcfafenjaaReadsTellsR
import Derived.Test.YtemfkjcfafenjaaReadsCode5
namespace Go.Proofs.Ytemfkjcfafenjaa

theorem readsTells_holds : Rows.ReadsTellsSaid := readsTells.over Reads.said
end Go.Proofs.Ytemfkjcfafenjaa
