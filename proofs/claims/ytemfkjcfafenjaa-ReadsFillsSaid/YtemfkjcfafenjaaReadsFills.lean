/-
  PROVED: the law ReadsFills returns true for any first cell, any version and any value of 16 bits. No further conditions.
-/
import Derived.Test.YtemfkjcfafenjaaReadsFillsR
import Derived.Test.YtemfkjcfafenjaaReadsCode5
namespace Go.Proofs.Ytemfkjcfafenjaa

theorem readsFills_holds : Rows.ReadsFillsSaid := readsFills.over Reads.said
end Go.Proofs.Ytemfkjcfafenjaa
