/-
  PROVED: the law ReadsStay returns true for any reads, any table, any two threads, any version and any cells. No further conditions.
-/
import Derived.Test.YtemfkjcfafenjaaReadsStayR
import Derived.Test.YtemfkjcfafenjaaReadsCode5
namespace Go.Proofs.Ytemfkjcfafenjaa

theorem readsStay_holds : Rows.ReadsStaySaid := readsStay.over Reads.said
end Go.Proofs.Ytemfkjcfafenjaa
