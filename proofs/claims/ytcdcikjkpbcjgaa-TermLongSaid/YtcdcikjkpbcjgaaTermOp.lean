/-
  THE TYPE OF A TERM, as appends ask of it.
-/
import Derived.Test.YtcdcikjkpbcjgaaTermLaw
namespace Go.Proofs.Ytcdcikjkpbcjgaa.Term
open Go.ChangeShapes Go.WideShapes Go.ChangeAt Go.RowKit Mem

theorem own_eq {w0 w : World} {e size n : Nat} {v : Value} {xs ys : List Value} (h : Own w0 w e size v n xs) (he : xs = ys) : Own w0 w e size v n ys := he ▸ h
theorem tOp : SliceT Try.prog 22 44 2 16 := SliceT.mk_ (z := .agg #[.int .i64 0, .int .i64 0]) Try.underlying22 (by kernel_rfl) rfl (by decide)
end Go.Proofs.Ytcdcikjkpbcjgaa.Term
