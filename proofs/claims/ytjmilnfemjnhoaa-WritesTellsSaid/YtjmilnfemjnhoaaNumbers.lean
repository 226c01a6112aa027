/-
  WHAT THE COMPARISON OF TWO LISTS OF NUMBERS RETURNS (handshakerref03.Numbers).
-/
import Derived.Test.YtjmilnfemjnhoaaRows
import Derived.Test.YtjmilnfemjnhoaaData
import Derived.LoopTactic
import Derived.Deep.QuietTactic
import Derived.BigQuiet
import Derived.RegionTactic
import Derived.Laws.StructEq
namespace Go.Proofs.Ytjmilnfemjnhoaa.Mem
open Go.ChangeShapes Go.WideShapes Go.ChangeAt Go.RowKit

theorem tInt : SliceT Try.prog 23 3 1 8 := SliceT.mk_ (z := .int .i64 0) Try.underlying23 (by kernel_rfl) rfl (by decide)


/-- The numbers fit 64 bits. -/
def Fits (n : Int) : Prop := -9223372036854775808 ≤ n ∧ n ≤ 9223372036854775807
theorem open_ints_ {H : Type} {enc : TypeId × Value → H} {W : World} {A : Option Addr} {n c : Nat} {d : DataW H} {p : List MemPlace}
    (h : DataW.Trod enc Try.prog W 0 (fun _ => true) true 23 (.slice A n c) d p) :
    n ≤ c ∧ c ≤ 9223372036854775807 ∧ ∃ xs : List Int, Rd W 1 A n (zs xs) ∧ xs.length = n ∧ ∀ x ∈ xs, Fits x := by
  refine open_rows Try.underlying23 1 (by kernel_rfl) (by decide) zc (fun _ => rfl) Fits ?_ h
  intro fuel cs' x hl ht
  obtain ⟨m, e1, _, wf⟩ := DataW.trod_int Try.underlying3 ht
  exact ⟨m, e1, bounds_i64 wf⟩
end Go.Proofs.Ytjmilnfemjnhoaa.Mem
