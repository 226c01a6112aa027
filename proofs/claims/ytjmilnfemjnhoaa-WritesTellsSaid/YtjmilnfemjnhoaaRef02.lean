/-
  WHAT EACH FUNCTION OF THE DOCUMENT'S ANSWER FOR LAYER 2 RETURNS.
-/
import Derived.Test.YtjmilnfemjnhoaaRows
import Derived.Test.YtjmilnfemjnhoaaHeapPlain
import Derived.LoopTactic
import Derived.Deep.QuietTactic
import Derived.BigQuiet
import Derived.RegionTactic
import Derived.Laws.StructEq
namespace Go.Proofs.Ytjmilnfemjnhoaa.Heap
open Go.ChangeShapes Go.WideShapes Go.ChangeAt Go.RowKit Mem

theorem tCell : SliceT Try.prog 50 54 2 16 := SliceT.mk_ (z := .agg #[.bool false, .int .i64 0]) Try.underlying50 (by kernel_rfl) rfl (by decide)

theorem ref01right_any (n : Int) (w : World) :
    Calls Try.prog 41 #[.int .i64 n] w fun e w' => e = .returned (.bool (vB n)) ∧ w = w' := by
  by_cases h1 : -2147483648 ≤ n
  all_goals by_cases h2 : n ≤ 2147483647
  all_goals
    go_enter Try.func41, Try.ntmps41
    go_wp2
    go_ret
    exact ⟨ret_bool (by unfold vB; simp [h1, h2]), rfl⟩



end Go.Proofs.Ytjmilnfemjnhoaa.Heap
