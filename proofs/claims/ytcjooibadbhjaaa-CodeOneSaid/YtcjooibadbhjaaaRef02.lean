/-
  WHAT EACH FUNCTION OF THE DOCUMENT'S ANSWER FOR LAYER 2 RETURNS.
-/
import Derived.Test.YtcjooibadbhjaaaRows
import Derived.Test.YtcjooibadbhjaaaHeapPlain
import Derived.LoopTactic
import Derived.Deep.QuietTactic
import Derived.BigQuiet
import Derived.RegionTactic
import Derived.Laws.StructEq
namespace Go.Proofs.Ytcjooibadbhjaaa.Heap
open Go.ChangeShapes Go.WideShapes Go.ChangeAt Go.RowKit Mem


theorem ref01right_any (n : Int) (w : World) :
    Calls Try.prog 60 #[.int .i64 n] w fun e w' => e = .returned (.bool (vB n)) ∧ w = w' := by
  by_cases h1 : -2147483648 ≤ n
  all_goals by_cases h2 : n ≤ 2147483647
  all_goals
    go_enter Try.func60, Try.ntmps60
    go_wp2
    go_ret
    exact ⟨ret_bool (by unfold vB; simp [h1, h2]), rfl⟩



end Go.Proofs.Ytcjooibadbhjaaa.Heap
