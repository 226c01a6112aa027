/-
  WHAT EACH FUNCTION OF THE LAYER span, AND EACH OF ITS DOCUMENT'S ANSWER, RETURNS, for every whole number of 64 bits. No conditions but that the numbers fit 64 bits.
-/
import Derived.Test.YtcjooibadbhjaaaRows
import Derived.Test.YtcjooibadbhjaaaSpanPlain
import Derived.WalkKit
import Derived.ProofKit
import Derived.OpenShut
import Derived.Lib.Hide
namespace Go.Proofs.Ytcjooibadbhjaaa.Span
open Go.ChangeShapes Go.WideShapes Go.ChangeAt Go.RowKit

theorem ret_int {k : IntKind} {a b : Int} (h : a = b) : Ending.returned (.int k a) = .returned (.int k b) := by rw [h]
theorem ret_bool {a b : Bool} (h : a = b) : Ending.returned (.bool a) = .returned (.bool b) := by rw [h]

/-- Is it a value? -/
def rightB (n : Int) : Bool := decide (-2147483648 ≤ n ∧ n ≤ 2147483647)

theorem right_any (n : Int) (w : World) :
    Calls Try.prog 37 #[.int .i64 n] w fun e w' => e = .returned (.bool (rightB n)) ∧ w = w' := by
  by_cases h1 : -2147483648 ≤ n
  all_goals by_cases h2 : n ≤ 2147483647
  all_goals
    go_enter Try.func37, Try.ntmps37
    go_wp2
    go_ret
    exact ⟨ret_bool (by unfold rightB; simp [h1, h2]), rfl⟩





/-- 1 for true, 0 for false. -/
def truthI (b : Bool) : Int := if b then 1 else 0


theorem refright_any (n : Int) (w : World) :
    Calls Try.prog 60 #[.int .i64 n] w fun e w' => e = .returned (.bool (rightB n)) ∧ w = w' := by
  by_cases h1 : -2147483648 ≤ n
  all_goals by_cases h2 : n ≤ 2147483647
  all_goals
    go_enter Try.func60, Try.ntmps60
    go_wp2
    go_ret
    exact ⟨ret_bool (by unfold rightB; simp [h1, h2]), rfl⟩




end Go.Proofs.Ytcjooibadbhjaaa.Span
