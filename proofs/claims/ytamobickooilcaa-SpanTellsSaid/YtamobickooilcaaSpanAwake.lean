/-
  THE FIXED ANSWER OF THE LAYER span: the function awake returns true. No conditions.
-/
import Derived.Test.YtamobickooilcaaSpan
namespace Go.Proofs.Ytamobickooilcaa.Span
open Go.ChangeShapes Go.WideShapes Go.ChangeAt Go.RowKit

theorem awake_any (w : World) :
    Calls Try.prog 17 #[] w fun e w' => e = .returned (.bool true) ∧ w = w' := by
  have h1 : sw (2147483647 + 1) = -2147483648 := by decide
  have h2 : sw (-2147483648 - 1) = 2147483647 := by decide
  have h3 : sw (65536 * 65536) = 0 := by decide
  have h4 : sw 4294967301 = 5 := by decide
  have h5 : truthI true = 1 := rfl
  have h6 : truthI false = 0 := rfl
  have h7 : rightB (-2147483648) = true := by decide
  have h8 : rightB 2147483648 = false := by decide
  go_enter Try.func17, Try.ntmps17
  go_wp2_with (first
    | (go_at_call 13; refine (add_any _ _ _).mono ?_; rintro e w' ⟨rfl, rfl⟩)
    | (go_at_call 14; refine (sub_any _ _ _).mono ?_; rintro e w' ⟨rfl, rfl⟩)
    | (go_at_call 15; refine (mul_any _ _ _).mono ?_; rintro e w' ⟨rfl, rfl⟩)
    | (go_at_call 12; refine (wrap_any _ _).mono ?_; rintro e w' ⟨rfl, rfl⟩)
    | (go_at_call 18; refine (truth_any _ _).mono ?_; rintro e w' ⟨rfl, rfl⟩)
    | (go_at_call 10; refine (right_any _ _).mono ?_; rintro e w' ⟨rfl, rfl⟩))
  go_ret
  exact ⟨rfl, rfl⟩
end Go.Proofs.Ytamobickooilcaa.Span
