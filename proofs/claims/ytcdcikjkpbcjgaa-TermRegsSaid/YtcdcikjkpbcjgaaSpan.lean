/-
  WHAT EACH FUNCTION OF THE LAYER span, AND EACH OF ITS DOCUMENT'S ANSWER, RETURNS, for every whole number of 64 bits. No conditions but that the numbers fit 64 bits.
-/
import Derived.Test.YtcdcikjkpbcjgaaRows
import Derived.Test.YtcdcikjkpbcjgaaSpanPlain
import Derived.WalkKit
import Derived.ProofKit
import Derived.OpenShut
import Derived.Lib.Hide
namespace Go.Proofs.Ytcdcikjkpbcjgaa.Span
open Go.ChangeShapes Go.WideShapes Go.ChangeAt Go.RowKit

theorem ret_int {k : IntKind} {a b : Int} (h : a = b) : Ending.returned (.int k a) = .returned (.int k b) := by rw [h]
theorem ret_bool {a b : Bool} (h : a = b) : Ending.returned (.bool a) = .returned (.bool b) := by rw [h]

/-- Is it a value? -/
def rightB (n : Int) : Bool := decide (-2147483648 ≤ n ∧ n ≤ 2147483647)

theorem right_any (n : Int) (w : World) :
    Calls Try.prog 44 #[.int .i64 n] w fun e w' => e = .returned (.bool (rightB n)) ∧ w = w' := by
  by_cases h1 : -2147483648 ≤ n
  all_goals by_cases h2 : n ≤ 2147483647
  all_goals
    go_enter Try.func44, Try.ntmps44
    go_wp2
    go_ret
    exact ⟨ret_bool (by unfold rightB; simp [h1, h2]), rfl⟩

theorem wrap_any (n : Int) (w : World) :
    Calls Try.prog 20 #[.int .i64 n] w fun e w' => e = .returned (.int .i64 (sw n)) ∧ w = w' := by
  have hb := sw_bd n
  have e : wrap32 n = sw n := by unfold wrap32 sw; rfl
  go_enter Try.func20, Try.ntmps20
  go_wp2
  go_ret
  exact ⟨rfl, rfl⟩

theorem add_any (a b : Int) (w : World) :
    Calls Try.prog 48 #[.int .i64 a, .int .i64 b] w fun e w' => e = .returned (.int .i64 (sw (a + b))) ∧ w = w' := by
  have ha := sw_bd a
  have hb := sw_bd b
  go_enter Try.func48, Try.ntmps48
  go_wp2_with (go_at_call 20; refine (wrap_any _ _).mono ?_; rintro e w' ⟨rfl, rfl⟩)
  go_ret
  exact ⟨ret_int (sw_add a b), rfl⟩

theorem sub_any (a b : Int) (w : World) :
    Calls Try.prog 49 #[.int .i64 a, .int .i64 b] w fun e w' => e = .returned (.int .i64 (sw (a - b))) ∧ w = w' := by
  have ha := sw_bd a
  have hb := sw_bd b
  go_enter Try.func49, Try.ntmps49
  go_wp2_with (go_at_call 20; refine (wrap_any _ _).mono ?_; rintro e w' ⟨rfl, rfl⟩)
  go_ret
  exact ⟨ret_int (sw_sub a b), rfl⟩

theorem mul_any (a b : Int) (w : World) :
    Calls Try.prog 50 #[.int .i64 a, .int .i64 b] w fun e w' => e = .returned (.int .i64 (sw (a * b))) ∧ w = w' := by
  have ha := sw_bd a
  have hb := sw_bd b
  have hm := mul_bd (sw a) (sw b) ha (by omega)
  go_enter Try.func50, Try.ntmps50
  go_wp2_with (go_at_call 20; refine (wrap_any _ _).mono ?_; rintro e w' ⟨rfl, rfl⟩)
  go_ret
  exact ⟨ret_int (sw_mul a b), rfl⟩

/-- 1 for true, 0 for false. -/
def truthI (b : Bool) : Int := if b then 1 else 0

theorem truth_any (b : Bool) (w : World) :
    Calls Try.prog 37 #[.bool b] w fun e w' => e = .returned (.int .i64 (truthI b)) ∧ w = w' := by
  cases b
  all_goals
    go_enter Try.func37, Try.ntmps37
    go_wp2
    go_ret
    exact ⟨rfl, rfl⟩

theorem refright_any (n : Int) (w : World) :
    Calls Try.prog 39 #[.int .i64 n] w fun e w' => e = .returned (.bool (rightB n)) ∧ w = w' := by
  by_cases h1 : -2147483648 ≤ n
  all_goals by_cases h2 : n ≤ 2147483647
  all_goals
    go_enter Try.func39, Try.ntmps39
    go_wp2
    go_ret
    exact ⟨ret_bool (by unfold rightB; simp [h1, h2]), rfl⟩

theorem refwrap_any (n : Int) (w : World) :
    Calls Try.prog 41 #[.int .i64 n] w fun e w' => e = .returned (.int .i64 (sw n)) ∧ w = w' := by
  obtain ⟨hb1, hb2⟩ := rem_bd n
  go_enter Try.func41, Try.ntmps41
  go_wp2
  all_goals
    go_ret
    obtain ⟨r1, r2, r3⟩ := rem_sw n
    exact ⟨ret_int (by omega), rfl⟩

theorem refmul_any (a b : Int) (w : World) :
    Calls Try.prog 51 #[.int .i64 a, .int .i64 b] w fun e w' => e = .returned (.int .i64 (sw (a * b))) ∧ w = w' := by
  obtain ⟨ha1, ha2⟩ := sw_bd a
  obtain ⟨hb1, hb2⟩ := sw_bd b
  have hf := Lib.hid (half_mul a b)
  obtain ⟨⟨hl1, hl2⟩, ⟨hh1, hh2⟩, hy⟩ := half_bd (sw b) (sw_bd b)
  clear hy
  obtain ⟨m1, m2⟩ := mul_bd (sw a) ((sw b).tmod 65536) (by omega) (by omega)
  obtain ⟨m3, m4⟩ := mul_bd (sw a) ((sw b - (sw b).tmod 65536).tdiv 65536) (by omega) (by omega)
  obtain ⟨m5, m6⟩ := sw_bd (sw a * (sw b - (sw b).tmod 65536).tdiv 65536)
  go_enter Try.func51, Try.ntmps51
  go_wp2_with (go_at_call 41; refine (refwrap_any _ _).mono ?_; rintro e w' ⟨rfl, rfl⟩)
  go_ret
  exact ⟨ret_int hf.out, rfl⟩


end Go.Proofs.Ytcdcikjkpbcjgaa.Span
