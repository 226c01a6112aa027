/-
  WHAT THE CHECK OF A STEP ALONE TELLS, in whole numbers.
-/
import Derived.Test.YtcjooibadbhjaaaCodeAwake
import Derived.Test.YtcjooibadbhjaaaCodeJoin
namespace Go.Proofs.Ytcjooibadbhjaaa.Code
open Go.ChangeShapes Go.WideShapes Go.ChangeAt Go.RowKit Mem

/-- May a step alone be? As a law on whole numbers; rk: its term is one of registers alone. -/
def May (dd aa b_ : Int) (n : Nat) (rk : Nat) : Prop :=
  (dd = 1 ∧ n = 0 ∧ 0 ≤ aa ∧ aa ≤ 7 ∧ 0 ≤ b_ ∧ b_ ≤ 63) ∨ (dd = 2 ∧ rk = 1 ∧ 0 ≤ aa ∧ aa ≤ 7 ∧ b_ = 0) ∨ (dd = 3 ∧ rk = 1 ∧ 0 ≤ aa ∧ aa ≤ 63 ∧ b_ = 0) ∨ (dd = 4 ∧ rk = 1 ∧ 1 ≤ aa ∧ aa ≤ 24 ∧ b_ = 0) ∨
  (dd = 5 ∧ n = 0 ∧ aa = 0 ∧ b_ = 0) ∨ (dd = 6 ∧ n = 0 ∧ 0 ≤ aa ∧ aa ≤ 255 ∧ b_ = 0) ∨ (dd = 7 ∧ n = 0 ∧ 1 ≤ aa ∧ aa ≤ 24 ∧ 1 ≤ b_ ∧ b_ ≤ 24)
theorem one_may (dd aa b_ : Int) (t : List Term.Op) (n rk : Nat) (hl : t.length = n) (hk : reckonsB t = decide (rk = 1)) : oneB ⟨dd, aa, b_, t⟩ = true ↔ May dd aa b_ n rk := by
  unfold oneB May
  rw [hl, hk]
  by_cases h1 : dd = 1
  · simp [h1]
  by_cases h2 : dd = 2
  · simp [h2]
  by_cases h3 : dd = 3
  · simp [h3]
  by_cases h4 : dd = 4
  · simp [h4]
  by_cases h5 : dd = 5
  · simp [h5]
  by_cases h6 : dd = 6
  · simp [h6]
  simp [h1, h2, h3, h4, h5, h6]
theorem term_cells_le (t : List Term.Op) : (Term.cellsS t).length ≤ 64 := by
  unfold Term.cellsS; split
  · exact pick_len _ _
  · exact Nat.zero_le _
theorem alone (dd aa b_ : Int) (t : List Term.Op) (n rk : Nat) (hl : t.length = n) (hk : reckonsB t = decide (rk = 1)) (v : Int) (hv : checkS [⟨dd, aa, b_, t⟩] = v) :
    (May dd aa b_ n rk ∧ (dd = 4 ∨ dd = 7) ∧ v = 2) ∨ (May dd aa b_ n rk ∧ ¬ (dd = 4 ∨ dd = 7) ∧ v = 0) ∨ (¬ May dd aa b_ n rk ∧ v = 1) := by
  have h := one_may dd aa b_ t n rk hl hk
  rw [← hv, one_check]
  by_cases hm : May dd aa b_ n rk
  · rw [if_pos (h.2 hm)]
    by_cases hd : dd = 4 ∨ dd = 7
    · exact .inl ⟨hm, hd, if_pos hd⟩
    · exact .inr (.inl ⟨hm, hd, if_neg hd⟩)
  · rw [if_neg (fun e => hm (h.1 e))]
    exact .inr (.inr ⟨hm, rfl⟩)
end Go.Proofs.Ytcjooibadbhjaaa.Code
