/-
  WHAT THE DOCUMENT'S ANSWER FOR LAYER 7 RETURNS: one, start, Check, truth, both.
-/
import Derived.Test.YtilfkohckmknkaaRows
import Derived.Test.YtilfkohckmknkaaTermPlain
import Derived.Test.YtilfkohckmknkaaHeapA
import Derived.Test.YtilfkohckmknkaaMemA
namespace Go.Proofs.Ytilfkohckmknkaa.Term
open Go.ChangeShapes Go.WideShapes Go.ChangeAt Go.RowKit Mem

theorem refone_any (kd nn : Int) (w : World) (b : Bool) (hb : oneB ⟨kd, nn⟩ = b) :
    Calls Try.prog 52 #[.agg #[.int .i64 kd, .int .i64 nn]] w (RetBG w b) := by
  subst hb
  by_cases k1 : kd = 1
  · subst k1
    go_enter Try.func52, Try.ntmps52
    go_wp2_with (go_at_call 60; refine (Span.refright_any _ _).mono ?_; rintro e w' ⟨rfl, rfl⟩)
    go_ret
    exact ⟨ret_bool rfl, (Grew.refl w).alloc _⟩
  by_cases k2 : kd = 2
  · subst k2
    rcases (by omega : (0 ≤ nn ∧ nn ≤ 63) ∨ (0 ≤ nn ∧ ¬ nn ≤ 63) ∨ ¬ 0 ≤ nn) with ⟨h1, h2⟩ | ⟨h1, h2⟩ | h1
    all_goals
      go_enter Try.func52, Try.ntmps52
      go_wp2
      go_ret
      exact ⟨ret_bool (by unfold oneB; simp; omega), (Grew.refl w).alloc _⟩
  by_cases k3 : kd = 3
  · subst k3
    rcases (by omega : (0 ≤ nn ∧ nn ≤ 7) ∨ (0 ≤ nn ∧ ¬ nn ≤ 7) ∨ ¬ 0 ≤ nn) with ⟨h1, h2⟩ | ⟨h1, h2⟩ | h1
    all_goals
      go_enter Try.func52, Try.ntmps52
      go_wp2
      go_ret
      exact ⟨ret_bool (by unfold oneB; simp; omega), (Grew.refl w).alloc _⟩
  have HK : Hid (oneB ⟨kd, nn⟩ = decide (4 ≤ kd ∧ kd ≤ 11 ∧ nn = 0)) := Lib.hid (by unfold oneB; rw [if_neg k1, if_neg k2, if_neg k3])
  have e1 : (kd == 1) = false := beq_eq_false_iff_ne.2 k1
  have e2 : (kd == 2) = false := beq_eq_false_iff_ne.2 k2
  have e3 : (kd == 3) = false := beq_eq_false_iff_ne.2 k3
  clear k1 k2 k3
  by_cases h1 : 4 ≤ kd
  · by_cases h2 : kd ≤ 11
    · by_cases h3 : nn = 0
      · have HF : Hid (oneB ⟨kd, nn⟩ = true) := Lib.hid (by rw [HK.out]; simp [h1, h2, h3])
        subst h3
        go_enter Try.func52, Try.ntmps52
        go_wp2
        go_ret
        exact ⟨ret_bool HF.out.symm, (Grew.refl w).alloc _⟩
      · have HF : Hid (oneB ⟨kd, nn⟩ = false) := Lib.hid (by rw [HK.out]; simp [h1, h2, h3])
        have e4 : (nn == 0) = false := beq_eq_false_iff_ne.2 h3
        clear h3
        go_enter Try.func52, Try.ntmps52
        go_wp2
        go_ret
        exact ⟨ret_bool HF.out.symm, (Grew.refl w).alloc _⟩
    · have HF : Hid (oneB ⟨kd, nn⟩ = false) := Lib.hid (by rw [HK.out]; simp [h2])
      go_enter Try.func52, Try.ntmps52
      go_wp2
      go_ret
      exact ⟨ret_bool HF.out.symm, (Grew.refl w).alloc _⟩
  · have HF : Hid (oneB ⟨kd, nn⟩ = false) := Lib.hid (by rw [HK.out]; simp [h1])
    go_enter Try.func52, Try.ntmps52
    go_wp2
    go_ret
    exact ⟨ret_bool HF.out.symm, (Grew.refl w).alloc _⟩


theorem v_bd {n : Int} (h : Heap.vB n = true) : -2147483648 ≤ n ∧ n ≤ 2147483647 := by unfold Heap.vB at h; simpa using h

end Go.Proofs.Ytilfkohckmknkaa.Term
