/-
  WHAT THE DOCUMENT'S ANSWER FOR LAYER 7 RETURNS: one, start, Check, truth, both.
-/
import Derived.Test.YtcdcikjkpbcjgaaRows
import Derived.Test.YtcdcikjkpbcjgaaTermPlain
import Derived.Test.YtcdcikjkpbcjgaaRef02b
import Derived.Test.YtcdcikjkpbcjgaaSpan
import Derived.Test.YtcdcikjkpbcjgaaGrew
import Derived.Test.YtcdcikjkpbcjgaaNumbers
namespace Go.Proofs.Ytcdcikjkpbcjgaa.Term
open Go.ChangeShapes Go.WideShapes Go.ChangeAt Go.RowKit Mem

theorem refone_any (kd nn : Int) (w : World) (b : Bool) (hb : oneB ⟨kd, nn⟩ = b) :
    Calls Try.prog 28 #[.agg #[.int .i64 kd, .int .i64 nn]] w (RetBG w b) := by
  subst hb
  by_cases k1 : kd = 1
  · subst k1
    go_enter Try.func28, Try.ntmps28
    go_wp2_with (go_at_call 39; refine (Span.refright_any _ _).mono ?_; rintro e w' ⟨rfl, rfl⟩)
    go_ret
    exact ⟨ret_bool rfl, (Grew.refl w).alloc _⟩
  by_cases k2 : kd = 2
  · subst k2
    rcases (by omega : (0 ≤ nn ∧ nn ≤ 63) ∨ (0 ≤ nn ∧ ¬ nn ≤ 63) ∨ ¬ 0 ≤ nn) with ⟨h1, h2⟩ | ⟨h1, h2⟩ | h1
    all_goals
      go_enter Try.func28, Try.ntmps28
      go_wp2
      go_ret
      exact ⟨ret_bool (by unfold oneB; simp; omega), (Grew.refl w).alloc _⟩
  by_cases k3 : kd = 3
  · subst k3
    rcases (by omega : (0 ≤ nn ∧ nn ≤ 7) ∨ (0 ≤ nn ∧ ¬ nn ≤ 7) ∨ ¬ 0 ≤ nn) with ⟨h1, h2⟩ | ⟨h1, h2⟩ | h1
    all_goals
      go_enter Try.func28, Try.ntmps28
      go_wp2
      go_ret
      exact ⟨ret_bool (by unfold oneB; simp; omega), (Grew.refl w).alloc _⟩
  have HK : Hid (oneB ⟨kd, nn⟩ = decide (4 ≤ kd ∧ kd ≤ 11 ∧ nn = 0)) := Lib.hid (by unfold oneB; rw [if_neg k1, if_neg k2, if_neg k3])
  have e1 : (kd == 1) = false := beq_eq_false_iff_ne.2 k1
  have e2 : (kd == 2) = false := beq_eq_false_iff_ne.2 k2
  have e3 : (kd == 3) = false := beq_eq_false_iff_ne.2 k3
  clear k1 k2 k3
  by_cases h1 : 4 ≤ kd
  · by_cases h2 : kd ≤ 11
    · by_cases h3 : nn = 0
      · have HF : Hid (oneB ⟨kd, nn⟩ = true) := Lib.hid (by rw [HK.out]; simp [h1, h2, h3])
        subst h3
        go_enter Try.func28, Try.ntmps28
        go_wp2
        go_ret
        exact ⟨ret_bool HF.out.symm, (Grew.refl w).alloc _⟩
      · have HF : Hid (oneB ⟨kd, nn⟩ = false) := Lib.hid (by rw [HK.out]; simp [h1, h2, h3])
        have e4 : (nn == 0) = false := beq_eq_false_iff_ne.2 h3
        clear h3
        go_enter Try.func28, Try.ntmps28
        go_wp2
        go_ret
        exact ⟨ret_bool HF.out.symm, (Grew.refl w).alloc _⟩
    · have HF : Hid (oneB ⟨kd, nn⟩ = false) := Lib.hid (by rw [HK.out]; simp [h2])
      go_enter Try.func28, Try.ntmps28
      go_wp2
      go_ret
      exact ⟨ret_bool HF.out.symm, (Grew.refl w).alloc _⟩
  · have HF : Hid (oneB ⟨kd, nn⟩ = false) := Lib.hid (by rw [HK.out]; simp [h1])
    go_enter Try.func28, Try.ntmps28
    go_wp2
    go_ret
    exact ⟨ret_bool HF.out.symm, (Grew.refl w).alloc _⟩

theorem reftruth_any (b : Bool) (w : World) :
    Calls Try.prog 42 #[.bool b] w fun e w' => e = .returned (.int .i64 (truthI b)) ∧ w = w' := by
  cases b
  all_goals
    go_enter Try.func42, Try.ntmps42
    go_wp2
    go_ret
    exact ⟨rfl, rfl⟩

theorem v_bd {n : Int} (h : Heap.vB n = true) : -2147483648 ≤ n ∧ n ≤ 2147483647 := by unfold Heap.vB at h; simpa using h

theorem refboth_any (k a b r : Int) (w : World) (ha : Heap.vB a = true) (hb : Heap.vB b = true) (h1 : 4 ≤ k) (h2 : k ≤ 10) (hr : two k a b = r) :
    Calls Try.prog 43 #[.int .i64 k, .int .i64 a, .int .i64 b] w fun e w' => e = .returned (.int .i64 r) ∧ w = w' := by
  obtain ⟨a1, a2⟩ := v_bd ha
  obtain ⟨b1, b2⟩ := v_bd hb
  have HR := Lib.hid hr
  clear ha hb hr
  rcases (by omega : k = 4 ∨ k = 5 ∨ k = 6 ∨ k = 7 ∨ k = 8 ∨ k = 9 ∨ k = 10) with rfl | rfl | rfl | rfl | rfl | rfl | rfl
  · go_enter Try.func43, Try.ntmps43
    go_wp2_with (go_at_call 41; refine (Span.refwrap_any _ _).mono ?_; rintro e w' ⟨rfl, rfl⟩)
    go_ret
    exact ⟨ret_int HR.out, rfl⟩
  · go_enter Try.func43, Try.ntmps43
    go_wp2_with (go_at_call 41; refine (Span.refwrap_any _ _).mono ?_; rintro e w' ⟨rfl, rfl⟩)
    go_ret
    exact ⟨ret_int HR.out, rfl⟩
  · go_enter Try.func43, Try.ntmps43
    go_wp2_with (go_at_call 51; refine (Span.refmul_any _ _ _).mono ?_; rintro e w' ⟨rfl, rfl⟩)
    go_ret
    exact ⟨ret_int HR.out, rfl⟩
  · cases h : (a == b)
    all_goals
      have HH := Lib.hid h
      go_enter Try.func43, Try.ntmps43
      go_wp2_with (go_at_call 42; refine (reftruth_any _ _).mono ?_; rintro e w' ⟨rfl, rfl⟩)
      go_ret
      exact ⟨ret_int (by rw [← HR.out]; show _ = truthI (a == b); rw [HH.out]), rfl⟩
  · by_cases h : a < b
    · have HH : Hid (decide (a < b) = true) := Lib.hid (decide_eq_true h)
      go_enter Try.func43, Try.ntmps43
      go_wp2_with (go_at_call 42; refine (reftruth_any _ _).mono ?_; rintro e w' ⟨rfl, rfl⟩)
      go_ret
      exact ⟨ret_int (by rw [← HR.out]; show _ = truthI (decide (a < b)); rw [HH.out]), rfl⟩
    · have HH : Hid (decide (a < b) = false) := Lib.hid (decide_eq_false h)
      go_enter Try.func43, Try.ntmps43
      go_wp2_with (go_at_call 42; refine (reftruth_any _ _).mono ?_; rintro e w' ⟨rfl, rfl⟩)
      go_ret
      exact ⟨ret_int (by rw [← HR.out]; show _ = truthI (decide (a < b)); rw [HH.out]), rfl⟩
  all_goals
    cases h : (a != 0)
    all_goals cases h' : (b != 0)
    all_goals
      have HH := Lib.hid (And.intro h h')
      go_enter Try.func43, Try.ntmps43
      go_wp2_with (go_at_call 42; refine (reftruth_any _ _).mono ?_; rintro e w' ⟨rfl, rfl⟩)
      go_ret
      exact ⟨ret_int (by rw [← HR.out]; first | (show _ = truthI (a != 0 && b != 0); rw [HH.out.1, HH.out.2]; rfl) | (show _ = truthI (a != 0 || b != 0); rw [HH.out.1, HH.out.2]; rfl)), rfl⟩
end Go.Proofs.Ytcdcikjkpbcjgaa.Term
