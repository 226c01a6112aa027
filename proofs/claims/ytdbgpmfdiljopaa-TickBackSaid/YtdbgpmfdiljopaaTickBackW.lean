/-
  THE WALK OF THE LAW TickBack, over what the layer's functions are said to do.
-/
import Derived.Test.YtdbgpmfdiljopaaTickLaw
namespace Go.Proofs.Ytdbgpmfdiljopaa.Tick
open Go.ChangeShapes Go.WideShapes Go.ChangeAt Go.RowKit Mem

set_option maxRecDepth 100000 in
set_option maxHeartbeats 2000000 in
theorem back_walk (S : Said) (a0 a1 : Int) (w : World) :
    Calls Try.prog 8 #[.int .i64 a0, .int .i64 a1] w (RetB w true) := by
  have HS := Lib.hid S
  clear S
  by_cases h0 : 0 ≤ a0 ∧ a0 ≤ 2147483647
  · have T0 : Hid (timeB a0 = true) := Lib.hid (by unfold timeB; simpa using h0)
    obtain ⟨h0a, h0b⟩ := h0
    by_cases h1 : 0 ≤ a1 ∧ a1 ≤ 2147483647
    · have T1 : Hid (timeB a1 = true) := Lib.hid (by unfold timeB; simpa using h1)
      obtain ⟨h1a, h1b⟩ := h1
      rcases Int.lt_trichotomy a0 a1 with hc | hc | hc
      · have E : Hid (afterS a0 (a1 - a0) = (a1, 0)) := Lib.hid (by unfold afterS; rw [if_pos (by omega), if_neg (by omega)]; congr 1; omega)
        have d1 : (a0 == a1) = false := beq_eq_false_iff_ne.2 (by omega)
        go_enter Try.func8, Try.ntmps8
        go_wp2_with fail
        refine (HS.out.right a0 _ _ T0.out).mono ?_
        rintro e v1 ⟨rfl, b_⟩
        have bb := b_
        clear b_
        go_wp2_with fail
        refine (HS.out.right a1 _ _ T1.out).mono ?_
        rintro e v2 ⟨rfl, b_⟩
        replace bb := bl_trans bb b_
        clear b_
        go_wp2_with fail
        refine (HS.out.after a0 (a1 - a0) _ _ (by omega) (by omega) E.out).mono ?_
        rintro e v3 ⟨rfl, b_⟩
        replace bb := bl_trans bb b_
        clear b_
        go_wp2_with fail
        refine (awake_any HS.out _).mono ?_
        rintro e v4 ⟨rfl, b_⟩
        replace bb := bl_trans bb b_
        clear b_
        go_wp2_with fail
        go_ret
        exact ⟨rfl, bb⟩
      · subst hc
        have E : Hid (afterS a0 0 = (0, 1)) := Lib.hid (by unfold afterS; rw [if_neg (by omega)])
        go_enter Try.func8, Try.ntmps8
        go_wp2_with fail
        refine (HS.out.right a0 _ _ T0.out).mono ?_
        rintro e v1 ⟨rfl, b_⟩
        have bb := b_
        clear b_
        go_wp2_with fail
        refine (HS.out.right a0 _ _ T1.out).mono ?_
        rintro e v2 ⟨rfl, b_⟩
        replace bb := bl_trans bb b_
        clear b_
        go_wp2_with fail
        refine (HS.out.after a0 0 _ _ (by omega) (by omega) E.out).mono ?_
        rintro e v3 ⟨rfl, b_⟩
        replace bb := bl_trans bb b_
        clear b_
        go_wp2_with fail
        refine (awake_any HS.out _).mono ?_
        rintro e v4 ⟨rfl, b_⟩
        replace bb := bl_trans bb b_
        clear b_
        go_wp2_with fail
        go_ret
        exact ⟨rfl, bb⟩
      · have E : Hid (afterS a1 (a0 - a1) = (a0, 0)) := Lib.hid (by unfold afterS; rw [if_pos (by omega), if_neg (by omega)]; congr 1; omega)
        have d1 : (a0 == a1) = false := beq_eq_false_iff_ne.2 (by omega)
        go_enter Try.func8, Try.ntmps8
        go_wp2_with fail
        refine (HS.out.right a0 _ _ T0.out).mono ?_
        rintro e v1 ⟨rfl, b_⟩
        have bb := b_
        clear b_
        go_wp2_with fail
        refine (HS.out.right a1 _ _ T1.out).mono ?_
        rintro e v2 ⟨rfl, b_⟩
        replace bb := bl_trans bb b_
        clear b_
        go_wp2_with fail
        refine (HS.out.after a1 (a0 - a1) _ _ (by omega) (by omega) E.out).mono ?_
        rintro e v3 ⟨rfl, b_⟩
        replace bb := bl_trans bb b_
        clear b_
        go_wp2_with fail
        refine (awake_any HS.out _).mono ?_
        rintro e v4 ⟨rfl, b_⟩
        replace bb := bl_trans bb b_
        clear b_
        go_wp2_with fail
        go_ret
        exact ⟨rfl, bb⟩
    · have T1 : Hid (timeB a1 = false) := Lib.hid (by unfold timeB; simpa using h1)
      clear h1
      go_enter Try.func8, Try.ntmps8
      go_wp2_with fail
      refine (HS.out.right a0 _ _ T0.out).mono ?_
      rintro e v1 ⟨rfl, b_⟩
      have bb := b_
      clear b_
      go_wp2_with fail
      refine (HS.out.right a1 _ _ T1.out).mono ?_
      rintro e v2 ⟨rfl, b_⟩
      replace bb := bl_trans bb b_
      clear b_
      go_wp2_with fail
      refine (awake_any HS.out _).mono ?_
      rintro e v3 ⟨rfl, b_⟩
      replace bb := bl_trans bb b_
      clear b_
      go_wp2_with fail
      go_ret
      exact ⟨rfl, bb⟩
  · have T0 : Hid (timeB a0 = false) := Lib.hid (by unfold timeB; simpa using h0)
    clear h0
    go_enter Try.func8, Try.ntmps8
    go_wp2_with fail
    refine (HS.out.right a0 _ _ T0.out).mono ?_
    rintro e v1 ⟨rfl, b_⟩
    have bb := b_
    clear b_
    go_wp2_with fail
    refine (awake_any HS.out _).mono ?_
    rintro e v2 ⟨rfl, b_⟩
    replace bb := bl_trans bb b_
    clear b_
    go_wp2_with fail
    go_ret
    exact ⟨rfl, bb⟩
end Go.Proofs.Ytdbgpmfdiljopaa.Tick
