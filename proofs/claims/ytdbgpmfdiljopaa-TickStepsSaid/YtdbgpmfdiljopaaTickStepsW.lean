/-
  THE WALK OF THE LAW TickSteps, over what the layer's functions are said to do.
-/
import Derived.Test.YtdbgpmfdiljopaaTickLaw
namespace Go.Proofs.Ytdbgpmfdiljopaa.Tick
open Go.ChangeShapes Go.WideShapes Go.ChangeAt Go.RowKit Mem

set_option maxRecDepth 100000 in
set_option maxHeartbeats 2000000 in
theorem steps_walk (S : Said) (a0 a1 : Int) (h0 : 0 ≤ a0 ∧ a0 ≤ 4294967295) (h1 : 0 ≤ a1 ∧ a1 ≤ 255) (w : World) :
    Calls Try.prog 5 #[.int .u32 a0, .int .u8 a1] w (RetB w true) := by
  have HS := Lib.hid S
  clear S
  obtain ⟨h0a, h0b⟩ := h0
  obtain ⟨h1a, h1b⟩ := h1
  have n1 : 0 ≤ a0 % 2147483648 := by omega
  have n2 : a0 % 2147483648 ≤ 2147483647 := by omega
  have k1 : 0 ≤ a1 % 100 := by omega
  have k2 : a1 % 100 ≤ 99 := by omega
  go_enter Try.func5, Try.ntmps5
  go_wp2
  generalize a0 % 2147483648 = n at *
  generalize a1 % 100 = k' at *
  obtain ⟨k, rfl⟩ := Int.eq_ofNat_of_zero_le k1
  go_loopw [7, 8, 22] (fun at_ e i wr => ∃ j : Nat, j ≤ k + 1 ∧ i = .int .i64 j ∧ at_ = .int .i64 (n + j) ∧ e = .int .i64 0 ∧ n + (j : Int) ≤ 2147483647 ∧ Below w.heap.size w wr) (fun _ _ i _ => k + 1 - (intOf i).toNat)
  case atStart => exact ⟨0, Nat.zero_le _, rfl, by simp, rfl, by omega, Below.refl _ _⟩
  case round =>
    obtain ⟨j, hj, rfl, rfl, rfl, hle, bb⟩ := hrel
    by_cases hlt : j < k + 1
    · by_cases hmax : 2147483647 < n + (j : Int) + 1
      · have E1 : Hid (nextS (n + (j : Int)) = (0, 6)) := Lib.hid (by unfold nextS; rw [if_pos (by omega), if_pos hmax])
        have E2 : Hid (afterS n (1 + (k : Int)) = (0, 6)) := Lib.hid (by unfold afterS; rw [if_pos (by omega), if_pos (by omega)])
        go_wp2_with fail
        refine (HS.out.next _ _ _ E1.out).mono ?_
        rintro e v1 ⟨rfl, b_⟩
        replace bb := bl_trans bb b_
        clear b_
        go_wp2_with fail
        refine (HS.out.after n _ _ _ (by omega) (by omega) E2.out).mono ?_
        rintro e v2 ⟨rfl, b_⟩
        replace bb := bl_trans bb b_
        clear b_
        go_wp2_with fail
        refine (awake_any HS.out _).mono ?_
        rintro e v3 ⟨rfl, b_⟩
        replace bb := bl_trans bb b_
        clear b_
        go_wp2_with fail
        go_ret
        exact ⟨rfl, bb⟩
      · have E1 : Hid (nextS (n + (j : Int)) = (n + (j : Int) + 1, 0)) := Lib.hid (by unfold nextS; rw [if_pos (by omega), if_neg hmax])
        go_wp2_with fail
        refine (HS.out.next _ _ _ E1.out).mono ?_
        rintro e v4 ⟨rfl, b_⟩
        replace bb := bl_trans bb b_
        clear b_
        go_wp2
        go_roundw
        case rel => exact ⟨j + 1, by omega, by go_num, by go_num, rfl, by omega, bb⟩
        case measure => simp [intOf]; omega
    · have hjk : j = k + 1 := by omega
      subst hjk
      have E2 : Hid (afterS n (1 + (k : Int)) = (n + ((k + 1 : Nat) : Int), 0)) := Lib.hid (by unfold afterS; rw [if_pos (by omega), if_neg (by omega)]; congr 1; omega)
      go_wp2_with fail
      refine (HS.out.after n _ _ _ (by omega) (by omega) E2.out).mono ?_
      rintro e v5 ⟨rfl, b_⟩
      replace bb := bl_trans bb b_
      clear b_
      go_wp2_with fail
      refine (awake_any HS.out _).mono ?_
      rintro e v6 ⟨rfl, b_⟩
      replace bb := bl_trans bb b_
      clear b_
      go_wp2_with fail
      go_ret
      exact ⟨rfl, bb⟩
end Go.Proofs.Ytdbgpmfdiljopaa.Tick
