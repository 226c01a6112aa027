/-
  WHAT THE FUNCTIONS OF THE LAYER tick RETURN, AS THEY ARE WRITTEN: Right, After, Next, First.
-/
import Derived.Test.YtdbgpmfdiljopaaTickLaw
namespace Go.Proofs.Ytdbgpmfdiljopaa.Tick
open Go.ChangeShapes Go.WideShapes Go.ChangeAt Go.RowKit Mem

theorem right_any (n : Int) (w : World) :
    Calls Try.prog 15 #[.int .i64 n] w fun e w' => e = .returned (.bool (timeB n)) ∧ w = w' := by
  by_cases h1 : 0 ≤ n
  all_goals by_cases h2 : n ≤ 2147483647
  all_goals
    go_enter Try.func15, Try.ntmps15
    go_wp2
    go_ret
    exact ⟨ret_bool (by unfold timeB; simp [h1, h2]), rfl⟩

theorem after_any (n k : Int) (w : World) (h1 : -9223372036854775808 ≤ k) (h2 : k ≤ 9223372036854775807) :
    Calls Try.prog 12 #[.int .i64 n, .int .i64 k] w fun e w' => e = .returned (.tuple #[.int .i64 (afterS n k).1, .int .i64 (afterS n k).2]) ∧ w = w' := by
  cases ht : timeB n with
  | false =>
    have HF : Hid (afterS n k = (0, 1)) := Lib.hid (by
      unfold timeB at ht; rw [decide_eq_false_iff_not] at ht
      unfold afterS; rw [if_neg (by omega)])
    go_enter Try.func12, Try.ntmps12
    go_wp2_with (go_at_call 15; refine (right_any _ _).mono ?_; rintro e w' ⟨rfl, rfl⟩)
    go_ret2
    exact ⟨by rw [HF.out]; rfl, rfl⟩
  | true =>
    have hn : 0 ≤ n ∧ n ≤ 2147483647 := by unfold timeB at ht; exact of_decide_eq_true ht
    obtain ⟨n1, n2⟩ := hn
    by_cases hk : k < 1
    · have HF : Hid (afterS n k = (0, 1)) := Lib.hid (by unfold afterS; rw [if_neg (by omega)])
      go_enter Try.func12, Try.ntmps12
      go_wp2_with (go_at_call 15; refine (right_any _ _).mono ?_; rintro e w' ⟨rfl, rfl⟩)
      go_ret2
      exact ⟨by rw [HF.out]; rfl, rfl⟩
    · by_cases hc : 2147483647 - n < k
      · have HF : Hid (afterS n k = (0, 6)) := Lib.hid (by unfold afterS; rw [if_pos (by omega), if_pos (by omega)])
        go_enter Try.func12, Try.ntmps12
        go_wp2_with (go_at_call 15; refine (right_any _ _).mono ?_; rintro e w' ⟨rfl, rfl⟩)
        go_ret2
        exact ⟨by rw [HF.out]; rfl, rfl⟩
      · have HF : Hid (afterS n k = (n + k, 0)) := Lib.hid (by unfold afterS; rw [if_pos (by omega), if_neg (by omega)])
        go_enter Try.func12, Try.ntmps12
        go_wp2_with (go_at_call 15; refine (right_any _ _).mono ?_; rintro e w' ⟨rfl, rfl⟩)
        go_ret2
        exact ⟨by rw [HF.out]; rfl, rfl⟩

theorem next_after (n : Int) : nextS n = afterS n 1 := by
  unfold nextS afterS
  by_cases h1 : 0 ≤ n ∧ n ≤ 2147483647
  · obtain ⟨h1, h2⟩ := h1
    simp [h1, h2]
  · have h2 : ¬ (0 ≤ n ∧ n ≤ 2147483647 ∧ (0 : Int) < 1) := by omega
    rw [if_neg h1, if_neg h2]
theorem next_any (n : Int) (w : World) :
    Calls Try.prog 10 #[.int .i64 n] w fun e w' => e = .returned (.tuple #[.int .i64 (nextS n).1, .int .i64 (nextS n).2]) ∧ w = w' := by
  rw [next_after]
  go_enter Try.func10, Try.ntmps10
  go_wp2_with (go_at_call 12; refine (after_any _ _ _ (by decide) (by decide)).mono ?_; rintro e w' ⟨rfl, rfl⟩)
  go_ret2
  exact ⟨rfl, rfl⟩

theorem first_of (l : List Int) (b : Int) (h : IsBest l (left_ 2147483647 l (dueS 2147483647 l) 0) l.length b) : firstS l = b := by
  have hd := due_is 2147483647 l
  have h2 := h
  rcases h with ⟨rfl, _⟩ | ⟨m, rfl, _⟩
  · have := best_none 2147483647 l _ hd 0 h2
    unfold firstS
    rw [List.eq_nil_of_length_eq_zero (by omega : (dueS 2147483647 l).length = 0)]
  · have := best_some 2147483647 l _ hd 0 m h2
    unfold firstS
    cases hr : dueS 2147483647 l with
    | nil => rw [hr] at this; cases this
    | cons k ks => rw [hr] at this; simp at this; rw [this]
theorem left_time (l : List Int) (i : Nat) (x : Int) (hx : l[i]? = some x) : left_ 2147483647 l (dueS 2147483647 l) 0 i = timeB x := by
  unfold left_ timeB
  rw [elig_at _ _ _ _ hx, Bool.eq_iff_iff]
  simp

theorem first_c (l : List Int) (A : Option Addr) (n c : Nat) (w : World) (r : Int) (hr : Rd w 1 A n (zs l)) (hn : n ≤ 1000000) (hf : firstS l = r) :
    Calls Try.prog 19 #[.slice A n c] w (RetN w r) := by
  have HL := Lib.hid (zs_len hr)
  have HF := Lib.hid hf
  clear hf
  go_enter Try.func19, Try.ntmps19
  go_wp2
  go_loop [3, 8] (fun b i => ∃ (i' : Nat) (b' : Int), i' ≤ n ∧ i = .int .i64 i' ∧ b = .int .i64 b' ∧ Hid (IsBest l (left_ 2147483647 l (dueS 2147483647 l) 0) i' b')) (fun _ i => n - (intOf i).toNat)
  case atStart => exact ⟨0, -1, Nat.zero_le _, rfl, rfl, Lib.hid (.inl ⟨rfl, fun j hj => absurd hj (by omega)⟩)⟩
  case round =>
    obtain ⟨i, bst, hi, rfl, rfl, HB⟩ := hrel
    by_cases hlt : i < n
    · obtain ⟨b, off, x, rfl, hx, c0⟩ := at_z hr i hlt
      have EL := Lib.hid (left_time l i x hx)
      have TX := Lib.hid (tm_at l i x hx)
      clear hx
      cases ht : timeB x with
      | false =>
        have HS : Hid (left_ 2147483647 l (dueS 2147483647 l) 0 i = false) := Lib.hid (by rw [EL.out, ht])
        go_wp2_with (go_at_call 15; refine (right_any _ _).mono ?_; rintro e w' ⟨rfl, rfl⟩)
        go_round
        case rel => exact ⟨i + 1, bst, by omega, by go_num, rfl, Lib.hid (best_no l _ i bst HB.out HS.out)⟩
        case measure => simp [intOf]; omega
      | true =>
        have HS : Hid (left_ 2147483647 l (dueS 2147483647 l) 0 i = true) := Lib.hid (by rw [EL.out, ht])
        have HB2 := HB.out
        rcases HB2 with ⟨rfl, _⟩ | ⟨m, rfl, hm1, _, _⟩
        · go_wp2_with (go_at_call 15; refine (right_any _ _).mono ?_; rintro e w' ⟨rfl, rfl⟩)
          go_round
          case rel => exact ⟨i + 1, _, by omega, by go_num, rfl, Lib.hid (best_first l _ i HB.out HS.out)⟩
          case measure => simp [intOf]; omega
        · obtain ⟨b', off', xm, hA, hxm, cm⟩ := at_z hr m (by omega)
          injection hA with hA
          injection hA with hA1 hA2
          subst hA1 hA2
          have TM := Lib.hid (tm_at l m xm hxm)
          clear hxm
          have dm : decide ((m : Int) < 0) = false := by simp
          by_cases e4 : x < xm
          · have HB3 := Lib.hid (best_new l _ i m HB.out HS.out (by rw [TX.out, TM.out]; exact e4))
            go_wp2_with (go_at_call 15; refine (right_any _ _).mono ?_; rintro e w' ⟨rfl, rfl⟩)
            go_round
            case rel => exact ⟨i + 1, _, by omega, by go_num, rfl, HB3⟩
            case measure => simp [intOf]; omega
          · have HB3 := Lib.hid (best_keep l _ i m HB.out (by rw [TX.out, TM.out]; exact e4))
            go_wp2_with (go_at_call 15; refine (right_any _ _).mono ?_; rintro e w' ⟨rfl, rfl⟩)
            go_round
            case rel => exact ⟨i + 1, _, by omega, by go_num, rfl, HB3⟩
            case measure => simp [intOf]; omega
    · have hin : i = n := by omega
      subst hin
      have HE : Hid (firstS l = bst) := Lib.hid (first_of l bst (by rw [HL.out]; exact HB.out))
      go_wp2
      go_ret
      exact ⟨ret_int (by rw [← HF.out, HE.out]), Below.refl _ _⟩
end Go.Proofs.Ytdbgpmfdiljopaa.Tick
