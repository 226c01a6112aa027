/-
  THE WALK OF THE LAW TickFirst, over what the layer's functions are said to do.
-/
import Derived.Test.YtdbgpmfdiljopaaTickLaw
namespace Go.Proofs.Ytdbgpmfdiljopaa.Tick
open Go.ChangeShapes Go.WideShapes Go.ChangeAt Go.RowKit Mem

set_option maxRecDepth 100000 in
set_option maxHeartbeats 2000000 in
theorem first_walk (S : Said) (A0 : Option Addr) (n0 c0 : Nat) (x0 : List Int) (w : World)
    (m0 : n0 ≤ 9223372036854775807) (r0 : Rd w 1 A0 n0 (zs x0)) :
    Calls Try.prog 6 #[.slice A0 n0 c0] w (RetB w true) := by
  have HS := Lib.hid S
  clear S
  have HL := Lib.hid (zs_len r0)
  by_cases g : n0 ≤ 60
  · have d60 : decide ((60 : Int) < (n0 : Int)) = false := by simp; omega
    cases hd : dueS 2147483647 x0 with
    | nil =>
      obtain ⟨hf, hn⟩ := first_none x0 hd
      have HF := Lib.hid hf
      have HN := Lib.hid hn
      clear hd hf hn
      go_enter Try.func6, Try.ntmps6
      go_wp2_with fail
      refine (HS.out.first x0 _ _ _ _ _ r0 (by omega) HF.out).mono ?_
      rintro e v1 ⟨rfl, b_⟩
      replace r0 := r0.below b_
      have bb := b_
      clear b_
      go_wp2
      go_loopw [4, 15] (fun so i wr => ∃ j : Nat, j ≤ n0 ∧ i = .int .i64 j ∧ so = .bool false ∧ Rd wr 1 A0 n0 (zs x0) ∧ Below w.heap.size w wr) (fun _ i _ => n0 - (intOf i).toNat)
      case atStart => exact ⟨0, Nat.zero_le _, rfl, rfl, r0, bb⟩
      case round =>
        obtain ⟨j, hj, rfl, rfl, q0, qb⟩ := hrel
        by_cases hlt : j < n0
        · obtain ⟨b, off, x, rfl, hx, k1⟩ := at_z q0 j hlt
          have HT := Lib.hid (HN.out j x hx)
          clear hx
          go_wp2_with fail
          refine (HS.out.right x _ _ HT.out).mono ?_
          rintro e v2 ⟨rfl, b_⟩
          replace q0 := q0.below b_
          replace qb := bl_trans qb b_
          clear b_
          go_wp2
          go_roundw
          case rel => exact ⟨j + 1, by omega, by go_num, rfl, q0, qb⟩
          case measure => simp [intOf]; omega
        · have hjn : j = n0 := by omega
          subst hjn
          go_wp2_with fail
          refine (awake_any HS.out _).mono ?_
          rintro e v3 ⟨rfl, b_⟩
          replace q0 := q0.below b_
          replace qb := bl_trans qb b_
          clear b_
          go_wp2_with fail
          go_ret
          exact ⟨rfl, qb⟩
    | cons k rest =>
      obtain ⟨hf, y, hy, hty, hmin⟩ := first_some x0 k rest hd
      have HF := Lib.hid hf
      have HY := Lib.hid hy
      have HTY := Lib.hid hty
      have HM := Lib.hid hmin
      have hkn : k < n0 := by rw [← HL.out]; exact (List.getElem?_eq_some_iff.1 hy).1
      clear hd hf hy hty hmin
      go_enter Try.func6, Try.ntmps6
      go_wp2_with fail
      refine (HS.out.first x0 _ _ _ _ _ r0 (by omega) HF.out).mono ?_
      rintro e v1 ⟨rfl, b_⟩
      replace r0 := r0.below b_
      have bb := b_
      clear b_
      go_wp2
      go_loopw [4, 15] (fun so i wr => ∃ j : Nat, j ≤ n0 ∧ i = .int .i64 j ∧ so = .bool ((x0.take j).any timeB) ∧ Rd wr 1 A0 n0 (zs x0) ∧ Below w.heap.size w wr) (fun _ i _ => n0 - (intOf i).toNat)
      case atStart => exact ⟨0, Nat.zero_le _, rfl, rfl, r0, bb⟩
      case round =>
        obtain ⟨j, hj, rfl, rfl, q0, qb⟩ := hrel
        by_cases hlt : j < n0
        · obtain ⟨b, off, x, rfl, hx, k1⟩ := at_z q0 j hlt
          have HA := Lib.hid (take_any x0 timeB j x hx)
          cases ht : timeB x with
          | false =>
            have HT := Lib.hid ht
            clear hx ht
            go_wp2_with fail
            refine (HS.out.right x _ _ HT.out).mono ?_
            rintro e v2 ⟨rfl, b_⟩
            replace q0 := q0.below b_
            replace qb := bl_trans qb b_
            clear b_
            go_wp2
            go_roundw
            case rel => exact ⟨j + 1, by omega, by go_num, by rw [HA.out, HT.out]; simp, q0, qb⟩
            case measure => simp [intOf]; omega
          | true =>
            obtain ⟨hle, heq⟩ := HM.out j x hx ht
            have HT := Lib.hid ht
            have HE := Lib.hid heq
            clear hx ht heq
            go_wp2_with fail
            refine (HS.out.right x _ _ HT.out).mono ?_
            rintro e v3 ⟨rfl, b_⟩
            replace q0 := q0.below b_
            replace qb := bl_trans qb b_
            clear b_
            obtain ⟨b', off', y', hA, hy', k2⟩ := at_z q0 k hkn
            injection hA with hA
            injection hA with hA1 hA2
            subst hA1 hA2
            rw [HY.out] at hy'
            injection hy' with hy'
            subst hy'
            by_cases hxy : x = y
            · subst hxy
              have hkj : k ≤ j := HE.out rfl
              go_wp2
              go_roundw
              case rel => exact ⟨j + 1, by omega, by go_num, by rw [HA.out, HT.out]; simp, q0, qb⟩
              case measure => simp [intOf]; omega
            · have d1 : (x == y) = false := beq_eq_false_iff_ne.2 hxy
              clear hxy
              go_wp2
              go_roundw
              case rel => exact ⟨j + 1, by omega, by go_num, by rw [HA.out, HT.out]; simp, q0, qb⟩
              case measure => simp [intOf]; omega
        · have hjn : j = n0 := by omega
          subst hjn
          have hso : (x0.take j).any timeB = true := by
            rw [List.take_of_length_le (by rw [HL.out]; exact Nat.le_refl _)]
            exact any_good x0 timeB k y HY.out HTY.out
          rw [hso]
          clear hso
          obtain ⟨b', off', y', hA, hy', k2⟩ := at_z q0 k hkn
          subst hA
          rw [HY.out] at hy'
          injection hy' with hy'
          subst hy'
          go_wp2_with fail
          refine (HS.out.right y _ _ HTY.out).mono ?_
          rintro e v4 ⟨rfl, b_⟩
          replace q0 := q0.below b_
          replace qb := bl_trans qb b_
          clear b_
          go_wp2_with fail
          refine (awake_any HS.out _).mono ?_
          rintro e v5 ⟨rfl, b_⟩
          replace q0 := q0.below b_
          replace qb := bl_trans qb b_
          clear b_
          go_wp2_with fail
          go_ret
          exact ⟨rfl, qb⟩
  · have g' : 60 < n0 := by omega
    clear g
    go_enter Try.func6, Try.ntmps6
    go_wp2_with (go_at_call 9; refine (awake_any HS.out _).mono ?_; rintro e w2 ⟨rfl, b2⟩)
    all_goals
      go_ret
      exact ⟨rfl, by assumption⟩
end Go.Proofs.Ytdbgpmfdiljopaa.Tick
