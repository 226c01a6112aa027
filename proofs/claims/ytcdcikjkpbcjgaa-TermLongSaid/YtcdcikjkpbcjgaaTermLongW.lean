/-
  THE WALK OF THE LAW TermLong.
-/
import Derived.Test.YtcdcikjkpbcjgaaTermLaw
import Derived.Test.YtcdcikjkpbcjgaaTermMore
import Derived.Test.YtcdcikjkpbcjgaaTermOp
namespace Go.Proofs.Ytcdcikjkpbcjgaa.Term
open Go.ChangeShapes Go.WideShapes Go.ChangeAt Go.RowKit Mem

set_option maxRecDepth 100000 in
set_option maxHeartbeats 2000000 in
theorem long_walk (an_ va : Int) (piled : Bool) (han : 0 ≤ an_ ∧ an_ ≤ 255) (hva : -32768 ≤ va ∧ va ≤ 32767) (w : World) :
    Calls Try.prog 6 #[.int .u8 an_, .int .i16 va, .bool piled] w (RetB w true) := by
  obtain ⟨at0, at1⟩ := han
  obtain ⟨an, rfl⟩ := Int.eq_ofNat_of_zero_le at0
  obtain ⟨r, hr⟩ : ∃ r : Nat, an % 7 = r := ⟨_, rfl⟩
  have hri : (an : Int) % 7 = (r : Int) := by rw [← hr]; rfl
  have hr7 : r < 7 := by rw [← hr]; exact Nat.mod_lt _ (by omega)
  obtain ⟨mm, hmm⟩ : ∃ mm, mm = r + 1 := ⟨_, rfl⟩
  have hmi : 1 + (r : Int) = (mm : Int) := by omega
  have hmr : (mm : Int) - 1 = (r : Int) := by omega
  have hm1 : 1 ≤ mm := by omega
  have hm7 : mm ≤ 7 := by omega
  have HMM := Lib.hid hmm
  have HVA := Lib.hid hva
  obtain ⟨va1, va2⟩ := hva
  have bb : Hid (Below w.heap.size w w) := Lib.hid (Below.refl _ _)
  clear hr hmm at0
  cases piled with
  | false =>
    go_enter Try.func6, Try.ntmps6
    go_wp2
    rw [hri]
    go_loopw [8, 18] (fun v i wr => ∃ j q : Nat, j ≤ mm ∧ q ≤ 2 * j ∧ i = .int .i64 j ∧ Hid ((longL va false j).length = q) ∧ Own w wr 44 2 v q (ops (longL va false j))) (fun _ i _ => mm - (intOf i).toNat)
    case atStart => exact ⟨0, 0, Nat.zero_le _, Nat.le_refl _, rfl, Lib.hid rfl, Own.nil_ (Below.refl _ _)⟩
    case round =>
      obtain ⟨j, q, hj, hqj, rfl, HQ, hown⟩ := hrel
      generalize wr = w1 at *
      by_cases hlt : j < mm
      · by_cases hj0 : j = 0
        · subst hj0
          have HT : Hid (longL va false (0 + 1) = longL va false 0 ++ [⟨1, va⟩]) := Lib.hid rfl
          go_wp2_with (at_builtin; refine append_rd rfl _ _ 22 rfl tOp w _ q (ops (longL va false 0)) rfl (hown.alloc _) _ 1 1 [.int .i64 1, .int .i64 va] rfl (Rd.builtAt _ 2 1 [.int .i64 1, .int .i64 va] _ rfl (by simp)) (one_cons rfl (one_cons rfl one_nil)) (by omega) (by omega) ?_; intro v' w' ho' hg; clear hg)
          go_roundw
          case rel => exact ⟨0 + 1, q + 1, by omega, by have := HQ.out; simp [longL, chainL] at this; omega, by go_num, Lib.hid (by rw [HT.out, List.length_append, HQ.out]; rfl), by rw [HT.out]; exact own_eq ho' (ops_app (longL va false 0) [⟨1, va⟩]).symm⟩
          case measure => simp [intOf]; omega
        · have HT : Hid (longL va false (j + 1) = (longL va false j ++ [⟨1, va⟩]) ++ [⟨4, 0⟩]) := Lib.hid (by unfold longL; obtain ⟨j', rfl⟩ : ∃ j', j = j' + 1 := ⟨j - 1, by omega⟩; simp [chainL])
          have hj1 : 0 < j := by omega
          have T1 : Hid True := Lib.hid trivial
          have T2 : Hid True := Lib.hid trivial
          go_wp2_with (first | (clear T1; at_builtin; refine append_rd rfl _ _ 22 rfl tOp w _ q (ops (longL va false j)) rfl (hown.alloc _) _ 1 1 [.int .i64 1, .int .i64 va] rfl (Rd.builtAt _ 2 1 [.int .i64 1, .int .i64 va] _ rfl (by simp)) (one_cons rfl (one_cons rfl one_nil)) (by omega) (by omega) ?_; intro v' w' ho' hg; clear hg; have HO2 := own_eq ho' (ops_app (longL va false j) [⟨1, va⟩]).symm; clear ho') | (clear T2; at_builtin; refine append_rd rfl _ _ 22 rfl tOp w _ (q + 1) (ops (longL va false j ++ [⟨1, va⟩])) rfl (HO2.alloc _) _ 1 1 [.int .i64 4, .int .i64 0] rfl (Rd.builtAt _ 2 1 [.int .i64 4, .int .i64 0] _ rfl (by simp)) (one_cons rfl (one_cons rfl one_nil)) (by omega) (by omega) ?_; intro v' w' ho' hg; clear hg))
          go_roundw
          case rel => exact ⟨j + 1, q + 1 + 1, by omega, by omega, by go_num, Lib.hid (by rw [HT.out, List.length_append, List.length_append, HQ.out]; rfl), by rw [HT.out]; exact own_eq ho' (ops_app (longL va false j ++ [⟨1, va⟩]) [⟨4, 0⟩]).symm⟩
          case measure => simp [intOf]; omega
      · have hjm : j = mm := by omega
        subst hjm
        have HQ0 : Hid ((longB va false j 0).length = q) := Lib.hid (by rw [← HQ.out]; unfold longB longL; simp)
        have HO0 : Own w w1 44 2 _ q (ops (longB va false j 0)) := own_eq hown (by unfold longB longL; simp)
        clear HQ hown
        go_wp2
        go_loopw [8, 40] (fun v i wr => ∃ t p : Nat, t ≤ r ∧ p ≤ 2 * j + t ∧ i = .int .i64 t ∧ Hid ((longB va false j t).length = p) ∧ Own w wr 44 2 v p (ops (longB va false j t))) (fun _ i _ => r - (intOf i).toNat)
        case atStart => exact ⟨0, q, Nat.zero_le _, by omega, rfl, HQ0, HO0⟩
        case round =>
          obtain ⟨t, p, ht, hpt, rfl, HP, hown⟩ := hrel
          generalize wr = w2 at *
          by_cases htr : t < r
          · have HO := Lib.hid hown
            clear hown
            go_wp2
            go_roundw
            case rel => exact ⟨t + 1, p, by omega, by omega, by go_num, HP, HO.out⟩
            case measure => simp [intOf]; omega
          · have htr2 : t = r := by omega
            subst htr2
            have HM2 := HMM.out
            have HLN : Hid (p = 2 * t + 1) := Lib.hid (by rw [← HP.out, HMM.out]; exact longB_len va false t)
            obtain ⟨B1, d1, rfl, r1⟩ := hown.form
            replace bb := Lib.hid hown.2
            have R1 := Lib.hid r1
            clear r1 hown HQ0 HO0 HM2
            by_cases hbig : j = 7
            · have ht6 : t = 6 := by have := HMM.out; omega
              have HLE : Hid (evalS (longB va false j t) [⟨false, 0⟩] [] = (0, 1) ∧ deepS (longB va false j t) = 0) := Lib.hid (by rw [hbig, ht6]; exact long_big va false _ _)
              have hp13 : p = 13 := by rw [HLN.out, ht6]
              have q7 : ((j : Int) == 7) = true := by rw [hbig]; rfl
              have q13 : ((p : Int) == 13) = true := by rw [hp13]; rfl
              clear hbig ht6 hp13
              go_wp2_with fail
              refine (eval_c (longB va false j t) [⟨false, 0⟩] [] _ _ _ _ _ _ _ _ _ _ (0, 1) ((R1.out).alloc _) (Rd.built _ 2 1 (Heap.cs [⟨false, 0⟩]) _ rfl) Rd.none_ (by omega) (by decide) HLE.out.1).mono ?_
              rintro e w4 ⟨rfl, b_⟩
              replace R1 := Lib.hid (((R1.out).alloc _).below b_)
              replace bb := Lib.hid (bl_trans (bl_alloc bb.out _) b_)
              clear b_
              go_wp2_with fail
              refine (deep_c (longB va false j t) _ _ _ _ 0 (R1.out) (by omega) HLE.out.2).mono ?_
              rintro e w5 ⟨rfl, b_⟩
              clear R1
              replace bb := Lib.hid (bl_trans bb.out b_)
              clear b_
              go_wp2_with fail
              refine (awake_any _).mono ?_
              rintro e w6 ⟨rfl, b_⟩
              replace bb := Lib.hid (bl_trans bb.out b_)
              clear b_
              go_wp2
              go_ret
              exact ⟨rfl, bb.out⟩
            · have q7 : ((j : Int) == 7) = false := by apply beq_eq_false_iff_ne.2; omega
              have HLE : Hid (evalS (longB va false j t) [⟨false, 0⟩] [] = ((j : Int) * va, 0)) := Lib.hid (by rw [HMM.out, long_eval va HVA.out false t (by have := HMM.out; omega)]; congr 1)
              obtain ⟨dp, hdp⟩ : ∃ dp, (min j 2) = dp := ⟨_, rfl⟩
              have HLD : Hid (deepS (longB va false j t) = dp) := Lib.hid (by rw [← hdp, HMM.out, long_deep va HVA.out false t (by have := HMM.out; omega)]; rfl)
              obtain ⟨pv, hpv⟩ : ∃ pv, (j : Int) * va = pv := ⟨_, rfl⟩
              rw [hpv] at HLE
              have hpb : -2147483648 ≤ pv ∧ pv ≤ 2147483647 := by rw [← hpv]; have h8 := Int.mul_le_mul_of_nonneg_left va1 (by omega : (0 : Int) ≤ (j : Int)); have h9 := Int.mul_le_mul_of_nonneg_left va2 (by omega : (0 : Int) ≤ (j : Int)); omega
              obtain ⟨hpb1, hpb2⟩ := hpb
              have q8 : (pv == pv) = true := by simp
              have q9 : ((dp : Int) == (dp : Int)) = true := by simp
              clear hbig HLN
              go_wp2_with fail
              refine (eval_c (longB va false j t) [⟨false, 0⟩] [] _ _ _ _ _ _ _ _ _ _ (pv, 0) ((R1.out).alloc _) (Rd.built _ 2 1 (Heap.cs [⟨false, 0⟩]) _ rfl) Rd.none_ (by omega) (by decide) HLE.out).mono ?_
              rintro e w4 ⟨rfl, b_⟩
              replace R1 := Lib.hid (((R1.out).alloc _).below b_)
              replace bb := Lib.hid (bl_trans (bl_alloc bb.out _) b_)
              clear b_
              go_wp2_with fail
              refine (deep_c (longB va false j t) _ _ _ _ dp (R1.out) (by omega) HLD.out).mono ?_
              rintro e w5 ⟨rfl, b_⟩
              clear R1
              replace bb := Lib.hid (bl_trans bb.out b_)
              clear b_
              go_wp2_with fail
              refine (awake_any _).mono ?_
              rintro e w6 ⟨rfl, b_⟩
              replace bb := Lib.hid (bl_trans bb.out b_)
              clear b_
              go_wp2
              go_ret
              exact ⟨rfl, bb.out⟩
  | true =>
    go_enter Try.func6, Try.ntmps6
    go_wp2
    rw [hri]
    go_loopw [8, 18] (fun v i wr => ∃ j q : Nat, j ≤ mm ∧ q ≤ 2 * j ∧ i = .int .i64 j ∧ Hid ((longL va true j).length = q) ∧ Own w wr 44 2 v q (ops (longL va true j))) (fun _ i _ => mm - (intOf i).toNat)
    case atStart => exact ⟨0, 0, Nat.zero_le _, Nat.le_refl _, rfl, Lib.hid rfl, Own.nil_ (Below.refl _ _)⟩
    case round =>
      obtain ⟨j, q, hj, hqj, rfl, HQ, hown⟩ := hrel
      generalize wr = w1 at *
      by_cases hlt : j < mm
      · have HT : Hid (longL va true (j + 1) = longL va true j ++ [⟨1, va⟩]) := Lib.hid (by unfold longL; exact List.replicate_succ')
        go_wp2_with (at_builtin; refine append_rd rfl _ _ 22 rfl tOp w _ q (ops (longL va true j)) rfl (hown.alloc _) _ 1 1 [.int .i64 1, .int .i64 va] rfl (Rd.builtAt _ 2 1 [.int .i64 1, .int .i64 va] _ rfl (by simp)) (one_cons rfl (one_cons rfl one_nil)) (by omega) (by omega) ?_; intro v' w' ho' hg; clear hg)
        all_goals
          go_roundw
          case rel => exact ⟨j + 1, q + 1, by omega, by omega, by go_num, Lib.hid (by rw [HT.out, List.length_append, HQ.out]; rfl), by rw [HT.out]; exact own_eq ho' (ops_app (longL va true j) [⟨1, va⟩]).symm⟩
          case measure => simp [intOf]; omega
      · have hjm : j = mm := by omega
        subst hjm
        have HQ0 : Hid ((longB va true j 0).length = q) := Lib.hid (by rw [← HQ.out]; unfold longB longL; simp)
        have HO0 : Own w w1 44 2 _ q (ops (longB va true j 0)) := own_eq hown (by unfold longB longL; simp)
        clear HQ hown
        go_wp2
        go_loopw [8, 40] (fun v i wr => ∃ t p : Nat, t ≤ r ∧ p ≤ 2 * j + t ∧ i = .int .i64 t ∧ Hid ((longB va true j t).length = p) ∧ Own w wr 44 2 v p (ops (longB va true j t))) (fun _ i _ => r - (intOf i).toNat)
        case atStart => exact ⟨0, q, Nat.zero_le _, by omega, rfl, HQ0, HO0⟩
        case round =>
          obtain ⟨t, p, ht, hpt, rfl, HP, hown⟩ := hrel
          generalize wr = w2 at *
          by_cases htr : t < r
          · have HT : Hid (longB va true j (t + 1) = longB va true j t ++ [⟨4, 0⟩]) := Lib.hid (by unfold longB; rw [if_pos rfl, if_pos rfl, List.replicate_succ', List.append_assoc])
            go_wp2_with (at_builtin; refine append_rd rfl _ _ 22 rfl tOp w _ p (ops (longB va true j t)) rfl (hown.alloc _) _ 1 1 [.int .i64 4, .int .i64 0] rfl (Rd.builtAt _ 2 1 [.int .i64 4, .int .i64 0] _ rfl (by simp)) (one_cons rfl (one_cons rfl one_nil)) (by omega) (by omega) ?_; intro v' w' ho' hg; clear hg)
            go_roundw
            case rel => exact ⟨t + 1, p + 1, by omega, by omega, by go_num, Lib.hid (by rw [HT.out, List.length_append, HP.out]; rfl), by rw [HT.out]; exact own_eq ho' (ops_app (longB va true j t) [⟨4, 0⟩]).symm⟩
            case measure => simp [intOf]; omega
          · have htr2 : t = r := by omega
            subst htr2
            have HM2 := HMM.out
            have HLN : Hid (p = 2 * t + 1) := Lib.hid (by rw [← HP.out, HMM.out]; exact longB_len va true t)
            obtain ⟨B1, d1, rfl, r1⟩ := hown.form
            replace bb := Lib.hid hown.2
            have R1 := Lib.hid r1
            clear r1 hown HQ0 HO0 HM2
            by_cases hbig : j = 7
            · have ht6 : t = 6 := by have := HMM.out; omega
              have HLE : Hid (evalS (longB va true j t) [⟨false, 0⟩] [] = (0, 1) ∧ deepS (longB va true j t) = 0) := Lib.hid (by rw [hbig, ht6]; exact long_big va true _ _)
              have hp13 : p = 13 := by rw [HLN.out, ht6]
              have q7 : ((j : Int) == 7) = true := by rw [hbig]; rfl
              have q13 : ((p : Int) == 13) = true := by rw [hp13]; rfl
              clear hbig ht6 hp13
              go_wp2_with fail
              refine (eval_c (longB va true j t) [⟨false, 0⟩] [] _ _ _ _ _ _ _ _ _ _ (0, 1) ((R1.out).alloc _) (Rd.built _ 2 1 (Heap.cs [⟨false, 0⟩]) _ rfl) Rd.none_ (by omega) (by decide) HLE.out.1).mono ?_
              rintro e w4 ⟨rfl, b_⟩
              replace R1 := Lib.hid (((R1.out).alloc _).below b_)
              replace bb := Lib.hid (bl_trans (bl_alloc bb.out _) b_)
              clear b_
              go_wp2_with fail
              refine (deep_c (longB va true j t) _ _ _ _ 0 (R1.out) (by omega) HLE.out.2).mono ?_
              rintro e w5 ⟨rfl, b_⟩
              clear R1
              replace bb := Lib.hid (bl_trans bb.out b_)
              clear b_
              go_wp2_with fail
              refine (awake_any _).mono ?_
              rintro e w6 ⟨rfl, b_⟩
              replace bb := Lib.hid (bl_trans bb.out b_)
              clear b_
              go_wp2
              go_ret
              exact ⟨rfl, bb.out⟩
            · have q7 : ((j : Int) == 7) = false := by apply beq_eq_false_iff_ne.2; omega
              have HLE : Hid (evalS (longB va true j t) [⟨false, 0⟩] [] = ((j : Int) * va, 0)) := Lib.hid (by rw [HMM.out, long_eval va HVA.out true t (by have := HMM.out; omega)]; congr 1)
              have HLD : Hid (deepS (longB va true j t) = j) := Lib.hid (by rw [HMM.out, long_deep va HVA.out true t (by have := HMM.out; omega)]; rfl)
              obtain ⟨pv, hpv⟩ : ∃ pv, (j : Int) * va = pv := ⟨_, rfl⟩
              rw [hpv] at HLE
              have hpb : -2147483648 ≤ pv ∧ pv ≤ 2147483647 := by rw [← hpv]; have h8 := Int.mul_le_mul_of_nonneg_left va1 (by omega : (0 : Int) ≤ (j : Int)); have h9 := Int.mul_le_mul_of_nonneg_left va2 (by omega : (0 : Int) ≤ (j : Int)); omega
              obtain ⟨hpb1, hpb2⟩ := hpb
              have q8 : (pv == pv) = true := by simp
              have q9 : ((j : Int) == (j : Int)) = true := by simp
              clear hbig HLN
              go_wp2_with fail
              refine (eval_c (longB va true j t) [⟨false, 0⟩] [] _ _ _ _ _ _ _ _ _ _ (pv, 0) ((R1.out).alloc _) (Rd.built _ 2 1 (Heap.cs [⟨false, 0⟩]) _ rfl) Rd.none_ (by omega) (by decide) HLE.out).mono ?_
              rintro e w4 ⟨rfl, b_⟩
              replace R1 := Lib.hid (((R1.out).alloc _).below b_)
              replace bb := Lib.hid (bl_trans (bl_alloc bb.out _) b_)
              clear b_
              go_wp2_with fail
              refine (deep_c (longB va true j t) _ _ _ _ j (R1.out) (by omega) HLD.out).mono ?_
              rintro e w5 ⟨rfl, b_⟩
              clear R1
              replace bb := Lib.hid (bl_trans bb.out b_)
              clear b_
              go_wp2_with fail
              refine (awake_any _).mono ?_
              rintro e w6 ⟨rfl, b_⟩
              replace bb := Lib.hid (bl_trans bb.out b_)
              clear b_
              go_wp2
              go_ret
              exact ⟨rfl, bb.out⟩
end Go.Proofs.Ytcdcikjkpbcjgaa.Term
