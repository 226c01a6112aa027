/-
  THE WALK OF THE LAW CodeDeep.
-/
import Derived.Test.YtcjooibadbhjaaaCodeAwake
import Derived.Test.YtcjooibadbhjaaaCodeJoin
namespace Go.Proofs.Ytcjooibadbhjaaa.Code
open Go.ChangeShapes Go.WideShapes Go.ChangeAt Go.RowKit Mem

theorem bares_app (a b : List (Int × Int × Int)) : bares (a ++ b) = bares a ++ bares b := by unfold bares; rw [List.map_append]
theorem nest_bares (k nk : Nat) (h : nk = 2 * k + 1) : bares [(7, (nk : Int), 1)] ++ bares (nest k) ++ bares [(5, 0, 0)] = bares (nest (k + 1)) := by
  rw [← bares_app, ← bares_app, h]; simp [nest]
set_option maxRecDepth 100000 in
set_option maxHeartbeats 2000000 in
theorem deep_walk (S : Said) (an_ : Int) (han : 0 ≤ an_ ∧ an_ ≤ 255) (w : World) :
    Calls Try.prog 6 #[.int .u8 an_] w (RetB w true) := by
  have HS := Lib.hid S
  clear S
  obtain ⟨at0, at1⟩ := han
  obtain ⟨an, rfl⟩ := Int.eq_ofNat_of_zero_le at0
  obtain ⟨mm, hm⟩ : ∃ r : Nat, an % 9 = r := ⟨_, rfl⟩
  have hmi : (an : Int) % 9 = (mm : Int) := by rw [← hm]; rfl
  have hm8 : mm ≤ 8 := by rw [← hm]; omega
  have bb : Hid (Below w.heap.size w (w.alloc (.cells (rs (bares (nest 0))).toArray 37))) := Lib.hid (bl_alloc (Below.refl _ _) _)
  have R0 : Hid (At (w.alloc (.cells (rs (bares (nest 0))).toArray 37)) (some ⟨w.heap.size, 0, none⟩) 1 (bares (nest 0))) := Lib.hid (bares_at w _ 1 _ _ rfl rfl)
  clear hm at0
  go_enter Try.func6, Try.ntmps6
  go_wp2
  rw [hmi]
  go_loopw [4, 11] (fun v i wr => ∃ (k nk d : Nat) (B : Option Addr), k ≤ mm ∧ nk ≤ 17 ∧ nk ≤ d ∧ Hid (nk = 2 * k + 1) ∧ i = .int .i64 k ∧ v = .slice B nk d ∧ Hid (Below w.heap.size w wr) ∧ Hid (At wr B nk (bares (nest k)))) (fun _ i _ => mm - (intOf i).toNat)
  case atStart => exact ⟨0, 1, 1, _, Nat.zero_le _, by omega, by omega, Lib.hid rfl, rfl, rfl, bb, R0⟩
  case round =>
    obtain ⟨k, nk, d, B, hk, hnk, hnd, HNK, rfl, rfl, bb, R0⟩ := hrel
    generalize wr = w1 at *
    by_cases hlt : k < mm
    · have T0 := Lib.hid trivial
      have T1 : Hid True := Lib.hid trivial
      have T2 : Hid True := Lib.hid trivial
      go_wp2_with (first
        | (at_builtin; clear T1; refine append_rd rfl _ _ 22 rfl tStep w1 _ (1) (rs (bares [(7, (nk : Int), 1)])) rfl (own_built _ _ 4 1 (rs (bares [(7, (nk : Int), 1)])) rfl (by decide)) _ (nk) _ (rs (bares (nest k))) rfl ((R0.out).1.alloc _) (rs_one _) (by omega) (by omega) ?_; intro v1 p1 ho hg'; clear hg'; have HO := Lib.hid (own_eq ho (rs_app (bares [(7, (nk : Int), 1)]) (bares (nest k))).symm); clear ho)
        | (at_builtin; clear T2; refine append_rd rfl _ _ 22 rfl tStep w1 _ (1 + nk) (rs (bares [(7, (nk : Int), 1)] ++ bares (nest k))) rfl ((HO.out).alloc _) _ 1 1 (rs (bares [(5, 0, 0)])) rfl (Rd.builtAt _ 4 1 (rs (bares [(5, 0, 0)])) _ rfl (by simp)) (rs_one _) (by omega) (by omega) ?_; intro v2 p2 ho hg'; clear hg'; replace HO := Lib.hid (own_eq ho (rs_app (bares [(7, (nk : Int), 1)] ++ bares (nest k)) (bares [(5, 0, 0)])).symm); clear ho; obtain ⟨B_R1, d_R1, rfl, c_R1, r_⟩ := own_room HO.out; have R1 : Hid (At _ _ _ (bares [(7, (nk : Int), 1)] ++ bares (nest k) ++ bares [(5, 0, 0)])) := Lib.hid ⟨r_, ((bares_terms _ _).app ((R0.out).2.below HO.out.2)).app (bares_terms _ _)⟩; clear r_; replace bb := Lib.hid (bl_trans bb.out HO.out.2); replace R0 := Lib.hid (R0.out.below HO.out.2); clear HO))
      have R2 : Hid (At _ _ _ (bares (nest (k + 1)))) := Lib.hid (by have := R1.out; rw [nest_bares k nk HNK.out] at this; exact this)
      go_roundw
      case rel => exact ⟨k + 1, 1 + nk + 1, _, _, by omega, by have := HNK.out; omega, by omega, Lib.hid (by have := HNK.out; omega), by go_num, rfl, bb, R2⟩
      case measure => simp [intOf]; omega
    · have hkm : k = mm := by omega
      subst hkm
      by_cases h6 : 6 < k
      · have HN := Lib.hid (nest_big k h6 hm8)
        go_wp2_with fail
        refine (HS.out.check (bares (nest k)) _ _ _ _ 5 (R0.out) hnd (bares_lim _) (by omega) (by rw [bares_ss]; exact HN.out.1)).mono ?_
        rintro e w2 ⟨rfl, b_⟩
        replace R0 := Lib.hid ((R0.out).below b_)
        replace bb := Lib.hid (bl_trans bb.out b_)
        clear b_
        go_wp2_with fail
        refine (HS.out.deep (bares (nest k)) _ _ _ _ 0 (R0.out) hnd (bares_lim _) (by omega) (by rw [bares_ss]; exact HN.out.2.1)).mono ?_
        rintro e w3 ⟨rfl, b_⟩
        replace R0 := Lib.hid ((R0.out).below b_)
        replace bb := Lib.hid (bl_trans bb.out b_)
        clear b_
        go_wp2_with fail
        refine ((HS.out.cells (bares (nest k)) _ _ _ _ [] 0 (R0.out) hnd (bares_lim _) (by omega) (by rw [bares_ss]; exact HN.out.2.2) rfl).mono (fun _ _ => RetO.toS)).mono ?_
        rintro e w4 ⟨B3, d3, rfl, r3, b_⟩
        clear R0
        replace bb := Lib.hid (bl_trans bb.out b_)
        clear b_
        go_wp2_with fail
        refine (awake_any HS.out _).mono ?_
        rintro e w5 ⟨rfl, b_⟩
        replace bb := Lib.hid (bl_trans bb.out b_)
        clear b_
        go_wp2
        go_ret
        exact ⟨rfl, bb.out⟩
      · have HN := Lib.hid (nest_ok k (by omega))
        have q1 : ((k : Int) == (k : Int)) = true := by simp
        go_wp2_with fail
        refine (HS.out.check (bares (nest k)) _ _ _ _ 0 (R0.out) hnd (bares_lim _) (by omega) (by rw [bares_ss]; exact HN.out.1)).mono ?_
        rintro e w2 ⟨rfl, b_⟩
        replace R0 := Lib.hid ((R0.out).below b_)
        replace bb := Lib.hid (bl_trans bb.out b_)
        clear b_
        go_wp2_with fail
        refine (HS.out.deep (bares (nest k)) _ _ _ _ k (R0.out) hnd (bares_lim _) (by omega) (by rw [bares_ss]; exact HN.out.2)).mono ?_
        rintro e w3 ⟨rfl, b_⟩
        clear R0
        replace bb := Lib.hid (bl_trans bb.out b_)
        clear b_
        go_wp2_with fail
        refine (awake_any HS.out _).mono ?_
        rintro e w4 ⟨rfl, b_⟩
        replace bb := Lib.hid (bl_trans bb.out b_)
        clear b_
        go_wp2
        go_ret
        exact ⟨rfl, bb.out⟩
end Go.Proofs.Ytcjooibadbhjaaa.Code
