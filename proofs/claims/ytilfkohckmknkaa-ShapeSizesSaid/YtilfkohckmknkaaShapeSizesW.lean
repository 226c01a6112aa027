/-
  THE WALK OF THE LAW ShapeSizes.
-/
import Derived.Test.YtilfkohckmknkaaShapeAwake
namespace Go.Proofs.Ytilfkohckmknkaa.Shape
open Go.ChangeShapes Go.WideShapes Go.ChangeAt Go.RowKit Mem Go.Proofs.Ytilfkohckmknkaa.Code

theorem own_zero {w0 w : World} {e size n : Nat} {v : Value} {ys : List Value} (h : Own w0 w e size v (0 + n) ([] ++ ys)) : Own w0 w e size v n ys := by
  rw [Nat.zero_add, List.nil_append] at h; exact h
theorem lim_app {a b : List Raw} (ha : Lim a) (hb : Lim b) : Lim (a ++ b) := by
  intro r hr
  rcases List.mem_append.1 hr with hr | hr
  · exact ha r hr
  · exact hb r hr
theorem small_val (l : List Raw) (n : Nat) (hl : l.length = n) (h : smallB l = true) : smallI l = (n : Int) := by unfold smallI; rw [if_pos h, hl]
theorem small_neg (l : List Raw) (h : smallB l = false) : smallI l = -1 := by unfold smallI; rw [h]; rfl
set_option maxRecDepth 100000 in
set_option maxHeartbeats 2000000 in
theorem sizes_walk (A : Option Addr) (n c : Nat) (a : List Raw) (B : Option Addr) (q c2 : Nat) (b : List Raw) (w : World) (hnc : n ≤ c) (mn : n ≤ 9223372036854775807) (hat : At w A n a) (hqc : q ≤ c2) (mq : q ≤ 9223372036854775807) (hbt : At w B q b) :
    Calls Try.prog 8 #[.slice A n c, .slice B q c2] w (RetB w true) := by
  have HAL := Lib.hid hat.len
  have HBL := Lib.hid hbt.len
  have HA := Lib.hid hat
  have HB := Lib.hid hbt
  clear hat hbt
  have bb : Hid (Below w.heap.size w w) := Lib.hid (Below.refl _ _)
  cases hs : smallB a
  case false =>
    have SA := Lib.hid (small_neg a hs)
    clear hs
    go_enter Try.func8, Try.ntmps8
    go_wp2_with fail
    refine (small_c a _ _ _ _ (-1) (HA.out.below bb.out) mn SA.out).mono ?_
    rintro e w1 ⟨rfl, b_⟩
    replace bb := Lib.hid (bl_trans bb.out b_)
    clear b_
    go_wp2_with fail
    refine (awake_any _).mono ?_
    rintro e w2 ⟨rfl, b_⟩
    replace bb := Lib.hid (bl_trans bb.out b_)
    clear b_
    go_wp2
    go_ret
    exact ⟨rfl, bb.out⟩
  obtain ⟨hlim, h40⟩ := small_lim a hs
  have SA := Lib.hid (small_val a n HAL.out hs)
  have LA := Lib.hid hlim
  have hn40 : n ≤ 40 := by rw [← HAL.out]; exact h40
  clear hs hlim h40
  cases hs : smallB b
  case false =>
    have SB := Lib.hid (small_neg b hs)
    clear hs
    go_enter Try.func8, Try.ntmps8
    go_wp2_with fail
    refine (small_c a _ _ _ _ ((n : Int)) (HA.out.below bb.out) mn SA.out).mono ?_
    rintro e w1 ⟨rfl, b_⟩
    replace bb := Lib.hid (bl_trans bb.out b_)
    clear b_
    go_wp2_with fail
    refine (small_c b _ _ _ _ (-1) (HB.out.below bb.out) mq SB.out).mono ?_
    rintro e w2 ⟨rfl, b_⟩
    replace bb := Lib.hid (bl_trans bb.out b_)
    clear b_
    go_wp2_with fail
    refine (awake_any _).mono ?_
    rintro e w3 ⟨rfl, b_⟩
    replace bb := Lib.hid (bl_trans bb.out b_)
    clear b_
    go_wp2
    go_ret
    exact ⟨rfl, bb.out⟩
  obtain ⟨hlim, h40⟩ := small_lim b hs
  have SB := Lib.hid (small_val b q HBL.out hs)
  have LB := Lib.hid hlim
  have hq40 : q ≤ 40 := by rw [← HBL.out]; exact h40
  clear hs hlim h40
  obtain ⟨ca, hca⟩ : ∃ x, checkS (ss a) = x := ⟨_, rfl⟩
  have CA := Lib.hid hca
  obtain ⟨cb, hcb⟩ : ∃ x, checkS (ss b) = x := ⟨_, rfl⟩
  have CB := Lib.hid hcb
  obtain ⟨cj, hcj⟩ : ∃ x, checkS (ss (a ++ b)) = x := ⟨_, rfl⟩
  have CJ := Lib.hid hcj
  by_cases za : ca = 0
  case neg =>
    have ZA : Hid (sizeS (ss a) = 0) := Lib.hid (by unfold sizeS; rw [if_neg (by rw [hca]; exact za)])
    have q1 : (ca != 0) = true := by simpa using za
    clear hca hcb hcj za
    go_enter Try.func8, Try.ntmps8
    go_wp2_with fail
    refine (small_c a _ _ _ _ ((n : Int)) (HA.out.below bb.out) mn SA.out).mono ?_
    rintro e w1 ⟨rfl, b_⟩
    replace bb := Lib.hid (bl_trans bb.out b_)
    clear b_
    go_wp2_with fail
    refine (small_c b _ _ _ _ ((q : Int)) (HB.out.below bb.out) mq SB.out).mono ?_
    rintro e w2 ⟨rfl, b_⟩
    replace bb := Lib.hid (bl_trans bb.out b_)
    clear b_
    have T1 : True := trivial
    have T2 : True := trivial
    go_wp2_with (first
      | (at_builtin; clear T1; refine append_rd rfl _ _ 33 rfl tStep w2 _ 0 [] rfl (Own.empty _ _ _) _ n _ (rs a) rfl ((HA.out.below bb.out).1.alloc _) (rs_one _) (by omega) (by omega) ?_; intro v1 p1 ho hg'; clear hg'; have HO := Lib.hid (own_zero ho); clear ho)
      | (at_builtin; clear T2; refine append_rd rfl _ _ 33 rfl tStep w2 _ n (rs a) rfl HO.out _ q _ (rs b) rfl ((HB.out.below bb.out).1.below HO.out.2) (rs_one _) (by omega) (by omega) ?_; intro v2 p2 ho hg'; clear hg'; have HOO := Lib.hid ho; clear ho; obtain ⟨BJ, dJ, rfl, cJ, rJ⟩ := own_room HOO.out; rw [← rs_app] at rJ; have RJ := Lib.hid (show At _ _ _ (a ++ b) from ⟨rJ, ((HA.out.below bb.out).2.below HOO.out.2).app ((HB.out.below bb.out).2.below HOO.out.2)⟩); clear rJ; replace bb := Lib.hid (bl_trans bb.out HOO.out.2)))
    refine (Code.check_c a _ _ _ _ ca (HA.out.below bb.out) hnc LA.out CA.out (by omega)).mono ?_
    rintro e w3 ⟨rfl, b_⟩
    replace RJ := Lib.hid (RJ.out.below b_)
    replace bb := Lib.hid (bl_trans bb.out b_)
    clear b_
    go_wp2_with fail
    refine (size_c a _ _ _ _ 0 (HA.out.below bb.out) hnc LA.out (by omega) ZA.out).mono ?_
    rintro e w4 ⟨rfl, b_⟩
    replace RJ := Lib.hid (RJ.out.below b_)
    replace bb := Lib.hid (bl_trans bb.out b_)
    clear b_
    go_wp2_with fail
    refine (awake_any _).mono ?_
    rintro e w5 ⟨rfl, b_⟩
    replace RJ := Lib.hid (RJ.out.below b_)
    replace bb := Lib.hid (bl_trans bb.out b_)
    clear b_
    go_wp2
    go_ret
    exact ⟨rfl, bb.out⟩
  subst za
  by_cases zb : cb = 0
  case neg =>
    have q1 : (cb != 0) = true := by simpa using zb
    clear hca hcb hcj zb
    go_enter Try.func8, Try.ntmps8
    go_wp2_with fail
    refine (small_c a _ _ _ _ ((n : Int)) (HA.out.below bb.out) mn SA.out).mono ?_
    rintro e w1 ⟨rfl, b_⟩
    replace bb := Lib.hid (bl_trans bb.out b_)
    clear b_
    go_wp2_with fail
    refine (small_c b _ _ _ _ ((q : Int)) (HB.out.below bb.out) mq SB.out).mono ?_
    rintro e w2 ⟨rfl, b_⟩
    replace bb := Lib.hid (bl_trans bb.out b_)
    clear b_
    have T1 : True := trivial
    have T2 : True := trivial
    go_wp2_with (first
      | (at_builtin; clear T1; refine append_rd rfl _ _ 33 rfl tStep w2 _ 0 [] rfl (Own.empty _ _ _) _ n _ (rs a) rfl ((HA.out.below bb.out).1.alloc _) (rs_one _) (by omega) (by omega) ?_; intro v1 p1 ho hg'; clear hg'; have HO := Lib.hid (own_zero ho); clear ho)
      | (at_builtin; clear T2; refine append_rd rfl _ _ 33 rfl tStep w2 _ n (rs a) rfl HO.out _ q _ (rs b) rfl ((HB.out.below bb.out).1.below HO.out.2) (rs_one _) (by omega) (by omega) ?_; intro v2 p2 ho hg'; clear hg'; have HOO := Lib.hid ho; clear ho; obtain ⟨BJ, dJ, rfl, cJ, rJ⟩ := own_room HOO.out; rw [← rs_app] at rJ; have RJ := Lib.hid (show At _ _ _ (a ++ b) from ⟨rJ, ((HA.out.below bb.out).2.below HOO.out.2).app ((HB.out.below bb.out).2.below HOO.out.2)⟩); clear rJ; replace bb := Lib.hid (bl_trans bb.out HOO.out.2)))
    refine (Code.check_c a _ _ _ _ 0 (HA.out.below bb.out) hnc LA.out CA.out (by omega)).mono ?_
    rintro e w3 ⟨rfl, b_⟩
    replace RJ := Lib.hid (RJ.out.below b_)
    replace bb := Lib.hid (bl_trans bb.out b_)
    clear b_
    go_wp2_with fail
    refine (Code.check_c b _ _ _ _ cb (HB.out.below bb.out) hqc LB.out CB.out (by omega)).mono ?_
    rintro e w4 ⟨rfl, b_⟩
    replace RJ := Lib.hid (RJ.out.below b_)
    replace bb := Lib.hid (bl_trans bb.out b_)
    clear b_
    go_wp2_with fail
    refine (awake_any _).mono ?_
    rintro e w5 ⟨rfl, b_⟩
    replace RJ := Lib.hid (RJ.out.below b_)
    replace bb := Lib.hid (bl_trans bb.out b_)
    clear b_
    go_wp2
    go_ret
    exact ⟨rfl, bb.out⟩
  subst zb
  by_cases zj : cj = 0
  case neg =>
    have q1 : (cj != 0) = true := by simpa using zj
    clear hca hcb hcj zj
    go_enter Try.func8, Try.ntmps8
    go_wp2_with fail
    refine (small_c a _ _ _ _ ((n : Int)) (HA.out.below bb.out) mn SA.out).mono ?_
    rintro e w1 ⟨rfl, b_⟩
    replace bb := Lib.hid (bl_trans bb.out b_)
    clear b_
    go_wp2_with fail
    refine (small_c b _ _ _ _ ((q : Int)) (HB.out.below bb.out) mq SB.out).mono ?_
    rintro e w2 ⟨rfl, b_⟩
    replace bb := Lib.hid (bl_trans bb.out b_)
    clear b_
    have T1 : True := trivial
    have T2 : True := trivial
    go_wp2_with (first
      | (at_builtin; clear T1; refine append_rd rfl _ _ 33 rfl tStep w2 _ 0 [] rfl (Own.empty _ _ _) _ n _ (rs a) rfl ((HA.out.below bb.out).1.alloc _) (rs_one _) (by omega) (by omega) ?_; intro v1 p1 ho hg'; clear hg'; have HO := Lib.hid (own_zero ho); clear ho)
      | (at_builtin; clear T2; refine append_rd rfl _ _ 33 rfl tStep w2 _ n (rs a) rfl HO.out _ q _ (rs b) rfl ((HB.out.below bb.out).1.below HO.out.2) (rs_one _) (by omega) (by omega) ?_; intro v2 p2 ho hg'; clear hg'; have HOO := Lib.hid ho; clear ho; obtain ⟨BJ, dJ, rfl, cJ, rJ⟩ := own_room HOO.out; rw [← rs_app] at rJ; have RJ := Lib.hid (show At _ _ _ (a ++ b) from ⟨rJ, ((HA.out.below bb.out).2.below HOO.out.2).app ((HB.out.below bb.out).2.below HOO.out.2)⟩); clear rJ; replace bb := Lib.hid (bl_trans bb.out HOO.out.2)))
    refine (Code.check_c a _ _ _ _ 0 (HA.out.below bb.out) hnc LA.out CA.out (by omega)).mono ?_
    rintro e w3 ⟨rfl, b_⟩
    replace RJ := Lib.hid (RJ.out.below b_)
    replace bb := Lib.hid (bl_trans bb.out b_)
    clear b_
    go_wp2_with fail
    refine (Code.check_c b _ _ _ _ 0 (HB.out.below bb.out) hqc LB.out CB.out (by omega)).mono ?_
    rintro e w4 ⟨rfl, b_⟩
    replace RJ := Lib.hid (RJ.out.below b_)
    replace bb := Lib.hid (bl_trans bb.out b_)
    clear b_
    go_wp2_with fail
    refine (Code.check_c (a ++ b) _ _ _ _ cj RJ.out cJ (lim_app LA.out LB.out) CJ.out (by omega)).mono ?_
    rintro e w5 ⟨rfl, b_⟩
    replace RJ := Lib.hid (RJ.out.below b_)
    replace bb := Lib.hid (bl_trans bb.out b_)
    clear b_
    go_wp2_with fail
    refine (awake_any _).mono ?_
    rintro e w6 ⟨rfl, b_⟩
    replace RJ := Lib.hid (RJ.out.below b_)
    replace bb := Lib.hid (bl_trans bb.out b_)
    clear b_
    go_wp2
    go_ret
    exact ⟨rfl, bb.out⟩
  subst zj
  obtain ⟨sza, hsa⟩ : ∃ x, (codeS (ss a)).length = x := ⟨_, rfl⟩
  obtain ⟨szb, hsb⟩ : ∃ x, (codeS (ss b)).length = x := ⟨_, rfl⟩
  obtain ⟨szj, hsj⟩ : ∃ x, (codeS (ss (a ++ b))).length = x := ⟨_, rfl⟩
  have ZA : Hid (sizeS (ss a) = sza) := Lib.hid (by unfold sizeS; rw [if_pos hca]; exact hsa)
  have ZB : Hid (sizeS (ss b) = szb) := Lib.hid (by unfold sizeS; rw [if_pos hcb]; exact hsb)
  have ZJ : Hid (sizeS (ss (a ++ b)) = szj) := Lib.hid (by unfold sizeS; rw [if_pos hcj]; exact hsj)
  have hadd : szj + 1 = sza + szb := by rw [← hsa, ← hsb, ← hsj, ss_app]; exact code_app _ _
  have hlong : 1 + 4 * n ≤ sza := by
    have := code_long (ss a)
    rw [ss_len, HAL.out, hsa] at this; exact this
  have hba : sza ≤ 400000 := by rw [← hsa]; exact code_bound _ (code_fit _ hca)
  have hbb : szb ≤ 400000 := by rw [← hsb]; exact code_bound _ (code_fit _ hcb)
  have q1 : ((szj : Int) == (sza : Int) + (szb : Int) - 1) = true := by
    have : (szj : Int) = (sza : Int) + (szb : Int) - 1 := by omega
    rw [this]; simp
  have q2 : (1 + 4 * (n : Int)) ≤ (sza : Int) := by omega
  have HADD := Lib.hid hadd
  have HLONG := Lib.hid hlong
  clear hca hcb hcj hsa hsb hsj hadd hlong
  go_enter Try.func8, Try.ntmps8
  go_wp2_with fail
  refine (small_c a _ _ _ _ ((n : Int)) (HA.out.below bb.out) mn SA.out).mono ?_
  rintro e w1 ⟨rfl, b_⟩
  replace bb := Lib.hid (bl_trans bb.out b_)
  clear b_
  go_wp2_with fail
  refine (small_c b _ _ _ _ ((q : Int)) (HB.out.below bb.out) mq SB.out).mono ?_
  rintro e w2 ⟨rfl, b_⟩
  replace bb := Lib.hid (bl_trans bb.out b_)
  clear b_
  have T1 : True := trivial
  have T2 : True := trivial
  go_wp2_with (first
    | (at_builtin; clear T1; refine append_rd rfl _ _ 33 rfl tStep w2 _ 0 [] rfl (Own.empty _ _ _) _ n _ (rs a) rfl ((HA.out.below bb.out).1.alloc _) (rs_one _) (by omega) (by omega) ?_; intro v1 p1 ho hg'; clear hg'; have HO := Lib.hid (own_zero ho); clear ho)
    | (at_builtin; clear T2; refine append_rd rfl _ _ 33 rfl tStep w2 _ n (rs a) rfl HO.out _ q _ (rs b) rfl ((HB.out.below bb.out).1.below HO.out.2) (rs_one _) (by omega) (by omega) ?_; intro v2 p2 ho hg'; clear hg'; have HOO := Lib.hid ho; clear ho; obtain ⟨BJ, dJ, rfl, cJ, rJ⟩ := own_room HOO.out; rw [← rs_app] at rJ; have RJ := Lib.hid (show At _ _ _ (a ++ b) from ⟨rJ, ((HA.out.below bb.out).2.below HOO.out.2).app ((HB.out.below bb.out).2.below HOO.out.2)⟩); clear rJ; replace bb := Lib.hid (bl_trans bb.out HOO.out.2)))
  refine (Code.check_c a _ _ _ _ 0 (HA.out.below bb.out) hnc LA.out CA.out (by omega)).mono ?_
  rintro e w3 ⟨rfl, b_⟩
  replace RJ := Lib.hid (RJ.out.below b_)
  replace bb := Lib.hid (bl_trans bb.out b_)
  clear b_
  go_wp2_with fail
  refine (Code.check_c b _ _ _ _ 0 (HB.out.below bb.out) hqc LB.out CB.out (by omega)).mono ?_
  rintro e w4 ⟨rfl, b_⟩
  replace RJ := Lib.hid (RJ.out.below b_)
  replace bb := Lib.hid (bl_trans bb.out b_)
  clear b_
  go_wp2_with fail
  refine (Code.check_c (a ++ b) _ _ _ _ 0 RJ.out cJ (lim_app LA.out LB.out) CJ.out (by omega)).mono ?_
  rintro e w5 ⟨rfl, b_⟩
  replace RJ := Lib.hid (RJ.out.below b_)
  replace bb := Lib.hid (bl_trans bb.out b_)
  clear b_
  go_wp2_with fail
  refine (size_c (a ++ b) _ _ _ _ szj RJ.out cJ (lim_app LA.out LB.out) (by omega) ZJ.out).mono ?_
  rintro e w6 ⟨rfl, b_⟩
  replace RJ := Lib.hid (RJ.out.below b_)
  replace bb := Lib.hid (bl_trans bb.out b_)
  clear b_
  go_wp2_with fail
  refine (size_c a _ _ _ _ sza (HA.out.below bb.out) hnc LA.out (by omega) ZA.out).mono ?_
  rintro e w7 ⟨rfl, b_⟩
  replace RJ := Lib.hid (RJ.out.below b_)
  replace bb := Lib.hid (bl_trans bb.out b_)
  clear b_
  go_wp2_with fail
  refine (size_c b _ _ _ _ szb (HB.out.below bb.out) hqc LB.out (by omega) ZB.out).mono ?_
  rintro e w8 ⟨rfl, b_⟩
  replace RJ := Lib.hid (RJ.out.below b_)
  replace bb := Lib.hid (bl_trans bb.out b_)
  clear b_
  go_wp2_with fail
  refine (size_c a _ _ _ _ sza (HA.out.below bb.out) hnc LA.out (by omega) ZA.out).mono ?_
  rintro e w9 ⟨rfl, b_⟩
  replace RJ := Lib.hid (RJ.out.below b_)
  replace bb := Lib.hid (bl_trans bb.out b_)
  clear b_
  go_wp2_with fail
  refine (awake_any _).mono ?_
  rintro e w10 ⟨rfl, b_⟩
  replace RJ := Lib.hid (RJ.out.below b_)
  replace bb := Lib.hid (bl_trans bb.out b_)
  clear b_
  go_wp2
  go_ret
  exact ⟨rfl, bb.out⟩
end Go.Proofs.Ytilfkohckmknkaa.Shape
