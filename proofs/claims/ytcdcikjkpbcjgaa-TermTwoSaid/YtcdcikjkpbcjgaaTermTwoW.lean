/-
  THE WALK OF THE LAW TermTwo.
-/
import Derived.Test.YtcdcikjkpbcjgaaTermLaw
import Derived.Test.YtcdcikjkpbcjgaaTermMore
import Derived.Test.YtcdcikjkpbcjgaaTermOp
namespace Go.Proofs.Ytcdcikjkpbcjgaa.Term
open Go.ChangeShapes Go.WideShapes Go.ChangeAt Go.RowKit Mem

set_option maxRecDepth 100000 in
set_option maxHeartbeats 2000000 in
theorem two_walk (A : Option Addr) (n c : Nat) (a : List Op) (B : Option Addr) (q c2 : Nat) (b : List Op) (D : Option Addr) (m d : Nat) (h : List Heap.Cell) (E : Option Addr) (x y : Nat) (rg : List Int) (w : World) (mn : n ≤ 9223372036854775807) (hr : Rd w 2 A n (ops a)) (mq : q ≤ 9223372036854775807) (hq : Rd w 2 B q (ops b)) (mm : m ≤ 9223372036854775807) (hh : Rd w 2 D m (Heap.cs h)) (mx : x ≤ 9223372036854775807) (hg : Rd w 1 E x (zs rg)) :
    Calls Try.prog 5 #[.slice A n c, .slice B q c2, .slice D m d, .slice E x y] w (RetB w true) := by
  have HA := Lib.hid hr
  have HB := Lib.hid hq
  have HH := Lib.hid hh
  have HG := Lib.hid hg
  have HAL := Lib.hid (ops_len hr)
  have HBL := Lib.hid (ops_len hq)
  clear hr hq hh hg
  by_cases h1 : 5 < n
  · go_enter Try.func5, Try.ntmps5
    go_wp2_with fail
    refine (awake_any _).mono ?_
    rintro e v1 ⟨rfl, b1⟩
    go_wp2
    go_ret
    exact ⟨rfl, b1⟩
  by_cases h2 : 5 < q
  · go_enter Try.func5, Try.ntmps5
    go_wp2_with fail
    refine (awake_any _).mono ?_
    rintro e v1 ⟨rfl, b1⟩
    go_wp2
    go_ret
    exact ⟨rfl, b1⟩
  by_cases h3 : 64 < m
  · go_enter Try.func5, Try.ntmps5
    go_wp2_with fail
    refine (awake_any _).mono ?_
    rintro e v1 ⟨rfl, b1⟩
    go_wp2
    go_ret
    exact ⟨rfl, b1⟩
  by_cases h4 : 8 < x
  · go_enter Try.func5, Try.ntmps5
    go_wp2_with fail
    refine (awake_any _).mono ?_
    rintro e v1 ⟨rfl, b1⟩
    go_wp2
    go_ret
    exact ⟨rfl, b1⟩
  obtain ⟨⟨va, ea⟩, hev⟩ : ∃ r, evalS a h rg = r := ⟨_, rfl⟩
  have EA := Lib.hid hev
  clear hev
  obtain ⟨⟨vb, eb⟩, hev⟩ : ∃ r, evalS b h rg = r := ⟨_, rfl⟩
  have EB := Lib.hid hev
  clear hev
  have bb : Hid (Below w.heap.size w w) := Lib.hid (Below.refl _ _)
  by_cases hea : ea = 0
  case neg =>
    have q1 : (ea != 0) = true := by simpa using hea
    go_enter Try.func5, Try.ntmps5
    go_wp2_with fail
    refine (eval_c (a) h rg _ _ _ _ _ _ _ _ _ _ (va, ea) (HA.out.below bb.out) (HH.out.below bb.out) (HG.out.below bb.out) (by omega) (by omega) EA.out).mono ?_
    rintro e w1 ⟨rfl, b_⟩
    replace bb := Lib.hid (bl_trans bb.out b_)
    clear b_
    go_wp2_with fail
    refine (eval_c (b) h rg _ _ _ _ _ _ _ _ _ _ (vb, eb) (HB.out.below bb.out) (HH.out.below bb.out) (HG.out.below bb.out) (by omega) (by omega) EB.out).mono ?_
    rintro e w2 ⟨rfl, b_⟩
    replace bb := Lib.hid (bl_trans bb.out b_)
    clear b_
    go_wp2_with fail
    refine (awake_any _).mono ?_
    rintro e w3 ⟨rfl, b_⟩
    replace bb := Lib.hid (bl_trans bb.out b_)
    clear b_
    go_wp2
    go_ret
    exact ⟨rfl, bb.out⟩
  by_cases heb : eb = 0
  case neg =>
    have q1 : (ea != 0) = false := by simpa using hea
    have q2 : (eb != 0) = true := by simpa using heb
    go_enter Try.func5, Try.ntmps5
    go_wp2_with fail
    refine (eval_c (a) h rg _ _ _ _ _ _ _ _ _ _ (va, ea) (HA.out.below bb.out) (HH.out.below bb.out) (HG.out.below bb.out) (by omega) (by omega) EA.out).mono ?_
    rintro e w1 ⟨rfl, b_⟩
    replace bb := Lib.hid (bl_trans bb.out b_)
    clear b_
    go_wp2_with fail
    refine (eval_c (b) h rg _ _ _ _ _ _ _ _ _ _ (vb, eb) (HB.out.below bb.out) (HH.out.below bb.out) (HG.out.below bb.out) (by omega) (by omega) EB.out).mono ?_
    rintro e w2 ⟨rfl, b_⟩
    replace bb := Lib.hid (bl_trans bb.out b_)
    clear b_
    go_wp2_with fail
    refine (awake_any _).mono ?_
    rintro e w3 ⟨rfl, b_⟩
    replace bb := Lib.hid (bl_trans bb.out b_)
    clear b_
    go_wp2
    go_ret
    exact ⟨rfl, bb.out⟩
  subst hea heb
  have HSUM : Hid (n + q < 12) := Lib.hid (by omega)
  have HVA := Lib.hid (let ⟨_, _, _, _, _, _, h9, _⟩ := eval_ok a h rg va EA.out; h9)
  have HVB := Lib.hid (let ⟨_, _, _, _, _, _, h9, _⟩ := eval_ok b h rg vb EB.out; h9)
  have HRT := Lib.hid (let ⟨_, _, _, _, h9, _⟩ := eval_ok a h rg va EA.out; h9)
  have HCK := Lib.hid (check_two a b h rg va vb EA.out EB.out (by rw [HAL.out, HBL.out]; exact HSUM.out))
  have HNT := Lib.hid (eval_not a h rg va EA.out (by rw [HAL.out]; omega))
  go_enter Try.func5, Try.ntmps5
  go_wp2_with fail
  refine (eval_c (a) h rg _ _ _ _ _ _ _ _ _ _ (va, 0) (HA.out.below bb.out) (HH.out.below bb.out) (HG.out.below bb.out) (by omega) (by omega) EA.out).mono ?_
  rintro e w1 ⟨rfl, b_⟩
  replace bb := Lib.hid (bl_trans bb.out b_)
  clear b_
  go_wp2_with fail
  refine (eval_c (b) h rg _ _ _ _ _ _ _ _ _ _ (vb, 0) (HB.out.below bb.out) (HH.out.below bb.out) (HG.out.below bb.out) (by omega) (by omega) EB.out).mono ?_
  rintro e w2 ⟨rfl, b_⟩
  replace bb := Lib.hid (bl_trans bb.out b_)
  clear b_
  have T1 : Hid True := Lib.hid trivial
  have T2 : Hid True := Lib.hid trivial
  go_wp2_with (first
    | (at_builtin; clear T1; refine append_rd rfl _ _ 22 rfl tOp w2 _ 0 [] rfl (Own.empty _ _ _) _ n _ (ops a) rfl ((HA.out.below bb.out).alloc _) (ops_one a) (by omega) (by omega) ?_; intro v1 p1 ho hg'; clear hg'; have HO := Lib.hid (own_zero ho); clear ho)
    | (at_builtin; clear T2; refine append_rd rfl _ _ 22 rfl tOp w2 _ (n) (ops (a)) rfl HO.out _ q _ (ops b) rfl ((HB.out.below bb.out).below HO.out.2) (ops_one b) (by omega) (by omega) ?_; intro v2 p2 ho hg'; clear hg'; replace HO := Lib.hid (own_eq ho (ops_app (a) b).symm); clear ho; obtain ⟨B_R1, d_R1, rfl, r_⟩ := HO.out.form; have R1 := Lib.hid r_; clear r_; replace bb := Lib.hid (bl_trans bb.out HO.out.2); clear HO))
  go_loopw [14] (fun i wr => ∃ j : Nat, 4 ≤ j ∧ j ≤ 11 ∧ i = .int .i64 j ∧ Hid (Below w.heap.size w wr) ∧ Hid (Rd wr 2 B_R1 (n + q) (ops (a ++ b)))) (fun i _ => 11 - (intOf i).toNat)
  case atStart => exact ⟨4, by omega, by omega, rfl, bb, R1⟩
  case round =>
    obtain ⟨j, hj1, hj2, rfl, bb, R1⟩ := hrel
    generalize wr = w3 at *
    by_cases hlt : j < 11
    · obtain ⟨tv, htv⟩ : ∃ r, two (j : Int) va vb = r := ⟨_, rfl⟩
      have ET : Hid (evalS (a ++ b ++ [⟨(j : Int), 0⟩]) h rg = (tv, 0)) := Lib.hid (by rw [eval_two a b h rg va vb j EA.out EB.out (by omega) (by omega) (by rw [HAL.out, HBL.out]; exact HSUM.out), htv])
      have EU : Hid (evalS [⟨1, va⟩, ⟨1, vb⟩, ⟨(j : Int), 0⟩] h [] = (tv, 0)) := Lib.hid (by rw [eval_consts va vb j h [] HVA.out HVB.out HRT.out (by omega) (by omega), htv])
      have q1 : (tv != tv) = false := by simp
      clear htv
      have T3 : Hid True := Lib.hid trivial
      have T4 : Hid True := Lib.hid trivial
      go_wp2_with (first
        | (at_builtin; clear T3; refine append_rd rfl _ _ 22 rfl tOp w3 _ 0 [] rfl (Own.empty _ _ _) _ (n + q) _ (ops (a ++ b)) rfl (R1.out.alloc _) (ops_one (a ++ b)) (by omega) (by omega) ?_; intro v3 p3 ho hg'; clear hg'; have HO := Lib.hid (own_zero ho); clear ho)
        | (at_builtin; clear T4; refine append_rd rfl _ _ 22 rfl tOp w3 _ ((n + q)) (ops ((a ++ b))) rfl (HO.out.alloc _) _ 1 1 [.int .i64 (j : Int), .int .i64 0] rfl (Rd.builtAt _ 2 1 [.int .i64 (j : Int), .int .i64 0] _ rfl (by simp)) (one_cons rfl (one_cons rfl one_nil)) (by omega) (by omega) ?_; intro v4 p4 ho hg'; clear hg'; replace HO := Lib.hid (own_eq ho (ops_app ((a ++ b)) [⟨(j : Int), 0⟩]).symm); clear ho; obtain ⟨B_R3, d_R3, rfl, r_⟩ := HO.out.form; have R3 := Lib.hid r_; clear r_; replace bb := Lib.hid (bl_trans bb.out HO.out.2); replace R1 := Lib.hid (R1.out.below HO.out.2); clear HO))
      refine (eval_c (a ++ b ++ [⟨(j : Int), 0⟩]) h rg _ _ _ _ _ _ _ _ _ _ (tv, 0) (R3.out) (HH.out.below bb.out) (HG.out.below bb.out) (by omega) (by omega) ET.out).mono ?_
      rintro e w4 ⟨rfl, b_⟩
      replace R1 := Lib.hid ((R1.out).below b_)
      clear R3
      replace bb := Lib.hid (bl_trans bb.out b_)
      clear b_
      go_wp2_with fail
      refine (eval_c [⟨1, va⟩, ⟨1, vb⟩, ⟨(j : Int), 0⟩] h [] _ _ _ _ _ _ _ _ _ _ (tv, 0) (Rd.built _ 2 3 (ops [⟨1, va⟩, ⟨1, vb⟩, ⟨(j : Int), 0⟩]) _ rfl) ((HH.out.below bb.out).alloc _) Rd.none_ (by decide) (by omega) EU.out).mono ?_
      rintro e w5 ⟨rfl, b_⟩
      replace R1 := Lib.hid (((R1.out).alloc _).below b_)
      replace bb := Lib.hid (bl_trans (bl_alloc bb.out _) b_)
      clear b_
      go_wp2
      go_roundw
      case rel => exact ⟨j + 1, by omega, by omega, by go_num, bb, R1⟩
      case measure => simp [intOf]; omega
    · cases hz : (va == 0)
      · have HN2 : Hid (evalS (a ++ [⟨11, 0⟩]) h rg = (0, 0)) := Lib.hid (by rw [HNT.out, hz]; rfl)
        have T21 : Hid True := Lib.hid trivial
        have T22 : Hid True := Lib.hid trivial
        go_wp2_with (first
          | (at_builtin; clear T21; refine append_rd rfl _ _ 22 rfl tOp w3 _ 0 [] rfl (Own.empty _ _ _) _ n _ (ops a) rfl ((HA.out.below bb.out).alloc _) (ops_one a) (by omega) (by omega) ?_; intro v21 p21 ho hg'; clear hg'; have HO := Lib.hid (own_zero ho); clear ho)
          | (at_builtin; clear T22; refine append_rd rfl _ _ 22 rfl tOp w3 _ (n) (ops (a)) rfl (HO.out.alloc _) _ 1 1 [.int .i64 11, .int .i64 0] rfl (Rd.builtAt _ 2 1 [.int .i64 11, .int .i64 0] _ rfl (by simp)) (one_cons rfl (one_cons rfl one_nil)) (by omega) (by omega) ?_; intro v22 p22 ho hg'; clear hg'; replace HO := Lib.hid (own_eq ho (ops_app (a) [⟨11, 0⟩]).symm); clear ho; obtain ⟨B_R4, d_R4, rfl, r_⟩ := HO.out.form; have R4 := Lib.hid r_; clear r_; replace bb := Lib.hid (bl_trans bb.out HO.out.2); replace R1 := Lib.hid (R1.out.below HO.out.2); clear HO))
        refine (eval_c (a ++ [⟨11, 0⟩]) h rg _ _ _ _ _ _ _ _ _ _ (0, 0) (R4.out) (HH.out.below bb.out) (HG.out.below bb.out) (by omega) (by omega) HN2.out).mono ?_
        rintro e w4 ⟨rfl, b_⟩
        replace R1 := Lib.hid ((R1.out).below b_)
        clear R4
        replace bb := Lib.hid (bl_trans bb.out b_)
        clear b_
        go_wp2_with fail
        refine (check_c (a ++ b) _ _ _ _ 2 (R1.out) (by omega) HCK.out).mono ?_
        rintro e w5 ⟨rfl, b_⟩
        clear R1
        replace bb := Lib.hid (bl_trans bb.out b_)
        clear b_
        go_wp2_with fail
        refine (awake_any _).mono ?_
        rintro e w6 ⟨rfl, b_⟩
        replace bb := Lib.hid (bl_trans bb.out b_)
        clear b_
        go_wp2
        go_ret
        exact ⟨rfl, bb.out⟩
      · have HN2 : Hid (evalS (a ++ [⟨11, 0⟩]) h rg = (1, 0)) := Lib.hid (by rw [HNT.out, hz]; rfl)
        have T21 : Hid True := Lib.hid trivial
        have T22 : Hid True := Lib.hid trivial
        go_wp2_with (first
          | (at_builtin; clear T21; refine append_rd rfl _ _ 22 rfl tOp w3 _ 0 [] rfl (Own.empty _ _ _) _ n _ (ops a) rfl ((HA.out.below bb.out).alloc _) (ops_one a) (by omega) (by omega) ?_; intro v21 p21 ho hg'; clear hg'; have HO := Lib.hid (own_zero ho); clear ho)
          | (at_builtin; clear T22; refine append_rd rfl _ _ 22 rfl tOp w3 _ (n) (ops (a)) rfl (HO.out.alloc _) _ 1 1 [.int .i64 11, .int .i64 0] rfl (Rd.builtAt _ 2 1 [.int .i64 11, .int .i64 0] _ rfl (by simp)) (one_cons rfl (one_cons rfl one_nil)) (by omega) (by omega) ?_; intro v22 p22 ho hg'; clear hg'; replace HO := Lib.hid (own_eq ho (ops_app (a) [⟨11, 0⟩]).symm); clear ho; obtain ⟨B_R4, d_R4, rfl, r_⟩ := HO.out.form; have R4 := Lib.hid r_; clear r_; replace bb := Lib.hid (bl_trans bb.out HO.out.2); replace R1 := Lib.hid (R1.out.below HO.out.2); clear HO))
        refine (eval_c (a ++ [⟨11, 0⟩]) h rg _ _ _ _ _ _ _ _ _ _ (1, 0) (R4.out) (HH.out.below bb.out) (HG.out.below bb.out) (by omega) (by omega) HN2.out).mono ?_
        rintro e w4 ⟨rfl, b_⟩
        replace R1 := Lib.hid ((R1.out).below b_)
        clear R4
        replace bb := Lib.hid (bl_trans bb.out b_)
        clear b_
        go_wp2_with fail
        refine (check_c (a ++ b) _ _ _ _ 2 (R1.out) (by omega) HCK.out).mono ?_
        rintro e w5 ⟨rfl, b_⟩
        clear R1
        replace bb := Lib.hid (bl_trans bb.out b_)
        clear b_
        go_wp2_with fail
        refine (awake_any _).mono ?_
        rintro e w6 ⟨rfl, b_⟩
        replace bb := Lib.hid (bl_trans bb.out b_)
        clear b_
        go_wp2
        go_ret
        exact ⟨rfl, bb.out⟩
end Go.Proofs.Ytcdcikjkpbcjgaa.Term
