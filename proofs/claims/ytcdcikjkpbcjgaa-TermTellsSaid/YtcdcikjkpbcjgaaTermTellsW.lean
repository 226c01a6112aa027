/-
  THE WALK OF THE LAW TermTells.
-/
import Derived.Test.YtcdcikjkpbcjgaaTermLaw
namespace Go.Proofs.Ytcdcikjkpbcjgaa.Term
open Go.ChangeShapes Go.WideShapes Go.ChangeAt Go.RowKit Mem

set_option maxRecDepth 100000 in
set_option maxHeartbeats 2000000 in
theorem tells_walk (A : Option Addr) (n c : Nat) (l : List Op) (D : Option Addr) (m d : Nat) (h : List Heap.Cell) (E : Option Addr) (x y : Nat) (rg : List Int) (w : World) (mn : n ≤ 9223372036854775807) (hr : Rd w 2 A n (ops l)) (mm : m ≤ 9223372036854775807) (hh : Rd w 2 D m (Heap.cs h)) (mx : x ≤ 9223372036854775807) (hg : Rd w 1 E x (zs rg)) :
    Calls Try.prog 3 #[.slice A n c, .slice D m d, .slice E x y] w (RetB w true) := by
  have HL := Lib.hid (ops_len hr)
  have HR := Lib.hid hr
  have HH := Lib.hid hh
  have HG := Lib.hid hg
  clear hr hh hg
  by_cases h1 : 30 < n
  · go_enter Try.func3, Try.ntmps3
    go_wp2_with fail
    refine (awake_any _).mono ?_
    rintro e v1 ⟨rfl, b1⟩
    go_wp2
    go_ret
    exact ⟨rfl, b1⟩
  by_cases h2 : 100 < m
  · go_enter Try.func3, Try.ntmps3
    go_wp2_with fail
    refine (awake_any _).mono ?_
    rintro e v1 ⟨rfl, b1⟩
    go_wp2
    go_ret
    exact ⟨rfl, b1⟩
  by_cases h3 : 20 < x
  · go_enter Try.func3, Try.ntmps3
    go_wp2_with fail
    refine (awake_any _).mono ?_
    rintro e v1 ⟨rfl, b1⟩
    go_wp2
    go_ret
    exact ⟨rfl, b1⟩
  obtain ⟨⟨v, e0⟩, hev⟩ : ∃ a, evalS l h rg = a := ⟨_, rfl⟩
  have HE := Lib.hid hev
  obtain ⟨ck, hck⟩ : ∃ a, checkS l = a := ⟨_, rfl⟩
  have HC := Lib.hid hck
  obtain ⟨cz, hcz⟩ : ∃ a, cellsS l = a := ⟨_, rfl⟩
  obtain ⟨cq, hcq⟩ : ∃ a, cz.length = a := ⟨_, rfl⟩
  have HZ := Lib.hid hcz
  have HQ := Lib.hid hcq
  have hq : cq ≤ 64 := by
    rw [← hcq, ← hcz]; unfold cellsS; split
    · exact pick_len _ _
    · exact Nat.zero_le _
  obtain ⟨dp, hdp⟩ : ∃ a, deepS l = a := ⟨_, rfl⟩
  have HD := Lib.hid hdp
  have q1 : (ck == ck) = true := by simp
  have q2 : ((dp : Int) == (dp : Int)) = true := by simp
  have q3 : (v == v) = true := by simp
  have q4 : (e0 == e0) = true := by simp
  have bb : Hid (Below w.heap.size w w) := Lib.hid (Below.refl _ _)
  clear hev hck hcz hcq hdp
  go_enter Try.func3, Try.ntmps3
  go_wp2_with fail
  refine (eval_c l h rg _ _ _ _ _ _ _ _ _ _ (v, e0) (HR.out.below bb.out) (HH.out.below bb.out) (HG.out.below bb.out) (by omega) (by omega) HE.out).mono ?_
  rintro e w1 ⟨rfl, b_⟩
  replace bb := Lib.hid (bl_trans bb.out b_)
  clear b_
  go_wp2_with fail
  refine (ref_c l _ _ _ _ (HR.out.below bb.out) (by omega)).mono ?_
  rintro e w2 ⟨B1, d1, rfl, r1, b_⟩
  replace bb := Lib.hid (bl_trans bb.out b_)
  have R1 := Lib.hid r1
  clear r1
  clear b_
  go_wp2_with fail
  refine (refeval l h rg _ _ _ _ _ _ _ _ _ _ (v, e0) (R1.out) (HH.out.below bb.out) (HG.out.below bb.out) (by omega) (by omega) (by omega) HE.out).mono ?_
  rintro e w3 ⟨rfl, b_⟩
  clear R1
  replace bb := Lib.hid (bl_trans bb.out b_)
  clear b_
  go_wp2_with fail
  refine (check_c l _ _ _ _ ck (HR.out.below bb.out) (by omega) HC.out).mono ?_
  rintro e w4 ⟨rfl, b_⟩
  replace bb := Lib.hid (bl_trans bb.out b_)
  clear b_
  go_wp2_with fail
  refine (ref_c l _ _ _ _ (HR.out.below bb.out) (by omega)).mono ?_
  rintro e w5 ⟨B2, d2, rfl, r2, b_⟩
  replace bb := Lib.hid (bl_trans bb.out b_)
  have R2 := Lib.hid r2
  clear r2
  clear b_
  go_wp2_with fail
  refine (refcheck l _ _ _ _ ck (R2.out) (by omega) HC.out).mono ?_
  rintro e w6 ⟨rfl, b_⟩
  clear R2
  replace bb := Lib.hid (bl_trans bb.out b_)
  clear b_
  go_wp2_with fail
  refine ((cells_c l _ _ _ _ cz cq (HR.out.below bb.out) (by omega) HZ.out HQ.out).mono (fun _ _ => RetO.toS)).mono ?_
  rintro e w7 ⟨B3, d3, rfl, r3, b_⟩
  replace bb := Lib.hid (bl_trans bb.out b_)
  have R3 := Lib.hid r3
  clear r3
  clear b_
  go_wp2_with fail
  refine (ref_c l _ _ _ _ (HR.out.below bb.out) (by omega)).mono ?_
  rintro e w8 ⟨B4, d4, rfl, r4, b_⟩
  replace R3 := Lib.hid ((R3.out).below b_)
  replace bb := Lib.hid (bl_trans bb.out b_)
  have R4 := Lib.hid r4
  clear r4
  clear b_
  go_wp2_with fail
  refine (refcells l _ _ _ _ cz cq (R4.out) (by omega) HZ.out HQ.out).mono ?_
  rintro e w9 ⟨B5, d5, rfl, r5, b_⟩
  replace R3 := Lib.hid ((R3.out).below b_)
  clear R4
  replace bb := Lib.hid (bl_trans bb.out b_)
  have R5 := Lib.hid r5
  clear r5
  clear b_
  go_wp2_with fail
  refine (Mem.numbers_b cz cz _ _ _ _ _ _ _ true (R3.out) (R5.out) (by omega) (by omega) (decide_eq_true rfl)).mono ?_
  rintro e w10 ⟨rfl, b_⟩
  clear R3
  clear R5
  replace bb := Lib.hid (bl_trans bb.out b_)
  clear b_
  go_wp2_with fail
  refine (deep_c l _ _ _ _ dp (HR.out.below bb.out) (by omega) HD.out).mono ?_
  rintro e w11 ⟨rfl, b_⟩
  replace bb := Lib.hid (bl_trans bb.out b_)
  clear b_
  go_wp2_with fail
  refine (ref_c l _ _ _ _ (HR.out.below bb.out) (by omega)).mono ?_
  rintro e w12 ⟨B6, d6, rfl, r6, b_⟩
  replace bb := Lib.hid (bl_trans bb.out b_)
  have R6 := Lib.hid r6
  clear r6
  clear b_
  go_wp2_with fail
  refine (refdeep l _ _ _ _ dp (R6.out) (by omega) HD.out).mono ?_
  rintro e w13 ⟨rfl, b_⟩
  clear R6
  replace bb := Lib.hid (bl_trans bb.out b_)
  clear b_
  go_wp2_with fail
  refine (awake_any _).mono ?_
  rintro e w14 ⟨rfl, b_⟩
  replace bb := Lib.hid (bl_trans bb.out b_)
  clear b_
  go_wp2
  go_ret
  exact ⟨rfl, bb.out⟩
end Go.Proofs.Ytcdcikjkpbcjgaa.Term
