/-
  THE WALK OF THE LAW HeapTells, over what the layer's functions are said to do.
-/
import Derived.Test.YtpejbfphejijeaaHeapLaw
namespace Go.Proofs.Ytpejbfphejijeaa.Heap
open Go.ChangeShapes Go.WideShapes Go.ChangeAt Go.RowKit Mem

theorem tells_walk (S : Said) (A0 : Option Addr) (n0 c0 : Nat) (x0 : List Cell) (a1 a2 : Int) (A3 : Option Addr) (n3 c3 : Nat) (x3 : List Write) (w : World)
    (m0 : n0 ≤ 9223372036854775807) (r0 : Rd w 2 A0 n0 (cs x0)) (m3 : n3 ≤ 9223372036854775807) (r3 : Rd w 2 A3 n3 (ws x3)) :
    Calls Try.prog 3 #[.slice A0 n0 c0, .int .i64 a1, .int .i64 a2, .slice A3 n3 c3] w (RetB w true) := by
  have HS := Lib.hid S
  clear S
  by_cases g : n0 ≤ 100 ∧ n3 ≤ 60
  · obtain ⟨g0, g3⟩ := g
    generalize ea : allocS x0 a1 = ra
    generalize ef : freeS x0 a2 = rf
    generalize eg : getS x0 a2 = rg
    generalize ep : putS x0 x3 = rp
    generalize er : rightB x0 = rr
    obtain ⟨ha, ia, fa⟩ := ra
    obtain ⟨hf, ff⟩ := rf
    obtain ⟨vg, fg⟩ := rg
    obtain ⟨hp, fp⟩ := rp
    have EA := Lib.hid ea
    have EF := Lib.hid ef
    have EG := Lib.hid eg
    have EP := Lib.hid ep
    have ER := Lib.hid er
    clear ea ef eg ep er
    go_enter Try.func3, Try.ntmps3
    go_wp2_with fail
    refine (HS.out.alloc x0 _ _ _ _ _ _ r0 (by omega) EA.out).mono ?_
    rintro e w1 ⟨B1, d1, rfl, s1, b1⟩
    replace r0 := r0.below b1
    replace r3 := r3.below b1
    go_wp2_with fail
    refine (alloc_any x0 _ _ _ _ _ r0 (by omega)).mono ?_
    rw [EA.out]
    rintro e w2 ⟨B2, d2, rfl, s2, b2⟩
    replace r0 := r0.below b2
    replace r3 := r3.below b2
    replace s1 := s1.below b2
    replace b1 := bl_trans b1 b2
    clear b2
    go_wp2_with fail
    refine (HS.out.free x0 _ _ _ _ _ _ r0 (by omega) EF.out).mono ?_
    rintro e w3 ⟨B3, d3, rfl, s3, b2⟩
    replace r0 := r0.below b2
    replace r3 := r3.below b2
    replace s1 := s1.below b2
    replace s2 := s2.below b2
    replace b1 := bl_trans b1 b2
    clear b2
    go_wp2_with fail
    refine (free_any x0 _ _ _ _ _ r0 (by omega)).mono ?_
    rw [EF.out]
    rintro e w4 ⟨B4, d4, rfl, s4, b2⟩
    replace r0 := r0.below b2
    replace r3 := r3.below b2
    replace s1 := s1.below b2
    replace s2 := s2.below b2
    replace s3 := s3.below b2
    replace b1 := bl_trans b1 b2
    clear b2
    go_wp2_with fail
    refine (HS.out.get x0 _ _ _ _ _ _ r0 (by omega) EG.out).mono ?_
    rintro e w5 ⟨rfl, b2⟩
    replace r0 := r0.below b2
    replace r3 := r3.below b2
    replace s1 := s1.below b2
    replace s2 := s2.below b2
    replace s3 := s3.below b2
    replace s4 := s4.below b2
    replace b1 := bl_trans b1 b2
    clear b2
    go_wp2_with fail
    refine (get_any x0 _ _ _ _ _ r0 (by omega)).mono ?_
    rw [EG.out]
    rintro e w5' ⟨rfl, rfl⟩
    go_wp2_with fail
    refine (HS.out.put x0 x3 _ _ _ _ _ _ _ _ r0 r3 (by omega) (by omega) EP.out).mono ?_
    rintro e w6 ⟨B6, d6, rfl, s6, b2⟩
    replace r0 := r0.below b2
    replace r3 := r3.below b2
    replace s1 := s1.below b2
    replace s2 := s2.below b2
    replace s3 := s3.below b2
    replace s4 := s4.below b2
    replace b1 := bl_trans b1 b2
    clear b2
    go_wp2_with fail
    refine (put_any x0 x3 _ _ _ _ _ _ _ r0 r3 (by omega) (by omega)).mono ?_
    rw [EP.out]
    rintro e w7 ⟨B7, d7, rfl, s7, b2⟩
    replace r0 := r0.below b2
    replace s1 := s1.below b2
    replace s2 := s2.below b2
    replace s3 := s3.below b2
    replace s4 := s4.below b2
    replace s6 := s6.below b2
    replace b1 := bl_trans b1 b2
    clear b2 r3
    go_wp2_with fail
    refine (HS.out.right x0 _ _ _ _ _ r0 (by omega) ER.out).mono ?_
    rintro e w8 ⟨rfl, b2⟩
    replace r0 := r0.below b2
    replace s1 := s1.below b2
    replace s2 := s2.below b2
    replace s3 := s3.below b2
    replace s4 := s4.below b2
    replace s6 := s6.below b2
    replace s7 := s7.below b2
    replace b1 := bl_trans b1 b2
    clear b2
    go_wp2_with fail
    refine (right_any x0 _ _ _ _ r0 (by omega)).mono ?_
    rw [ER.out]
    rintro e w8' ⟨rfl, rfl⟩
    go_wp2_with fail
    refine (same_b ha ha _ _ _ _ _ _ _ true s1 s2 (by omega) (by omega) (by simp)).mono ?_
    rintro e w9 ⟨rfl, b2⟩
    replace s3 := s3.below b2
    replace s4 := s4.below b2
    replace s6 := s6.below b2
    replace s7 := s7.below b2
    replace b1 := bl_trans b1 b2
    clear b2 s1 s2
    go_wp2_with fail
    refine (same_b hf hf _ _ _ _ _ _ _ true s3 s4 (by omega) (by omega) (by simp)).mono ?_
    rintro e w10 ⟨rfl, b2⟩
    replace s6 := s6.below b2
    replace s7 := s7.below b2
    replace b1 := bl_trans b1 b2
    clear b2 s3 s4
    go_wp2_with fail
    refine (same_b hp hp _ _ _ _ _ _ _ true s6 s7 (by omega) (by omega) (by simp)).mono ?_
    rintro e w11 ⟨rfl, b2⟩
    replace b1 := bl_trans b1 b2
    clear b2 s6 s7
    go_wp2_with fail
    refine (awake_any HS.out _).mono ?_
    rintro e w12 ⟨rfl, b2⟩
    replace b1 := bl_trans b1 b2
    clear b2
    go_wp2_with fail
    go_ret
    exact ⟨rfl, b1⟩
  · have g' : 100 < n0 ∨ 60 < n3 := by omega
    clear g
    go_enter Try.func3, Try.ntmps3
    go_wp2_with (go_at_call 9; refine (awake_any HS.out _).mono ?_; rintro e w1 ⟨rfl, b1⟩)
    all_goals
      go_ret
      exact ⟨rfl, by assumption⟩
end Go.Proofs.Ytpejbfphejijeaa.Heap
