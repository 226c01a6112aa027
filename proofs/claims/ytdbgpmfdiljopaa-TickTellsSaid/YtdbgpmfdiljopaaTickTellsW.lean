/-
  THE WALK OF THE LAW TickTells, over what the layer's functions are said to do.
-/
import Derived.Test.YtdbgpmfdiljopaaTickLaw
namespace Go.Proofs.Ytdbgpmfdiljopaa.Tick
open Go.ChangeShapes Go.WideShapes Go.ChangeAt Go.RowKit Mem

set_option maxRecDepth 100000 in
set_option maxHeartbeats 2000000 in
theorem tells_walk (S : Said) (a0 a1 : Int) (A2 : Option Addr) (n2 c2 : Nat) (x2 : List Int) (w : World) (w1 : -9223372036854775808 ≤ a1 ∧ a1 ≤ 9223372036854775807)
    (m2 : n2 ≤ 9223372036854775807) (r2 : Rd w 1 A2 n2 (zs x2)) :
    Calls Try.prog 3 #[.int .i64 a0, .int .i64 a1, .slice A2 n2 c2] w (RetB w true) := by
  have HS := Lib.hid S
  clear S
  obtain ⟨w1a, w1b⟩ := w1
  have HL := Lib.hid (zs_len r2)
  by_cases g : n2 ≤ 60
  · have d60 : decide ((60 : Int) < (n2 : Int)) = false := by simp; omega
    have hq1 : (dueS 2147483647 x2).length ≤ n2 := by have := due_len 2147483647 x2; rw [HL.out] at this; exact this
    have hq2 : (dueS a0 x2).length ≤ n2 := by have := due_len a0 x2; rw [HL.out] at this; exact this
    generalize eq2 : (dueS a0 x2).length = q2 at hq2
    have EQ2 := Lib.hid eq2
    generalize en : nextS a0 = rn
    generalize ea : afterS a0 a1 = ra
    generalize et : timeB a0 = rt
    obtain ⟨vn, fn⟩ := rn
    obtain ⟨va, fa⟩ := ra
    have EN := Lib.hid en
    have EA := Lib.hid ea
    have ET := Lib.hid et
    clear eq2 en ea et
    cases hd : dueS 2147483647 x2 with
    | nil =>
      have HF := Lib.hid (first_none x2 hd).1
      have HD := Lib.hid hd
      clear hd hq1
      go_enter Try.func3, Try.ntmps3
      go_wp2_with fail
      refine (HS.out.next a0 _ _ EN.out).mono ?_
      rintro e v1 ⟨rfl, b_⟩
      replace r2 := r2.below b_
      have bb := b_
      clear b_
      go_wp2_with fail
      refine (refnext_any a0 _).mono ?_
      rw [EN.out]
      rintro e w_ ⟨rfl, rfl⟩
      go_wp2_with fail
      refine (HS.out.after a0 a1 _ _ w1a w1b EA.out).mono ?_
      rintro e v2 ⟨rfl, b_⟩
      replace r2 := r2.below b_
      replace bb := bl_trans bb b_
      clear b_
      go_wp2_with fail
      refine (refafter_any a0 a1 _ w1b).mono ?_
      rw [EA.out]
      rintro e w_ ⟨rfl, rfl⟩
      go_wp2_with fail
      refine (refdue_any x2 _ _ _ 2147483647 _ _ 0 r2 (by omega) HD.out rfl).mono ?_
      rintro e v3 ⟨B1, d1, rfl, s1, b_⟩
      replace r2 := r2.below b_
      replace bb := bl_trans bb b_
      clear b_
      go_wp2_with fail
      refine (HS.out.right a0 _ _ ET.out).mono ?_
      rintro e v4 ⟨rfl, b_⟩
      clear s1
      replace r2 := r2.below b_
      replace bb := bl_trans bb b_
      clear b_
      go_wp2_with fail
      refine (refright_any a0 _).mono ?_
      rw [ET.out]
      rintro e w_ ⟨rfl, rfl⟩
      go_wp2_with fail
      refine (HS.out.due x2 _ _ _ a0 _ _ q2 r2 (by omega) rfl EQ2.out).mono ?_
      rintro e v5 ⟨B2, d2, rfl, s2, b_⟩
      replace r2 := r2.below b_
      replace bb := bl_trans bb b_
      clear b_
      go_wp2_with fail
      refine (refdue_any x2 _ _ _ a0 _ _ q2 r2 (by omega) rfl EQ2.out).mono ?_
      rintro e v6 ⟨B3, d3, rfl, s3, b_⟩
      replace r2 := r2.below b_
      replace s2 := s2.below b_
      replace bb := bl_trans bb b_
      clear b_
      go_wp2_with fail
      refine (numbers_b _ _ _ _ _ _ _ _ _ true s2 s3 (by omega) (by omega) (by simp)).mono ?_
      rintro e v7 ⟨rfl, b_⟩
      clear s2
      clear s3
      replace r2 := r2.below b_
      replace bb := bl_trans bb b_
      clear b_
      go_wp2_with fail
      refine (HS.out.first x2 _ _ _ _ _ r2 (by omega) HF.out).mono ?_
      rintro e v8 ⟨rfl, b_⟩
      replace r2 := r2.below b_
      replace bb := bl_trans bb b_
      clear b_
      go_wp2_with fail
      refine (awake_any HS.out _).mono ?_
      rintro e v9 ⟨rfl, b_⟩
      replace r2 := r2.below b_
      replace bb := bl_trans bb b_
      clear b_
      go_wp2_with fail
      go_ret
      exact ⟨rfl, bb⟩
    | cons k rest =>
      have HF := Lib.hid (first_some x2 k rest hd).1
      have HD := Lib.hid hd
      have hrl : rest.length + 1 ≤ n2 := by rw [hd] at hq1; exact hq1
      clear hd hq1
      go_enter Try.func3, Try.ntmps3
      go_wp2_with fail
      refine (HS.out.next a0 _ _ EN.out).mono ?_
      rintro e v1 ⟨rfl, b_⟩
      replace r2 := r2.below b_
      have bb := b_
      clear b_
      go_wp2_with fail
      refine (refnext_any a0 _).mono ?_
      rw [EN.out]
      rintro e w_ ⟨rfl, rfl⟩
      go_wp2_with fail
      refine (HS.out.after a0 a1 _ _ w1a w1b EA.out).mono ?_
      rintro e v2 ⟨rfl, b_⟩
      replace r2 := r2.below b_
      replace bb := bl_trans bb b_
      clear b_
      go_wp2_with fail
      refine (refafter_any a0 a1 _ w1b).mono ?_
      rw [EA.out]
      rintro e w_ ⟨rfl, rfl⟩
      go_wp2_with fail
      refine (refdue_any x2 _ _ _ 2147483647 _ _ (rest.length + 1) r2 (by omega) HD.out rfl).mono ?_
      rintro e v3 ⟨B1, d1, rfl, s1, b_⟩
      replace r2 := r2.below b_
      replace bb := bl_trans bb b_
      clear b_
      obtain ⟨bb1, off1, z1, rfl, hz1, k1⟩ := at_z s1 0 (by omega)
      simp at hz1 k1
      subst hz1
      go_wp2_with fail
      refine (HS.out.right a0 _ _ ET.out).mono ?_
      rintro e v4 ⟨rfl, b_⟩
      clear s1
      replace r2 := r2.below b_
      replace bb := bl_trans bb b_
      clear b_
      go_wp2_with fail
      refine (refright_any a0 _).mono ?_
      rw [ET.out]
      rintro e w_ ⟨rfl, rfl⟩
      go_wp2_with fail
      refine (HS.out.due x2 _ _ _ a0 _ _ q2 r2 (by omega) rfl EQ2.out).mono ?_
      rintro e v5 ⟨B2, d2, rfl, s2, b_⟩
      replace r2 := r2.below b_
      replace bb := bl_trans bb b_
      clear b_
      go_wp2_with fail
      refine (refdue_any x2 _ _ _ a0 _ _ q2 r2 (by omega) rfl EQ2.out).mono ?_
      rintro e v6 ⟨B3, d3, rfl, s3, b_⟩
      replace r2 := r2.below b_
      replace s2 := s2.below b_
      replace bb := bl_trans bb b_
      clear b_
      go_wp2_with fail
      refine (numbers_b _ _ _ _ _ _ _ _ _ true s2 s3 (by omega) (by omega) (by simp)).mono ?_
      rintro e v7 ⟨rfl, b_⟩
      clear s2
      clear s3
      replace r2 := r2.below b_
      replace bb := bl_trans bb b_
      clear b_
      go_wp2_with fail
      refine (HS.out.first x2 _ _ _ _ _ r2 (by omega) HF.out).mono ?_
      rintro e v8 ⟨rfl, b_⟩
      replace r2 := r2.below b_
      replace bb := bl_trans bb b_
      clear b_
      go_wp2_with fail
      refine (awake_any HS.out _).mono ?_
      rintro e v9 ⟨rfl, b_⟩
      replace r2 := r2.below b_
      replace bb := bl_trans bb b_
      clear b_
      go_wp2_with fail
      go_ret
      exact ⟨rfl, bb⟩
  · have g' : 60 < n2 := by omega
    clear g
    go_enter Try.func3, Try.ntmps3
    go_wp2_with (go_at_call 9; refine (awake_any HS.out _).mono ?_; rintro e w2 ⟨rfl, b2⟩)
    all_goals
      go_ret
      exact ⟨rfl, by assumption⟩
end Go.Proofs.Ytdbgpmfdiljopaa.Tick
