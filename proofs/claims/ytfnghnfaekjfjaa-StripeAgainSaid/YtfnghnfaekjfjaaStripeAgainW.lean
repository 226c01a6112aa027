/-
  THE WALK OF THE LAW StripeAgain, over what the layer's functions are said to do.
-/
import Derived.Test.YtfnghnfaekjfjaaStripeLaw
import Derived.Test.YtfnghnfaekjfjaaStripeMore3
namespace Go.Proofs.Ytfnghnfaekjfjaa.Stripe
open Go.ChangeShapes Go.WideShapes Go.ChangeAt Go.RowKit Mem

set_option maxRecDepth 100000 in
set_option maxHeartbeats 2000000 in
theorem again_walk (S : Said) (A0 : Option Addr) (n0 c0 : Nat) (x0 : List Rec) (a1 : Int) (A2 : Option Addr) (n2 c2 : Nat) (x2 : List Int) (A3 : Option Addr) (n3 c3 : Nat) (x3 : List Int) (w : World)
    (m0 : n0 ≤ 9223372036854775807) (r0 : Rd w 2 A0 n0 (rs x0)) (m2 : n2 ≤ 9223372036854775807) (r2 : Rd w 1 A2 n2 (zs x2)) (m3 : n3 ≤ 9223372036854775807) (r3 : Rd w 1 A3 n3 (zs x3)) :
    Calls Try.prog 8 #[.slice A0 n0 c0, .int .i64 a1, .slice A2 n2 c2, .slice A3 n3 c3] w (RetB w true) := by
  have HS := Lib.hid S
  clear S
  by_cases gg : n0 ≤ 16 ∧ n2 ≤ 30 ∧ n3 ≤ 30
  · obtain ⟨g0, g2, g3⟩ := gg
    have d16 : decide ((16 : Int) < (n0 : Int)) = false := by simp; omega
    have d30 : decide ((30 : Int) < (n2 : Int)) = false := by simp; omega
    have d31 : decide ((30 : Int) < (n3 : Int)) = false := by simp; omega
    by_cases hr : rightB x0 = true
    · have HR := Lib.hid hr
      obtain ⟨x, e, y, f, z, g, u, h, p1, p2, p3, p4, q1, q2, q3⟩ := again3 x0 a1 x2 x3 hr
      have P1 := Lib.hid p1
      have P2 := Lib.hid p2
      have P3 := Lib.hid p3
      have P4 := Lib.hid p4
      have LL := Lib.hid (let_let x a1)
      clear hr p1 p2 p3 p4
      by_cases hg : (g == 0) = true
      · rw [hg] at q1
        obtain ⟨he, hf⟩ := Bool.and_eq_true_iff.1 q1.symm
        have hyz := q2 hg
        obtain ⟨hh, hu⟩ := q3 he
        have hg' := eq_of_beq hg
        have he' := eq_of_beq he
        have hf' := eq_of_beq hf
        clear q1 q2 q3 hg he hf
        have hu' := hu.symm
        subst hyz hg' he' hf' hh hu'
        go_enter Try.func8, Try.ntmps8
        go_wp2_with fail
        refine (HS.out.right _ _ _ _ _ _ r0 (by omega) HR.out).mono ?_
        rintro e v1 ⟨rfl, b_⟩
        replace r0 := r0.below b_
        replace r2 := r2.below b_
        replace r3 := r3.below b_
        have bb := b_
        clear b_
        go_wp2_with fail
        refine (HS.out.lock x0 x2 _ _ _ _ _ _ _ _ _ r0 r2 (by omega) (by omega) P1.out).mono ?_
        rintro e v2 ⟨B1, d1, rfl, s1, b_⟩
        replace r0 := r0.below b_
        replace r2 := r2.below b_
        replace r3 := r3.below b_
        replace bb := bl_trans bb b_
        clear b_
        go_wp2_with fail
        refine (HS.out.lock x x3 _ _ _ _ _ _ _ _ _ s1 r3 (by omega) (by omega) P2.out).mono ?_
        rintro e v3 ⟨B2, d2, rfl, s2, b_⟩
        replace r0 := r0.below b_
        replace r2 := r2.below b_
        replace r3 := r3.below b_
        replace s1 := s1.below b_
        replace bb := bl_trans bb b_
        clear b_
        go_wp2_with (first
          | (at_builtin; refine append_rd rfl (.tmp 54) (.tmp 55) 23 rfl tInt v3 _ _ _ rfl (Own.empty v3 _ _) A2 n2 c2 (zs x2) rfl (r2.alloc _) (zs_one x2) (by omega) (by omega) ?_; intro va wa oa hga)
          | (at_builtin; refine append_rd rfl (.tmp 56) (.tmp 57) 23 rfl tInt v3 va _ _ rfl oa A3 n3 c3 (zs x3) rfl (r3.below oa.2) (zs_one x3) (by omega) (by omega) ?_; intro vb wb ob hgb))
        obtain ⟨Bb, db, rfl, qb⟩ := ob.form
        replace r0 := r0.below ob.2
        replace r2 := r2.below ob.2
        replace r3 := r3.below ob.2
        replace s1 := s1.below ob.2
        replace s2 := s2.below ob.2
        replace bb := bl_trans bb ob.2
        have qb' : Rd wb 1 Bb (0 + n2 + n3) (zs (x2 ++ x3)) := by rw [zs_app]; exact qb
        clear qb ob hgb oa hga
        refine (HS.out.lock x0 (x2 ++ x3) _ _ _ _ _ _ _ _ _ r0 qb' (by omega) (by omega) P3.out).mono ?_
        rintro e v4 ⟨B3, d3, rfl, s3, b_⟩
        replace r0 := r0.below b_
        replace r2 := r2.below b_
        replace r3 := r3.below b_
        replace s1 := s1.below b_
        replace s2 := s2.below b_
        replace bb := bl_trans bb b_
        clear b_
        go_wp2_with fail
        refine (same_b _ _ _ _ _ _ _ _ _ true s2 s3 (by omega) (by omega) (by simp)).mono ?_
        rintro e v5 ⟨rfl, b_⟩
        clear s3
        replace r0 := r0.below b_
        replace r2 := r2.below b_
        replace r3 := r3.below b_
        replace s1 := s1.below b_
        replace s2 := s2.below b_
        replace bb := bl_trans bb b_
        clear b_
        go_wp2_with fail
        refine (HS.out.lock x x2 _ _ _ _ _ _ _ _ _ s1 r2 (by omega) (by omega) P4.out).mono ?_
        rintro e v6 ⟨B4, d4, rfl, s4, b_⟩
        replace r0 := r0.below b_
        replace r2 := r2.below b_
        replace r3 := r3.below b_
        replace s1 := s1.below b_
        replace s2 := s2.below b_
        replace bb := bl_trans bb b_
        clear b_
        go_wp2_with fail
        refine (HS.out.let_ x _ _ _ _ _ _ s1 (by omega) rfl).mono ?_
        rintro e v7 ⟨B5, d5, rfl, s5, b_⟩
        replace r0 := r0.below b_
        replace r2 := r2.below b_
        replace r3 := r3.below b_
        replace s1 := s1.below b_
        replace s2 := s2.below b_
        replace s4 := s4.below b_
        replace bb := bl_trans bb b_
        clear b_
        go_wp2_with fail
        refine (same_b _ _ _ _ _ _ _ _ _ true s4 s1 (by omega) (by omega) (by simp)).mono ?_
        rintro e v8 ⟨rfl, b_⟩
        clear s4
        replace r0 := r0.below b_
        replace r2 := r2.below b_
        replace r3 := r3.below b_
        replace s1 := s1.below b_
        replace s2 := s2.below b_
        replace s5 := s5.below b_
        replace bb := bl_trans bb b_
        clear b_
        go_wp2_with fail
        refine (HS.out.let_ _ _ _ _ _ _ _ s5 (by omega) LL.out).mono ?_
        rintro e v9 ⟨B6, d6, rfl, s6, b_⟩
        replace r0 := r0.below b_
        replace r2 := r2.below b_
        replace r3 := r3.below b_
        replace s1 := s1.below b_
        replace s2 := s2.below b_
        replace s5 := s5.below b_
        replace bb := bl_trans bb b_
        clear b_
        go_wp2_with fail
        refine (same_b _ _ _ _ _ _ _ _ _ true s6 s5 (by omega) (by omega) (by simp)).mono ?_
        rintro e v10 ⟨rfl, b_⟩
        clear s6
        replace r0 := r0.below b_
        replace r2 := r2.below b_
        replace r3 := r3.below b_
        replace s1 := s1.below b_
        replace s2 := s2.below b_
        replace s5 := s5.below b_
        replace bb := bl_trans bb b_
        clear b_
        go_wp2_with fail
        refine (awake_any HS.out _).mono ?_
        rintro e v11 ⟨rfl, b_⟩
        replace r0 := r0.below b_
        replace r2 := r2.below b_
        replace r3 := r3.below b_
        replace s1 := s1.below b_
        replace s2 := s2.below b_
        replace s5 := s5.below b_
        replace bb := bl_trans bb b_
        clear b_
        go_wp2_with fail
        go_ret
        exact ⟨rfl, bb⟩
      · have hg0 : (g == 0) = false := by simpa using hg
        rw [hg0] at q1
        clear hg q2
        by_cases he : (e == 0) = true
        · have hf : (f == 0) = false := by rw [he] at q1; simpa using q1.symm
          obtain ⟨hh, hu⟩ := q3 he
          have he' := eq_of_beq he
          clear q1 q3 he
          have hu' := hu.symm
          subst he' hh hu'
          go_enter Try.func8, Try.ntmps8
          go_wp2_with fail
          refine (HS.out.right _ _ _ _ _ _ r0 (by omega) HR.out).mono ?_
          rintro e v1 ⟨rfl, b_⟩
          replace r0 := r0.below b_
          replace r2 := r2.below b_
          replace r3 := r3.below b_
          have bb := b_
          clear b_
          go_wp2_with fail
          refine (HS.out.lock x0 x2 _ _ _ _ _ _ _ _ _ r0 r2 (by omega) (by omega) P1.out).mono ?_
          rintro e v2 ⟨B1, d1, rfl, s1, b_⟩
          replace r0 := r0.below b_
          replace r2 := r2.below b_
          replace r3 := r3.below b_
          replace bb := bl_trans bb b_
          clear b_
          go_wp2_with fail
          refine (HS.out.lock x x3 _ _ _ _ _ _ _ _ _ s1 r3 (by omega) (by omega) P2.out).mono ?_
          rintro e v3 ⟨B2, d2, rfl, s2, b_⟩
          replace r0 := r0.below b_
          replace r2 := r2.below b_
          replace r3 := r3.below b_
          replace s1 := s1.below b_
          replace bb := bl_trans bb b_
          clear b_
          go_wp2_with (first
            | (at_builtin; refine append_rd rfl (.tmp 54) (.tmp 55) 23 rfl tInt v3 _ _ _ rfl (Own.empty v3 _ _) A2 n2 c2 (zs x2) rfl (r2.alloc _) (zs_one x2) (by omega) (by omega) ?_; intro va wa oa hga)
            | (at_builtin; refine append_rd rfl (.tmp 56) (.tmp 57) 23 rfl tInt v3 va _ _ rfl oa A3 n3 c3 (zs x3) rfl (r3.below oa.2) (zs_one x3) (by omega) (by omega) ?_; intro vb wb ob hgb))
          obtain ⟨Bb, db, rfl, qb⟩ := ob.form
          replace r0 := r0.below ob.2
          replace r2 := r2.below ob.2
          replace r3 := r3.below ob.2
          replace s1 := s1.below ob.2
          replace s2 := s2.below ob.2
          replace bb := bl_trans bb ob.2
          have qb' : Rd wb 1 Bb (0 + n2 + n3) (zs (x2 ++ x3)) := by rw [zs_app]; exact qb
          clear qb ob hgb oa hga
          refine (HS.out.lock x0 (x2 ++ x3) _ _ _ _ _ _ _ _ _ r0 qb' (by omega) (by omega) P3.out).mono ?_
          rintro e v4 ⟨B3, d3, rfl, s3, b_⟩
          replace r0 := r0.below b_
          replace r2 := r2.below b_
          replace r3 := r3.below b_
          replace s1 := s1.below b_
          replace s2 := s2.below b_
          replace bb := bl_trans bb b_
          clear b_
          go_wp2_with fail
          refine (HS.out.lock x x2 _ _ _ _ _ _ _ _ _ s1 r2 (by omega) (by omega) P4.out).mono ?_
          rintro e v5 ⟨B4, d4, rfl, s4, b_⟩
          replace r0 := r0.below b_
          replace r2 := r2.below b_
          replace r3 := r3.below b_
          replace s1 := s1.below b_
          replace s2 := s2.below b_
          replace s3 := s3.below b_
          replace bb := bl_trans bb b_
          clear b_
          go_wp2_with fail
          refine (HS.out.let_ x _ _ _ _ _ _ s1 (by omega) rfl).mono ?_
          rintro e v6 ⟨B5, d5, rfl, s5, b_⟩
          replace r0 := r0.below b_
          replace r2 := r2.below b_
          replace r3 := r3.below b_
          replace s1 := s1.below b_
          replace s2 := s2.below b_
          replace s3 := s3.below b_
          replace s4 := s4.below b_
          replace bb := bl_trans bb b_
          clear b_
          go_wp2_with fail
          refine (same_b _ _ _ _ _ _ _ _ _ true s4 s1 (by omega) (by omega) (by simp)).mono ?_
          rintro e v7 ⟨rfl, b_⟩
          clear s4
          replace r0 := r0.below b_
          replace r2 := r2.below b_
          replace r3 := r3.below b_
          replace s1 := s1.below b_
          replace s2 := s2.below b_
          replace s3 := s3.below b_
          replace s5 := s5.below b_
          replace bb := bl_trans bb b_
          clear b_
          go_wp2_with fail
          refine (HS.out.let_ _ _ _ _ _ _ _ s5 (by omega) LL.out).mono ?_
          rintro e v8 ⟨B6, d6, rfl, s6, b_⟩
          replace r0 := r0.below b_
          replace r2 := r2.below b_
          replace r3 := r3.below b_
          replace s1 := s1.below b_
          replace s2 := s2.below b_
          replace s3 := s3.below b_
          replace s5 := s5.below b_
          replace bb := bl_trans bb b_
          clear b_
          go_wp2_with fail
          refine (same_b _ _ _ _ _ _ _ _ _ true s6 s5 (by omega) (by omega) (by simp)).mono ?_
          rintro e v9 ⟨rfl, b_⟩
          clear s6
          replace r0 := r0.below b_
          replace r2 := r2.below b_
          replace r3 := r3.below b_
          replace s1 := s1.below b_
          replace s2 := s2.below b_
          replace s3 := s3.below b_
          replace s5 := s5.below b_
          replace bb := bl_trans bb b_
          clear b_
          go_wp2_with fail
          refine (awake_any HS.out _).mono ?_
          rintro e v10 ⟨rfl, b_⟩
          replace r0 := r0.below b_
          replace r2 := r2.below b_
          replace r3 := r3.below b_
          replace s1 := s1.below b_
          replace s2 := s2.below b_
          replace s3 := s3.below b_
          replace s5 := s5.below b_
          replace bb := bl_trans bb b_
          clear b_
          go_wp2_with fail
          go_ret
          exact ⟨rfl, bb⟩
        · have he0 : (e == 0) = false := by simpa using he
          have he1 : (e != 0) = true := by simpa using he
          clear q1 q3 he
          go_enter Try.func8, Try.ntmps8
          go_wp2_with fail
          refine (HS.out.right _ _ _ _ _ _ r0 (by omega) HR.out).mono ?_
          rintro e v1 ⟨rfl, b_⟩
          replace r0 := r0.below b_
          replace r2 := r2.below b_
          replace r3 := r3.below b_
          have bb := b_
          clear b_
          go_wp2_with fail
          refine (HS.out.lock x0 x2 _ _ _ _ _ _ _ _ _ r0 r2 (by omega) (by omega) P1.out).mono ?_
          rintro e v2 ⟨B1, d1, rfl, s1, b_⟩
          replace r0 := r0.below b_
          replace r2 := r2.below b_
          replace r3 := r3.below b_
          replace bb := bl_trans bb b_
          clear b_
          go_wp2_with fail
          refine (HS.out.lock x x3 _ _ _ _ _ _ _ _ _ s1 r3 (by omega) (by omega) P2.out).mono ?_
          rintro e v3 ⟨B2, d2, rfl, s2, b_⟩
          replace r0 := r0.below b_
          replace r2 := r2.below b_
          replace r3 := r3.below b_
          replace s1 := s1.below b_
          replace bb := bl_trans bb b_
          clear b_
          go_wp2_with (first
            | (at_builtin; refine append_rd rfl (.tmp 54) (.tmp 55) 23 rfl tInt v3 _ _ _ rfl (Own.empty v3 _ _) A2 n2 c2 (zs x2) rfl (r2.alloc _) (zs_one x2) (by omega) (by omega) ?_; intro va wa oa hga)
            | (at_builtin; refine append_rd rfl (.tmp 56) (.tmp 57) 23 rfl tInt v3 va _ _ rfl oa A3 n3 c3 (zs x3) rfl (r3.below oa.2) (zs_one x3) (by omega) (by omega) ?_; intro vb wb ob hgb))
          obtain ⟨Bb, db, rfl, qb⟩ := ob.form
          replace r0 := r0.below ob.2
          replace r2 := r2.below ob.2
          replace r3 := r3.below ob.2
          replace s1 := s1.below ob.2
          replace s2 := s2.below ob.2
          replace bb := bl_trans bb ob.2
          have qb' : Rd wb 1 Bb (0 + n2 + n3) (zs (x2 ++ x3)) := by rw [zs_app]; exact qb
          clear qb ob hgb oa hga
          refine (HS.out.lock x0 (x2 ++ x3) _ _ _ _ _ _ _ _ _ r0 qb' (by omega) (by omega) P3.out).mono ?_
          rintro e v4 ⟨B3, d3, rfl, s3, b_⟩
          replace r0 := r0.below b_
          replace r2 := r2.below b_
          replace r3 := r3.below b_
          replace s1 := s1.below b_
          replace s2 := s2.below b_
          replace bb := bl_trans bb b_
          clear b_
          go_wp2_with fail
          refine (HS.out.lock x x2 _ _ _ _ _ _ _ _ _ s1 r2 (by omega) (by omega) P4.out).mono ?_
          rintro e v5 ⟨B4, d4, rfl, s4, b_⟩
          replace r0 := r0.below b_
          replace r2 := r2.below b_
          replace r3 := r3.below b_
          replace s1 := s1.below b_
          replace s2 := s2.below b_
          replace s3 := s3.below b_
          replace bb := bl_trans bb b_
          clear b_
          go_wp2_with fail
          refine (HS.out.let_ x _ _ _ _ _ _ s1 (by omega) rfl).mono ?_
          rintro e v6 ⟨B5, d5, rfl, s5, b_⟩
          replace r0 := r0.below b_
          replace r2 := r2.below b_
          replace r3 := r3.below b_
          replace s1 := s1.below b_
          replace s2 := s2.below b_
          replace s3 := s3.below b_
          replace s4 := s4.below b_
          replace bb := bl_trans bb b_
          clear b_
          go_wp2_with fail
          refine (HS.out.let_ _ _ _ _ _ _ _ s5 (by omega) LL.out).mono ?_
          rintro e v7 ⟨B6, d6, rfl, s6, b_⟩
          replace r0 := r0.below b_
          replace r2 := r2.below b_
          replace r3 := r3.below b_
          replace s1 := s1.below b_
          replace s2 := s2.below b_
          replace s3 := s3.below b_
          replace s4 := s4.below b_
          replace s5 := s5.below b_
          replace bb := bl_trans bb b_
          clear b_
          go_wp2_with fail
          refine (same_b _ _ _ _ _ _ _ _ _ true s6 s5 (by omega) (by omega) (by simp)).mono ?_
          rintro e v8 ⟨rfl, b_⟩
          clear s6
          replace r0 := r0.below b_
          replace r2 := r2.below b_
          replace r3 := r3.below b_
          replace s1 := s1.below b_
          replace s2 := s2.below b_
          replace s3 := s3.below b_
          replace s4 := s4.below b_
          replace s5 := s5.below b_
          replace bb := bl_trans bb b_
          clear b_
          go_wp2_with fail
          refine (awake_any HS.out _).mono ?_
          rintro e v9 ⟨rfl, b_⟩
          replace r0 := r0.below b_
          replace r2 := r2.below b_
          replace r3 := r3.below b_
          replace s1 := s1.below b_
          replace s2 := s2.below b_
          replace s3 := s3.below b_
          replace s4 := s4.below b_
          replace s5 := s5.below b_
          replace bb := bl_trans bb b_
          clear b_
          go_wp2_with fail
          go_ret
          exact ⟨rfl, bb⟩
    · have hr' : rightB x0 = false := by simpa using hr
      have HR := Lib.hid hr'
      clear hr hr'
      go_enter Try.func8, Try.ntmps8
      go_wp2_with fail
      refine (HS.out.right _ _ _ _ _ _ r0 (by omega) HR.out).mono ?_
      rintro e w1 ⟨rfl, b1⟩
      go_wp2_with (go_at_call 9; refine (awake_any HS.out _).mono ?_; rintro e w2 ⟨rfl, b2⟩)
      go_ret
      exact ⟨rfl, bl_trans b1 (by assumption)⟩
  · have g' : 16 < n0 ∨ 30 < n2 ∨ 30 < n3 := by omega
    clear gg
    go_enter Try.func8, Try.ntmps8
    go_wp2_with (go_at_call 9; refine (awake_any HS.out _).mono ?_; rintro e w2 ⟨rfl, b2⟩)
    all_goals
      go_ret
      exact ⟨rfl, by assumption⟩
end Go.Proofs.Ytfnghnfaekjfjaa.Stripe
