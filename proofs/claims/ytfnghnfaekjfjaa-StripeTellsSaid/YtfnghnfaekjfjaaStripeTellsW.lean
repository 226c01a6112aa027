/-
  THE WALK OF THE LAW StripeTells, over what the layer's functions are said to do.
-/
import Derived.Test.YtfnghnfaekjfjaaStripeLaw
import Derived.Test.YtfnghnfaekjfjaaStripeMore
namespace Go.Proofs.Ytfnghnfaekjfjaa.Stripe
open Go.ChangeShapes Go.WideShapes Go.ChangeAt Go.RowKit Mem

set_option maxRecDepth 100000 in
set_option maxHeartbeats 2000000 in
theorem tells_walk (S : Said) (A0 : Option Addr) (n0 c0 : Nat) (x0 : List Rec) (a1 a2 : Int) (A3 : Option Addr) (n3 c3 : Nat) (x3 : List Int) (w : World)
    (m0 : n0 ≤ 9223372036854775807) (r0 : Rd w 2 A0 n0 (rs x0)) (m3 : n3 ≤ 9223372036854775807) (r3 : Rd w 1 A3 n3 (zs x3)) :
    Calls Try.prog 3 #[.slice A0 n0 c0, .int .i64 a1, .int .i64 a2, .slice A3 n3 c3] w (RetB w true) := by
  have HS := Lib.hid S
  clear S
  by_cases g : n0 ≤ 30 ∧ n3 ≤ 60
  · obtain ⟨g0, g3⟩ := g
    have HL := rs_len r0
    have q1n : (ofS x0 x3).length ≤ n0 := by rw [← HL]; exact of_len _ _
    have q2n : (heldS x0 a1).length ≤ n0 := by rw [← HL]; exact held_len' _ _
    clear HL
    generalize hq1 : (ofS x0 x3).length = q1 at q1n
    generalize hq2 : (heldS x0 a1).length = q2 at q2n
    generalize el : lockS x0 a1 x3 = rl
    generalize es : stampS x0 a1 a2 = rst
    generalize er : rightB x0 = rr
    generalize eo : ofS x0 x3 = ro
    generalize eh : heldS x0 a1 = rh
    generalize et : letS x0 a1 = rt
    rw [eo] at hq1
    rw [eh] at hq2
    obtain ⟨hl, fl⟩ := rl
    obtain ⟨hs, fs⟩ := rst
    have EL := Lib.hid el
    have ES := Lib.hid es
    have ER := Lib.hid er
    have EO := Lib.hid eo
    have EH := Lib.hid eh
    have ET := Lib.hid et
    have HQ1 := Lib.hid hq1
    have HQ2 := Lib.hid hq2
    clear el es er eo eh et hq1 hq2
    by_cases gn : 1 ≤ a2 ∧ a2 ≤ 16
    · obtain ⟨v, rfl⟩ := Int.eq_ofNat_of_zero_le (show 0 ≤ a2 by omega)
      have EN : Hid (newS (v : Int) = (List.replicate v ⟨0, 0⟩, 0)) := Lib.hid (by rw [new_yes _ gn]; simp)
      obtain ⟨gn1, gn2⟩ := gn
      go_enter Try.func3, Try.ntmps3
      go_wp2_with fail
      refine (HS.out.lock x0 x3 _ _ _ _ _ _ _ _ _ r0 r3 (by omega) (by omega) EL.out).mono ?_
      rintro e v1 ⟨B1, d1, rfl, s1, b_⟩
      replace r0 := r0.below b_
      replace r3 := r3.below b_
      have bb := b_
      clear b_
      go_wp2_with fail
      refine (lock_any x0 x3 _ _ _ _ _ _ _ _ _ r0 r3 (by omega) (by omega) EL.out).mono ?_
      rintro e v2 ⟨B2, d2, rfl, s2, b_⟩
      replace r0 := r0.below b_
      replace r3 := r3.below b_
      replace s1 := s1.below b_
      replace bb := bl_trans bb b_
      clear b_
      go_wp2_with fail
      refine (HS.out.stamp x0 _ _ _ _ _ _ _ r0 (by omega) ES.out).mono ?_
      rintro e v3 ⟨B3, d3, rfl, s3, b_⟩
      replace r0 := r0.below b_
      replace r3 := r3.below b_
      replace s1 := s1.below b_
      replace s2 := s2.below b_
      replace bb := bl_trans bb b_
      clear b_
      go_wp2_with fail
      refine (stamp_any x0 _ _ _ _ _ _ _ r0 (by omega) ES.out).mono ?_
      rintro e v4 ⟨B4, d4, rfl, s4, b_⟩
      replace r0 := r0.below b_
      replace r3 := r3.below b_
      replace s1 := s1.below b_
      replace s2 := s2.below b_
      replace s3 := s3.below b_
      replace bb := bl_trans bb b_
      clear b_
      go_wp2_with fail
      refine (HS.out.new _ _ _ v EN.out (by simp)).mono ?_
      rintro e v5 ⟨B5, d5, rfl, s5, b_⟩
      replace r0 := r0.below b_
      replace r3 := r3.below b_
      replace s1 := s1.below b_
      replace s2 := s2.below b_
      replace s3 := s3.below b_
      replace s4 := s4.below b_
      replace bb := bl_trans bb b_
      clear b_
      go_wp2_with fail
      refine (HS.out.right x0 _ _ _ _ _ r0 (by omega) ER.out).mono ?_
      rintro e v6 ⟨rfl, b_⟩
      replace r0 := r0.below b_
      replace r3 := r3.below b_
      replace s1 := s1.below b_
      replace s2 := s2.below b_
      replace s3 := s3.below b_
      replace s4 := s4.below b_
      replace bb := bl_trans bb b_
      clear b_
      go_wp2_with fail
      refine (right_any x0 _ _ _ _ r0 (by omega)).mono ?_
      rw [ER.out]
      rintro e w8' ⟨rfl, rfl⟩
      go_wp2_with fail
      refine (HS.out.of_ x0 x3 _ _ _ _ _ _ _ _ q1 r0 r3 (by omega) (by omega) EO.out HQ1.out).mono ?_
      rintro e v7 ⟨B6, d6, rfl, s6, b_⟩
      replace r0 := r0.below b_
      replace r3 := r3.below b_
      replace s1 := s1.below b_
      replace s2 := s2.below b_
      replace s3 := s3.below b_
      replace s4 := s4.below b_
      replace bb := bl_trans bb b_
      clear b_
      go_wp2_with fail
      refine (of_any x0 x3 _ _ _ _ _ _ _ _ q1 r0 r3 (by omega) (by omega) EO.out HQ1.out).mono ?_
      rintro e v8 ⟨B7, d7, rfl, s7, b_⟩
      replace r0 := r0.below b_
      replace r3 := r3.below b_
      replace s1 := s1.below b_
      replace s2 := s2.below b_
      replace s3 := s3.below b_
      replace s4 := s4.below b_
      replace s6 := s6.below b_
      replace bb := bl_trans bb b_
      clear b_
      go_wp2_with fail
      refine (numbers_b _ _ _ _ _ _ _ _ _ true s6 s7 (by omega) (by omega) (by simp)).mono ?_
      rintro e v9 ⟨rfl, b_⟩
      clear s6
      clear s7
      replace r0 := r0.below b_
      replace r3 := r3.below b_
      replace s1 := s1.below b_
      replace s2 := s2.below b_
      replace s3 := s3.below b_
      replace s4 := s4.below b_
      replace bb := bl_trans bb b_
      clear b_
      go_wp2_with fail
      refine (HS.out.held x0 _ _ _ _ _ _ q2 r0 (by omega) EH.out HQ2.out).mono ?_
      rintro e v10 ⟨B8, d8, rfl, s8, b_⟩
      replace r0 := r0.below b_
      replace r3 := r3.below b_
      replace s1 := s1.below b_
      replace s2 := s2.below b_
      replace s3 := s3.below b_
      replace s4 := s4.below b_
      replace bb := bl_trans bb b_
      clear b_
      go_wp2_with fail
      refine (held_any x0 _ _ _ _ _ _ q2 r0 (by omega) EH.out HQ2.out).mono ?_
      rintro e v11 ⟨B9, d9, rfl, s9, b_⟩
      replace r0 := r0.below b_
      replace r3 := r3.below b_
      replace s1 := s1.below b_
      replace s2 := s2.below b_
      replace s3 := s3.below b_
      replace s4 := s4.below b_
      replace s8 := s8.below b_
      replace bb := bl_trans bb b_
      clear b_
      go_wp2_with fail
      refine (numbers_b _ _ _ _ _ _ _ _ _ true s8 s9 (by omega) (by omega) (by simp)).mono ?_
      rintro e v12 ⟨rfl, b_⟩
      clear s8
      clear s9
      replace r0 := r0.below b_
      replace r3 := r3.below b_
      replace s1 := s1.below b_
      replace s2 := s2.below b_
      replace s3 := s3.below b_
      replace s4 := s4.below b_
      replace bb := bl_trans bb b_
      clear b_
      go_wp2_with fail
      refine (same_b _ _ _ _ _ _ _ _ _ true s1 s2 (by omega) (by omega) (by simp)).mono ?_
      rintro e v13 ⟨rfl, b_⟩
      clear s1
      clear s2
      replace r0 := r0.below b_
      replace r3 := r3.below b_
      replace s3 := s3.below b_
      replace s4 := s4.below b_
      replace bb := bl_trans bb b_
      clear b_
      go_wp2_with fail
      refine (same_b _ _ _ _ _ _ _ _ _ true s3 s4 (by omega) (by omega) (by simp)).mono ?_
      rintro e v14 ⟨rfl, b_⟩
      clear s3
      clear s4
      replace r0 := r0.below b_
      replace r3 := r3.below b_
      replace bb := bl_trans bb b_
      clear b_
      go_wp2_with fail
      refine (HS.out.let_ x0 _ _ _ _ _ _ r0 (by omega) ET.out).mono ?_
      rintro e v15 ⟨B10, d10, rfl, s10, b_⟩
      replace r0 := r0.below b_
      replace r3 := r3.below b_
      replace bb := bl_trans bb b_
      clear b_
      go_wp2_with fail
      refine (let_any x0 _ _ _ _ _ _ r0 (by omega) ET.out).mono ?_
      rintro e v16 ⟨B11, d11, rfl, s11, b_⟩
      replace r0 := r0.below b_
      replace r3 := r3.below b_
      replace s10 := s10.below b_
      replace bb := bl_trans bb b_
      clear b_
      go_wp2_with fail
      refine (same_b _ _ _ _ _ _ _ _ _ true s10 s11 (by omega) (by omega) (by simp)).mono ?_
      rintro e v17 ⟨rfl, b_⟩
      clear s10
      clear s11
      replace r0 := r0.below b_
      replace r3 := r3.below b_
      replace bb := bl_trans bb b_
      clear b_
      go_wp2_with fail
      refine (awake_any HS.out _).mono ?_
      rintro e v18 ⟨rfl, b_⟩
      replace r0 := r0.below b_
      replace r3 := r3.below b_
      replace bb := bl_trans bb b_
      clear b_
      go_wp2_with fail
      go_ret
      exact ⟨rfl, bb⟩
    · by_cases gm : a2 < 1
      · have EN : Hid (newS a2 = ([], 1)) := Lib.hid (new_no _ gn)
        clear gn
        go_enter Try.func3, Try.ntmps3
        go_wp2_with fail
        refine (HS.out.lock x0 x3 _ _ _ _ _ _ _ _ _ r0 r3 (by omega) (by omega) EL.out).mono ?_
        rintro e v1 ⟨B1, d1, rfl, s1, b_⟩
        replace r0 := r0.below b_
        replace r3 := r3.below b_
        have bb := b_
        clear b_
        go_wp2_with fail
        refine (lock_any x0 x3 _ _ _ _ _ _ _ _ _ r0 r3 (by omega) (by omega) EL.out).mono ?_
        rintro e v2 ⟨B2, d2, rfl, s2, b_⟩
        replace r0 := r0.below b_
        replace r3 := r3.below b_
        replace s1 := s1.below b_
        replace bb := bl_trans bb b_
        clear b_
        go_wp2_with fail
        refine (HS.out.stamp x0 _ _ _ _ _ _ _ r0 (by omega) ES.out).mono ?_
        rintro e v3 ⟨B3, d3, rfl, s3, b_⟩
        replace r0 := r0.below b_
        replace r3 := r3.below b_
        replace s1 := s1.below b_
        replace s2 := s2.below b_
        replace bb := bl_trans bb b_
        clear b_
        go_wp2_with fail
        refine (stamp_any x0 _ _ _ _ _ _ _ r0 (by omega) ES.out).mono ?_
        rintro e v4 ⟨B4, d4, rfl, s4, b_⟩
        replace r0 := r0.below b_
        replace r3 := r3.below b_
        replace s1 := s1.below b_
        replace s2 := s2.below b_
        replace s3 := s3.below b_
        replace bb := bl_trans bb b_
        clear b_
        go_wp2_with fail
        refine (HS.out.new _ _ _ 0 EN.out rfl).mono ?_
        rintro e v5 ⟨B5, d5, rfl, s5, b_⟩
        replace r0 := r0.below b_
        replace r3 := r3.below b_
        replace s1 := s1.below b_
        replace s2 := s2.below b_
        replace s3 := s3.below b_
        replace s4 := s4.below b_
        replace bb := bl_trans bb b_
        clear b_
        go_wp2_with fail
        refine (HS.out.right x0 _ _ _ _ _ r0 (by omega) ER.out).mono ?_
        rintro e v6 ⟨rfl, b_⟩
        replace r0 := r0.below b_
        replace r3 := r3.below b_
        replace s1 := s1.below b_
        replace s2 := s2.below b_
        replace s3 := s3.below b_
        replace s4 := s4.below b_
        replace bb := bl_trans bb b_
        clear b_
        go_wp2_with fail
        refine (right_any x0 _ _ _ _ r0 (by omega)).mono ?_
        rw [ER.out]
        rintro e w8' ⟨rfl, rfl⟩
        go_wp2_with fail
        refine (HS.out.of_ x0 x3 _ _ _ _ _ _ _ _ q1 r0 r3 (by omega) (by omega) EO.out HQ1.out).mono ?_
        rintro e v7 ⟨B6, d6, rfl, s6, b_⟩
        replace r0 := r0.below b_
        replace r3 := r3.below b_
        replace s1 := s1.below b_
        replace s2 := s2.below b_
        replace s3 := s3.below b_
        replace s4 := s4.below b_
        replace bb := bl_trans bb b_
        clear b_
        go_wp2_with fail
        refine (of_any x0 x3 _ _ _ _ _ _ _ _ q1 r0 r3 (by omega) (by omega) EO.out HQ1.out).mono ?_
        rintro e v8 ⟨B7, d7, rfl, s7, b_⟩
        replace r0 := r0.below b_
        replace r3 := r3.below b_
        replace s1 := s1.below b_
        replace s2 := s2.below b_
        replace s3 := s3.below b_
        replace s4 := s4.below b_
        replace s6 := s6.below b_
        replace bb := bl_trans bb b_
        clear b_
        go_wp2_with fail
        refine (numbers_b _ _ _ _ _ _ _ _ _ true s6 s7 (by omega) (by omega) (by simp)).mono ?_
        rintro e v9 ⟨rfl, b_⟩
        clear s6
        clear s7
        replace r0 := r0.below b_
        replace r3 := r3.below b_
        replace s1 := s1.below b_
        replace s2 := s2.below b_
        replace s3 := s3.below b_
        replace s4 := s4.below b_
        replace bb := bl_trans bb b_
        clear b_
        go_wp2_with fail
        refine (HS.out.held x0 _ _ _ _ _ _ q2 r0 (by omega) EH.out HQ2.out).mono ?_
        rintro e v10 ⟨B8, d8, rfl, s8, b_⟩
        replace r0 := r0.below b_
        replace r3 := r3.below b_
        replace s1 := s1.below b_
        replace s2 := s2.below b_
        replace s3 := s3.below b_
        replace s4 := s4.below b_
        replace bb := bl_trans bb b_
        clear b_
        go_wp2_with fail
        refine (held_any x0 _ _ _ _ _ _ q2 r0 (by omega) EH.out HQ2.out).mono ?_
        rintro e v11 ⟨B9, d9, rfl, s9, b_⟩
        replace r0 := r0.below b_
        replace r3 := r3.below b_
        replace s1 := s1.below b_
        replace s2 := s2.below b_
        replace s3 := s3.below b_
        replace s4 := s4.below b_
        replace s8 := s8.below b_
        replace bb := bl_trans bb b_
        clear b_
        go_wp2_with fail
        refine (numbers_b _ _ _ _ _ _ _ _ _ true s8 s9 (by omega) (by omega) (by simp)).mono ?_
        rintro e v12 ⟨rfl, b_⟩
        clear s8
        clear s9
        replace r0 := r0.below b_
        replace r3 := r3.below b_
        replace s1 := s1.below b_
        replace s2 := s2.below b_
        replace s3 := s3.below b_
        replace s4 := s4.below b_
        replace bb := bl_trans bb b_
        clear b_
        go_wp2_with fail
        refine (same_b _ _ _ _ _ _ _ _ _ true s1 s2 (by omega) (by omega) (by simp)).mono ?_
        rintro e v13 ⟨rfl, b_⟩
        clear s1
        clear s2
        replace r0 := r0.below b_
        replace r3 := r3.below b_
        replace s3 := s3.below b_
        replace s4 := s4.below b_
        replace bb := bl_trans bb b_
        clear b_
        go_wp2_with fail
        refine (same_b _ _ _ _ _ _ _ _ _ true s3 s4 (by omega) (by omega) (by simp)).mono ?_
        rintro e v14 ⟨rfl, b_⟩
        clear s3
        clear s4
        replace r0 := r0.below b_
        replace r3 := r3.below b_
        replace bb := bl_trans bb b_
        clear b_
        go_wp2_with fail
        refine (HS.out.let_ x0 _ _ _ _ _ _ r0 (by omega) ET.out).mono ?_
        rintro e v15 ⟨B10, d10, rfl, s10, b_⟩
        replace r0 := r0.below b_
        replace r3 := r3.below b_
        replace bb := bl_trans bb b_
        clear b_
        go_wp2_with fail
        refine (let_any x0 _ _ _ _ _ _ r0 (by omega) ET.out).mono ?_
        rintro e v16 ⟨B11, d11, rfl, s11, b_⟩
        replace r0 := r0.below b_
        replace r3 := r3.below b_
        replace s10 := s10.below b_
        replace bb := bl_trans bb b_
        clear b_
        go_wp2_with fail
        refine (same_b _ _ _ _ _ _ _ _ _ true s10 s11 (by omega) (by omega) (by simp)).mono ?_
        rintro e v17 ⟨rfl, b_⟩
        clear s10
        clear s11
        replace r0 := r0.below b_
        replace r3 := r3.below b_
        replace bb := bl_trans bb b_
        clear b_
        go_wp2_with fail
        refine (awake_any HS.out _).mono ?_
        rintro e v18 ⟨rfl, b_⟩
        replace r0 := r0.below b_
        replace r3 := r3.below b_
        replace bb := bl_trans bb b_
        clear b_
        go_wp2_with fail
        go_ret
        exact ⟨rfl, bb⟩
      · have gm' : 16 < a2 := by omega
        have EN : Hid (newS a2 = ([], 1)) := Lib.hid (new_no _ gn)
        clear gn
        go_enter Try.func3, Try.ntmps3
        go_wp2_with fail
        refine (HS.out.lock x0 x3 _ _ _ _ _ _ _ _ _ r0 r3 (by omega) (by omega) EL.out).mono ?_
        rintro e v1 ⟨B1, d1, rfl, s1, b_⟩
        replace r0 := r0.below b_
        replace r3 := r3.below b_
        have bb := b_
        clear b_
        go_wp2_with fail
        refine (lock_any x0 x3 _ _ _ _ _ _ _ _ _ r0 r3 (by omega) (by omega) EL.out).mono ?_
        rintro e v2 ⟨B2, d2, rfl, s2, b_⟩
        replace r0 := r0.below b_
        replace r3 := r3.below b_
        replace s1 := s1.below b_
        replace bb := bl_trans bb b_
        clear b_
        go_wp2_with fail
        refine (HS.out.stamp x0 _ _ _ _ _ _ _ r0 (by omega) ES.out).mono ?_
        rintro e v3 ⟨B3, d3, rfl, s3, b_⟩
        replace r0 := r0.below b_
        replace r3 := r3.below b_
        replace s1 := s1.below b_
        replace s2 := s2.below b_
        replace bb := bl_trans bb b_
        clear b_
        go_wp2_with fail
        refine (stamp_any x0 _ _ _ _ _ _ _ r0 (by omega) ES.out).mono ?_
        rintro e v4 ⟨B4, d4, rfl, s4, b_⟩
        replace r0 := r0.below b_
        replace r3 := r3.below b_
        replace s1 := s1.below b_
        replace s2 := s2.below b_
        replace s3 := s3.below b_
        replace bb := bl_trans bb b_
        clear b_
        go_wp2_with fail
        refine (HS.out.new _ _ _ 0 EN.out rfl).mono ?_
        rintro e v5 ⟨B5, d5, rfl, s5, b_⟩
        replace r0 := r0.below b_
        replace r3 := r3.below b_
        replace s1 := s1.below b_
        replace s2 := s2.below b_
        replace s3 := s3.below b_
        replace s4 := s4.below b_
        replace bb := bl_trans bb b_
        clear b_
        go_wp2_with fail
        refine (HS.out.right x0 _ _ _ _ _ r0 (by omega) ER.out).mono ?_
        rintro e v6 ⟨rfl, b_⟩
        replace r0 := r0.below b_
        replace r3 := r3.below b_
        replace s1 := s1.below b_
        replace s2 := s2.below b_
        replace s3 := s3.below b_
        replace s4 := s4.below b_
        replace bb := bl_trans bb b_
        clear b_
        go_wp2_with fail
        refine (right_any x0 _ _ _ _ r0 (by omega)).mono ?_
        rw [ER.out]
        rintro e w8' ⟨rfl, rfl⟩
        go_wp2_with fail
        refine (HS.out.of_ x0 x3 _ _ _ _ _ _ _ _ q1 r0 r3 (by omega) (by omega) EO.out HQ1.out).mono ?_
        rintro e v7 ⟨B6, d6, rfl, s6, b_⟩
        replace r0 := r0.below b_
        replace r3 := r3.below b_
        replace s1 := s1.below b_
        replace s2 := s2.below b_
        replace s3 := s3.below b_
        replace s4 := s4.below b_
        replace bb := bl_trans bb b_
        clear b_
        go_wp2_with fail
        refine (of_any x0 x3 _ _ _ _ _ _ _ _ q1 r0 r3 (by omega) (by omega) EO.out HQ1.out).mono ?_
        rintro e v8 ⟨B7, d7, rfl, s7, b_⟩
        replace r0 := r0.below b_
        replace r3 := r3.below b_
        replace s1 := s1.below b_
        replace s2 := s2.below b_
        replace s3 := s3.below b_
        replace s4 := s4.below b_
        replace s6 := s6.below b_
        replace bb := bl_trans bb b_
        clear b_
        go_wp2_with fail
        refine (numbers_b _ _ _ _ _ _ _ _ _ true s6 s7 (by omega) (by omega) (by simp)).mono ?_
        rintro e v9 ⟨rfl, b_⟩
        clear s6
        clear s7
        replace r0 := r0.below b_
        replace r3 := r3.below b_
        replace s1 := s1.below b_
        replace s2 := s2.below b_
        replace s3 := s3.below b_
        replace s4 := s4.below b_
        replace bb := bl_trans bb b_
        clear b_
        go_wp2_with fail
        refine (HS.out.held x0 _ _ _ _ _ _ q2 r0 (by omega) EH.out HQ2.out).mono ?_
        rintro e v10 ⟨B8, d8, rfl, s8, b_⟩
        replace r0 := r0.below b_
        replace r3 := r3.below b_
        replace s1 := s1.below b_
        replace s2 := s2.below b_
        replace s3 := s3.below b_
        replace s4 := s4.below b_
        replace bb := bl_trans bb b_
        clear b_
        go_wp2_with fail
        refine (held_any x0 _ _ _ _ _ _ q2 r0 (by omega) EH.out HQ2.out).mono ?_
        rintro e v11 ⟨B9, d9, rfl, s9, b_⟩
        replace r0 := r0.below b_
        replace r3 := r3.below b_
        replace s1 := s1.below b_
        replace s2 := s2.below b_
        replace s3 := s3.below b_
        replace s4 := s4.below b_
        replace s8 := s8.below b_
        replace bb := bl_trans bb b_
        clear b_
        go_wp2_with fail
        refine (numbers_b _ _ _ _ _ _ _ _ _ true s8 s9 (by omega) (by omega) (by simp)).mono ?_
        rintro e v12 ⟨rfl, b_⟩
        clear s8
        clear s9
        replace r0 := r0.below b_
        replace r3 := r3.below b_
        replace s1 := s1.below b_
        replace s2 := s2.below b_
        replace s3 := s3.below b_
        replace s4 := s4.below b_
        replace bb := bl_trans bb b_
        clear b_
        go_wp2_with fail
        refine (same_b _ _ _ _ _ _ _ _ _ true s1 s2 (by omega) (by omega) (by simp)).mono ?_
        rintro e v13 ⟨rfl, b_⟩
        clear s1
        clear s2
        replace r0 := r0.below b_
        replace r3 := r3.below b_
        replace s3 := s3.below b_
        replace s4 := s4.below b_
        replace bb := bl_trans bb b_
        clear b_
        go_wp2_with fail
        refine (same_b _ _ _ _ _ _ _ _ _ true s3 s4 (by omega) (by omega) (by simp)).mono ?_
        rintro e v14 ⟨rfl, b_⟩
        clear s3
        clear s4
        replace r0 := r0.below b_
        replace r3 := r3.below b_
        replace bb := bl_trans bb b_
        clear b_
        go_wp2_with fail
        refine (HS.out.let_ x0 _ _ _ _ _ _ r0 (by omega) ET.out).mono ?_
        rintro e v15 ⟨B10, d10, rfl, s10, b_⟩
        replace r0 := r0.below b_
        replace r3 := r3.below b_
        replace bb := bl_trans bb b_
        clear b_
        go_wp2_with fail
        refine (let_any x0 _ _ _ _ _ _ r0 (by omega) ET.out).mono ?_
        rintro e v16 ⟨B11, d11, rfl, s11, b_⟩
        replace r0 := r0.below b_
        replace r3 := r3.below b_
        replace s10 := s10.below b_
        replace bb := bl_trans bb b_
        clear b_
        go_wp2_with fail
        refine (same_b _ _ _ _ _ _ _ _ _ true s10 s11 (by omega) (by omega) (by simp)).mono ?_
        rintro e v17 ⟨rfl, b_⟩
        clear s10
        clear s11
        replace r0 := r0.below b_
        replace r3 := r3.below b_
        replace bb := bl_trans bb b_
        clear b_
        go_wp2_with fail
        refine (awake_any HS.out _).mono ?_
        rintro e v18 ⟨rfl, b_⟩
        replace r0 := r0.below b_
        replace r3 := r3.below b_
        replace bb := bl_trans bb b_
        clear b_
        go_wp2_with fail
        go_ret
        exact ⟨rfl, bb⟩
  · have g' : 30 < n0 ∨ 60 < n3 := by omega
    clear g
    go_enter Try.func3, Try.ntmps3
    go_wp2_with (go_at_call 9; refine (awake_any HS.out _).mono ?_; rintro e w2 ⟨rfl, b2⟩)
    all_goals
      go_ret
      exact ⟨rfl, by assumption⟩
end Go.Proofs.Ytfnghnfaekjfjaa.Stripe
