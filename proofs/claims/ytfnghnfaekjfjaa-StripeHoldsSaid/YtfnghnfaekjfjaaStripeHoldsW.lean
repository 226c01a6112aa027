/-
  THE WALK OF THE LAW StripeHolds, over what the layer's functions are said to do.
-/
import Derived.Test.YtfnghnfaekjfjaaStripeLaw
import Derived.Test.YtfnghnfaekjfjaaStripeMore2
namespace Go.Proofs.Ytfnghnfaekjfjaa.Stripe
open Go.ChangeShapes Go.WideShapes Go.ChangeAt Go.RowKit Mem

set_option maxRecDepth 100000 in
set_option maxHeartbeats 2000000 in
theorem holds_walk (S : Said) (A0 : Option Addr) (n0 c0 : Nat) (x0 : List Rec) (a1 a2 : Int) (A3 : Option Addr) (n3 c3 : Nat) (x3 : List Int) (w : World)
    (m0 : n0 ≤ 9223372036854775807) (r0 : Rd w 2 A0 n0 (rs x0)) (m3 : n3 ≤ 9223372036854775807) (r3 : Rd w 1 A3 n3 (zs x3)) :
    Calls Try.prog 4 #[.slice A0 n0 c0, .int .i64 a1, .int .i64 a2, .slice A3 n3 c3] w (RetB w true) := by
  have HS := Lib.hid S
  clear S
  by_cases g : n0 ≤ 16 ∧ n3 ≤ 60
  · obtain ⟨g0, g3⟩ := g
    have d16 : decide ((16 : Int) < (n0 : Int)) = false := by simp; omega
    have d60 : decide ((60 : Int) < (n3 : Int)) = false := by simp; omega
    have HL := Lib.hid (rs_len r0)
    by_cases hr : rightB x0 = true
    · have HR := Lib.hid hr
      by_cases hne : a1 = a2
      · subst hne
        clear hr
        go_enter Try.func4, Try.ntmps4
        go_wp2_with fail
        refine (HS.out.right _ _ _ _ _ _ r0 (by omega) HR.out).mono ?_
        rintro e v1 ⟨rfl, b_⟩
        replace r0 := r0.below b_
        replace r3 := r3.below b_
        have bb := b_
        clear b_
        go_wp2_with fail
        refine (awake_any HS.out _).mono ?_
        rintro e v2 ⟨rfl, b_⟩
        replace r0 := r0.below b_
        replace r3 := r3.below b_
        replace bb := bl_trans bb b_
        clear b_
        go_wp2_with fail
        go_ret
        exact ⟨rfl, bb⟩
      · have hne' : (a1 == a2) = false := beq_eq_false_iff_ne.2 hne
        have HNE := Lib.hid hne
        clear hne
        rcases lock_cases x0 a1 x3 hr with ⟨hw, hc, hm, hlk⟩ | ⟨f, hf, hlk⟩
        · have HW := Lib.hid hw
          have HC := Lib.hid hc
          have HM := Lib.hid hm
          have HK := Lib.hid hlk
          have HRA := Lib.hid (lock_right x0 a1 x3 hr hw)
          have HIN := Lib.hid (lock_held x0 a1 x3 hr hw hc)
          have HMO := lock_more x0 a1 x3 hr hw
          have HO1 := Lib.hid (lock_other x0 a1 a2 x3 hr hw HNE.out hm)
          have HLN := Lib.hid (let_none (lockAll x0 a1 x3) a1 HRA.out)
          have HLR := Lib.hid (let_right (lockAll x0 a1 x3) a1 HRA.out)
          have HO2 := Lib.hid (let_other (lockAll x0 a1 x3) a1 a2 HRA.out HNE.out)
          have hqa : (heldS (lockAll x0 a1 x3) a1).length ≤ n0 := by have := held_len' (lockAll x0 a1 x3) a1; rw [lockAll_len, HL.out] at this; exact this
          have hqb : (ofS x0 x3).length ≤ n0 := by have := of_len x0 x3; rw [HL.out] at this; exact this
          have hqc : (heldS x0 a2).length ≤ n0 := by have := held_len' x0 a2; rw [HL.out] at this; exact this
          clear hr hw hc hm hlk
          generalize lockAll x0 a1 x3 = y at *
          generalize hq1 : (heldS y a1).length = q1 at *
          generalize hq2 : (ofS x0 x3).length = q2 at *
          generalize hq3 : (heldS x0 a1).length = q3 at *
          generalize hq4 : (heldS x0 a2).length = q4 at *
          have HQ1 := Lib.hid hq1
          have HQ2 := Lib.hid hq2
          have HQ3 := Lib.hid hq3
          have HQ4 := Lib.hid hq4
          clear hq1 hq2 hq3 hq4
          go_enter Try.func4, Try.ntmps4
          go_wp2_with fail
          refine (HS.out.right _ _ _ _ _ _ r0 (by omega) HR.out).mono ?_
          rintro e v1 ⟨rfl, b_⟩
          replace r0 := r0.below b_
          replace r3 := r3.below b_
          have bb := b_
          clear b_
          go_wp2_with fail
          refine (HS.out.lock x0 x3 _ _ _ _ _ _ _ _ _ r0 r3 (by omega) (by omega) HK.out).mono ?_
          rintro e v2 ⟨B1, d1, rfl, s1, b_⟩
          replace r0 := r0.below b_
          replace r3 := r3.below b_
          replace bb := bl_trans bb b_
          clear b_
          go_wp2_with fail
          refine (HS.out.held y _ _ _ _ _ _ q1 s1 (by omega) rfl HQ1.out).mono ?_
          rintro e v3 ⟨B2, d2, rfl, s2, b_⟩
          replace r0 := r0.below b_
          replace r3 := r3.below b_
          replace s1 := s1.below b_
          replace bb := bl_trans bb b_
          clear b_
          go_wp2_with fail
          refine (HS.out.of_ x0 x3 _ _ _ _ _ _ _ _ q2 r0 r3 (by omega) (by omega) rfl HQ2.out).mono ?_
          rintro e v4 ⟨B3, d3, rfl, s3, b_⟩
          replace r0 := r0.below b_
          replace r3 := r3.below b_
          replace s1 := s1.below b_
          replace s2 := s2.below b_
          replace bb := bl_trans bb b_
          clear b_
          go_wp2
          go_loop [59] (fun i => ∃ j : Nat, j ≤ q2 ∧ i = .int .i64 j) (fun i => q2 - (intOf i).toNat)
          case atStart => exact ⟨0, Nat.zero_le _, rfl⟩
          case round =>
            obtain ⟨j, hj, rfl⟩ := hrel
            by_cases hlt : j < q2
            · obtain ⟨b, off, z, rfl, hz, k1⟩ := at_z s3 j hlt
              have HZ : Hid ((heldS y a1).any (fun x => x == z) = true) := Lib.hid (by
                rw [List.any_eq_true]; exact ⟨z, HIN.out z (List.mem_of_getElem? hz), by simp⟩)
              clear hz
              go_wp2
              go_loop [14, 65] (fun inn i => ∃ k : Nat, k ≤ q1 ∧ i = .int .i64 k ∧ inn = .bool (((heldS y a1).take k).any (fun x => x == z))) (fun _ i => q1 - (intOf i).toNat)
              case atStart => exact ⟨0, Nat.zero_le _, rfl, rfl⟩
              case round =>
                obtain ⟨k, hk, rfl, rfl⟩ := hrel
                by_cases hlt2 : k < q1
                · obtain ⟨b', off', x, rfl, hx, k2⟩ := at_z s2 k hlt2
                  have HA := Lib.hid (take_any (heldS y a1) (fun x => x == z) k _ hx)
                  clear hx
                  generalize hb : ((heldS y a1).take k).any (fun x => x == z) = bb0 at *
                  have HB := Lib.hid hb
                  clear hb
                  cases bb0
                  · go_wp2
                    all_goals
                      go_round
                      case rel => exact ⟨k + 1, by omega, by go_num, by rw [HA.out]; simp_all⟩
                      case measure => simp [intOf]; omega
                  · go_wp2
                    go_round
                    case rel => exact ⟨k + 1, by omega, by go_num, by rw [HA.out]; rfl⟩
                    case measure => simp [intOf]; omega
                · have HT : Hid (((heldS y a1).take k).any (fun x => x == z) = true) := Lib.hid (by
                    rw [List.take_of_length_le (by rw [HQ1.out]; omega)]; exact HZ.out)
                  rw [HT.out]
                  go_wp2
                  go_round
                  case rel => exact ⟨j + 1, by omega, by go_num⟩
                  case measure => simp [intOf]; omega
            · have hjq : j = q2 := by omega
              subst hjq
              go_wp2_with fail
              refine (HS.out.let_ y _ _ _ _ _ _ s1 (by omega) rfl).mono ?_
              rintro e v5 ⟨B4, d4, rfl, s4, b_⟩
              clear s3
              replace r0 := r0.below b_
              replace r3 := r3.below b_
              replace s1 := s1.below b_
              replace s2 := s2.below b_
              replace bb := bl_trans bb b_
              clear b_
              go_wp2_with fail
              refine (HS.out.held _ _ _ _ _ _ _ 0 s4 (by omega) HLN.out rfl).mono ?_
              rintro e v6 ⟨B5, d5, rfl, s5, b_⟩
              replace r0 := r0.below b_
              replace r3 := r3.below b_
              replace s1 := s1.below b_
              replace s2 := s2.below b_
              replace s4 := s4.below b_
              replace bb := bl_trans bb b_
              clear b_
              go_wp2_with fail
              refine (HS.out.held x0 _ _ _ _ _ _ q3 r0 (by omega) rfl HQ3.out).mono ?_
              rintro e v7 ⟨B6, d6, rfl, s6, b_⟩
              replace r0 := r0.below b_
              replace r3 := r3.below b_
              replace s1 := s1.below b_
              replace s2 := s2.below b_
              replace s4 := s4.below b_
              replace bb := bl_trans bb b_
              clear b_
              go_wp2_with fail
              refine (HS.out.held y _ _ _ _ _ _ q4 s1 (by omega) HO1.out HQ4.out).mono ?_
              rintro e v8 ⟨B7, d7, rfl, s7, b_⟩
              replace r0 := r0.below b_
              replace r3 := r3.below b_
              replace s1 := s1.below b_
              replace s2 := s2.below b_
              replace s4 := s4.below b_
              replace bb := bl_trans bb b_
              clear b_
              go_wp2_with fail
              refine (HS.out.held x0 _ _ _ _ _ _ q4 r0 (by omega) rfl HQ4.out).mono ?_
              rintro e v9 ⟨B8, d8, rfl, s8, b_⟩
              replace r0 := r0.below b_
              replace r3 := r3.below b_
              replace s1 := s1.below b_
              replace s2 := s2.below b_
              replace s4 := s4.below b_
              replace s7 := s7.below b_
              replace bb := bl_trans bb b_
              clear b_
              go_wp2_with fail
              refine (numbers_b _ _ _ _ _ _ _ _ _ true s7 s8 (by omega) (by omega) (by simp)).mono ?_
              rintro e v10 ⟨rfl, b_⟩
              clear s7
              clear s8
              replace r0 := r0.below b_
              replace r3 := r3.below b_
              replace s1 := s1.below b_
              replace s2 := s2.below b_
              replace s4 := s4.below b_
              replace bb := bl_trans bb b_
              clear b_
              go_wp2_with fail
              refine (HS.out.held _ _ _ _ _ _ _ q4 s4 (by omega) (HO2.out.trans HO1.out) HQ4.out).mono ?_
              rintro e v11 ⟨B9, d9, rfl, s9, b_⟩
              replace r0 := r0.below b_
              replace r3 := r3.below b_
              replace s1 := s1.below b_
              replace s2 := s2.below b_
              replace s4 := s4.below b_
              replace bb := bl_trans bb b_
              clear b_
              go_wp2_with fail
              refine (HS.out.held x0 _ _ _ _ _ _ q4 r0 (by omega) rfl HQ4.out).mono ?_
              rintro e v12 ⟨B10, d10, rfl, s10, b_⟩
              replace r0 := r0.below b_
              replace r3 := r3.below b_
              replace s1 := s1.below b_
              replace s2 := s2.below b_
              replace s4 := s4.below b_
              replace s9 := s9.below b_
              replace bb := bl_trans bb b_
              clear b_
              go_wp2_with fail
              refine (numbers_b _ _ _ _ _ _ _ _ _ true s9 s10 (by omega) (by omega) (by simp)).mono ?_
              rintro e v13 ⟨rfl, b_⟩
              clear s9
              clear s10
              replace r0 := r0.below b_
              replace r3 := r3.below b_
              replace s1 := s1.below b_
              replace s2 := s2.below b_
              replace s4 := s4.below b_
              replace bb := bl_trans bb b_
              clear b_
              go_wp2_with fail
              refine (HS.out.right _ _ _ _ _ _ s1 (by omega) HRA.out).mono ?_
              rintro e v14 ⟨rfl, b_⟩
              replace r0 := r0.below b_
              replace r3 := r3.below b_
              replace s1 := s1.below b_
              replace s2 := s2.below b_
              replace s4 := s4.below b_
              replace bb := bl_trans bb b_
              clear b_
              go_wp2_with fail
              refine (HS.out.right _ _ _ _ _ _ s4 (by omega) HLR.out).mono ?_
              rintro e v15 ⟨rfl, b_⟩
              replace r0 := r0.below b_
              replace r3 := r3.below b_
              replace s1 := s1.below b_
              replace s2 := s2.below b_
              replace s4 := s4.below b_
              replace bb := bl_trans bb b_
              clear b_
              go_wp2_with fail
              refine (awake_any HS.out _).mono ?_
              rintro e v16 ⟨rfl, b_⟩
              replace r0 := r0.below b_
              replace r3 := r3.below b_
              replace s1 := s1.below b_
              replace s2 := s2.below b_
              replace s4 := s4.below b_
              replace bb := bl_trans bb b_
              clear b_
              go_wp2_with fail
              go_ret
              exact ⟨rfl, bb⟩
        · have hf' : (f != 0) = true := by simpa using hf
          have HK := Lib.hid hlk
          clear hr hlk hf
          go_enter Try.func4, Try.ntmps4
          go_wp2_with fail
          refine (HS.out.right _ _ _ _ _ _ r0 (by omega) HR.out).mono ?_
          rintro e v1 ⟨rfl, b_⟩
          replace r0 := r0.below b_
          replace r3 := r3.below b_
          have bb := b_
          clear b_
          go_wp2_with fail
          refine (HS.out.lock x0 x3 _ _ _ _ _ _ _ _ _ r0 r3 (by omega) (by omega) HK.out).mono ?_
          rintro e v2 ⟨B1, d1, rfl, s1, b_⟩
          replace r0 := r0.below b_
          replace r3 := r3.below b_
          replace bb := bl_trans bb b_
          clear b_
          go_wp2_with fail
          refine (same_b _ _ _ _ _ _ _ _ _ true s1 r0 (by omega) (by omega) (by simp)).mono ?_
          rintro e v3 ⟨rfl, b_⟩
          replace r0 := r0.below b_
          replace r3 := r3.below b_
          replace s1 := s1.below b_
          replace bb := bl_trans bb b_
          clear b_
          go_wp2_with fail
          refine (awake_any HS.out _).mono ?_
          rintro e v4 ⟨rfl, b_⟩
          replace r0 := r0.below b_
          replace r3 := r3.below b_
          replace s1 := s1.below b_
          replace bb := bl_trans bb b_
          clear b_
          go_wp2_with fail
          go_ret
          exact ⟨rfl, bb⟩
    · have hr' : rightB x0 = false := by simpa using hr
      have HR := Lib.hid hr'
      clear hr hr'
      go_enter Try.func4, Try.ntmps4
      go_wp2_with fail
      refine (HS.out.right _ _ _ _ _ _ r0 (by omega) HR.out).mono ?_
      rintro e w1 ⟨rfl, b1⟩
      go_wp2_with (go_at_call 9; refine (awake_any HS.out _).mono ?_; rintro e w2 ⟨rfl, b2⟩)
      go_ret
      exact ⟨rfl, bl_trans b1 (by assumption)⟩
  · have g' : 16 < n0 ∨ 60 < n3 := by omega
    clear g
    go_enter Try.func4, Try.ntmps4
    go_wp2_with (go_at_call 9; refine (awake_any HS.out _).mono ?_; rintro e w2 ⟨rfl, b2⟩)
    all_goals
      go_ret
      exact ⟨rfl, by assumption⟩
end Go.Proofs.Ytfnghnfaekjfjaa.Stripe
