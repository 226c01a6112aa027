/-
  THE WALK OF THE LAW StripeRises, over what the layer's functions are said to do.
-/
import Derived.Test.YtfnghnfaekjfjaaStripeLaw
import Derived.Test.YtfnghnfaekjfjaaStripeMore3
namespace Go.Proofs.Ytfnghnfaekjfjaa.Stripe
open Go.ChangeShapes Go.WideShapes Go.ChangeAt Go.RowKit Mem

set_option maxRecDepth 100000 in
set_option maxHeartbeats 2000000 in
theorem rises_walk (S : Said) (A0 : Option Addr) (n0 c0 : Nat) (x0 : List Rec) (a1 a2 : Int) (A3 : Option Addr) (n3 c3 : Nat) (x3 : List Int) (w : World)
    (m0 : n0 ≤ 9223372036854775807) (r0 : Rd w 2 A0 n0 (rs x0)) (m3 : n3 ≤ 9223372036854775807) (r3 : Rd w 1 A3 n3 (zs x3)) :
    Calls Try.prog 6 #[.slice A0 n0 c0, .int .i64 a1, .int .i64 a2, .slice A3 n3 c3] w (RetB w true) := by
  have HS := Lib.hid S
  clear S
  by_cases gg : n0 ≤ 16 ∧ n3 ≤ 60
  · obtain ⟨g0, g3⟩ := gg
    have d16 : decide ((16 : Int) < (n0 : Int)) = false := by simp; omega
    have d60 : decide ((60 : Int) < (n3 : Int)) = false := by simp; omega
    by_cases hr : rightB x0 = true
    · have HR := Lib.hid hr
      have HV1 := Lib.hid (lock_ver x0 a1 x3)
      generalize ea : lockS x0 a1 x3 = ra at *
      obtain ⟨a, fa⟩ := ra
      have HV2 := Lib.hid (stamp_ver a a1 a2)
      have HE := stamp_err a a1 a2
      have HV3 := Lib.hid (let_ver a a1)
      generalize es : stampS a a1 a2 = rst at *
      obtain ⟨s, f⟩ := rst
      have EA := Lib.hid ea
      have ES := Lib.hid es
      simp only at HE
      clear hr ea es
      rcases HE with he | ⟨he, hsa⟩
      · subst he
        go_enter Try.func6, Try.ntmps6
        go_wp2_with fail
        refine (HS.out.right _ _ _ _ _ _ r0 (by omega) HR.out).mono ?_
        rintro e v1 ⟨rfl, b_⟩
        replace r0 := r0.below b_
        replace r3 := r3.below b_
        have bb := b_
        clear b_
        go_wp2_with fail
        refine (HS.out.lock x0 x3 _ _ _ _ _ _ _ _ _ r0 r3 (by omega) (by omega) EA.out).mono ?_
        rintro e v2 ⟨B1, d1, rfl, s1, b_⟩
        replace r0 := r0.below b_
        replace r3 := r3.below b_
        replace bb := bl_trans bb b_
        clear b_
        go_wp2_with fail
        refine (HS.out.stamp a _ _ _ _ _ _ _ s1 (by omega) ES.out).mono ?_
        rintro e v3 ⟨B2, d2, rfl, s2, b_⟩
        replace r0 := r0.below b_
        replace r3 := r3.below b_
        replace s1 := s1.below b_
        replace bb := bl_trans bb b_
        clear b_
        go_wp2_with fail
        refine (HS.out.let_ a _ _ _ _ _ _ s1 (by omega) rfl).mono ?_
        rintro e v4 ⟨B3, d3, rfl, s3, b_⟩
        replace r0 := r0.below b_
        replace r3 := r3.below b_
        replace s1 := s1.below b_
        replace s2 := s2.below b_
        replace bb := bl_trans bb b_
        clear b_
        go_wp2
        go_loopw [68] (fun i wr => ∃ j : Nat, j ≤ n0 ∧ i = .int .i64 j ∧ Rd wr 2 A0 n0 (rs x0) ∧ Rd wr 2 B1 n0 (rs a) ∧ Rd wr 2 B2 n0 (rs s) ∧ Rd wr 2 B3 n0 (rs (letS a a1)) ∧ Below w.heap.size w wr) (fun i _ => n0 - (intOf i).toNat)
        case atStart => exact ⟨0, Nat.zero_le _, rfl, r0, s1, s2, s3, bb⟩
        case round =>
          obtain ⟨j, hj, rfl, q0, q1, q2, q3, qb⟩ := hrel
          by_cases hlt : j < n0
          · obtain ⟨b, off, ⟨vr, ow⟩, rfl, hx, k0, k0'⟩ := at_rec q0 j hlt
            obtain ⟨b1, off1, ⟨va, oa⟩, rfl, hxa, k1, k1'⟩ := at_rec (q1.alloc (.cells #[.int .i64 vr, .int .i64 ow] 44)) j hlt
            obtain ⟨b2, off2, ⟨vs, os⟩, rfl, hxs, k2, k2'⟩ := at_rec (q2.alloc (.cells #[.int .i64 vr, .int .i64 ow] 44)) j hlt
            obtain ⟨b3, off3, ⟨vl, ol⟩, rfl, hxl, k3, k3'⟩ := at_rec (q3.alloc (.cells #[.int .i64 vr, .int .i64 ow] 44)) j hlt
            obtain ⟨ra, ha, hva⟩ := HV1.out j _ hx
            rw [hxa] at ha; injection ha with ha; subst ha
            obtain ⟨r', hs', hle, hor⟩ := HV2.out j _ hxa
            rw [hxs] at hs'; injection hs' with hs'; subst hs'
            obtain ⟨rl, hl', hvl⟩ := HV3.out j _ hxa
            rw [hxl] at hl'; injection hl' with hl'; subst hl'
            simp only at hva hvl hle hor
            subst hva
            have hvl' := hvl.symm
            subst hvl'
            have dlt : decide (vs < va) = false := by simp; omega
            clear hx hxa hxs hxl
            rcases hor with hor | ⟨ho1, ho2⟩
            · subst hor
              go_wp2
              go_quiet (fail)
              go_wp2
              go_roundw
              case rel => exact ⟨j + 1, by omega, by go_num, (q0.alloc _).drewN _, (q1.alloc _).drewN _, (q2.alloc _).drewN _, (q3.alloc _).drewN _, bl_drewN (bl_alloc qb _) _⟩
              case measure => simp [intOf]; omega
            · subst ho1 ho2
              by_cases hv : vs = va
              · subst hv
                go_wp2
                go_quiet (fail)
                go_wp2
                go_roundw
                case rel => exact ⟨j + 1, by omega, by go_num, (q0.alloc _).drewN _, (q1.alloc _).drewN _, (q2.alloc _).drewN _, (q3.alloc _).drewN _, bl_drewN (bl_alloc qb _) _⟩
                case measure => simp [intOf]; omega
              · have hv' : (vs != va) = true := by simpa using hv
                clear hv
                go_wp2
                go_quiet (fail)
                go_wp2
                go_roundw
                case rel => exact ⟨j + 1, by omega, by go_num, (q0.alloc _).drewN _, (q1.alloc _).drewN _, (q2.alloc _).drewN _, (q3.alloc _).drewN _, bl_drewN (bl_alloc qb _) _⟩
                case measure => simp [intOf]; omega
          · have hjn : j = n0 := by omega
            subst hjn
            go_wp2_with fail
            refine (awake_any HS.out _).mono ?_
            rintro e v5 ⟨rfl, b_⟩
            replace q1 := q1.below b_
            replace q2 := q2.below b_
            replace qb := bl_trans qb b_
            clear b_
            go_wp2_with fail
            go_ret
            exact ⟨rfl, qb⟩
      · have he0 : (f == 0) = false := beq_eq_false_iff_ne.2 he
        have hsa' := hsa.symm
        subst hsa'
        clear he
        go_enter Try.func6, Try.ntmps6
        go_wp2_with fail
        refine (HS.out.right _ _ _ _ _ _ r0 (by omega) HR.out).mono ?_
        rintro e v1 ⟨rfl, b_⟩
        replace r0 := r0.below b_
        replace r3 := r3.below b_
        have bb := b_
        clear b_
        go_wp2_with fail
        refine (HS.out.lock x0 x3 _ _ _ _ _ _ _ _ _ r0 r3 (by omega) (by omega) EA.out).mono ?_
        rintro e v2 ⟨B1, d1, rfl, s1, b_⟩
        replace r0 := r0.below b_
        replace r3 := r3.below b_
        replace bb := bl_trans bb b_
        clear b_
        go_wp2_with fail
        refine (HS.out.stamp a _ _ _ _ _ _ _ s1 (by omega) ES.out).mono ?_
        rintro e v3 ⟨B2, d2, rfl, s2, b_⟩
        replace r0 := r0.below b_
        replace r3 := r3.below b_
        replace s1 := s1.below b_
        replace bb := bl_trans bb b_
        clear b_
        go_wp2_with fail
        refine (HS.out.let_ a _ _ _ _ _ _ s1 (by omega) rfl).mono ?_
        rintro e v4 ⟨B3, d3, rfl, s3, b_⟩
        replace r0 := r0.below b_
        replace r3 := r3.below b_
        replace s1 := s1.below b_
        replace s2 := s2.below b_
        replace bb := bl_trans bb b_
        clear b_
        go_wp2
        go_loopw [68] (fun i wr => ∃ j : Nat, j ≤ n0 ∧ i = .int .i64 j ∧ Rd wr 2 A0 n0 (rs x0) ∧ Rd wr 2 B1 n0 (rs a) ∧ Rd wr 2 B2 n0 (rs a) ∧ Rd wr 2 B3 n0 (rs (letS a a1)) ∧ Below w.heap.size w wr) (fun i _ => n0 - (intOf i).toNat)
        case atStart => exact ⟨0, Nat.zero_le _, rfl, r0, s1, s2, s3, bb⟩
        case round =>
          obtain ⟨j, hj, rfl, q0, q1, q2, q3, qb⟩ := hrel
          by_cases hlt : j < n0
          · obtain ⟨b, off, ⟨vr, ow⟩, rfl, hx, k0, k0'⟩ := at_rec q0 j hlt
            obtain ⟨b1, off1, ⟨va, oa⟩, rfl, hxa, k1, k1'⟩ := at_rec (q1.alloc (.cells #[.int .i64 vr, .int .i64 ow] 44)) j hlt
            obtain ⟨b2, off2, ⟨vs, os⟩, rfl, hxs, k2, k2'⟩ := at_rec (q2.alloc (.cells #[.int .i64 vr, .int .i64 ow] 44)) j hlt
            obtain ⟨b3, off3, ⟨vl, ol⟩, rfl, hxl, k3, k3'⟩ := at_rec (q3.alloc (.cells #[.int .i64 vr, .int .i64 ow] 44)) j hlt
            obtain ⟨ra, ha, hva⟩ := HV1.out j _ hx
            rw [hxa] at ha; injection ha with ha; subst ha
            obtain ⟨r', hs', hle, hor⟩ := HV2.out j _ hxa
            rw [hxs] at hs'; injection hs' with hs'; subst hs'
            obtain ⟨rl, hl', hvl⟩ := HV3.out j _ hxa
            rw [hxl] at hl'; injection hl' with hl'; subst hl'
            simp only at hva hvl hle hor
            subst hva
            have hvl' := hvl.symm
            subst hvl'
            have dlt : decide (vs < va) = false := by simp; omega
            clear hx hxa hxs hxl
            rcases hor with hor | ⟨ho1, ho2⟩
            · subst hor
              go_wp2
              go_quiet (fail)
              go_wp2
              go_roundw
              case rel => exact ⟨j + 1, by omega, by go_num, (q0.alloc _).drewN _, (q1.alloc _).drewN _, (q2.alloc _).drewN _, (q3.alloc _).drewN _, bl_drewN (bl_alloc qb _) _⟩
              case measure => simp [intOf]; omega
            · subst ho1 ho2
              by_cases hv : vs = va
              · subst hv
                go_wp2
                go_quiet (fail)
                go_wp2
                go_roundw
                case rel => exact ⟨j + 1, by omega, by go_num, (q0.alloc _).drewN _, (q1.alloc _).drewN _, (q2.alloc _).drewN _, (q3.alloc _).drewN _, bl_drewN (bl_alloc qb _) _⟩
                case measure => simp [intOf]; omega
              · have hv' : (vs != va) = true := by simpa using hv
                clear hv
                go_wp2
                go_quiet (fail)
                go_wp2
                go_roundw
                case rel => exact ⟨j + 1, by omega, by go_num, (q0.alloc _).drewN _, (q1.alloc _).drewN _, (q2.alloc _).drewN _, (q3.alloc _).drewN _, bl_drewN (bl_alloc qb _) _⟩
                case measure => simp [intOf]; omega
          · have hjn : j = n0 := by omega
            subst hjn
            go_wp2_with fail
            refine (same_b _ _ _ _ _ _ _ _ _ true q2 q1 (by omega) (by omega) (by simp)).mono ?_
            rintro e v5 ⟨rfl, b_⟩
            replace q1 := q1.below b_
            replace q2 := q2.below b_
            replace qb := bl_trans qb b_
            clear b_
            go_wp2_with fail
            refine (awake_any HS.out _).mono ?_
            rintro e v6 ⟨rfl, b_⟩
            replace q1 := q1.below b_
            replace q2 := q2.below b_
            replace qb := bl_trans qb b_
            clear b_
            go_wp2_with fail
            go_ret
            exact ⟨rfl, qb⟩
    · have hr' : rightB x0 = false := by simpa using hr
      have HR := Lib.hid hr'
      clear hr hr'
      go_enter Try.func6, Try.ntmps6
      go_wp2_with fail
      refine (HS.out.right _ _ _ _ _ _ r0 (by omega) HR.out).mono ?_
      rintro e w1 ⟨rfl, b1⟩
      go_wp2_with (go_at_call 9; refine (awake_any HS.out _).mono ?_; rintro e w2 ⟨rfl, b2⟩)
      go_ret
      exact ⟨rfl, bl_trans b1 (by assumption)⟩
  · have g' : 16 < n0 ∨ 60 < n3 := by omega
    clear gg
    go_enter Try.func6, Try.ntmps6
    go_wp2_with (go_at_call 9; refine (awake_any HS.out _).mono ?_; rintro e w2 ⟨rfl, b2⟩)
    all_goals
      go_ret
      exact ⟨rfl, by assumption⟩
end Go.Proofs.Ytfnghnfaekjfjaa.Stripe
