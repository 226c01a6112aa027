/-
  THE WALK OF THE LAW StripeTwo, over what the layer's functions are said to do.
-/
import Derived.Test.YtfnghnfaekjfjaaStripeLaw
import Derived.Test.YtfnghnfaekjfjaaStripeMore4
namespace Go.Proofs.Ytfnghnfaekjfjaa.Stripe
open Go.ChangeShapes Go.WideShapes Go.ChangeAt Go.RowKit Mem

set_option maxRecDepth 100000 in
set_option maxHeartbeats 2000000 in
theorem two_walk (S : Said) (a0 a1 a2 a3 : Int) (h0 : 0 ≤ a0 ∧ a0 ≤ 255) (h1 : 0 ≤ a1 ∧ a1 ≤ 65535) (h2 : 0 ≤ a2 ∧ a2 ≤ 65535) (h3 : 0 ≤ a3 ∧ a3 ≤ 4294967295) (w : World) :
    Calls Try.prog 5 #[.int .u8 a0, .int .u16 a1, .int .u16 a2, .int .u32 a3] w (RetB w true) := by
  have HS := Lib.hid S
  clear S
  obtain ⟨h0a, h0b⟩ := h0
  obtain ⟨h1a, h1b⟩ := h1
  obtain ⟨h2a, h2b⟩ := h2
  obtain ⟨h3a, h3b⟩ := h3
  obtain ⟨m, hm⟩ : ∃ m : Nat, (1 + a0 % 16 : Int) = (m : Int) := ⟨(1 + a0 % 16).toNat, by omega⟩
  obtain ⟨v, hv⟩ : ∃ v : Int, (1 + a3 % 2147483647 : Int) = v := ⟨_, rfl⟩
  have hm1 : 1 ≤ m := by omega
  have hm2 : m ≤ 16 := by omega
  have hv1 : 1 ≤ v := by omega
  have hv2 : v ≤ 2147483647 := by omega
  obtain ⟨tt, one, two, g, s, l1, l2, l3, r, p0, pl, p1, p2, pg, p3, p4, p5, p6, p7, p8⟩ := two_meet m a1 a2 v hm1 hm2 h1a h2a ⟨hv1, hv2⟩
  have P0 := Lib.hid p0
  have PL := Lib.hid pl
  have P1 := Lib.hid p1
  have P2 := Lib.hid p2
  have P3 := Lib.hid p3
  have P4 := Lib.hid p4
  have P5 := Lib.hid p5
  have P6 := Lib.hid p6
  have P7 := Lib.hid p7
  have P8 := Lib.hid p8
  have hp0 : 0 ≤ a1 % (m : Int) := Int.emod_nonneg _ (by omega)
  have hp1 : a1 % (m : Int) < (m : Int) := Int.emod_lt_of_pos _ (by omega)
  have hmz : ((m : Int) == 0) = false := beq_eq_false_iff_ne.2 (by omega)
  obtain ⟨p, hp⟩ : ∃ p : Nat, a1 % (m : Int) = (p : Int) := ⟨(a1 % (m : Int)).toNat, by omega⟩
  have hpm : p < m := by omega
  have P9 : Hid (s[p]? = some r) := Lib.hid (by rw [hp] at p7; simpa using p7)
  rw [hp] at pg
  clear p0 pl p1 p2 p3 p4 p5 p6 p7 p8 hp0 hp1
  rcases pg with ⟨pg, rfl⟩ | ⟨pg, rfl⟩
  · have hmt : ((p : Int) == a2 % (m : Int)) = true := by simpa using pg
    clear pg
    go_enter Try.func5, Try.ntmps5
    go_wp2_with fail
    refine (HS.out.new _ _ _ m P0.out PL.out).mono ?_
    rintro e v1 ⟨B1, d1, rfl, s1, b_⟩
    have bb := b_
    clear b_
    go_wp2_with fail
    refine (HS.out.lock _ [a1] _ _ _ _ _ _ _ _ _ (s1.alloc _) (Rd.built _ 1 1 (zs [a1]) _ rfl) (by omega) (by omega) P1.out).mono ?_
    rintro e v2 ⟨B2, d2, rfl, s2, b_⟩
    clear s1
    replace bb := bl_trans (bl_alloc bb _) b_
    clear b_
    go_wp2_with fail
    refine (HS.out.lock _ [a2] _ _ _ _ _ _ _ _ _ (s2.alloc _) (Rd.built _ 1 1 (zs [a2]) _ rfl) (by omega) (by omega) P2.out).mono ?_
    rintro e v3 ⟨B3, d3, rfl, s3, b_⟩
    replace s2 := (s2.alloc _).below b_
    replace bb := bl_trans (bl_alloc bb _) b_
    clear b_
    go_wp2
    go_quiet (fail)
    replace s2 := s2.drewN nq
    replace s3 := s3.drewN nq
    replace bb := bl_drewN bb nq
    generalize v3.drewN nq = vq at *
    go_wp2_with fail
    refine (HS.out.stamp _ _ _ _ _ _ _ _ s2 (by omega) P3.out).mono ?_
    rintro e v4 ⟨B4, d4, rfl, s4, b_⟩
    replace s2 := s2.below b_
    replace s3 := s3.below b_
    replace bb := bl_trans bb b_
    clear b_
    go_wp2_with fail
    refine (HS.out.lock _ [a1, a2] _ _ _ _ _ _ _ _ _ (s4.alloc _) (Rd.built _ 1 2 (zs [a1, a2]) _ rfl) (by omega) (by omega) P4.out).mono ?_
    rintro e v5 ⟨B5, d5, rfl, s5, b_⟩
    replace s2 := (s2.alloc _).below b_
    replace s3 := (s3.alloc _).below b_
    replace s4 := (s4.alloc _).below b_
    replace bb := bl_trans (bl_alloc bb _) b_
    clear b_
    go_wp2_with fail
    refine (HS.out.let_ _ _ _ _ _ _ _ s2 (by omega) rfl).mono ?_
    rintro e v6 ⟨B6, d6, rfl, s6, b_⟩
    replace s2 := s2.below b_
    replace s3 := s3.below b_
    replace s4 := s4.below b_
    replace bb := bl_trans bb b_
    clear b_
    go_wp2_with fail
    refine (HS.out.lock _ [a1, a2] _ _ _ _ _ _ _ _ _ (s6.alloc _) (Rd.built _ 1 2 (zs [a1, a2]) _ rfl) (by omega) (by omega) P5.out).mono ?_
    rintro e v7 ⟨B7, d7, rfl, s7, b_⟩
    clear s6
    replace s2 := (s2.alloc _).below b_
    replace s3 := (s3.alloc _).below b_
    replace s4 := (s4.alloc _).below b_
    replace bb := bl_trans (bl_alloc bb _) b_
    clear b_
    go_wp2_with fail
    refine (HS.out.lock _ [a1] _ _ _ _ _ _ _ _ _ (s3.alloc _) (Rd.built _ 1 1 (zs [a1]) _ rfl) (by omega) (by omega) P6.out).mono ?_
    rintro e v8 ⟨B8, d8, rfl, s8, b_⟩
    clear s3
    clear s2
    replace s4 := (s4.alloc _).below b_
    replace bb := bl_trans (bl_alloc bb _) b_
    clear b_
    obtain ⟨pb, po, px, rfl, hpx, k1, k2⟩ := at_rec s4 p hpm
    have hpv : px.version = v := by
      have e := P9.out
      rw [hpx] at e; injection e with e; rw [e]; exact P8.out
    rw [hpv] at k1
    clear hpx hpv k2
    go_wp2_with fail
    refine (awake_any HS.out _).mono ?_
    rintro e v9 ⟨rfl, b_⟩
    replace s4 := s4.below b_
    replace bb := bl_trans bb b_
    clear b_
    go_wp2_with fail
    go_ret
    exact ⟨rfl, bb⟩
  · have hmt : ((p : Int) == a2 % (m : Int)) = false := beq_eq_false_iff_ne.2 pg
    clear pg
    go_enter Try.func5, Try.ntmps5
    go_wp2_with fail
    refine (HS.out.new _ _ _ m P0.out PL.out).mono ?_
    rintro e v1 ⟨B1, d1, rfl, s1, b_⟩
    have bb := b_
    clear b_
    go_wp2_with fail
    refine (HS.out.lock _ [a1] _ _ _ _ _ _ _ _ _ (s1.alloc _) (Rd.built _ 1 1 (zs [a1]) _ rfl) (by omega) (by omega) P1.out).mono ?_
    rintro e v2 ⟨B2, d2, rfl, s2, b_⟩
    clear s1
    replace bb := bl_trans (bl_alloc bb _) b_
    clear b_
    go_wp2_with fail
    refine (HS.out.lock _ [a2] _ _ _ _ _ _ _ _ _ (s2.alloc _) (Rd.built _ 1 1 (zs [a2]) _ rfl) (by omega) (by omega) P2.out).mono ?_
    rintro e v3 ⟨B3, d3, rfl, s3, b_⟩
    replace s2 := (s2.alloc _).below b_
    replace bb := bl_trans (bl_alloc bb _) b_
    clear b_
    go_wp2
    go_quiet (fail)
    replace s2 := s2.drewN nq
    replace s3 := s3.drewN nq
    replace bb := bl_drewN bb nq
    generalize v3.drewN nq = vq at *
    go_wp2_with fail
    refine (HS.out.stamp _ _ _ _ _ _ _ _ s2 (by omega) P3.out).mono ?_
    rintro e v4 ⟨B4, d4, rfl, s4, b_⟩
    replace s2 := s2.below b_
    replace s3 := s3.below b_
    replace bb := bl_trans bb b_
    clear b_
    go_wp2_with fail
    refine (HS.out.lock _ [a1, a2] _ _ _ _ _ _ _ _ _ (s4.alloc _) (Rd.built _ 1 2 (zs [a1, a2]) _ rfl) (by omega) (by omega) P4.out).mono ?_
    rintro e v5 ⟨B5, d5, rfl, s5, b_⟩
    replace s2 := (s2.alloc _).below b_
    replace s3 := (s3.alloc _).below b_
    replace s4 := (s4.alloc _).below b_
    replace bb := bl_trans (bl_alloc bb _) b_
    clear b_
    go_wp2_with fail
    refine (HS.out.let_ _ _ _ _ _ _ _ s2 (by omega) rfl).mono ?_
    rintro e v6 ⟨B6, d6, rfl, s6, b_⟩
    replace s2 := s2.below b_
    replace s3 := s3.below b_
    replace s4 := s4.below b_
    replace bb := bl_trans bb b_
    clear b_
    go_wp2_with fail
    refine (HS.out.lock _ [a1, a2] _ _ _ _ _ _ _ _ _ (s6.alloc _) (Rd.built _ 1 2 (zs [a1, a2]) _ rfl) (by omega) (by omega) P5.out).mono ?_
    rintro e v7 ⟨B7, d7, rfl, s7, b_⟩
    clear s6
    replace s2 := (s2.alloc _).below b_
    replace s3 := (s3.alloc _).below b_
    replace s4 := (s4.alloc _).below b_
    replace bb := bl_trans (bl_alloc bb _) b_
    clear b_
    go_wp2_with fail
    refine (HS.out.lock _ [a1] _ _ _ _ _ _ _ _ _ (s3.alloc _) (Rd.built _ 1 1 (zs [a1]) _ rfl) (by omega) (by omega) P6.out).mono ?_
    rintro e v8 ⟨B8, d8, rfl, s8, b_⟩
    clear s3
    clear s2
    replace s4 := (s4.alloc _).below b_
    replace bb := bl_trans (bl_alloc bb _) b_
    clear b_
    obtain ⟨pb, po, px, rfl, hpx, k1, k2⟩ := at_rec s4 p hpm
    have hpv : px.version = v := by
      have e := P9.out
      rw [hpx] at e; injection e with e; rw [e]; exact P8.out
    rw [hpv] at k1
    clear hpx hpv k2
    go_wp2_with fail
    refine (awake_any HS.out _).mono ?_
    rintro e v9 ⟨rfl, b_⟩
    replace s4 := s4.below b_
    replace bb := bl_trans bb b_
    clear b_
    go_wp2_with fail
    go_ret
    exact ⟨rfl, bb⟩
end Go.Proofs.Ytfnghnfaekjfjaa.Stripe
