/-
  THE WALK OF THE LAW StripeCells, over what the layer's functions are said to do.
-/
import Derived.Test.YtfnghnfaekjfjaaStripeLaw
import Derived.Test.YtfnghnfaekjfjaaStripeMore3
import Derived.Test.YtfnghnfaekjfjaaMem2
namespace Go.Proofs.Ytfnghnfaekjfjaa.Stripe
open Go.ChangeShapes Go.WideShapes Go.ChangeAt Go.RowKit Mem

/-- Whole numbers of 16 bits. -/
def uc (z : Int) : List Value := [.int .u16 z]
def us (l : List Int) : List Value := l.flatMap uc
theorem uc_len (z : Int) : (uc z).length = 1 := rfl
theorem at_u {w : World} {A : Option Addr} {n : Nat} {l : List Int} (hr : Rd w 1 A n (us l)) (k : Nat) (hk : k < n) :
    ∃ b off, ∃ x : Int, A = some ⟨b, off, none⟩ ∧ l[k]? = some x ∧ w.cell? ⟨b, off + k, none⟩ = some (.int .u16 x) := by
  obtain ⟨b, off, x, hA, hx, hc⟩ := Rd.at_ uc_len hr (by decide) k hk
  exact ⟨b, off, x, hA, hx, by have := hc 0 _ rfl; simpa using this⟩
theorem us_len {w : World} {A : Option Addr} {n : Nat} {l : List Int} (hr : Rd w 1 A n (us l)) : l.length = n := Rd.len uc_len hr (by decide)
theorem us_cell {w : World} {b off n : Nat} {l : List Int} (hr : Rd w 1 (some ⟨b, off, none⟩) n (us l)) (k : Nat) (x : Int) (hx : l[k]? = some x) : w.cell? ⟨b, off + k, none⟩ = some (.int .u16 x) := by
  have hk : k < n := by rw [← us_len hr]; exact (List.getElem?_eq_some_iff.1 hx).1
  obtain ⟨b', off', x', hA, hx', hc⟩ := at_u hr k hk
  injection hA with hA; injection hA with e1 e2; subst e1 e2
  rw [hx] at hx'; injection hx' with e; subst e; exact hc
theorem open_u16s {H : Type} {enc : TypeId × Value → H} {W : World} {A : Option Addr} {n c : Nat} {d : DataW H} {p : List MemPlace}
    (h : DataW.Trod enc Try.prog W 0 (fun _ => true) true 46 (.slice A n c) d p) :
    n ≤ c ∧ c ≤ 9223372036854775807 ∧ ∃ xs : List Int, Rd W 1 A n (us xs) ∧ xs.length = n ∧ ∀ x ∈ xs, 0 ≤ x ∧ x ≤ 65535 := by
  refine open_rows Try.underlying46 1 (by kernel_rfl) (by decide) uc (fun _ => rfl) (fun x => 0 ≤ x ∧ x ≤ 65535) ?_ h
  intro fuel cs' x hl ht
  obtain ⟨m, e1, _, wf⟩ := DataW.trod_int Try.underlying41 ht
  exact ⟨m, e1, bounds_u16 wf⟩

set_option maxRecDepth 100000 in
set_option maxHeartbeats 2000000 in
theorem cells_walk (S : Said) (A0 : Option Addr) (n0 c0 : Nat) (x0 : List Rec) (a1 : Int) (A2 : Option Addr) (n2 c2 : Nat) (x2 : List Int) (w : World)
    (m0 : n0 ≤ 9223372036854775807) (r0 : Rd w 2 A0 n0 (rs x0)) (h1 : 0 ≤ a1 ∧ a1 ≤ 65535) (m2 : n2 ≤ 9223372036854775807) (r2 : Rd w 1 A2 n2 (us x2)) (hx2 : ∀ x ∈ x2, 0 ≤ x ∧ x ≤ 65535) :
    Calls Try.prog 7 #[.slice A0 n0 c0, .int .u16 a1, .slice A2 n2 c2] w (RetB w true) := by
  have HS := Lib.hid S
  clear S
  obtain ⟨h1a, h1b⟩ := h1
  have HX2 := Lib.hid hx2
  clear hx2
  have HL2 := Lib.hid (us_len r2)
  have HL0 := Lib.hid (rs_len r0)
  by_cases gg : n0 ≤ 16 ∧ n2 ≤ 30
  · obtain ⟨g0, g2⟩ := gg
    have d16 : decide ((16 : Int) < (n0 : Int)) = false := by simp; omega
    have d30 : decide ((30 : Int) < (n2 : Int)) = false := by simp; omega
    by_cases hr : rightB x0 = true
    · have HR := Lib.hid hr
      have hn0 : 0 < n0 := by have := ((right_iff x0).1 hr).1.1; rw [HL0.out] at this; exact this
      have O1 : Hid (ofS x0 [a1] = [a1 % (n0 : Int)]) := Lib.hid (by rw [of_one x0 a1 hr h1a, HL0.out])
      have O2 : Hid (ofS x0 [a1 + (n0 : Int)] = [a1 % (n0 : Int)]) := Lib.hid (by rw [← HL0.out, of_shift x0 a1 h1a, HL0.out]; exact O1.out)
      have O3 := Lib.hid (of_nil x0)
      have O4 := Lib.hid (of_rev x0 x2)
      have hp0 : 0 ≤ a1 % (n0 : Int) := Int.emod_nonneg _ (by omega)
      have hp1 : a1 % (n0 : Int) < (n0 : Int) := Int.emod_lt_of_pos _ (by omega)
      have hq1 : (ofS x0 x2).length ≤ n0 := by have := of_len x0 x2; rw [HL0.out] at this; exact this
      have hq2 : (ofS x0 x2).length ≤ n2 := by have := of_le x0 x2; rw [HL2.out] at this; exact this
      generalize hq : (ofS x0 x2).length = q at *
      have HQ := Lib.hid hq
      clear hr hq
      generalize a1 % (n0 : Int) = p at *
      go_enter Try.func7, Try.ntmps7
      go_wp2_with fail
      refine (HS.out.right _ _ _ _ _ _ r0 (by omega) HR.out).mono ?_
      rintro e v1 ⟨rfl, b_⟩
      replace r0 := r0.below b_
      replace r2 := r2.below b_
      have bb := b_
      clear b_
      go_wp2_with fail
      refine (HS.out.of_ x0 [a1] _ _ _ _ _ _ _ _ 1 (r0.alloc _) (Rd.built _ 1 1 (zs [a1]) _ rfl) (by omega) (by omega) O1.out rfl).mono ?_
      rintro e v2 ⟨B1, d1, rfl, s1, b_⟩
      replace r0 := (r0.alloc _).below b_
      replace r2 := (r2.alloc _).below b_
      replace bb := bl_trans (bl_alloc bb _) b_
      clear b_
      go_wp2_with fail
      refine (HS.out.of_ x0 [a1 + (n0 : Int)] _ _ _ _ _ _ _ _ 1 (r0.alloc _) (Rd.built _ 1 1 (zs [a1 + (n0 : Int)]) _ rfl) (by omega) (by omega) O2.out rfl).mono ?_
      rintro e v3 ⟨B2, d2, rfl, s2, b_⟩
      replace r0 := (r0.alloc _).below b_
      replace r2 := (r2.alloc _).below b_
      replace s1 := (s1.alloc _).below b_
      replace bb := bl_trans (bl_alloc bb _) b_
      clear b_
      go_wp2
      go_loopw [10, 11, 42] (fun l t i wr => ∃ j : Nat, j ≤ n2 ∧ i = .int .i64 j ∧ Own v3 wr 3 1 l j (zs (x2.take j)) ∧ Own v3 wr 3 1 t j (zs (x2.reverse.take j)) ∧ Apart l t) (fun _ _ i _ => n2 - (intOf i).toNat)
      case atStart => exact ⟨0, Nat.zero_le _, rfl, Own.nil_ (Below.refl _ _), Own.nil_ (Below.refl _ _), Apart.nil_ _⟩
      case round =>
        obtain ⟨j, hj, rfl, o1, o2, hap⟩ := hrel
        by_cases hlt : j < n2
        · obtain ⟨b, off, z, rfl, hz, k1⟩ := at_u (r2.below o1.2) j hlt
          have hzb := HX2.out z (List.mem_of_getElem? hz)
          obtain ⟨hz0, hz1⟩ := hzb
          have hj2 : n2 - 1 - j < n2 := by omega
          obtain ⟨b', off', z', hA, hz', _⟩ := at_u (r2.below o1.2) (n2 - 1 - j) hj2
          have hzb' := HX2.out z' (List.mem_of_getElem? hz')
          obtain ⟨hz0', hz1'⟩ := hzb'
          have T1 := Lib.hid (zs_take x2 j z hz)
          have T2 := Lib.hid (zs_take x2.reverse j z' (by rw [List.getElem?_reverse (by rw [HL2.out]; exact hlt), HL2.out]; exact hz'))
          have HZ' := Lib.hid hz'
          clear hz hz' hA
          have e1 : ((n2 : Int) - 1 - (j : Int)) = ((n2 - 1 - j : Nat) : Int) := by omega
          have E1 := Lib.hid e1
          clear e1
          go_wp2_with (first
            | (at_builtin; refine append_at rfl (.tmp 45) (.tmp 51) 23 rfl tInt v3 _ _ _ rfl (o1.alloc _) _ 1 1 [.int .i64 z] rfl (Rd.built _ 1 1 [.int .i64 z] _ rfl) (one_cons rfl one_nil) (by omega) (by omega) ?_; intro l' w' o1' hg1 hat1; obtain ⟨o2', hap'⟩ := (o2.alloc _).beside hap (o1.alloc _) hg1 hat1; have k2 := us_cell (r2.below o1'.2) _ _ HZ'.out; clear hg1 hat1)
            | (at_builtin; refine append_at rfl (.tmp 53) (.tmp 63) 23 rfl tInt v3 _ _ _ rfl (o2'.alloc _) _ 1 1 [.int .i64 z'] rfl (Rd.built _ 1 1 [.int .i64 z'] _ rfl) (one_cons rfl one_nil) (by omega) (by omega) ?_; intro t' w'' o2'' hg2 hat2; obtain ⟨o1'', hap''⟩ := (o1'.alloc _).beside hap'.symm (o2'.alloc _) hg2 hat2; clear hg2 hat2))
          go_roundw
          case rel => exact ⟨j + 1, by omega, by go_num, by rw [T1.out]; exact o1'', by rw [T2.out]; exact o2'', hap''.symm⟩
          case measure => simp [intOf]; omega
        · have hjn : j = n2 := by omega
          subst hjn
          obtain ⟨B3, d3, rfl, q3⟩ := o1.form
          obtain ⟨B4, d4, rfl, q4⟩ := o2.form
          have q3' : Rd wr 1 B3 j (zs x2) := by rwa [List.take_of_length_le (by rw [HL2.out]; exact Nat.le_refl _)] at q3
          have q4' : Rd wr 1 B4 j (zs x2.reverse) := by rwa [List.take_of_length_le (by rw [List.length_reverse, HL2.out]; exact Nat.le_refl _)] at q4
          replace r0 := r0.below o1.2
          replace s1 := s1.below o1.2
          replace s2 := s2.below o1.2
          replace bb := bl_trans bb o1.2
          clear q3 q4 o1 o2 hap
          obtain ⟨pb, po, px, rfl, hpx, kp⟩ := at_z s1 0 (by decide)
          simp at hpx kp
          subst hpx
          rcases Nat.lt_or_ge j n0 with hmn | hmn
          · go_wp2_with fail
            refine (numbers_b _ _ _ _ _ _ _ _ _ true s1 s2 (by omega) (by omega) (by simp)).mono ?_
            rintro e v1 ⟨rfl, b_⟩
            clear s1
            clear s2
            replace r0 := r0.below b_
            replace q3' := q3'.below b_
            replace q4' := q4'.below b_
            replace bb := bl_trans bb b_
            clear b_
            go_wp2_with fail
            refine (HS.out.of_ x0 [] _ _ _ _ _ _ _ _ 0 r0 Rd.none_ (by omega) (by omega) O3.out rfl).mono ?_
            rintro e v2 ⟨B5, d5, rfl, s5, b_⟩
            replace r0 := r0.below b_
            replace q3' := q3'.below b_
            replace q4' := q4'.below b_
            replace bb := bl_trans bb b_
            clear b_
            go_wp2_with fail
            refine (HS.out.of_ x0 x2 _ _ _ _ _ _ _ _ q r0 q3' (by omega) (by omega) rfl HQ.out).mono ?_
            rintro e v3 ⟨B6, d6, rfl, s6, b_⟩
            replace r0 := r0.below b_
            replace q3' := q3'.below b_
            replace q4' := q4'.below b_
            replace bb := bl_trans bb b_
            clear b_
            go_wp2_with fail
            refine (HS.out.of_ x0 x2.reverse _ _ _ _ _ _ _ _ q r0 q4' (by omega) (by omega) O4.out HQ.out).mono ?_
            rintro e v4 ⟨B7, d7, rfl, s7, b_⟩
            replace r0 := r0.below b_
            replace q3' := q3'.below b_
            replace q4' := q4'.below b_
            replace s6 := s6.below b_
            replace bb := bl_trans bb b_
            clear b_
            go_wp2_with fail
            refine (numbers_b _ _ _ _ _ _ _ _ _ true s6 s7 (by omega) (by omega) (by simp)).mono ?_
            rintro e v5 ⟨rfl, b_⟩
            clear s6
            clear s7
            replace r0 := r0.below b_
            replace q3' := q3'.below b_
            replace q4' := q4'.below b_
            replace bb := bl_trans bb b_
            clear b_
            go_wp2_with fail
            refine (HS.out.of_ x0 x2 _ _ _ _ _ _ _ _ q r0 q3' (by omega) (by omega) rfl HQ.out).mono ?_
            rintro e v6 ⟨B8, d8, rfl, s8, b_⟩
            replace r0 := r0.below b_
            replace q3' := q3'.below b_
            replace q4' := q4'.below b_
            replace bb := bl_trans bb b_
            clear b_
            go_wp2_with fail
            refine (awake_any HS.out _).mono ?_
            rintro e v7 ⟨rfl, b_⟩
            replace r0 := r0.below b_
            replace q3' := q3'.below b_
            replace q4' := q4'.below b_
            replace bb := bl_trans bb b_
            clear b_
            go_wp2_with fail
            go_ret
            exact ⟨rfl, bb⟩
          · go_wp2_with fail
            refine (numbers_b _ _ _ _ _ _ _ _ _ true s1 s2 (by omega) (by omega) (by simp)).mono ?_
            rintro e v1 ⟨rfl, b_⟩
            clear s1
            clear s2
            replace r0 := r0.below b_
            replace q3' := q3'.below b_
            replace q4' := q4'.below b_
            replace bb := bl_trans bb b_
            clear b_
            go_wp2_with fail
            refine (HS.out.of_ x0 [] _ _ _ _ _ _ _ _ 0 r0 Rd.none_ (by omega) (by omega) O3.out rfl).mono ?_
            rintro e v2 ⟨B5, d5, rfl, s5, b_⟩
            replace r0 := r0.below b_
            replace q3' := q3'.below b_
            replace q4' := q4'.below b_
            replace bb := bl_trans bb b_
            clear b_
            go_wp2_with fail
            refine (HS.out.of_ x0 x2 _ _ _ _ _ _ _ _ q r0 q3' (by omega) (by omega) rfl HQ.out).mono ?_
            rintro e v3 ⟨B6, d6, rfl, s6, b_⟩
            replace r0 := r0.below b_
            replace q3' := q3'.below b_
            replace q4' := q4'.below b_
            replace bb := bl_trans bb b_
            clear b_
            go_wp2_with fail
            refine (HS.out.of_ x0 x2.reverse _ _ _ _ _ _ _ _ q r0 q4' (by omega) (by omega) O4.out HQ.out).mono ?_
            rintro e v4 ⟨B7, d7, rfl, s7, b_⟩
            replace r0 := r0.below b_
            replace q3' := q3'.below b_
            replace q4' := q4'.below b_
            replace s6 := s6.below b_
            replace bb := bl_trans bb b_
            clear b_
            go_wp2_with fail
            refine (numbers_b _ _ _ _ _ _ _ _ _ true s6 s7 (by omega) (by omega) (by simp)).mono ?_
            rintro e v5 ⟨rfl, b_⟩
            clear s6
            clear s7
            replace r0 := r0.below b_
            replace q3' := q3'.below b_
            replace q4' := q4'.below b_
            replace bb := bl_trans bb b_
            clear b_
            go_wp2_with fail
            refine (HS.out.of_ x0 x2 _ _ _ _ _ _ _ _ q r0 q3' (by omega) (by omega) rfl HQ.out).mono ?_
            rintro e v6 ⟨B8, d8, rfl, s8, b_⟩
            replace r0 := r0.below b_
            replace q3' := q3'.below b_
            replace q4' := q4'.below b_
            replace bb := bl_trans bb b_
            clear b_
            go_wp2_with fail
            refine (awake_any HS.out _).mono ?_
            rintro e v7 ⟨rfl, b_⟩
            replace r0 := r0.below b_
            replace q3' := q3'.below b_
            replace q4' := q4'.below b_
            replace bb := bl_trans bb b_
            clear b_
            go_wp2_with fail
            go_ret
            exact ⟨rfl, bb⟩

    · have hr' : rightB x0 = false := by simpa using hr
      have HR := Lib.hid hr'
      clear hr hr'
      go_enter Try.func7, Try.ntmps7
      go_wp2_with fail
      refine (HS.out.right _ _ _ _ _ _ r0 (by omega) HR.out).mono ?_
      rintro e w1 ⟨rfl, b1⟩
      go_wp2_with (go_at_call 9; refine (awake_any HS.out _).mono ?_; rintro e w2 ⟨rfl, b2⟩)
      go_ret
      exact ⟨rfl, bl_trans b1 (by assumption)⟩
  · have g' : 16 < n0 ∨ 30 < n2 := by omega
    clear gg
    go_enter Try.func7, Try.ntmps7
    go_wp2_with (go_at_call 9; refine (awake_any HS.out _).mono ?_; rintro e w2 ⟨rfl, b2⟩)
    all_goals
      go_ret
      exact ⟨rfl, by assumption⟩
end Go.Proofs.Ytfnghnfaekjfjaa.Stripe
