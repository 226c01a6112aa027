/-
  THE WALK OF THE LAW TickDue, over what the layer's functions are said to do.
-/
import Derived.Test.YtdbgpmfdiljopaaTickLaw
namespace Go.Proofs.Ytdbgpmfdiljopaa.Tick
open Go.ChangeShapes Go.WideShapes Go.ChangeAt Go.RowKit Mem

theorem nat_at {w : World} {A : Option Addr} {n : Nat} {l : List Nat} (hr : Rd w 1 A n (zs (l.map Int.ofNat))) (k : Nat) (hk : k < n) :
    ∃ b off, ∃ x : Nat, A = some ⟨b, off, none⟩ ∧ l[k]? = some x ∧ w.cell? ⟨b, off + k, none⟩ = some (.int .i64 (x : Int)) := by
  obtain ⟨b, off, z, hA, hz, hc⟩ := at_z hr k hk
  rw [List.getElem?_map] at hz
  cases hx : l[k]? with
  | none => rw [hx] at hz; cases hz
  | some x => rw [hx] at hz; simp at hz; subst hz; exact ⟨b, off, x, hA, rfl, hc⟩

set_option maxRecDepth 100000 in
set_option maxHeartbeats 2000000 in
theorem due_walk (S : Said) (a0 a1 : Int) (A2 : Option Addr) (n2 c2 : Nat) (x2 : List Int) (w : World)
    (m2 : n2 ≤ 9223372036854775807) (r2 : Rd w 1 A2 n2 (zs x2)) :
    Calls Try.prog 4 #[.int .i64 a0, .int .i64 a1, .slice A2 n2 c2] w (RetB w true) := by
  have HS := Lib.hid S
  clear S
  have HL := Lib.hid (zs_len r2)
  by_cases g : n2 ≤ 60
  · have d60 : decide ((60 : Int) < (n2 : Int)) = false := by simp; omega
    rcases Int.lt_trichotomy a0 a1 with hc | hc | hc
    · obtain ⟨zz, hz, hzl⟩ := due_pre a0 a1 x2 (by omega)
      obtain ⟨q1, Q1⟩ : ∃ q, Hid ((dueS a0 x2).length = q) := ⟨_, Lib.hid rfl⟩
      obtain ⟨q2, Q2⟩ : ∃ q, Hid ((dueS a1 x2).length = q) := ⟨_, Lib.hid rfl⟩
      have hq2 : q2 ≤ n2 := by rw [← Q2.out, ← HL.out]; exact due_len a1 x2
      have hq1 : q1 ≤ q2 := by rw [← Q1.out, ← Q2.out]; conv => rhs; rw [hz]
                               simp
      have HZ := Lib.hid hz
      have HZL := Lib.hid hzl
      clear hz hzl
      have dq1 : decide (q2 < q1) = false := by simp; omega
      have dq2 : decide (n2 < q2) = false := by simp; omega
      go_enter Try.func4, Try.ntmps4
      go_wp2_with fail
      refine (HS.out.due x2 _ _ _ a0 _ _ q1 r2 (by omega) rfl Q1.out).mono ?_
      rintro e v1 ⟨B1, d1, rfl, s1, b_⟩
      replace r2 := r2.below b_
      have bb := b_
      clear b_
      go_wp2_with fail
      refine (HS.out.due x2 _ _ _ a1 _ _ q2 r2 (by omega) rfl Q2.out).mono ?_
      rintro e v2 ⟨B2, d2, rfl, s2, b_⟩
      replace r2 := r2.below b_
      replace s1 := s1.below b_
      replace bb := bl_trans bb b_
      clear b_
      go_wp2
      go_loop [39] (fun i => ∃ j : Nat, j ≤ q2 ∧ i = .int .i64 j) (fun i => q2 - (intOf i).toNat)
      case atStart => exact ⟨0, Nat.zero_le _, rfl⟩
      case round =>
        obtain ⟨j, hj, rfl⟩ := hrel
        by_cases hlt : j < q2
        · obtain ⟨b, off, k, rfl, hk, k1⟩ := nat_at s2 j hlt
          obtain ⟨x, hx, hx0, hx1, hx2⟩ := due_mem a1 x2 j k hk
          have hkn : k < n2 := by rw [← HL.out]; exact (List.getElem?_eq_some_iff.1 hx).1
          obtain ⟨b', off', x', rfl, hx', k2⟩ := at_z r2 k hkn
          rw [hx] at hx'
          injection hx' with hx'
          subst hx'
          have HX := Lib.hid hx
          have HK := Lib.hid hk
          clear hx hk
          by_cases hj1 : j < q1
          · obtain ⟨b1, off1, k', rfl, hk', k3⟩ := nat_at s1 j hj1
            have hkk : k' = k := by
              have e := HK.out
              rw [HZ.out, List.getElem?_append_left (by rw [Q1.out]; exact hj1), hk'] at e
              injection e
            subst hkk
            clear hk'
            go_wp2
            go_round
            case rel => exact ⟨j + 1, by omega, by go_num⟩
            case measure => simp [intOf]; omega
          · have hlo : a0 < x := by
              have e := HK.out
              rw [HZ.out, List.getElem?_append_right (by rw [Q1.out]; omega)] at e
              have := HZL.out k (List.mem_of_getElem? e)
              rwa [tm_at x2 k x HX.out] at this
            go_wp2
            go_round
            case rel => exact ⟨j + 1, by omega, by go_num⟩
            case measure => simp [intOf]; omega
        · have hjq : j = q2 := by omega
          subst hjq
          go_wp2_with fail
          refine (awake_any HS.out _).mono ?_
          rintro e v3 ⟨rfl, b_⟩
          replace r2 := r2.below b_
          replace s1 := s1.below b_
          replace s2 := s2.below b_
          replace bb := bl_trans bb b_
          clear b_
          go_wp2_with fail
          go_ret
          exact ⟨rfl, bb⟩
    · subst hc
      obtain ⟨zz, hz, hzl⟩ := due_pre a0 a0 x2 (by omega)
      obtain ⟨q1, Q1⟩ : ∃ q, Hid ((dueS a0 x2).length = q) := ⟨_, Lib.hid rfl⟩
      obtain ⟨q2, Q2⟩ : ∃ q, Hid ((dueS a0 x2).length = q) := ⟨_, Lib.hid rfl⟩
      have hq2 : q2 ≤ n2 := by rw [← Q2.out, ← HL.out]; exact due_len a0 x2
      have hq1 : q1 ≤ q2 := by rw [← Q1.out, ← Q2.out]; conv => rhs; rw [hz]
                               simp
      have HZ := Lib.hid hz
      have HZL := Lib.hid hzl
      clear hz hzl
      have dq1 : decide (q2 < q1) = false := by simp; omega
      have dq2 : decide (n2 < q2) = false := by simp; omega
      go_enter Try.func4, Try.ntmps4
      go_wp2_with fail
      refine (HS.out.due x2 _ _ _ a0 _ _ q1 r2 (by omega) rfl Q1.out).mono ?_
      rintro e v1 ⟨B1, d1, rfl, s1, b_⟩
      replace r2 := r2.below b_
      have bb := b_
      clear b_
      go_wp2_with fail
      refine (HS.out.due x2 _ _ _ a0 _ _ q2 r2 (by omega) rfl Q2.out).mono ?_
      rintro e v2 ⟨B2, d2, rfl, s2, b_⟩
      replace r2 := r2.below b_
      replace s1 := s1.below b_
      replace bb := bl_trans bb b_
      clear b_
      go_wp2
      go_loop [39] (fun i => ∃ j : Nat, j ≤ q2 ∧ i = .int .i64 j) (fun i => q2 - (intOf i).toNat)
      case atStart => exact ⟨0, Nat.zero_le _, rfl⟩
      case round =>
        obtain ⟨j, hj, rfl⟩ := hrel
        by_cases hlt : j < q2
        · obtain ⟨b, off, k, rfl, hk, k1⟩ := nat_at s2 j hlt
          obtain ⟨x, hx, hx0, hx1, hx2⟩ := due_mem a0 x2 j k hk
          have hkn : k < n2 := by rw [← HL.out]; exact (List.getElem?_eq_some_iff.1 hx).1
          obtain ⟨b', off', x', rfl, hx', k2⟩ := at_z r2 k hkn
          rw [hx] at hx'
          injection hx' with hx'
          subst hx'
          have HX := Lib.hid hx
          have HK := Lib.hid hk
          clear hx hk
          by_cases hj1 : j < q1
          · obtain ⟨b1, off1, k', rfl, hk', k3⟩ := nat_at s1 j hj1
            have hkk : k' = k := by
              have e := HK.out
              rw [HZ.out, List.getElem?_append_left (by rw [Q1.out]; exact hj1), hk'] at e
              injection e
            subst hkk
            clear hk'
            go_wp2
            go_round
            case rel => exact ⟨j + 1, by omega, by go_num⟩
            case measure => simp [intOf]; omega
          · have hlo : a0 < x := by
              have e := HK.out
              rw [HZ.out, List.getElem?_append_right (by rw [Q1.out]; omega)] at e
              have := HZL.out k (List.mem_of_getElem? e)
              rwa [tm_at x2 k x HX.out] at this
            exfalso; omega
        · have hjq : j = q2 := by omega
          subst hjq
          go_wp2_with fail
          refine (awake_any HS.out _).mono ?_
          rintro e v3 ⟨rfl, b_⟩
          replace r2 := r2.below b_
          replace s1 := s1.below b_
          replace s2 := s2.below b_
          replace bb := bl_trans bb b_
          clear b_
          go_wp2_with fail
          go_ret
          exact ⟨rfl, bb⟩
    · obtain ⟨zz, hz, hzl⟩ := due_pre a1 a0 x2 (by omega)
      obtain ⟨q1, Q1⟩ : ∃ q, Hid ((dueS a1 x2).length = q) := ⟨_, Lib.hid rfl⟩
      obtain ⟨q2, Q2⟩ : ∃ q, Hid ((dueS a0 x2).length = q) := ⟨_, Lib.hid rfl⟩
      have hq2 : q2 ≤ n2 := by rw [← Q2.out, ← HL.out]; exact due_len a0 x2
      have hq1 : q1 ≤ q2 := by rw [← Q1.out, ← Q2.out]; conv => rhs; rw [hz]
                               simp
      have HZ := Lib.hid hz
      have HZL := Lib.hid hzl
      clear hz hzl
      have dq1 : decide (q2 < q1) = false := by simp; omega
      have dq2 : decide (n2 < q2) = false := by simp; omega
      go_enter Try.func4, Try.ntmps4
      go_wp2_with fail
      refine (HS.out.due x2 _ _ _ a1 _ _ q1 r2 (by omega) rfl Q1.out).mono ?_
      rintro e v1 ⟨B1, d1, rfl, s1, b_⟩
      replace r2 := r2.below b_
      have bb := b_
      clear b_
      go_wp2_with fail
      refine (HS.out.due x2 _ _ _ a0 _ _ q2 r2 (by omega) rfl Q2.out).mono ?_
      rintro e v2 ⟨B2, d2, rfl, s2, b_⟩
      replace r2 := r2.below b_
      replace s1 := s1.below b_
      replace bb := bl_trans bb b_
      clear b_
      go_wp2
      go_loop [39] (fun i => ∃ j : Nat, j ≤ q2 ∧ i = .int .i64 j) (fun i => q2 - (intOf i).toNat)
      case atStart => exact ⟨0, Nat.zero_le _, rfl⟩
      case round =>
        obtain ⟨j, hj, rfl⟩ := hrel
        by_cases hlt : j < q2
        · obtain ⟨b, off, k, rfl, hk, k1⟩ := nat_at s2 j hlt
          obtain ⟨x, hx, hx0, hx1, hx2⟩ := due_mem a0 x2 j k hk
          have hkn : k < n2 := by rw [← HL.out]; exact (List.getElem?_eq_some_iff.1 hx).1
          obtain ⟨b', off', x', rfl, hx', k2⟩ := at_z r2 k hkn
          rw [hx] at hx'
          injection hx' with hx'
          subst hx'
          have HX := Lib.hid hx
          have HK := Lib.hid hk
          clear hx hk
          by_cases hj1 : j < q1
          · obtain ⟨b1, off1, k', rfl, hk', k3⟩ := nat_at s1 j hj1
            have hkk : k' = k := by
              have e := HK.out
              rw [HZ.out, List.getElem?_append_left (by rw [Q1.out]; exact hj1), hk'] at e
              injection e
            subst hkk
            clear hk'
            go_wp2
            go_round
            case rel => exact ⟨j + 1, by omega, by go_num⟩
            case measure => simp [intOf]; omega
          · have hlo : a1 < x := by
              have e := HK.out
              rw [HZ.out, List.getElem?_append_right (by rw [Q1.out]; omega)] at e
              have := HZL.out k (List.mem_of_getElem? e)
              rwa [tm_at x2 k x HX.out] at this
            go_wp2
            go_round
            case rel => exact ⟨j + 1, by omega, by go_num⟩
            case measure => simp [intOf]; omega
        · have hjq : j = q2 := by omega
          subst hjq
          go_wp2_with fail
          refine (awake_any HS.out _).mono ?_
          rintro e v3 ⟨rfl, b_⟩
          replace r2 := r2.below b_
          replace s1 := s1.below b_
          replace s2 := s2.below b_
          replace bb := bl_trans bb b_
          clear b_
          go_wp2_with fail
          go_ret
          exact ⟨rfl, bb⟩
  · have g' : 60 < n2 := by omega
    clear g
    go_enter Try.func4, Try.ntmps4
    go_wp2_with (go_at_call 9; refine (awake_any HS.out _).mono ?_; rintro e w2 ⟨rfl, b2⟩)
    all_goals
      go_ret
      exact ⟨rfl, by assumption⟩
end Go.Proofs.Ytdbgpmfdiljopaa.Tick
