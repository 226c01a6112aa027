/-
  WHAT THE DOCUMENT'S ANSWER FOR LAYER 3 RETURNS: Let, Stamp.
-/
import Derived.Test.YtfnghnfaekjfjaaRef03c
namespace Go.Proofs.Ytfnghnfaekjfjaa.Stripe
open Go.ChangeShapes Go.WideShapes Go.ChangeAt Go.RowKit Mem

theorem held_at (t : List Rec) (who : Int) (k : Nat) (x : Rec) (hk : t[k]? = some x) : (heldS t who).any (fun z => z == (k : Int)) = (rightB t && whoB who && (x.owner == who)) := by
  have hl : k < t.length := (List.getElem?_eq_some_iff.1 hk).1
  unfold heldS
  split
  · rename_i h; rw [pick_any _ _ _ hl, h]; unfold holds; rw [hk]; simp
  · rename_i h; have : (rightB t && whoB who) = false := by simpa using h
    rw [this]; rfl
theorem held_len (t : List Rec) (who : Int) : (heldS t who).length ≤ t.length := by
  unfold heldS; split
  · exact pick_len _ _
  · simp
theorem let_len (t : List Rec) (who : Int) : (letS t who).length = t.length := by unfold letS; split <;> simp
theorem let_at (t : List Rec) (who : Int) (k : Nat) (x : Rec) (hk : t[k]? = some x) : (letS t who)[k]? = some (if (rightB t && whoB who && (x.owner == who)) = true then ⟨x.version, 0⟩ else x) := by
  unfold letS
  split
  · rename_i h
    rw [List.getElem?_map, hk, h]
    simp only [Option.map_some, let1, Bool.true_and, beq_iff_eq]
  · rename_i h; have : (rightB t && whoB who) = false := by simpa using h
    rw [this, hk]; simp

set_option maxRecDepth 100000 in
theorem let_any (t : List Rec) (A : Option Addr) (n c : Nat) (who : Int) (w : World) (r : List Rec) (hr : Rd w 2 A n (rs t)) (hn : n ≤ 1000000) (hls : letS t who = r) :
    Calls Try.prog 24 #[.slice A n c, .int .i64 who] w (RetS w 2 n (rs r)) := by
  have HN := Lib.hid (rs_len hr)
  subst hls
  generalize hq : (heldS t who).length = q
  have HQ := Lib.hid hq
  clear hq
  have hqn : q ≤ n := by rw [← HQ.out, ← HN.out]; exact held_len _ _
  go_enter Try.func24, Try.ntmps24
  go_wp2_with fail
  refine (held_any t _ _ _ _ _ _ q hr hn rfl HQ.out).mono ?_
  rintro e w1 ⟨B1, d1, rfl, s1, b1⟩
  replace hr := hr.below b1
  go_wp2
  go_loopw [6, 7] (fun v i wr => ∃ k : Nat, k ≤ n ∧ i = .int .i64 k ∧ Own w1 wr 44 2 v k (rs ((letS t who).take k))) (fun _ i _ => n - (intOf i).toNat)
  case atStart => exact ⟨0, Nat.zero_le _, rfl, Own.nil_ (Below.refl _ _)⟩
  case round =>
    obtain ⟨k, hk, rfl, hown⟩ := hrel
    by_cases hlt : k < n
    · obtain ⟨b, off, ⟨vr, ow⟩, rfl, hx, c0, c1⟩ := at_rec (hr.below hown.2) k hlt
      have HT := Lib.hid (rs_take _ k _ (let_at t who k _ hx))
      have hin := in_any _ B1 q d1 (k : Int) _ (s1.below hown.2) (by omega)
      rw [held_at t who k _ hx] at hin
      have HIN := Lib.hid hin
      clear hin hx
      cases hh : (rightB t && whoB who && (ow == who)) with
      | true =>
        have HH := Lib.hid hh
        clear hh
        rw [HH.out] at HIN HT
        go_wp2_with (first
          | (go_at_call 31; refine HIN.out.mono ?_; rintro e w' ⟨rfl, rfl⟩)
          | (at_builtin; refine append_rd rfl _ _ 22 rfl tRec w1 _ _ _ rfl (hown.alloc _) _ 1 1 [.int .i64 vr, .int .i64 0] rfl (Rd.built _ 2 1 [.int .i64 vr, .int .i64 0] _ rfl) (one_cons rfl (one_cons rfl one_nil)) (by omega) (by omega) ?_; intro v' w' hown' hg; clear hg))
        go_roundw
        case rel => exact ⟨k + 1, by omega, by go_num, by rw [HT.out]; exact hown'⟩
        case measure => simp [intOf]; omega
      | false =>
        have HH := Lib.hid hh
        clear hh
        rw [HH.out] at HIN HT
        go_wp2_with (first
          | (go_at_call 31; refine HIN.out.mono ?_; rintro e w' ⟨rfl, rfl⟩)
          | (at_builtin; refine append_rd rfl _ _ 22 rfl tRec w1 _ _ _ rfl (hown.alloc _) _ 1 1 [.int .i64 vr, .int .i64 ow] rfl (Rd.built _ 2 1 [.int .i64 vr, .int .i64 ow] _ rfl) (one_cons rfl (one_cons rfl one_nil)) (by omega) (by omega) ?_; intro v' w' hown' hg; clear hg))
        go_roundw
        case rel => exact ⟨k + 1, by omega, by go_num, by rw [HT.out]; exact hown'⟩
        case measure => simp [intOf]; omega
    · have hkn : k = n := by omega
      subst hkn
      obtain ⟨B2, d2, rfl, q2⟩ := hown.form
      have q2' : Rd wr 2 B2 k (rs (letS t who)) := by
        rwa [List.take_of_length_le (by rw [let_len, HN.out]; exact Nat.le_refl _)] at q2
      have b2 := bl_trans b1 hown.2
      clear hown q2
      go_wp2
      go_ret
      exact ⟨B2, d2, rfl, q2', b2⟩

set_option maxRecDepth 100000 in
theorem stamp_any (t : List Rec) (A : Option Addr) (n c : Nat) (who ver : Int) (w : World) (r : List Rec × Int) (hr : Rd w 2 A n (rs t)) (hn : n ≤ 1000000) (hls : stampS t who ver = r) :
    Calls Try.prog 13 #[.slice A n c, .int .i64 who, .int .i64 ver] w (RetSE w 2 n (rs r.1) r.2) := by
  have HN := Lib.hid (rs_len hr)
  have HO := Lib.hid hls
  clear hls
  by_cases hok : (rightB t && whoB who) = true
  · obtain ⟨h1, h2⟩ := Bool.and_eq_true_iff.1 hok
    have HK := Lib.hid hok
    clear hok
    by_cases hv : 0 ≤ ver ∧ ver ≤ 2147483647
    · obtain ⟨hv1, hv2⟩ := hv
      have HV : Hid (0 ≤ ver ∧ ver ≤ 2147483647) := Lib.hid ⟨hv1, hv2⟩
      have dv1 : decide (ver < 0) = false := by simp; omega
      have dv2 : decide (2147483647 < ver) = false := by simp; omega
      go_enter Try.func13, Try.ntmps13
      go_wp2_with (first
        | (go_at_call 16; refine (right_any t _ _ _ _ hr hn).mono ?_; rintro e w' ⟨rfl, rfl⟩)
        | (go_at_call 29; refine (who_any _ _).mono ?_; rintro e w' ⟨rfl, rfl⟩))
      go_loopw [10, 11] (fun v i wr => ∃ k : Nat, k ≤ n ∧ i = .int .i64 k ∧ Own w wr 44 2 v k (rs ((t.map (stamp1 who ver)).take k)) ∧ Hid ((t.take k).all (below1 who ver) = true)) (fun _ i _ => n - (intOf i).toNat)
      case atStart => exact ⟨0, Nat.zero_le _, rfl, Own.nil_ (Below.refl _ _), Lib.hid rfl⟩
      case round =>
        obtain ⟨k, hk, rfl, hown, hall⟩ := hrel
        by_cases hlt : k < n
        · obtain ⟨b, off, ⟨vr, ow⟩, rfl, hx, c0, c1⟩ := at_rec (hr.below hown.2) k hlt
          have HT := Lib.hid (rs_take (t.map (stamp1 who ver)) k (stamp1 who ver ⟨vr, ow⟩) (by rw [List.getElem?_map, hx]; rfl))
          have HA := Lib.hid (take_all t (below1 who ver) k _ hx)
          have HX := Lib.hid hx
          clear hx
          by_cases he : ow = who
          · subst he
            have HS : Hid (stamp1 ow ver ⟨vr, ow⟩ = ⟨ver, 0⟩) := Lib.hid (by unfold stamp1; simp)
            rw [HS.out] at HT
            by_cases hb : vr < ver
            · have HB : Hid (below1 ow ver ⟨vr, ow⟩ = true) := Lib.hid (by unfold below1; simp [hb])
              go_wp2_with (at_builtin; refine append_rd rfl _ _ 22 rfl tRec w _ _ _ rfl (hown.alloc _) _ 1 1 [.int .i64 ver, .int .i64 0] rfl (Rd.built _ 2 1 [.int .i64 ver, .int .i64 0] _ rfl) (one_cons rfl (one_cons rfl one_nil)) (by omega) (by omega) ?_; intro v' w' hown' hg; clear hg)
              go_roundw
              case rel => exact ⟨k + 1, by omega, by go_num, by rw [HT.out]; exact hown', Lib.hid (by rw [HA.out, hall.out, HB.out]; rfl)⟩
              case measure => simp [intOf]; omega
            · have HF : Hid (r = (t, 6)) := Lib.hid (by
                rw [← HO.out]; unfold stampS; rw [if_pos HK.out, if_pos HV.out, all_bad t _ k _ HX.out (by unfold below1; simp [hb])]; rfl)
              go_wp2
              go_ret2
              exact ⟨_, c, by rw [HF.out]; rfl, by rw [HF.out]; exact hr.below hown.2, hown.2⟩
          · have t1 : (ow != who) = true := by simpa using he
            have HS : Hid (stamp1 who ver ⟨vr, ow⟩ = ⟨vr, ow⟩) := Lib.hid (by unfold stamp1; rw [if_neg he])
            have HB : Hid (below1 who ver ⟨vr, ow⟩ = true) := Lib.hid (by unfold below1; rw [t1]; rfl)
            rw [HS.out] at HT
            clear he
            go_wp2_with (at_builtin; refine append_rd rfl _ _ 22 rfl tRec w _ _ _ rfl (hown.alloc _) _ 1 1 [.int .i64 vr, .int .i64 ow] rfl (Rd.built _ 2 1 [.int .i64 vr, .int .i64 ow] _ rfl) (one_cons rfl (one_cons rfl one_nil)) (by omega) (by omega) ?_; intro v' w' hown' hg; clear hg)
            go_roundw
            case rel => exact ⟨k + 1, by omega, by go_num, by rw [HT.out]; exact hown', Lib.hid (by rw [HA.out, hall.out, HB.out]; rfl)⟩
            case measure => simp [intOf]; omega
        · have hkn : k = n := by omega
          subst hkn
          obtain ⟨B2, d2, rfl, q2⟩ := hown.form
          have q2' : Rd wr 2 B2 k (rs (t.map (stamp1 who ver))) := by
            rwa [List.take_of_length_le (by rw [List.length_map, HN.out]; exact Nat.le_refl _)] at q2
          have b2 := hown.2
          have HF : Hid (r = (t.map (stamp1 who ver), 0)) := Lib.hid (by
            have h := hall.out
            rw [List.take_of_length_le (by rw [HN.out]; exact Nat.le_refl _)] at h
            rw [← HO.out]; unfold stampS; rw [if_pos HK.out, if_pos HV.out, if_pos h])
          clear hown q2
          go_wp2
          go_ret2
          exact ⟨B2, d2, by rw [HF.out]; rfl, by rw [HF.out]; exact q2', b2⟩
    · have HF : Hid (r = (t, 6)) := Lib.hid (by rw [← HO.out]; unfold stampS; rw [if_pos HK.out, if_neg hv])
      by_cases hv1 : ver < 0
      · clear hv
        go_enter Try.func13, Try.ntmps13
        go_wp2_with (first
          | (go_at_call 16; refine (right_any t _ _ _ _ hr hn).mono ?_; rintro e w' ⟨rfl, rfl⟩)
          | (go_at_call 29; refine (who_any _ _).mono ?_; rintro e w' ⟨rfl, rfl⟩))
        go_ret2
        exact ⟨A, c, by rw [HF.out]; rfl, by rw [HF.out]; exact hr, Below.refl _ _⟩
      · have hv2 : 2147483647 < ver := by omega
        clear hv
        go_enter Try.func13, Try.ntmps13
        go_wp2_with (first
          | (go_at_call 16; refine (right_any t _ _ _ _ hr hn).mono ?_; rintro e w' ⟨rfl, rfl⟩)
          | (go_at_call 29; refine (who_any _ _).mono ?_; rintro e w' ⟨rfl, rfl⟩))
        go_ret2
        exact ⟨A, c, by rw [HF.out]; rfl, by rw [HF.out]; exact hr, Below.refl _ _⟩
  · have HF : Hid (r = (t, 1)) := Lib.hid (by rw [← HO.out]; unfold stampS; rw [if_neg hok])
    have hb : ∃ b1 b2, rightB t = b1 ∧ whoB who = b2 ∧ (b1 && b2) = false := ⟨_, _, rfl, rfl, by simpa using hok⟩
    obtain ⟨b1, b2, h1, h2, h4⟩ := hb
    clear hok
    cases b1
    all_goals cases b2
    all_goals first
      | (exfalso; revert h4; decide)
      | (clear h4
         go_enter Try.func13, Try.ntmps13
         go_wp2_with (first
           | (go_at_call 16; refine (right_any t _ _ _ _ hr hn).mono ?_; rintro e w' ⟨rfl, rfl⟩)
           | (go_at_call 29; refine (who_any _ _).mono ?_; rintro e w' ⟨rfl, rfl⟩))
         go_ret2
         exact ⟨A, c, by rw [HF.out]; rfl, by rw [HF.out]; exact hr, Below.refl _ _⟩)
end Go.Proofs.Ytfnghnfaekjfjaa.Stripe
