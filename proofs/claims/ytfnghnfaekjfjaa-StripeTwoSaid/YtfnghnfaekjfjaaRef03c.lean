/-
  WHAT THE DOCUMENT'S ANSWER FOR LAYER 3 RETURNS: Lock, Let, Stamp.
-/
import Derived.Test.YtfnghnfaekjfjaaRef03b
namespace Go.Proofs.Ytfnghnfaekjfjaa.Stripe
open Go.ChangeShapes Go.WideShapes Go.ChangeAt Go.RowKit Mem

theorem lockAll_at (t : List Rec) (who : Int) (l : List Int) (k : Nat) (x : Rec) (hk : t[k]? = some x) : (lockAll t who l)[k]? = some (lock1 t.length who l k x) := by
  unfold lockAll; rw [List.getElem?_mapIdx, hk]; rfl
theorem lockAll_len (t : List Rec) (who : Int) (l : List Int) : (lockAll t who l).length = t.length := by unfold lockAll; simp
theorem may_at (t : List Rec) (who : Int) (l : List Int) (k : Nat) (x : Rec) (hk : t[k]? = some x) : (t.mapIdx (may1 t.length who l))[k]? = some (may1 t.length who l k x) := by
  rw [List.getElem?_mapIdx, hk]; rfl

set_option maxRecDepth 100000 in
theorem lock_any (t : List Rec) (l : List Int) (A D : Option Addr) (n c m d : Nat) (who : Int) (w : World) (r : List Rec × Int) (hr : Rd w 2 A n (rs t)) (hl : Rd w 1 D m (zs l)) (hn : n ≤ 1000000) (hm : m ≤ 1000000)
    (hls : lockS t who l = r) :
    Calls Try.prog 11 #[.slice A n c, .int .i64 who, .slice D m d] w (RetSE w 2 n (rs r.1) r.2) := by
  have HN := Lib.hid (rs_len hr)
  have HO := Lib.hid hls
  clear hls
  by_cases hok : (rightB t && whoB who && cellsB l) = true
  · obtain ⟨h12, h3⟩ := Bool.and_eq_true_iff.1 hok
    obtain ⟨h1, h2⟩ := Bool.and_eq_true_iff.1 h12
    have HK := Lib.hid hok
    have HOF : Hid (ofS t l = pick (hit n l) n) := Lib.hid (by unfold ofS; rw [h1, h3, HN.out]; rfl)
    clear hok h12
    generalize hq : (ofS t l).length = q
    have HQ := Lib.hid hq
    clear hq
    have hqn : q ≤ n := by rw [← HQ.out, HOF.out]; exact pick_len _ _
    go_enter Try.func11, Try.ntmps11
    go_wp2_with (first
      | (go_at_call 16; refine (right_any t _ _ _ _ hr hn).mono ?_; rintro e w' ⟨rfl, rfl⟩)
      | (go_at_call 29; refine (who_any _ _).mono ?_; rintro e w' ⟨rfl, rfl⟩)
      | (go_at_call 30; refine (cells_any l _ _ _ _ hl hm).mono ?_; rintro e w' ⟨rfl, rfl⟩))
    refine (of_any t l _ _ _ _ _ _ _ _ q hr hl hn hm rfl HQ.out).mono ?_
    rintro e w1 ⟨B1, d1, rfl, s1, b1⟩
    replace hr := hr.below b1
    go_wp2
    go_loopw [12, 13] (fun v i wr => ∃ k : Nat, k ≤ n ∧ i = .int .i64 k ∧ Own w1 wr 44 2 v k (rs ((lockAll t who l).take k)) ∧ Hid (((t.mapIdx (may1 t.length who l)).take k).all id = true)) (fun _ i _ => n - (intOf i).toNat)
    case atStart => exact ⟨0, Nat.zero_le _, rfl, Own.nil_ (Below.refl _ _), Lib.hid rfl⟩
    case round =>
      obtain ⟨k, hk, rfl, hown, hall⟩ := hrel
      by_cases hlt : k < n
      · obtain ⟨b, off, ⟨vr, ow⟩, rfl, hx, c0, c1⟩ := at_rec (hr.below hown.2) k hlt
        have HT := Lib.hid (rs_take _ k _ (lockAll_at t who l k _ hx))
        have HA := Lib.hid (take_all _ id k _ (may_at t who l k _ hx))
        have HX := Lib.hid hx
        clear hx
        have hin := in_any _ B1 q d1 (k : Int) _ ((s1.below hown.2).alloc (.cells #[.int .i64 vr, .int .i64 ow] 44)) (by omega)
        rw [HOF.out, pick_any _ _ _ hlt] at hin
        have HIN := Lib.hid hin
        clear hin
        cases hh : hit n l k with
        | true =>
          have HH := Lib.hid hh
          clear hh
          rw [HH.out] at HIN
          have L1 : Hid (lock1 t.length who l k ⟨vr, ow⟩ = ⟨vr, who⟩) := Lib.hid (by unfold lock1; rw [HN.out, HH.out]; rfl)
          by_cases hmy : ow ≤ 0 ∨ ow = who
          · have M1 : Hid (may1 t.length who l k ⟨vr, ow⟩ = true) := Lib.hid (by
              unfold may1; rcases hmy with h | h <;> simp [h])
            have hm2 : ow ≤ 0 ∨ (0 < ow ∧ ow = who) := by omega
            clear hmy
            rcases hm2 with hm2 | ⟨hm3, hm2⟩
            · go_wp2_with (first
                | (go_at_call 31; refine HIN.out.mono ?_; rintro e w' ⟨rfl, rfl⟩)
                | (at_builtin; refine append_rd rfl _ _ 22 rfl tRec w1 _ _ _ rfl (hown.below (by repeat (first | exact Below.refl _ _ | refine bl_alloc ?_ _ | refine bl_set ?_ (by simp) _))) _ 1 1 [.int .i64 vr, .int .i64 who] rfl (Rd.builtAt _ 2 1 [.int .i64 vr, .int .i64 who] _ rfl (by simp)) (one_cons rfl (one_cons rfl one_nil)) (by omega) (by omega) ?_; intro v' w' hown' hg; clear hg))
              go_roundw
              case rel => exact ⟨k + 1, by omega, by go_num, by rw [HT.out, L1.out]; exact hown', Lib.hid (by rw [HA.out, hall.out, M1.out]; rfl)⟩
              case measure => simp [intOf]; omega
            · subst hm2
              go_wp2_with (first
                | (go_at_call 31; refine HIN.out.mono ?_; rintro e w' ⟨rfl, rfl⟩)
                | (at_builtin; refine append_rd rfl _ _ 22 rfl tRec w1 _ _ _ rfl (hown.below (by repeat (first | exact Below.refl _ _ | refine bl_alloc ?_ _ | refine bl_set ?_ (by simp) _))) _ 1 1 [.int .i64 vr, .int .i64 ow] rfl (Rd.builtAt _ 2 1 [.int .i64 vr, .int .i64 ow] _ rfl (by simp)) (one_cons rfl (one_cons rfl one_nil)) (by omega) (by omega) ?_; intro v' w' hown' hg; clear hg))
              go_roundw
              case rel => exact ⟨k + 1, by omega, by go_num, by rw [HT.out, L1.out]; exact hown', Lib.hid (by rw [HA.out, hall.out, M1.out]; rfl)⟩
              case measure => simp [intOf]; omega
          · have M1 : Hid (mayAll t who l = false) := Lib.hid (by
              unfold mayAll
              refine all_bad _ id k _ (may_at t who l k _ HX.out) ?_
              have e1 : ¬ ow ≤ 0 := fun h => hmy (.inl h)
              have e2 : ¬ ow = who := fun h => hmy (.inr h)
              show may1 t.length who l k ⟨vr, ow⟩ = false
              unfold may1; rw [HN.out, HH.out]; simp [e1, e2])
            have HF : Hid (r = (t, 7)) := Lib.hid (by rw [← HO.out]; unfold lockS; rw [if_pos HK.out, M1.out]; rfl)
            have e1 : 0 < ow := by omega
            have e2 : (ow != who) = true := by simp; omega
            clear hmy
            go_wp2_with (go_at_call 31; refine HIN.out.mono ?_; rintro e w' ⟨rfl, rfl⟩)
            go_ret2
            exact ⟨_, c, by rw [HF.out]; rfl, by rw [HF.out]; exact hr.below (bl_alloc hown.2 _), bl_trans b1 (bl_alloc hown.2 _)⟩
        | false =>
          have HH := Lib.hid hh
          clear hh
          rw [HH.out] at HIN
          have L1 : Hid (lock1 t.length who l k ⟨vr, ow⟩ = ⟨vr, ow⟩) := Lib.hid (by unfold lock1; rw [HN.out, HH.out]; rfl)
          have M1 : Hid (may1 t.length who l k ⟨vr, ow⟩ = true) := Lib.hid (by unfold may1; rw [HN.out, HH.out]; rfl)
          go_wp2_with (first
            | (go_at_call 31; refine HIN.out.mono ?_; rintro e w' ⟨rfl, rfl⟩)
            | (at_builtin; refine append_rd rfl _ _ 22 rfl tRec w1 _ _ _ rfl (hown.below (by repeat (first | exact Below.refl _ _ | refine bl_alloc ?_ _ | refine bl_set ?_ (by simp) _))) _ 1 1 [.int .i64 vr, .int .i64 ow] rfl (Rd.builtAt _ 2 1 [.int .i64 vr, .int .i64 ow] _ rfl (by simp)) (one_cons rfl (one_cons rfl one_nil)) (by omega) (by omega) ?_; intro v' w' hown' hg; clear hg))
          go_roundw
          case rel => exact ⟨k + 1, by omega, by go_num, by rw [HT.out, L1.out]; exact hown', Lib.hid (by rw [HA.out, hall.out, M1.out]; rfl)⟩
          case measure => simp [intOf]; omega
      · have hkn : k = n := by omega
        subst hkn
        obtain ⟨B2, d2, rfl, q2⟩ := hown.form
        have q2' : Rd wr 2 B2 k (rs (lockAll t who l)) := by
          rwa [List.take_of_length_le (by rw [lockAll_len, HN.out]; exact Nat.le_refl _)] at q2
        have b2 := bl_trans b1 hown.2
        have HF : Hid (r = (lockAll t who l, 0)) := Lib.hid (by
          have h := hall.out
          rw [List.take_of_length_le (by rw [List.length_mapIdx, HN.out]; exact Nat.le_refl _)] at h
          rw [← HO.out]; unfold lockS mayAll; rw [if_pos HK.out, if_pos h])
        clear hown q2
        go_wp2
        go_ret2
        exact ⟨B2, d2, by rw [HF.out]; rfl, by rw [HF.out]; exact q2', b2⟩
  · have HF : Hid (r = (t, 1)) := Lib.hid (by rw [← HO.out]; unfold lockS; rw [if_neg hok])
    have hb : ∃ b1 b2 b3, rightB t = b1 ∧ whoB who = b2 ∧ cellsB l = b3 ∧ (b1 && b2 && b3) = false := ⟨_, _, _, rfl, rfl, rfl, by simpa using hok⟩
    obtain ⟨b1, b2, b3, h1, h2, h3, h4⟩ := hb
    clear hok
    cases b1
    all_goals cases b2
    all_goals cases b3
    all_goals first
      | (exfalso; revert h4; decide)
      | (clear h4
         go_enter Try.func11, Try.ntmps11
         go_wp2_with (first
           | (go_at_call 16; refine (right_any t _ _ _ _ hr hn).mono ?_; rintro e w' ⟨rfl, rfl⟩)
           | (go_at_call 29; refine (who_any _ _).mono ?_; rintro e w' ⟨rfl, rfl⟩)
           | (go_at_call 30; refine (cells_any l _ _ _ _ hl hm).mono ?_; rintro e w' ⟨rfl, rfl⟩))
         go_ret2
         exact ⟨A, c, by rw [HF.out]; rfl, by rw [HF.out]; exact hr, Below.refl _ _⟩)
end Go.Proofs.Ytfnghnfaekjfjaa.Stripe
