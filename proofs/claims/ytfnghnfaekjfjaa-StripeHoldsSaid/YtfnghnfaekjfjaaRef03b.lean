/-
  WHAT THE DOCUMENT'S ANSWER FOR LAYER 3 RETURNS: Of, Held.
-/
import Derived.Test.YtfnghnfaekjfjaaRef03
namespace Go.Proofs.Ytfnghnfaekjfjaa.Stripe
open Go.ChangeShapes Go.WideShapes Go.ChangeAt Go.RowKit Mem

theorem hit_any (n : Nat) (l : List Int) (k : Nat) : (l.map (fun c => c % (n : Int))).any (fun x => x == (k : Int)) = hit n l k := by
  unfold hit; rw [List.any_map]
  congr 1
theorem own_pick {w0 w : World} {e : Nat} {v : Value} {p : Nat → Bool} {k : Nat} (h : Own w0 w e 1 v ((pick p k).length + 1) (zs (pick p k) ++ [.int .i64 (k : Int)])) (hp : p k = true) :
    Own w0 w e 1 v (pick p (k + 1)).length (zs (pick p (k + 1))) := by
  rw [pick_yes p k hp, zs_app, List.length_append]; exact h

set_option maxRecDepth 100000 in
theorem of_any (t : List Rec) (l : List Int) (A D : Option Addr) (n c m d : Nat) (w : World) (r : List Int) (q : Nat) (hr : Rd w 2 A n (rs t)) (hl : Rd w 1 D m (zs l)) (hn : n ≤ 1000000) (hm : m ≤ 1000000)
    (hofs : ofS t l = r) (hq : r.length = q) :
    Calls Try.prog 19 #[.slice A n c, .slice D m d] w (RetS w 1 q (zs r)) := by
  have HN := Lib.hid (rs_len hr)
  have HM := Lib.hid (zs_len hl)
  have HO := Lib.hid hofs
  have HQ := Lib.hid hq
  clear hofs hq
  by_cases hok : (rightB t && cellsB l) = true
  · obtain ⟨h1, h2⟩ := Bool.and_eq_true_iff.1 hok
    have HP : Hid (r = pick (hit n l) n) := Lib.hid (by rw [← HO.out]; unfold ofS; rw [if_pos hok, HN.out])
    have hn0 : 0 < n := by
      have := h1; unfold rightB at this; rw [Bool.and_eq_true] at this
      have := this.1; rw [HN.out] at this; simp at this; exact this.1
    have HC := Lib.hid h2
    clear hok
    go_enter Try.func19, Try.ntmps19
    go_wp2_with (first
      | (go_at_call 16; refine (right_any t _ _ _ _ hr hn).mono ?_; rintro e w' ⟨rfl, rfl⟩)
      | (go_at_call 30; refine (cells_any l _ _ _ _ hl hm).mono ?_; rintro e w' ⟨rfl, rfl⟩))
    go_loopw [7, 9] (fun v i wr => ∃ k : Nat, k ≤ m ∧ i = .int .i64 k ∧ Own w wr 3 1 v k (zs ((l.map (fun c => c % (n : Int))).take k))) (fun _ i _ => m - (intOf i).toNat)
    case atStart => exact ⟨0, Nat.zero_le _, rfl, Own.nil_ (Below.refl _ _)⟩
    case round =>
      obtain ⟨k, hk, rfl, hown⟩ := hrel
      by_cases hlt : k < m
      · obtain ⟨b, off, x, rfl, hx, c0⟩ := at_z (hl.below hown.2) k hlt
        have hx0 : 0 ≤ x := by
          have := HC.out; unfold cellsB at this
          have := List.all_eq_true.1 this x (List.mem_of_getElem? hx); simpa using this
        have HT := Lib.hid (zs_take (l.map (fun c => c % (n : Int))) k (x % (n : Int)) (by rw [List.getElem?_map, hx]; rfl))
        clear hx
        have hdn : ((n : Int) == 0) = false := beq_eq_false_iff_ne.2 (by omega)
        go_wp2_with (at_builtin; refine append_rd rfl _ _ 23 rfl tInt w _ _ _ rfl (hown.alloc _) _ 1 1 [.int .i64 (x % (n : Int))] rfl (Rd.built _ 1 1 [.int .i64 (x % (n : Int))] _ rfl) (one_cons rfl one_nil) (by omega) (by omega) ?_; intro v' w' hown' hg; clear hg)
        go_roundw
        case rel => exact ⟨k + 1, by omega, by go_num, by rw [HT.out]; exact hown'⟩
        case measure => simp [intOf]; omega
      · have hkm : k = m := by omega
        subst hkm
        generalize wr = w2 at *
        obtain ⟨B1, d1, rfl, q1⟩ := hown.form
        have q1' : Rd w2 1 B1 k (zs (l.map (fun c => c % (n : Int)))) := by
          rwa [List.take_of_length_le (by rw [List.length_map, HM.out]; exact Nat.le_refl _)] at q1
        have b1 := hown.2
        clear q1 hown
        go_wp2
        go_loopw [8, 10] (fun v i wq => ∃ j : Nat, j ≤ n ∧ i = .int .i64 j ∧ Own w2 wq 3 1 v (pick (hit n l) j).length (zs (pick (hit n l) j))) (fun _ i _ => n - (intOf i).toNat)
        case atStart => exact ⟨0, Nat.zero_le _, rfl, Own.nil_ (Below.refl _ _)⟩
        case round =>
          obtain ⟨j, hj, rfl, hown⟩ := hrel
          have hpl := pick_len (hit n l) j
          by_cases hlt2 : j < n
          · have hin := in_any _ B1 k d1 (j : Int) _ (q1'.below hown.2) hm
            rw [hit_any] at hin
            have HIN := Lib.hid hin
            clear hin
            cases hh : hit n l j with
            | true =>
              have HH := Lib.hid hh
              clear hh
              rw [HH.out] at HIN
              go_wp2_with (first
                | (go_at_call 31; refine HIN.out.mono ?_; rintro e w' ⟨rfl, rfl⟩)
                | (at_builtin; refine append_rd rfl _ _ 23 rfl tInt w2 _ _ _ rfl (hown.alloc _) _ 1 1 [.int .i64 (j : Int)] rfl (Rd.built _ 1 1 [.int .i64 (j : Int)] _ rfl) (one_cons rfl one_nil) (by omega) (by omega) ?_; intro v' w' hown' hg; clear hg))
              go_roundw
              case rel => exact ⟨j + 1, by omega, by go_num, own_pick hown' HH.out⟩
              case measure => simp [intOf]; omega
            | false =>
              have HH := Lib.hid hh
              clear hh
              rw [HH.out] at HIN
              go_wp2_with (go_at_call 31; refine HIN.out.mono ?_; rintro e w' ⟨rfl, rfl⟩)
              go_roundw
              case rel => exact ⟨j + 1, by omega, by go_num, by rw [pick_no _ _ HH.out]; exact hown⟩
              case measure => simp [intOf]; omega
          · have hjn : j = n := by omega
            subst hjn
            obtain ⟨B2, d2, rfl, q2⟩ := hown.form
            have b2 := bl_trans b1 hown.2
            have HL : Hid ((pick (hit j l) j).length = q) := Lib.hid (by rw [← HP.out]; exact HQ.out)
            rw [HL.out] at q2
            clear hown hpl
            rw [HL.out]
            go_wp2
            go_ret
            exact ⟨B2, d2, rfl, by rw [HP.out]; exact q2, b2⟩
  · have HP : Hid (r = []) := Lib.hid (by rw [← HO.out]; unfold ofS; rw [if_neg hok])
    have HQ0 : Hid (q = 0) := Lib.hid (by rw [← HQ.out, HP.out]; rfl)
    obtain rfl : q = 0 := HQ0.out
    by_cases h1 : rightB t = true
    · have h2 : cellsB l = false := by simpa [h1] using hok
      clear hok
      go_enter Try.func19, Try.ntmps19
      go_wp2_with (first
        | (go_at_call 16; refine (right_any t _ _ _ _ hr hn).mono ?_; rintro e w' ⟨rfl, rfl⟩)
        | (go_at_call 30; refine (cells_any l _ _ _ _ hl hm).mono ?_; rintro e w' ⟨rfl, rfl⟩))
      go_ret
      exact ⟨_, _, rfl, by rw [HP.out]; exact Rd.none_, Below.refl _ _⟩
    · have h2 : rightB t = false := by simpa using h1
      clear hok h1
      go_enter Try.func19, Try.ntmps19
      go_wp2_with (first
        | (go_at_call 16; refine (right_any t _ _ _ _ hr hn).mono ?_; rintro e w' ⟨rfl, rfl⟩)
        | (go_at_call 30; refine (cells_any l _ _ _ _ hl hm).mono ?_; rintro e w' ⟨rfl, rfl⟩))
      go_ret
      exact ⟨_, _, rfl, by rw [HP.out]; exact Rd.none_, Below.refl _ _⟩

set_option maxRecDepth 100000 in
theorem held_any (t : List Rec) (A : Option Addr) (n c : Nat) (who : Int) (w : World) (r : List Int) (q : Nat) (hr : Rd w 2 A n (rs t)) (hn : n ≤ 1000000)
    (hofs : heldS t who = r) (hq : r.length = q) :
    Calls Try.prog 21 #[.slice A n c, .int .i64 who] w (RetS w 1 q (zs r)) := by
  have HN := Lib.hid (rs_len hr)
  have HO := Lib.hid hofs
  have HQ := Lib.hid hq
  clear hofs hq
  by_cases hok : (rightB t && whoB who) = true
  · obtain ⟨h1, h2⟩ := Bool.and_eq_true_iff.1 hok
    have HP : Hid (r = pick (holds t who) n) := Lib.hid (by rw [← HO.out]; unfold heldS; rw [if_pos hok, HN.out])
    clear hok
    go_enter Try.func21, Try.ntmps21
    go_wp2_with (first
      | (go_at_call 16; refine (right_any t _ _ _ _ hr hn).mono ?_; rintro e w' ⟨rfl, rfl⟩)
      | (go_at_call 29; refine (who_any _ _).mono ?_; rintro e w' ⟨rfl, rfl⟩))
    go_loopw [7, 8] (fun v i wr => ∃ k : Nat, k ≤ n ∧ i = .int .i64 k ∧ Own w wr 3 1 v (pick (holds t who) k).length (zs (pick (holds t who) k))) (fun _ i _ => n - (intOf i).toNat)
    case atStart => exact ⟨0, Nat.zero_le _, rfl, Own.nil_ (Below.refl _ _)⟩
    case round =>
      obtain ⟨k, hk, rfl, hown⟩ := hrel
      have hpl := pick_len (holds t who) k
      by_cases hlt : k < n
      · obtain ⟨b, off, ⟨vr, ow⟩, rfl, hx, c0, c1⟩ := at_rec (hr.below hown.2) k hlt
        by_cases he : ow = who
        · have HH : Hid (holds t who k = true) := Lib.hid (by unfold holds; rw [hx]; simpa using he)
          subst he
          clear hx
          go_wp2_with (at_builtin; refine append_rd rfl _ _ 23 rfl tInt w _ _ _ rfl (hown.alloc _) _ 1 1 [.int .i64 (k : Int)] rfl (Rd.built _ 1 1 [.int .i64 (k : Int)] _ rfl) (one_cons rfl one_nil) (by omega) (by omega) ?_; intro v' w' hown' hg; clear hg)
          go_roundw
          case rel => exact ⟨k + 1, by omega, by go_num, own_pick hown' HH.out⟩
          case measure => simp [intOf]; omega
        · have t1 : (ow == who) = false := beq_eq_false_iff_ne.2 he
          have HH : Hid (holds t who k = false) := Lib.hid (by unfold holds; rw [hx]; exact t1)
          clear hx he
          go_wp2
          go_roundw
          case rel => exact ⟨k + 1, by omega, by go_num, by rw [pick_no _ _ HH.out]; exact hown⟩
          case measure => simp [intOf]; omega
      · have hkn : k = n := by omega
        subst hkn
        obtain ⟨B2, d2, rfl, q2⟩ := hown.form
        have b2 := hown.2
        have HL : Hid ((pick (holds t who) k).length = q) := Lib.hid (by rw [← HP.out]; exact HQ.out)
        rw [HL.out] at q2
        clear hown hpl
        rw [HL.out]
        go_wp2
        go_ret
        exact ⟨B2, d2, rfl, by rw [HP.out]; exact q2, b2⟩
  · have HP : Hid (r = []) := Lib.hid (by rw [← HO.out]; unfold heldS; rw [if_neg hok])
    have HQ0 : Hid (q = 0) := Lib.hid (by rw [← HQ.out, HP.out]; rfl)
    obtain rfl : q = 0 := HQ0.out
    have hb : ∃ b1 b2, rightB t = b1 ∧ whoB who = b2 ∧ (b1 && b2) = false := ⟨_, _, rfl, rfl, by simpa using hok⟩
    obtain ⟨b1, b2, h1, h2, h3⟩ := hb
    clear hok
    go_enter Try.func21, Try.ntmps21
    go_wp2_with (first
      | (go_at_call 16; refine (right_any t _ _ _ _ hr hn).mono ?_; rintro e w' ⟨rfl, rfl⟩)
      | (go_at_call 29; refine (who_any _ _).mono ?_; rintro e w' ⟨rfl, rfl⟩))
    refine wp_loop_rounds 1 ?_
    rw [rounds_succ]
    cases b1
    · clear h3
      by_cases hz : 0 < n
      all_goals
        go_wp2
        go_ret
        exact ⟨_, _, rfl, by rw [HP.out]; exact Rd.none_, Below.refl _ _⟩
    · have h3' : b2 = false := by simpa using h3
      subst h3'
      clear h3
      by_cases hz : 0 < n
      all_goals
        go_wp2
        go_ret
        exact ⟨_, _, rfl, by rw [HP.out]; exact Rd.none_, Below.refl _ _⟩
end Go.Proofs.Ytfnghnfaekjfjaa.Stripe
