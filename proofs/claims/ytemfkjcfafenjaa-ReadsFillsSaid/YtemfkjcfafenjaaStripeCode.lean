/-
  WHAT EACH FUNCTION OF THE LAYER stripe RETURNS, AS IT IS WRITTEN: New, Right, Held, Of and what they call.
-/
import Derived.Test.YtemfkjcfafenjaaStripeLaw
import Derived.Test.YtemfkjcfafenjaaOwn
namespace Go.Proofs.Ytemfkjcfafenjaa.Stripe
open Go.ChangeShapes Go.WideShapes Go.ChangeAt Go.RowKit Mem

theorem clone_any (t : List Rec) (A : Option Addr) (n c : Nat) (w : World) (hr : Rd w 2 A n (rs t)) (hn : n ≤ 1000000) :
    Calls Try.prog 41 #[.slice A n c] w (RetO w 56 2 n (rs t)) := by
  have hnil := fun W => Lib.run_eql_slice_nil (P := Try.prog) W 40 56 A n c 0 0 Try.underlying40
  rcases A with _ | ad
  · obtain ⟨rfl, hx⟩ := rd_nil hr
    have HX := Lib.hid hx
    clear hr hx
    go_enter Try.func41, Try.ntmps41
    go_wp2
    go_ret
    exact ⟨_, rfl, by rw [HX.out]; exact Own.nil_ (Below.refl _ _)⟩
  · have HR := Lib.hid hr
    clear hr
    go_enter Try.func41, Try.ntmps41
    go_wp2_with (at_builtin; refine append_rd rfl _ _ 40 rfl tRec w _ 0 [] rfl (Own.empty w _ _) _ n c (rs t) rfl (HR.out.alloc _) (flat_one rc_one t) (by omega) (by omega) ?_; intro v' w' hown' hg; have HO := Lib.hid hown'; clear hown' hg)
    go_ret
    exact ⟨v', rfl, by have := HO.out; simpa using this⟩

def lenB (n : Int) : Bool := decide (1 ≤ n ∧ n ≤ 16)
theorem length_any (n : Int) (w : World) :
    Calls Try.prog 54 #[.int .i64 n] w fun e w' => e = .returned (.bool (lenB n)) ∧ w = w' := by
  by_cases h1 : 1 ≤ n
  all_goals by_cases h2 : n ≤ 16
  all_goals
    go_enter Try.func54, Try.ntmps54
    go_wp2
    go_ret
    exact ⟨ret_bool (by unfold lenB; simp [h1, h2]), rfl⟩
def verB (n : Int) : Bool := decide (0 ≤ n ∧ n ≤ 2147483647)
theorem version_any (n : Int) (w : World) :
    Calls Try.prog 46 #[.int .i64 n] w fun e w' => e = .returned (.bool (verB n)) ∧ w = w' := by
  by_cases h1 : 0 ≤ n
  all_goals by_cases h2 : n ≤ 2147483647
  all_goals
    go_enter Try.func46, Try.ntmps46
    go_wp2
    go_ret
    exact ⟨ret_bool (by unfold verB; simp [h1, h2]), rfl⟩
theorem rwho_any (n : Int) (w : World) :
    Calls Try.prog 43 #[.int .i64 n] w fun e w' => e = .returned (.bool (whoB n)) ∧ w = w' := by
  by_cases h1 : 1 ≤ n
  all_goals by_cases h2 : n ≤ 8
  all_goals
    go_enter Try.func43, Try.ntmps43
    go_wp2
    go_ret
    exact ⟨ret_bool (by unfold whoB; first | (simp; omega) | (symm; simp; omega) | (rw [Bool.eq_iff_iff]; simp; omega)), rfl⟩
theorem rec_parts (v o : Int) : recB ⟨v, o⟩ = (verB v && (o == 0 || whoB o)) := by
  rw [Bool.eq_iff_iff]; unfold recB verB whoB; simp; omega

theorem record_any (vr ow : Int) (w : World) (b : Bool) (hb : recB ⟨vr, ow⟩ = b) :
    Calls Try.prog 55 #[.agg #[.int .i64 vr, .int .i64 ow]] w (RetB w b) := by
  rw [rec_parts] at hb
  have HB := Lib.hid hb
  clear hb
  cases h1 : verB vr
  · go_enter Try.func55, Try.ntmps55
    go_wp2_with (go_at_call 46; refine (version_any _ _).mono ?_; rintro e w' ⟨rfl, rfl⟩)
    go_ret
    exact ⟨ret_bool (by have := HB.out; rw [h1] at this; exact this), bl_alloc (Below.refl _ _) _⟩
  · by_cases h2 : ow = 0
    · subst h2
      go_enter Try.func55, Try.ntmps55
      go_wp2_with (go_at_call 46; refine (version_any _ _).mono ?_; rintro e w' ⟨rfl, rfl⟩)
      go_ret
      exact ⟨ret_bool (by have := HB.out; rw [h1] at this; exact this), bl_alloc (Below.refl _ _) _⟩
    · have h3 : (ow == 0) = false := beq_eq_false_iff_ne.2 h2
      clear h2
      cases h4 : whoB ow
      all_goals
        go_enter Try.func55, Try.ntmps55
        go_wp2_with (first
          | (go_at_call 46; refine (version_any _ _).mono ?_; rintro e w' ⟨rfl, rfl⟩)
          | (go_at_call 43; refine (rwho_any _ _).mono ?_; rintro e w' ⟨rfl, rfl⟩))
        go_ret
        exact ⟨ret_bool (by have := HB.out; rw [h1, h3, h4] at this; exact this), bl_alloc (Below.refl _ _) _⟩

theorem right_c (t : List Rec) (A : Option Addr) (n c : Nat) (w : World) (b : Bool) (hr : Rd w 2 A n (rs t)) (hn : n ≤ 1000000) (hb : rightB t = b) :
    Calls Try.prog 32 #[.slice A n c] w (RetB w b) := by
  subst hb
  have HL := Lib.hid (rs_len hr)
  have HR := Lib.hid hr
  clear hr
  by_cases hlen : lenB (n : Int) = true
  · have HN : Hid (0 < n ∧ n < 17) := Lib.hid (by unfold lenB at hlen; simp at hlen; omega)
    go_enter Try.func32, Try.ntmps32
    go_wp2_with (go_at_call 54; refine (length_any _ _).mono ?_; rintro e w' ⟨rfl, rfl⟩)
    go_loopw [11] (fun i wr => ∃ k : Nat, k ≤ n ∧ i = .int .i64 k ∧ Hid (Below w.heap.size w wr) ∧ Hid ((t.take k).all recB = true)) (fun i _ => n - (intOf i).toNat)
    case atStart => exact ⟨0, Nat.zero_le _, rfl, Lib.hid (Below.refl _ _), Lib.hid rfl⟩
    case round =>
      obtain ⟨k, hk, rfl, HB, hall⟩ := hrel
      by_cases hlt : k < n
      · obtain ⟨b, off, ⟨vr, ow⟩, rfl, hx, c0, c1⟩ := at_rec (HR.out.below HB.out) k hlt
        have hs := Lib.hid (take_all t recB k _ hx)
        by_cases hok : recB ⟨vr, ow⟩ = true
        · have HOK := Lib.hid hok
          clear hx hok
          go_wp2_with fail
          refine (record_any _ _ _ true HOK.out).mono ?_
          rintro e w1 ⟨rfl, b1⟩
          have HB1 := Lib.hid (bl_trans (bl_alloc HB.out _) b1)
          clear b1
          go_wp2_with fail
          go_roundw
          case rel => exact ⟨k + 1, by omega, by go_num, HB1, Lib.hid (by rw [hs.out, hall.out, HOK.out]; rfl)⟩
          case measure => simp [intOf]; omega
        · have HOK : Hid (recB ⟨vr, ow⟩ = false) := Lib.hid (by simpa using hok)
          have HF : Hid (rightB t = false) := Lib.hid (by
            unfold rightB; rw [all_bad t recB k _ hx HOK.out]; simp)
          clear hx hok
          go_wp2_with fail
          refine (record_any _ _ _ false HOK.out).mono ?_
          rintro e w1 ⟨rfl, b1⟩
          have HB1 := Lib.hid (bl_trans (bl_alloc HB.out _) b1)
          clear b1
          go_wp2_with fail
          go_ret
          exact ⟨ret_bool HF.out.symm, HB1.out⟩
      · have HF : Hid (rightB t = true) := Lib.hid (by
          have := hall.out
          rw [List.take_of_length_le (by rw [HL.out]; omega)] at this
          unfold rightB; rw [this, HL.out]; simpa using HN.out)
        go_wp2
        go_ret
        exact ⟨ret_bool HF.out.symm, HB.out⟩
  · have hlen' : lenB (n : Int) = false := by simpa using hlen
    have HF : Hid (rightB t = false) := Lib.hid (by
      unfold lenB at hlen'; simp at hlen'
      unfold rightB; rw [HL.out, Bool.and_eq_false_iff]; left; simp; omega)
    clear hlen
    go_enter Try.func32, Try.ntmps32
    go_wp2_with (go_at_call 54; refine (length_any _ _).mono ?_; rintro e w' ⟨rfl, rfl⟩)
    go_ret
    exact ⟨ret_bool HF.out.symm, Below.refl _ _⟩

theorem rcells_any (l : List Int) (A : Option Addr) (n c : Nat) (w : World) (hr : Rd w 1 A n (zs l)) (hn : n ≤ 1000000) :
    Calls Try.prog 42 #[.slice A n c] w fun e w' => e = .returned (.bool (cellsB l)) ∧ w = w' := by
  have HL := Lib.hid (zs_len hr)
  go_enter Try.func42, Try.ntmps42
  go_wp2
  go_loop [7] (fun i => ∃ k : Nat, k ≤ n ∧ i = .int .i64 k ∧ Hid ((l.take k).all (fun c => decide (0 ≤ c)) = true)) (fun i => n - (intOf i).toNat)
  case atStart => exact ⟨0, Nat.zero_le _, rfl, Lib.hid rfl⟩
  case round =>
    obtain ⟨k, hk, rfl, hall⟩ := hrel
    by_cases hlt : k < n
    · obtain ⟨b, off, x, rfl, hx, c0⟩ := at_z hr k hlt
      have hs := Lib.hid (take_all l (fun c => decide (0 ≤ c)) k _ hx)
      have HX := Lib.hid hx
      clear hx
      by_cases he : 0 ≤ x
      · go_wp2
        go_round
        case rel => exact ⟨k + 1, by omega, by go_num, Lib.hid (by rw [hs.out, hall.out]; simpa using he)⟩
        case measure => simp [intOf]; omega
      · have HF : Hid (cellsB l = false) := Lib.hid (all_bad l _ k _ HX.out (by simpa using he))
        go_wp2
        go_ret
        exact ⟨ret_bool HF.out.symm, rfl⟩
    · have HF : Hid (cellsB l = true) := Lib.hid (by
        have := hall.out
        rwa [List.take_of_length_le (by rw [HL.out]; omega)] at this)
      go_wp2
      go_ret
      exact ⟨ret_bool HF.out.symm, rfl⟩

theorem rs_new (n : Nat) : (madeCells (Value.agg #[.int .i64 0, .int .i64 0]).cells (n * 2)).toList = rs (List.replicate n ⟨0, 0⟩) := by
  have h : (Value.agg #[.int .i64 0, .int .i64 0]).cells = #[.int .i64 0, .int .i64 0] := by first | rfl | kernel_rfl | simp [Value.cells]
  rw [h, made_two]
  induction n with
  | zero => rfl
  | succ n ih => simp [rs, rc, List.replicate_succ] at *; exact ih


set_option maxRecDepth 100000 in
theorem held_o (t : List Rec) (A : Option Addr) (n c : Nat) (who : Int) (w : World) (r : List Int) (q : Nat) (hr : Rd w 2 A n (rs t)) (hn : n ≤ 1000000)
    (hofs : heldS t who = r) (hq : r.length = q) :
    Calls Try.prog 45 #[.slice A n c, .int .i64 who] w (RetO w 3 1 q (zs r)) := by
  have HN := Lib.hid (rs_len hr)
  have HR := Lib.hid hr
  have HO := Lib.hid hofs
  have HQ := Lib.hid hq
  clear hofs hq hr
  cases h1 : rightB t
  · have HP : Hid (r = []) := Lib.hid (by rw [← HO.out]; unfold heldS; rw [h1]; rfl)
    obtain rfl : 0 = q := by rw [← HQ.out, HP.out]; rfl
    have H1 := Lib.hid h1
    clear h1
    go_enter Try.func45, Try.ntmps45
    go_wp2_with fail
    refine (right_c t _ _ _ _ false HR.out hn H1.out).mono ?_
    rintro e w1 ⟨rfl, b1⟩
    have HB1 := Lib.hid b1
    clear b1
    go_wp2_with fail
    go_ret
    exact ⟨_, rfl, by rw [HP.out]; exact Own.nil_ HB1.out⟩
  · cases h2 : whoB who
    · have HP : Hid (r = []) := Lib.hid (by rw [← HO.out]; unfold heldS; rw [h1, h2]; rfl)
      obtain rfl : 0 = q := by rw [← HQ.out, HP.out]; rfl
      have H1 := Lib.hid h1
      clear h1
      go_enter Try.func45, Try.ntmps45
      go_wp2_with fail
      refine (right_c t _ _ _ _ true HR.out hn H1.out).mono ?_
      rintro e w1 ⟨rfl, b1⟩
      have HB1 := Lib.hid b1
      clear b1
      go_wp2_with (go_at_call 43; refine (rwho_any _ _).mono ?_; rintro e w' ⟨rfl, rfl⟩)
      go_ret
      exact ⟨_, rfl, by rw [HP.out]; exact Own.nil_ HB1.out⟩
    · have HP : Hid (r = pick (holds t who) n) := Lib.hid (by rw [← HO.out]; unfold heldS; rw [h1, h2, HN.out]; rfl)
      have H1 := Lib.hid h1
      clear h1
      go_enter Try.func45, Try.ntmps45
      go_wp2_with fail
      refine (right_c t _ _ _ _ true HR.out hn H1.out).mono ?_
      rintro e w1 ⟨rfl, b1⟩
      have HB1 := Lib.hid b1
      clear b1
      go_wp2_with (go_at_call 43; refine (rwho_any _ _).mono ?_; rintro e w' ⟨rfl, rfl⟩)
      go_loopw [5, 18] (fun v i wr => ∃ k : Nat, k ≤ n ∧ i = .int .i64 k ∧ Hid (Own w wr 3 1 v (pick (holds t who) k).length (zs (pick (holds t who) k)))) (fun _ i _ => n - (intOf i).toNat)
      case atStart => exact ⟨0, Nat.zero_le _, rfl, Lib.hid (Own.nil_ HB1.out)⟩
      case round =>
        obtain ⟨k, hk, rfl, hown⟩ := hrel
        have hpl := pick_len (holds t who) k
        by_cases hlt : k < n
        · obtain ⟨b, off, ⟨vr, ow⟩, rfl, hx, c0, c1⟩ := at_rec (HR.out.below hown.out.2) k hlt
          by_cases he : ow = who
          · have HH : Hid (holds t who k = true) := Lib.hid (by unfold holds; rw [hx]; simpa using he)
            subst he
            clear hx
            go_wp2_with (at_builtin; refine append_rd rfl _ _ 35 rfl tInt w _ _ _ rfl ((hown.out.alloc _).alloc _) _ 1 1 [.int .i64 (k : Int)] rfl (Rd.builtAt _ 1 1 [.int .i64 (k : Int)] _ rfl (by simp)) (one_cons rfl one_nil) (by omega) (by omega) ?_; intro v' w' hown' hg; have HO2 := Lib.hid hown'; clear hg hown')
            go_roundw
            case rel => exact ⟨k + 1, by omega, by go_num, Lib.hid (own_pick HO2.out HH.out)⟩
            case measure => simp [intOf]; omega
          · have t1 : (ow == who) = false := beq_eq_false_iff_ne.2 he
            have HH : Hid (holds t who k = false) := Lib.hid (by unfold holds; rw [hx]; exact t1)
            clear hx he
            go_wp2
            go_roundw
            case rel => exact ⟨k + 1, by omega, by go_num, by rw [pick_no _ _ HH.out]; exact Lib.hid (hown.out.alloc _)⟩
            case measure => simp [intOf]; omega
        · have hkn : k = n := by omega
          subst hkn
          have HL : Hid ((pick (holds t who) k).length = q) := Lib.hid (by rw [← HP.out]; exact HQ.out)
          rw [HL.out] at hown
          clear hpl
          go_wp2
          go_ret
          exact ⟨_, rfl, by rw [HP.out]; exact hown.out⟩
theorem held_c (t : List Rec) (A : Option Addr) (n c : Nat) (who : Int) (w : World) (r : List Int) (q : Nat) (hr : Rd w 2 A n (rs t)) (hn : n ≤ 1000000)
    (hofs : heldS t who = r) (hq : r.length = q) :
    Calls Try.prog 45 #[.slice A n c, .int .i64 who] w (RetS w 1 q (zs r)) := (held_o t A n c who w r q hr hn hofs hq).mono fun _ _ h => h.toS
end Go.Proofs.Ytemfkjcfafenjaa.Stripe
