/-
  WHAT THE DOCUMENT'S ANSWER FOR LAYER 2 RETURNS: Live, Get, Free, Alloc, Put.
-/
import Derived.Test.YtpejbfphejijeaaRef02
import Derived.StillTailTactics
namespace Go.Proofs.Ytpejbfphejijeaa.Heap
open Go.ChangeShapes Go.WideShapes Go.ChangeAt Go.RowKit Mem

theorem live_any (h : List Cell) (A : Option Addr) (n c : Nat) (cell : Int) (w : World) (hr : Rd w 2 A n (cs h)) (hn : n ≤ 1000000) :
    Calls Try.prog 29 #[.slice A n c, .int .i64 cell] w fun e w' => e = .returned (.bool (liveAt h cell)) ∧ w = w' := by
  have HL : Hid (h.length = n) := Lib.hid (by have := hr.1; rw [cs_len] at this; omega)
  have HR := Lib.hid hr
  clear hr
  go_enter Try.func29, Try.ntmps29
  go_wp2
  go_loop [5] (fun i => ∃ k : Nat, k ≤ n ∧ i = .int .i64 k ∧ (cell < 0 ∨ (k : Int) ≤ cell)) (fun i => n - (intOf i).toNat)
  case atStart => exact ⟨0, Nat.zero_le _, rfl, by omega⟩
  case round =>
    obtain ⟨k, hk, rfl, hpast⟩ := hrel
    by_cases hlt : k < n
    · obtain ⟨b, off, ⟨lv, vl⟩, rfl, hx, c0, c1⟩ := at_cell HR.out k hlt
      have HX := Lib.hid hx
      clear hx
      by_cases he : (k : Int) = cell
      · subst he
        have HF := Lib.hid (live_at h k _ HX.out)
        go_wp2
        go_ret
        exact ⟨ret_bool HF.out.symm, rfl⟩
      · have t1 : ((k : Int) == cell) = false := beq_eq_false_iff_ne.2 he
        go_wp2
        go_round
        case rel => exact ⟨k + 1, by omega, by go_num, by omega⟩
        case measure => simp [intOf]; omega
    · have HF : Hid (liveAt h cell = false) := Lib.hid (live_out h cell (by rw [HL.out]; omega))
      clear hpast
      go_wp2
      go_ret
      exact ⟨ret_bool HF.out.symm, rfl⟩

theorem get_any (h : List Cell) (A : Option Addr) (n c : Nat) (cell : Int) (w : World) (hr : Rd w 2 A n (cs h)) (hn : n ≤ 1000000) :
    Calls Try.prog 15 #[.slice A n c, .int .i64 cell] w fun e w' => e = .returned (.tuple #[.int .i64 (getS h cell).1, .int .i64 (getS h cell).2]) ∧ w = w' := by
  have HL : Hid (h.length = n) := Lib.hid (by have := hr.1; rw [cs_len] at this; omega)
  have HR := Lib.hid hr
  clear hr
  by_cases h1 : rightB h = true
  · by_cases h2 : liveAt h cell = true
    · obtain ⟨hc0, hc1, x, hx, _⟩ := live_in h cell h2
      obtain ⟨k, rfl⟩ := Int.eq_ofNat_of_zero_le hc0
      simp only [Int.toNat_natCast] at hx hc1
      have hkn : k < n := by rw [← HL.out]; exact hc1
      obtain ⟨b, off, ⟨lv, vl⟩, rfl, hx', c0, c1⟩ := at_cell HR.out k hkn
      have HF : Hid (getS h (k : Int) = (vl, 0)) := Lib.hid (by unfold getS; rw [if_pos h1, if_pos h2, val_at h k _ hx'])
      clear hx hx' hc1 hc0
      go_enter Try.func15, Try.ntmps15
      go_wp2_with (first
        | (go_at_call 19; refine (right_any h _ _ _ _ HR.out hn).mono ?_; rintro e w' ⟨rfl, rfl⟩)
        | (go_at_call 29; refine (live_any h _ _ _ _ _ HR.out hn).mono ?_; rintro e w' ⟨rfl, rfl⟩))
      go_ret2
      exact ⟨by rw [HF.out]; rfl, rfl⟩
    · have h2' : liveAt h cell = false := by simpa using h2
      have HF : Hid (getS h cell = (0, 3)) := Lib.hid (by unfold getS; rw [if_pos h1, if_neg h2])
      clear h2
      go_enter Try.func15, Try.ntmps15
      go_wp2_with (first
        | (go_at_call 19; refine (right_any h _ _ _ _ HR.out hn).mono ?_; rintro e w' ⟨rfl, rfl⟩)
        | (go_at_call 29; refine (live_any h _ _ _ _ _ HR.out hn).mono ?_; rintro e w' ⟨rfl, rfl⟩))
      go_ret2
      exact ⟨by rw [HF.out]; rfl, rfl⟩
  · have h1' : rightB h = false := by simpa using h1
    have HF : Hid (getS h cell = (0, 1)) := Lib.hid (by unfold getS; rw [if_neg h1])
    clear h1
    go_enter Try.func15, Try.ntmps15
    go_wp2_with (first
      | (go_at_call 19; refine (right_any h _ _ _ _ HR.out hn).mono ?_; rintro e w' ⟨rfl, rfl⟩)
      | (go_at_call 29; refine (live_any h _ _ _ _ _ HR.out hn).mono ?_; rintro e w' ⟨rfl, rfl⟩))
    go_ret2
    exact ⟨by rw [HF.out]; rfl, rfl⟩

/-- A heap, and an error's number, are returned. -/
def RetH (w : World) (n : Nat) (r : List Cell × Int) (e : Ending) (w' : World) : Prop :=
  ∃ B d, e = .returned (.tuple #[.slice B n d, .int .i64 r.2]) ∧ Rd w' 2 B n (cs r.1) ∧ Below w.heap.size w w'

theorem free_any (h : List Cell) (A : Option Addr) (n c : Nat) (cell : Int) (w : World) (hr : Rd w 2 A n (cs h)) (hn : n ≤ 1000000) :
    Calls Try.prog 13 #[.slice A n c, .int .i64 cell] w (RetH w n (freeS h cell)) := by
  have HR := Lib.hid hr
  clear hr
  by_cases h1 : (getS h cell).2 = 0
  · have HF : Hid (freeS h cell = (setAt h cell ⟨false, 0⟩, 0)) := Lib.hid (by
      unfold getS at h1; unfold freeS
      by_cases a : rightB h = true
      · by_cases b : liveAt h cell = true
        · simp [a, b]
        · simp [a, b] at h1
      · simp [a] at h1)
    go_enter Try.func13, Try.ntmps13
    go_wp2_with (first
      | (go_at_call 15; refine (get_any h _ _ _ _ _ HR.out hn).mono ?_; rintro e w' ⟨rfl, rfl⟩)
      | (go_at_call 27; refine (set_any h _ _ _ _ _ _ _ HR.out hn).mono ?_; rintro e w' ⟨B, d, rfl, hrd, hb⟩; have HB := Lib.hid hb; have HD := Lib.hid hrd; clear hb hrd))
    go_ret2
    exact ⟨B, d, by rw [HF.out]; rfl, by rw [HF.out]; exact HD.out, HB.out⟩
  · have t1 : ((getS h cell).2 != 0) = true := by simpa using h1
    have HF : Hid (freeS h cell = (h, (getS h cell).2)) := Lib.hid (by
      unfold getS at h1 ⊢; unfold freeS
      by_cases a : rightB h = true
      · by_cases b : liveAt h cell = true
        · simp [a, b] at h1
        · simp [a, b]
      · simp [a])
    clear h1
    go_enter Try.func13, Try.ntmps13
    go_wp2_with (go_at_call 15; refine (get_any h _ _ _ _ _ HR.out hn).mono ?_; rintro e w' ⟨rfl, rfl⟩)
    go_ret2
    exact ⟨A, c, by rw [HF.out]; rfl, by rw [HF.out]; exact HR.out, Below.refl _ _⟩
end Go.Proofs.Ytpejbfphejijeaa.Heap
