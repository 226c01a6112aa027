/-
  WHAT EACH FUNCTION OF THE DOCUMENT'S ANSWER FOR LAYER 2 RETURNS.
-/
import Derived.Test.YtcdcikjkpbcjgaaRows
import Derived.Test.YtcdcikjkpbcjgaaHeapPlain
import Derived.LoopTactic
import Derived.Deep.QuietTactic
import Derived.BigQuiet
import Derived.RegionTactic
import Derived.Laws.StructEq
namespace Go.Proofs.Ytcdcikjkpbcjgaa.Heap
open Go.ChangeShapes Go.WideShapes Go.ChangeAt Go.RowKit Mem

theorem tCell : SliceT Try.prog 23 41 2 16 := SliceT.mk_ (z := .agg #[.bool false, .int .i64 0]) Try.underlying23 (by kernel_rfl) rfl (by decide)

theorem ref01right_any (n : Int) (w : World) :
    Calls Try.prog 39 #[.int .i64 n] w fun e w' => e = .returned (.bool (vB n)) ∧ w = w' := by
  by_cases h1 : -2147483648 ≤ n
  all_goals by_cases h2 : n ≤ 2147483647
  all_goals
    go_enter Try.func39, Try.ntmps39
    go_wp2
    go_ret
    exact ⟨ret_bool (by unfold vB; simp [h1, h2]), rfl⟩

theorem right_any (h : List Cell) (A : Option Addr) (n c : Nat) (w : World) (hr : Rd w 2 A n (cs h)) (hn : n ≤ 1000000) :
    Calls Try.prog 24 #[.slice A n c] w fun e w' => e = .returned (.bool (rightB h)) ∧ w = w' := by
  have hl : h.length = n := by have := hr.1; rw [cs_len] at this; omega
  have HL := Lib.hid hl
  clear hl
  have HR := Lib.hid hr
  clear hr
  go_enter Try.func24, Try.ntmps24
  go_wp2
  go_loop [3] (fun i => ∃ k : Nat, k ≤ n ∧ i = .int .i64 k ∧ Hid ((h.take k).all cellB = true)) (fun i => n - (intOf i).toNat)
  case atStart => exact ⟨0, Nat.zero_le _, rfl, rfl⟩
  case round =>
    obtain ⟨k, hk, rfl, hall⟩ := hrel
    by_cases hlt : k < n
    · obtain ⟨b, off, ⟨lv, vl⟩, rfl, hx, c0, c1⟩ := at_cell HR.out k hlt
      have HX := Lib.hid hx
      clear hx
      have hs := Lib.hid (take_all h cellB k _ HX.out)
      by_cases hok : cellB ⟨lv, vl⟩ = true
      · have t1 : vB vl = true := by unfold cellB at hok; simp at hok; exact hok.1
        have t2 : lv = true ∨ vl = 0 := by unfold cellB at hok; simp at hok; exact hok.2
        have HOK := Lib.hid hok
        clear hok
        rcases t2 with rfl | rfl
        all_goals try cases lv
        all_goals
          go_wp2_with (go_at_call 39; refine (ref01right_any _ _).mono ?_; rintro e w' ⟨rfl, rfl⟩)
          go_round
          case rel => exact ⟨k + 1, by omega, by go_num, Lib.hid (by rw [hs.out, hall.out, HOK.out]; rfl)⟩
          case measure => simp [intOf]; omega
      · have hf : rightB h = false := right_bad h k _ HX.out (by simpa using hok)
        have HF := Lib.hid hf
        clear hf
        by_cases t1 : vB vl = true
        · have t2 : lv = false ∧ (vl != 0) = true := by unfold cellB at hok; simp [t1] at hok; simpa using hok
          obtain ⟨rfl, t3⟩ := t2
          clear hok
          go_wp2_with (go_at_call 39; refine (ref01right_any _ _).mono ?_; rintro e w' ⟨rfl, rfl⟩)
          go_ret
          exact ⟨ret_bool HF.out.symm, rfl⟩
        · have t1' : vB vl = false := by simpa using t1
          clear t1 hok
          go_wp2_with (go_at_call 39; refine (ref01right_any _ _).mono ?_; rintro e w' ⟨rfl, rfl⟩)
          go_ret
          exact ⟨ret_bool HF.out.symm, rfl⟩
    · have hkn : k = n := by omega
      have hf : rightB h = decide (0 < n ∧ n < 65) := by
        have := hall.out
        rw [hkn, ← HL.out, List.take_length] at this
        unfold rightB; rw [this, HL.out]; simp
      have HF := Lib.hid hf
      clear hf hkn
      by_cases h1 : 0 < n
      all_goals by_cases h2 : n < 65
      all_goals
        go_wp2
        go_ret
        exact ⟨ret_bool (by rw [HF.out]; first | (simp [h1, h2]; done) | (simp [h1, h2]; omega)), rfl⟩


end Go.Proofs.Ytcdcikjkpbcjgaa.Heap
