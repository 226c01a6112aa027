/-
  WHAT THE DOCUMENT'S ANSWER FOR LAYER 2 RETURNS: Live, Get, Free, Alloc, Put.
-/
import Derived.Test.YtcdcikjkpbcjgaaRef02
import Derived.StillTailTactics
namespace Go.Proofs.Ytcdcikjkpbcjgaa.Heap
open Go.ChangeShapes Go.WideShapes Go.ChangeAt Go.RowKit Mem

theorem live_any (h : List Cell) (A : Option Addr) (n c : Nat) (cell : Int) (w : World) (hr : Rd w 2 A n (cs h)) (hn : n ≤ 1000000) :
    Calls Try.prog 40 #[.slice A n c, .int .i64 cell] w fun e w' => e = .returned (.bool (liveAt h cell)) ∧ w = w' := by
  have HL : Hid (h.length = n) := Lib.hid (by have := hr.1; rw [cs_len] at this; omega)
  have HR := Lib.hid hr
  clear hr
  go_enter Try.func40, Try.ntmps40
  go_wp2
  go_loop [5] (fun i => ∃ k : Nat, k ≤ n ∧ i = .int .i64 k ∧ (cell < 0 ∨ (k : Int) ≤ cell)) (fun i => n - (intOf i).toNat)
  case atStart => exact ⟨0, Nat.zero_le _, rfl, by omega⟩
  case round =>
    obtain ⟨k, hk, rfl, hpast⟩ := hrel
    by_cases hlt : k < n
    · obtain ⟨b, off, ⟨lv, vl⟩, rfl, hx, c0, c1⟩ := at_cell HR.out k hlt
      have HX := Lib.hid hx
      clear hx
      by_cases he : (k : Int) = cell
      · subst he
        have HF := Lib.hid (live_at h k _ HX.out)
        go_wp2
        go_ret
        exact ⟨ret_bool HF.out.symm, rfl⟩
      · have t1 : ((k : Int) == cell) = false := beq_eq_false_iff_ne.2 he
        go_wp2
        go_round
        case rel => exact ⟨k + 1, by omega, by go_num, by omega⟩
        case measure => simp [intOf]; omega
    · have HF : Hid (liveAt h cell = false) := Lib.hid (live_out h cell (by rw [HL.out]; omega))
      clear hpast
      go_wp2
      go_ret
      exact ⟨ret_bool HF.out.symm, rfl⟩


/-- A heap, and an error's number, are returned. -/
def RetH (w : World) (n : Nat) (r : List Cell × Int) (e : Ending) (w' : World) : Prop :=
  ∃ B d, e = .returned (.tuple #[.slice B n d, .int .i64 r.2]) ∧ Rd w' 2 B n (cs r.1) ∧ Below w.heap.size w w'

end Go.Proofs.Ytcdcikjkpbcjgaa.Heap
