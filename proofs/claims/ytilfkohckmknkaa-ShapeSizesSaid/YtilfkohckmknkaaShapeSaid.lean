/-
  WHAT THE FUNCTIONS OF LAYER 9 RETURN, by cases. No conditions beyond those that each theorem states.
-/
import Derived.Test.YtilfkohckmknkaaShapeRead
import Derived.Test.YtilfkohckmknkaaShapeWrite
namespace Go.Proofs.Ytilfkohckmknkaa.Shape
open Go.ChangeShapes Go.WideShapes Go.ChangeAt Go.RowKit Mem Go.Proofs.Ytilfkohckmknkaa.Code

theorem write_y (L : List RawC) (A : Option Addr) (n c : Nat) (w : World) (b : List Int) (q : Nat) (hat : Codes w A n L) (hlim : LimC L) (hn : n ≤ 1000000) (hr : writeS (cc L) = some b) (hq : b.length = q) :
    Calls Try.prog 11 #[.slice A n c] w (fun e w' => ∃ B d, e = .returned (.tuple #[.slice B q d, .int .i64 0]) ∧ Own w w' 5 1 (.slice B q d) q (bs b)) :=
  (write_c L A n c w _ hat hlim hn hr).mono fun e w' ⟨B, d, q', he, hq', ho⟩ => by
    obtain rfl : q' = q := by rw [← hq', ← hq]; rfl
    exact ⟨B, d, he, ho⟩
theorem write_n (L : List RawC) (A : Option Addr) (n c : Nat) (w : World) (hat : Codes w A n L) (hlim : LimC L) (hn : n ≤ 1000000) (hr : writeS (cc L) = none) :
    Calls Try.prog 11 #[.slice A n c] w (fun e w' => ∃ B d, e = .returned (.tuple #[.slice B 0 d, .int .i64 1]) ∧ Own w w' 5 1 (.slice B 0 d) 0 []) :=
  (write_c L A n c w _ hat hlim hn hr).mono fun e w' ⟨B, d, q', he, hq', ho⟩ => by
    obtain rfl : q' = 0 := by rw [← hq']; rfl
    exact ⟨B, d, he, ho⟩
theorem read_y (b : List Int) (L : List (List Step)) (A : Option Addr) (n c : Nat) (w : World) (hr : Rd w 1 A n (bs b)) (hb : BB b) (hnc : n ≤ c) (hn : n ≤ 4000000) (hc : c ≤ 9223372036854775807) (ho : readS b = some L) :
    Calls Try.prog 18 #[.slice A n c] w (fun e w' => ∃ B q d M, e = .returned (.tuple #[.slice B q d, .int .i64 0]) ∧ Codes w' B q M ∧ q ≤ 8 ∧ q ≤ d ∧ cc M = L ∧ LimC M ∧ Below w.heap.size w w') :=
  (read_c b A n c w _ hr hb hnc hn hc ho).mono fun _ _ ⟨B, q, d, M, he, h⟩ => ⟨B, q, d, M, he, h⟩
theorem read_n (b : List Int) (A : Option Addr) (n c : Nat) (w : World) (hr : Rd w 1 A n (bs b)) (hb : BB b) (hnc : n ≤ c) (hn : n ≤ 4000000) (hc : c ≤ 9223372036854775807) (ho : readS b = none) :
    Calls Try.prog 18 #[.slice A n c] w (fun e w' => ∃ B d M, e = .returned (.tuple #[.slice B 0 d, .int .i64 2]) ∧ Codes w' B 0 M ∧ cc M = [] ∧ LimC M ∧ Below w.heap.size w w') :=
  (read_c b A n c w _ hr hb hnc hn hc ho).mono fun e w' ⟨B, q, d, M, he, h1, h2, h3, h4, h5, h6⟩ => by
    obtain rfl : q = 0 := by
      have := h1.len
      have h7 := congrArg List.length h4
      rw [cc_len] at h7
      rw [← this, h7]; rfl
    exact ⟨B, d, M, he, h1, h4, h5, h6⟩
theorem own_lims {w0 w : World} {e size n d : Nat} {B : Option Addr} {xs : List Value} (h : Own w0 w e size (.slice B n d) n xs) : n ≤ d ∧ d ≤ 9223372036854775807 ∧ Rd w size B n xs := by
  obtain ⟨_, h1, h2, h3, _⟩ := row_room h.1
  exact ⟨h1, h2, h3⟩
end Go.Proofs.Ytilfkohckmknkaa.Shape
