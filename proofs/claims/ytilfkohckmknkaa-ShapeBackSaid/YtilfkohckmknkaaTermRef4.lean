/-
  WHAT THE DOCUMENT'S ANSWER FOR LAYER 7 RETURNS: value, Eval, Cells.
-/
import Derived.Test.YtilfkohckmknkaaTermRef3
namespace Go.Proofs.Ytilfkohckmknkaa.Term
open Go.ChangeShapes Go.WideShapes Go.ChangeAt Go.RowKit Mem

/-- What is returned: a number, and a truth. -/
def RetV (w : World) (r : Int × Bool) (e : Ending) (w' : World) : Prop := e = .returned (.tuple #[.int .i64 r.1, .bool r.2]) ∧ Below w.heap.size w w'

theorem all_app {α : Type} {p : α → Bool} {a b : List α} (h : (a ++ b).all p = true) : a.all p = true ∧ b.all p = true := by
  rw [List.all_append, Bool.and_eq_true] at h; exact h
theorem live_at_ {h : List Heap.Cell} {A : Option Addr} {m : Nat} {w : World} (hh : Rd w 2 A m (Heap.cs h)) (nn : Int) (hl : Heap.liveAt h nn = true) :
    ∃ b off, ∃ k : Nat, A = some ⟨b, off, none⟩ ∧ nn = (k : Int) ∧ k < m ∧ w.cell? ⟨b, off + k * 2 + 1, none⟩ = some (.int .i64 (Heap.valAt h nn)) := by
  obtain ⟨h0, h1, x, hx, _⟩ := Heap.live_in h nn hl
  obtain ⟨k, rfl⟩ := Int.eq_ofNat_of_zero_le h0
  simp only [Int.toNat_natCast] at hx h1
  have hln : h.length = m := by have := hh.1; rw [Heap.cs_len] at this; omega
  obtain ⟨b, off, y, hA, hy, c0, c1⟩ := Heap.at_cell hh k (by omega)
  rw [hx] at hy; injection hy with e; subst e
  exact ⟨b, off, k, hA, rfl, by omega, by rw [Heap.val_at h k _ hx]; exact c1⟩

end Go.Proofs.Ytilfkohckmknkaa.Term
