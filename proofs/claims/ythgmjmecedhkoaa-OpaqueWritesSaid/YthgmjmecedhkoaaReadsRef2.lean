/-
  WHAT THE DOCUMENT'S ANSWER FOR LAYER 5 RETURNS: Valid, Still.
-/
import Derived.Test.YthgmjmecedhkoaaReadsRef
import Derived.Test.YthgmjmecedhkoaaReadsMore
namespace Go.Proofs.Ythgmjmecedhkoaa.Reads
open Go.ChangeShapes Go.WideShapes Go.ChangeAt Go.RowKit Mem

/-- What is returned: a number, with new memory at most. -/
def RetI (w : World) (v : Int) (e : Ending) (w' : World) : Prop := e = .returned (.int .i64 v) ∧ Below w.heap.size w w'

/-- The record of a read's cell. -/
theorem place_of (t : List Stripe.Rec) (n : Nat) (hl : t.length = n) (hn : 0 < n) (c : Int) : ∃ j x, c % (n : Int) = (j : Nat) ∧ j < n ∧ t[j]? = some x := by
  have h1 := Int.emod_nonneg c (show (n : Int) ≠ 0 by omega)
  have h2 := Int.emod_lt_of_pos c (show (0 : Int) < (n : Int) by omega)
  refine ⟨(c % (n : Int)).toNat, t[(c % (n : Int)).toNat]'(by omega), by omega, by omega, List.getElem?_eq_getElem (by omega)⟩
theorem as_at (t : List Stripe.Rec) (n : Nat) (hl : t.length = n) (who : Int) (r : Read) (j : Nat) (x : Stripe.Rec) (hj : r.cell % (n : Int) = (j : Int)) (hx : t[j]? = some x) :
    asB t who r = (x.version == r.version && (x.owner == 0 || x.owner == who)) := by
  unfold asB; rw [hl, hj, Int.toNat_natCast, hx]
theorem rec_owner (t : List Stripe.Rec) (h : Stripe.rightB t = true) (j : Nat) (x : Stripe.Rec) (hx : t[j]? = some x) : 0 ≤ x.owner := by
  unfold Stripe.rightB at h; rw [Bool.and_eq_true] at h
  have := List.all_eq_true.1 h.2 x (List.mem_of_getElem? hx)
  unfold Stripe.recB at this; simp at this; omega
theorem rec_len (t : List Stripe.Rec) (h : Stripe.rightB t = true) : 0 < t.length := by
  unfold Stripe.rightB at h; rw [Bool.and_eq_true] at h
  have := h.1; simp at this; omega
theorem cells_rec {w : World} {b off n : Nat} {l : List Stripe.Rec} (hr : Rd w 2 (some ⟨b, off, none⟩) n (Stripe.rs l)) {k : Nat} {x : Stripe.Rec} (hx : l[k]? = some x) :
    w.cell? ⟨b, off + k * 2, none⟩ = some (.int .i64 x.version) ∧ w.cell? ⟨b, off + k * 2 + 1, none⟩ = some (.int .i64 x.owner) := by
  have hl := Stripe.rs_len hr
  obtain ⟨b', off', y, e, hy, h0, h1⟩ := Stripe.at_rec hr k (by have := (List.getElem?_eq_some_iff.1 hx).1; omega)
  injection e with e
  injection e with e1 e2
  subst e1 e2
  rw [hx] at hy
  injection hy with hy
  subst hy
  exact ⟨h0, h1⟩


theorem still_at (h : List Heap.Cell) (r : Read) (hl : Heap.liveAt h r.cell = true) (j : Nat) (hj : r.cell = (j : Int)) (x : Heap.Cell) (hx : h[j]? = some x) : stillB h r = (x.value == r.value) := by
  unfold stillB; rw [hl, hj, Heap.val_at h j x hx]; simp
theorem cells_cell {w : World} {b off n : Nat} {l : List Heap.Cell} (hr : Rd w 2 (some ⟨b, off, none⟩) n (Heap.cs l)) {k : Nat} {x : Heap.Cell} (hx : l[k]? = some x) :
    w.cell? ⟨b, off + k * 2, none⟩ = some (.bool x.live) ∧ w.cell? ⟨b, off + k * 2 + 1, none⟩ = some (.int .i64 x.value) := by
  have hl : l.length = n := by have := hr.1; rw [Heap.cs_len] at this; omega
  obtain ⟨b', off', y, e, hy, h0, h1⟩ := Heap.at_cell hr k (by have := (List.getElem?_eq_some_iff.1 hx).1; omega)
  injection e with e
  injection e with e1 e2
  subst e1 e2
  rw [hx] at hy
  injection hy with hy
  subst hy
  exact ⟨h0, h1⟩

end Go.Proofs.Ythgmjmecedhkoaa.Reads
