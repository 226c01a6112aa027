/-
  WORDS ON MEMORY, of my own: blocks and slices of the call's own, kept beside a store or an append elsewhere. No conditions beyond those that each theorem states. Nothing of the program is named here.
-/
import Derived.Test.YthgmjmecedhkoaaGrew
namespace Go.Proofs.Ythgmjmecedhkoaa.Mem
open Go.ChangeShapes Go.WideShapes Go.ChangeAt Go.RowKit

section
variable {w0 w w' : World} {g g' e size n i : Nat} {t : TypeId} {xs : Array Value} {ys : List Value} {v u : Value} {r : Option Nat}
theorem Blk.grown (h : Blk w g t xs) (hg : w.grownBy w' r) (hr : r ≠ some g) : Blk w' g t xs := by
  obtain ⟨_, _, _, _, hb⟩ := hg
  exact (hb g h.lt (fun e => hr e.symm)).trans h
theorem heap_set_ne (w : World) (hne : g' ≠ g) (i : Nat) (u : Value) : (w.setCell ⟨g', i, none⟩ u).heap[g]? = w.heap[g]? := by
  unfold World.setCell; simp [Array.getElem?_modify, hne]
theorem Blk.beside (h : Blk w g t xs) (hne : g' ≠ g) (i : Nat) (u : Value) : Blk (w.setCell ⟨g', i, none⟩ u) g t xs := (heap_set_ne w hne i u).trans h
theorem Own.set_ne (h : Own w0 w e size v n ys) (hg : w0.heap.size ≤ g) (hne : v.ownBlock ≠ some g) (i : Nat) (u : Value) : Own w0 (w.setCell ⟨g, i, none⟩ u) e size v n ys := by
  refine ⟨⟨h.1.1, ?_⟩, h.2.setCell hg u⟩
  rcases h.1.2 with hv | ⟨k, cap, cur, hv, hk, hh, hrest⟩
  · exact .inl hv
  · refine .inr ⟨k, cap, cur, hv, hk, ?_, hrest⟩
    rw [heap_set_ne w (fun e => hne (by rw [hv, ← e]; rfl))]; exact hh
theorem Rd.set_ne {k : Nat} {B : Option Addr} (h : Rd w k B n ys) (hne : ∀ b off, B = some ⟨b, off, none⟩ → b ≠ g) (i : Nat) (u : Value) : Rd (w.setCell ⟨g, i, none⟩ u) k B n ys := h.set_other hne i u
theorem own_ne {B : Option Addr} {d m : Nat} (h : (Value.slice B m d).ownBlock ≠ some g) : ∀ b off, B = some ⟨b, off, none⟩ → b ≠ g := by
  rintro b off rfl e
  subst e
  exact h rfl
/-- A block that lay there ahead of an append is another than the one it grows into. -/
theorem grown_ne {v' : Value} (hat : v'.ownBlock = v.ownBlock ∨ v'.ownBlock = some w.heap.size) (hv : v.ownBlock ≠ some g) (hg : g < w.heap.size) : v'.ownBlock ≠ some g := by
  rcases hat with h | h
  · rw [h]; exact hv
  · rw [h]; intro e; injection e with e; omega
/-- The block of a slice of a call's own that began later is none that lay there. -/
theorem Own.ne_old (h : Own w0 w e size v n ys) (hg : g < w0.heap.size) : v.ownBlock ≠ some g := by
  intro e
  have := h.base g e
  omega
end
end Go.Proofs.Ythgmjmecedhkoaa.Mem
