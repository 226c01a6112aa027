/-
  CODES THAT ARE PUT TOGETHER: what appends ask.
-/
import Derived.Test.YtcjooibadbhjaaaCodeAwake
import Derived.Test.YtcjooibadbhjaaaCodeMore
namespace Go.Proofs.Ytcjooibadbhjaaa.Code
open Go.ChangeShapes Go.WideShapes Go.ChangeAt Go.RowKit Mem

theorem own_built (w : World) (e : TypeId) (size n : Nat) (xs : List Value) (h : xs.length = n * size) (hn : n ≤ 1000000) : Own w (w.alloc (.cells xs.toArray e)) e size (.slice (some ⟨w.heap.size, 0, none⟩) n n) n xs :=
  ⟨⟨h, .inr ⟨w.heap.size, n, xs.toArray, rfl, Nat.le_refl _, heap_alloc_new w _, Nat.le_refl _, by unfold maxLen; omega, by simp [h], by rw [← h]; simp⟩⟩, bl_alloc (Below.refl _ _) _⟩
theorem own_emptyAt (w : World) (e : TypeId) (size : Nat) {g : Nat} (hg : w.heap.size = g) : Own w (w.alloc (.cells #[] e)) e size (.slice (some ⟨g, 0, none⟩) 0 0) 0 [] := by subst hg; exact Own.empty w e size
theorem own_zero {w0 w : World} {e size n : Nat} {v : Value} {ys : List Value} (h : Own w0 w e size v (0 + n) ([] ++ ys)) : Own w0 w e size v n ys := by
  rw [Nat.zero_add, List.nil_append] at h; exact h
theorem own_eq {w0 w : World} {e size n : Nat} {v : Value} {xs ys : List Value} (h : Own w0 w e size v n xs) (he : xs = ys) : Own w0 w e size v n ys := he ▸ h
theorem Lim.app {a b : List Raw} (ha : Lim a) (hb : Lim b) : Lim (a ++ b) := by
  intro r hr
  rcases List.mem_append.1 hr with hr | hr
  · exact ha r hr
  · exact hb r hr
theorem bares_ss (l : List (Int × Int × Int)) : ss (bares l) = plain l := by unfold ss bares plain; rw [List.map_map]; rfl
theorem small_val (l : List Raw) (n : Nat) (hl : l.length = n) (h : smallB l = true) : smallI l = (n : Int) := by unfold smallI; rw [if_pos h, hl]
theorem small_neg (l : List Raw) (h : smallB l = false) : smallI l = -1 := by unfold smallI; rw [h]; rfl
end Go.Proofs.Ytcjooibadbhjaaa.Code
