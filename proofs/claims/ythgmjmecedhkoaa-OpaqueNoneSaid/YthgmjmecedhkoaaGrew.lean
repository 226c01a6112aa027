/-
  WORDS ON MEMORY, of my own: a world that has drawn and grown, and no more. No conditions beyond those that each theorem states. Nothing of the program is named here.
-/
import Derived.Test.YthgmjmecedhkoaaOwn
import Derived.StillTailTactics
import Derived.Shelf.SlSortCmp.QuietGrown
namespace Go.Proofs.Ythgmjmecedhkoaa.Mem
open Go.ChangeShapes Go.WideShapes Go.ChangeAt Go.RowKit

/-- The world has drawn, and has new blocks behind it: nothing else. -/
def Grew (w w' : World) : Prop := ∃ q os, w' = Sort.grow (w.drewN q) os
theorem Grew.refl (w : World) : Grew w w := ⟨0, #[], by rw [Sort.grow_empty]; rfl⟩
theorem Grew.alloc {w w1 : World} (h : Grew w w1) (o : Obj) : Grew w (w1.alloc o) := by
  obtain ⟨q, os, rfl⟩ := h
  exact ⟨q, os ++ #[o], by rw [Sort.alloc_eq_grow, Sort.grow_grow]⟩
theorem Grew.drewN {w w1 : World} (h : Grew w w1) (m : Nat) : Grew w (w1.drewN m) := by
  obtain ⟨q, os, rfl⟩ := h
  refine ⟨q + m, os, ?_⟩
  show Sort.grow ((w.drewN q).drewN m) os = _
  rw [World.drewN_drewN]
theorem Grew.trans {w w1 w2 : World} (h : Grew w w1) (k : Grew w1 w2) : Grew w w2 := by
  obtain ⟨q, os, rfl⟩ := k
  obtain ⟨q', os', e⟩ := h.drewN q
  exact ⟨q', os' ++ os, by rw [e, Sort.grow_grow]⟩
theorem Grew.below {w w' : World} (h : Grew w w') : Below w.heap.size w w' := by
  obtain ⟨q, os, rfl⟩ := h
  exact ⟨rfl, rfl, rfl, by simp [Sort.grow], fun i hi => by exact Sort.heap_grow_old (w.drewN q) os hi⟩
/-- What is returned: a truth; the world has grown. -/
def RetBG (w : World) (b : Bool) (e : Ending) (w' : World) : Prop := e = .returned (.bool b) ∧ Grew w w'
theorem RetBG.toB {w : World} {b : Bool} {e : Ending} {w' : World} (h : RetBG w b e w') : RetB w b e w' := ⟨h.1, h.2.below⟩
/-- The slice of the call's own has room for what it holds. -/
theorem own_cap {w0 w : World} {e size n d m : Nat} {B : Option Addr} {xs : List Value} (h : Own w0 w e size (.slice B n d) m xs) : n = m ∧ m ≤ d ∧ Rd w size B m xs := by
  rcases h.1.2 with ⟨hv, hn⟩ | ⟨g, cap, cur, hv, _, _, hc, _⟩
  · injection hv with e1 e2 e3
    subst e1 e2 e3 hn
    have hx : xs = [] := List.eq_nil_of_length_eq_zero (by simpa using h.1.1)
    subst hx
    exact ⟨rfl, Nat.le_refl _, Rd.none_⟩
  · injection hv with e1 e2 e3
    subst e1 e2 e3
    exact ⟨rfl, hc, own_rd h⟩
theorem own_room {w0 w : World} {e size n : Nat} {v : Value} {xs : List Value} (h : Own w0 w e size v n xs) : ∃ B d, v = .slice B n d ∧ n ≤ d ∧ Rd w size B n xs := by
  obtain ⟨B, d, rfl, _⟩ := h.form
  obtain ⟨_, h2, h3⟩ := own_cap h
  exact ⟨B, d, rfl, h2, h3⟩
section
variable {τ : Type} {K : Nat} {code : τ → List Value}
/-- The first ones of a slice. -/
theorem rd_first (hcode : ∀ x, (code x).length = K) (hK : 0 < K) {w : World} {A : Option Addr} {n : Nat} {l : List τ} (hr : Rd w K A n (l.flatMap code)) (k : Nat) (hk : k ≤ n) : Rd w K A k ((l.take k).flatMap code) := by
  have hl := Rd.len hcode hr hK
  refine ⟨?_, fun h0 => ?_⟩
  · rw [flat_len hcode, List.length_take, hl, Nat.min_eq_left hk]
  · obtain ⟨b, off, e, hc⟩ := hr.2 (by omega)
    refine ⟨b, off, e, fun j u hu => hc j u ?_⟩
    have e2 : l.flatMap code = (l.take k).flatMap code ++ (l.drop k).flatMap code := by rw [← List.flatMap_append, List.take_append_drop]
    rw [e2, List.getElem?_append_left (List.getElem?_eq_some_iff.1 hu).1]; exact hu
end
end Go.Proofs.Ythgmjmecedhkoaa.Mem
