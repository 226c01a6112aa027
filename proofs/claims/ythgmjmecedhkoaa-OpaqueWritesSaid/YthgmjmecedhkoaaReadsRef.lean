/-
  WHAT THE DOCUMENT'S ANSWER FOR LAYER 5 RETURNS: one, Right, Find, Same.
-/
import Derived.Test.YthgmjmecedhkoaaRef02c
import Derived.Test.YthgmjmecedhkoaaRef03
import Derived.Test.YthgmjmecedhkoaaReadsPlain
import Derived.Test.YthgmjmecedhkoaaMem2
import Derived.StillTailTactics
import Derived.Shelf.SlSortCmp.QuietGrown
namespace Go.Proofs.Ythgmjmecedhkoaa.Reads
open Go.ChangeShapes Go.WideShapes Go.ChangeAt Go.RowKit Mem

set_option maxRecDepth 100000 in
theorem tRead : SliceT Try.prog 44 43 3 24 := SliceT.mk_ (z := .agg #[.int .i64 0, .int .i64 0, .int .i64 0]) Try.underlying44 (by kernel_rfl) rfl (by decide)

/-- The world has drawn, and has new blocks behind it: nothing else. -/
def Grew (w w' : World) : Prop := ∃ q os, w' = Sort.grow (w.drewN q) os
theorem Grew.refl (w : World) : Grew w w := ⟨0, #[], by rw [Sort.grow_empty]; rfl⟩
theorem Grew.alloc {w w1 : World} (h : Grew w w1) (o : Obj) : Grew w (w1.alloc o) := by
  obtain ⟨q, os, rfl⟩ := h
  exact ⟨q, os ++ #[o], by rw [Sort.alloc_eq_grow, Sort.grow_grow]⟩
theorem Grew.drewN {w w1 : World} (h : Grew w w1) (m : Nat) : Grew w (w1.drewN m) := by
  obtain ⟨q, os, rfl⟩ := h
  refine ⟨q + m, os, ?_⟩
  show Sort.grow ((w.drewN q).drewN m) os = _
  rw [World.drewN_drewN]
theorem Grew.trans {w w1 w2 : World} (h : Grew w w1) (k : Grew w1 w2) : Grew w w2 := by
  obtain ⟨q, os, rfl⟩ := k
  obtain ⟨q', os', e⟩ := h.drewN q
  exact ⟨q', os' ++ os, by rw [e, Sort.grow_grow]⟩
theorem Grew.below {w w' : World} (h : Grew w w') : Below w.heap.size w w' := by
  obtain ⟨q, os, rfl⟩ := h
  exact ⟨rfl, rfl, rfl, by simp [Sort.grow], fun i hi => by exact Sort.heap_grow_old (w.drewN q) os hi⟩
/-- What is returned: a truth; the world has grown. -/
def RetBG (w : World) (b : Bool) (e : Ending) (w' : World) : Prop := e = .returned (.bool b) ∧ Grew w w'
theorem RetBG.toB {w : World} {b : Bool} {e : Ending} {w' : World} (h : RetBG w b e w') : RetB w b e w' := ⟨h.1, h.2.below⟩



theorem cells_read {w : World} {b off n : Nat} {l : List Read} (hr : Rd w 3 (some ⟨b, off, none⟩) n (ds l)) {k : Nat} {x : Read} (hx : l[k]? = some x) :
    w.cell? ⟨b, off + k * 3, none⟩ = some (.int .i64 x.cell) ∧ w.cell? ⟨b, off + k * 3 + 1, none⟩ = some (.int .i64 x.version) ∧ w.cell? ⟨b, off + k * 3 + 2, none⟩ = some (.int .i64 x.value) := by
  have hl := ds_len hr
  obtain ⟨b', off', y, e, hy, h0, h1, h2⟩ := at_read hr k (by have := (List.getElem?_eq_some_iff.1 hx).1; omega)
  injection e with e
  injection e with e1 e2
  subst e1 e2
  rw [hx] at hy
  injection hy with hy
  subst hy
  exact ⟨h0, h1, h2⟩
theorem has_at (l : List Read) (j k : Nat) (y : Read) (hy : l[j]? = some y) (hj : j < k) : hasB (l.take k) y.cell = true := by
  unfold hasB
  rw [List.any_eq_true]
  exact ⟨y, List.mem_of_getElem? (i := j) (by rw [List.getElem?_take_of_lt hj]; exact hy), by simp⟩



end Go.Proofs.Ythgmjmecedhkoaa.Reads
