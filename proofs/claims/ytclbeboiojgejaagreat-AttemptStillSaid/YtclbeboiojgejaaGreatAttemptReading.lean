/-
  PLAIN LEMMAS ON TRIES: what a step has read. No conditions beyond those that each theorem states.
-/
import Derived.Test.YtclbeboiojgejaaGreatAttG
namespace Go.Proofs.YtclbeboiojgejaaGreat.Attempt
open Go.ChangeShapes Go.WideShapes Go.ChangeAt Go.RowKit Mem Go.Proofs.YtclbeboiojgejaaGreat.Code

/-- What a step has read. -/
def Reading (h : List Heap.Cell) (r : List Stripe.Rec) (t T : Try) : Prop :=
  T.snap = t.snap ∧ (T.reads = t.reads ∨ ∃ x : Reads.Read, T.reads = t.reads ++ [x] ∧ Heap.liveAt h x.cell = true ∧ x.value = Heap.valAt h x.cell ∧ recAt r x.cell = ⟨x.version, 0⟩)
theorem Reading.plain {h : List Heap.Cell} {r : List Stripe.Rec} {t T : Try} (hr : Reading h r t T) : t.reads.length ≤ T.reads.length ∧ T.reads.length ≤ t.reads.length + 1 ∧ (∀ j, j < t.reads.length → T.reads[j]? = t.reads[j]?) ∧
    (t.reads.length < T.reads.length → ∃ x : Reads.Read, T.reads[t.reads.length]? = some x ∧ Heap.liveAt h x.cell = true ∧ x.value = Heap.valAt h x.cell ∧ recAt r x.cell = ⟨x.version, 0⟩) := by
  rcases hr.2 with e | ⟨x, e, h1, h2, h3⟩
  · rw [e]; exact ⟨Nat.le_refl _, Nat.le_succ _, fun _ _ => rfl, fun h => absurd h (Nat.lt_irrefl _)⟩
  · rw [e]
    refine ⟨by simp, by simp, fun j hj => List.getElem?_append_left hj, fun _ => ⟨x, by rw [List.getElem?_append_right (Nat.le_refl _), Nat.sub_self]; rfl, h1, h2, h3⟩⟩
end Go.Proofs.YtclbeboiojgejaaGreat.Attempt
