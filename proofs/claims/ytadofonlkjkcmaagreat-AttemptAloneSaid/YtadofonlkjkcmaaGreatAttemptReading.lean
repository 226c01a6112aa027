/-
  PLAIN LEMMAS ON TRIES: what a step has read. No conditions beyond those that each theorem states.
-/
import Derived.Test.YtadofonlkjkcmaaGreatAttG
namespace Go.Proofs.YtadofonlkjkcmaaGreat.Attempt
open Go.ChangeShapes Go.WideShapes Go.ChangeAt Go.RowKit Mem Go.Proofs.YtadofonlkjkcmaaGreat.Code

theorem settle_same (n : Nat) : ∀ (fs : List Frame) (t : Try), (settleF n fs t).reads = t.reads ∧ (settleF n fs t).snap = t.snap := by
  intro fs
  induction fs with
  | nil => intro t; unfold settleF stop; split <;> exact ⟨rfl, rfl⟩
  | cons f fs ih =>
    intro t
    unfold settleF
    split
    · obtain ⟨h1, h2⟩ := ih { t with pc := f.fin, log := (Writes.keepS t.log).1 }
      exact ⟨h1, h2⟩
    · unfold stop; split <;> exact ⟨rfl, rfl⟩
/-- What a step has read. -/
def Reading (h : List Heap.Cell) (r : List Stripe.Rec) (t T : Try) : Prop :=
  T.snap = t.snap ∧ (T.reads = t.reads ∨ ∃ x : Reads.Read, T.reads = t.reads ++ [x] ∧ Heap.liveAt h x.cell = true ∧ x.value = Heap.valAt h x.cell ∧ recAt r x.cell = ⟨x.version, 0⟩)
theorem do_reading (t : Try) (s : Step) (h : List Heap.Cell) (r : List Stripe.Rec) : Reading h r t (doT t s h r) := by
  have same : ∀ u : Try, u.snap = t.snap → u.reads = t.reads → Reading h r t u := fun u h1 h2 => ⟨h1, .inl h2⟩
  unfold doT
  split
  · unfold loadT
    split
    · rename_i hl
      unfold liveT
      split
      · exact same _ rfl rfl
      · split
        · exact same _ rfl rfl
        · split
          · rename_i hc
            refine ⟨rfl, .inr ⟨⟨s.b, (recAt r s.b).version, Heap.valAt h s.b⟩, rfl, hl, rfl, ?_⟩⟩
            show recAt r s.b = ⟨(recAt r s.b).version, 0⟩
            have := hc.1
            cases hr : recAt r s.b with
            | mk v o => rw [hr] at this; simp only at this; rw [this]
          · exact same _ rfl rfl
    · exact same _ rfl rfl
  split
  · exact same _ rfl rfl
  split
  · unfold storeT; split <;> exact same _ rfl rfl
  split
  · unfold skipT; split <;> exact same _ rfl rfl
  split
  · unfold retryT; split <;> exact same _ rfl rfl
  split
  · exact same _ rfl rfl
  · exact same _ rfl rfl
theorem step_reading {c : List Step} {h : List Heap.Cell} {r : List Stripe.Rec} {t T : Try} {ok : Bool} (hS : stepS c h r t = (T, ok)) : Reading h r t T := by
  have same : Reading h r t t := ⟨rfl, .inl rfl⟩
  unfold stepS at hS
  split at hS
  · rename_i s hs
    split at hS
    · injection hS with e1 _
      rw [← e1]
      unfold moveS
      split
      · obtain ⟨h1, h2⟩ := settle_same c.length (doT t s h r).frames (doT t s h r)
        have h3 := do_reading t s h r
        unfold Reading settle at *
        rw [h1, h2]; exact h3
      · exact do_reading t s h r
    · injection hS with e1 _; rw [← e1]; exact same
  · injection hS with e1 _; rw [← e1]; exact same
theorem Reading.plain {h : List Heap.Cell} {r : List Stripe.Rec} {t T : Try} (hr : Reading h r t T) : t.reads.length ≤ T.reads.length ∧ T.reads.length ≤ t.reads.length + 1 ∧ (∀ j, j < t.reads.length → T.reads[j]? = t.reads[j]?) ∧
    (t.reads.length < T.reads.length → ∃ x : Reads.Read, T.reads[t.reads.length]? = some x ∧ Heap.liveAt h x.cell = true ∧ x.value = Heap.valAt h x.cell ∧ recAt r x.cell = ⟨x.version, 0⟩) := by
  rcases hr.2 with e | ⟨x, e, h1, h2, h3⟩
  · rw [e]; exact ⟨Nat.le_refl _, Nat.le_succ _, fun _ _ => rfl, fun h => absurd h (Nat.lt_irrefl _)⟩
  · rw [e]
    refine ⟨by simp, by simp, fun j hj => List.getElem?_append_left hj, fun _ => ⟨x, by rw [List.getElem?_append_right (Nat.le_refl _), Nat.sub_self]; rfl, h1, h2, h3⟩⟩
end Go.Proofs.YtadofonlkjkcmaaGreat.Attempt
