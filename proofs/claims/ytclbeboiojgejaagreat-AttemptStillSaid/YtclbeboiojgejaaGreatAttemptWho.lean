/-
  PLAIN LEMMAS ON TRIES: who tries changes nothing but that. No conditions beyond those that each theorem states.
-/
import Derived.Test.YtclbeboiojgejaaGreatAttG
namespace Go.Proofs.YtclbeboiojgejaaGreat.Attempt
open Mem Go.Proofs.YtclbeboiojgejaaGreat.Code

def wh (t : Try) (o : Int) : Try := { t with who := o }
theorem wh_kind (t : Try) (o : Int) : (wh t o).kind = t.kind := rfl
theorem settle_who (n : Nat) (o : Int) : ∀ (fs : List Frame) (t : Try), settleF n fs (wh t o) = wh (settleF n fs t) o := by
  intro fs
  induction fs with
  | nil =>
    intro t
    unfold settleF stop wh
    by_cases h : t.pc = n
    · rw [if_pos h, if_pos h]
    · rw [if_neg h, if_neg h]
  | cons f fs ih =>
    intro t
    unfold settleF
    by_cases h : f.mid = t.pc
    · rw [if_pos (show f.mid = (wh t o).pc from h), if_pos h]
      exact ih { t with pc := f.fin, log := (Writes.keepS t.log).1 }
    · rw [if_neg (show ¬ f.mid = (wh t o).pc from h), if_neg h]
      unfold stop wh
      by_cases h2 : t.pc = n
      · rw [if_pos h2, if_pos h2]
      · rw [if_neg h2, if_neg h2]
theorem do_who (t : Try) (s : Step) (h : List Heap.Cell) (r : List Stripe.Rec) (o : Int) : doT (wh t o) s h r = wh (doT t s h r) o := by
  unfold doT
  split
  · unfold loadT
    split
    · unfold liveT
      show (if (Writes.getS t.log s.b).2 = true then _ else _) = _
      split
      · rfl
      · show (match Reads.findS t.reads s.b with | some y => _ | none => _) = _
        cases Reads.findS t.reads s.b with
        | some y => rfl
        | none =>
          simp only
          by_cases hc : (recAt r s.b).owner = 0 ∧ (recAt r s.b).version ≤ t.snap
          · rw [if_pos (show (recAt r s.b).owner = 0 ∧ (recAt r s.b).version ≤ (wh t o).snap from hc), if_pos hc]; rfl
          · rw [if_neg (show ¬ ((recAt r s.b).owner = 0 ∧ (recAt r s.b).version ≤ (wh t o).snap) from hc), if_neg hc]; rfl
    · rfl
  split
  · rfl
  split
  · unfold storeT
    split
    · rfl
    · rfl
  split
  · unfold skipT
    show (if tellT t s.t h = 0 then _ else _) = _
    by_cases h0 : tellT t s.t h = 0
    · rw [if_pos h0, if_pos h0]; rfl
    · rw [if_neg h0, if_neg h0]; rfl
  split
  · unfold retryT
    show (match t.frames with | [] => _ | f :: fs => _) = _
    cases t.frames with
    | nil => rfl
    | cons f fs => rfl
  split
  · rfl
  · rfl
theorem step_who (c : List Step) (h : List Heap.Cell) (r : List Stripe.Rec) (t : Try) (o : Int) : stepS c h r (wh t o) = (wh (stepS c h r t).1 o, (stepS c h r t).2) := by
  unfold stepS
  show (match c[t.pc]? with | some s => _ | none => _) = _
  cases c[t.pc]? with
  | none => rfl
  | some s =>
    simp only
    have e : mayB h r (wh t o) = mayB h r t := rfl
    rw [e]
    split
    · have e2 : moveS c.length s h r (wh t o) = wh (moveS c.length s h r t) o := by
        unfold moveS
        rw [do_who, wh_kind]
        split
        · exact settle_who c.length o _ _
        · rfl
      rw [e2]
    · rfl
theorem runF_who (c : List Step) (h : List Heap.Cell) (r : List Stripe.Rec) (o : Int) : ∀ (f : Nat) (t : Try) (k : Nat), runF c h r f (wh t o) k = (wh (runF c h r f t k).1 o, (runF c h r f t k).2) := by
  intro f
  induction f with
  | zero => intro t k; rfl
  | succ f ih =>
    intro t k
    show (if t.kind = 0 then (if (stepS c h r (wh t o)).2 = true then runF c h r f (stepS c h r (wh t o)).1 (k + 1) else (wh t o, k, false)) else (wh t o, k, true)) =
      (wh (if t.kind = 0 then (if (stepS c h r t).2 = true then runF c h r f (stepS c h r t).1 (k + 1) else (t, k, false)) else (t, k, true)).1 o, (if t.kind = 0 then (if (stepS c h r t).2 = true then runF c h r f (stepS c h r t).1 (k + 1) else (t, k, false)) else (t, k, true)).2)
    rw [step_who]
    by_cases hk : t.kind = 0
    · rw [if_pos hk, if_pos hk]
      by_cases hs : (stepS c h r t).2 = true
      · rw [if_pos hs, if_pos hs]; exact ih _ _
      · rw [if_neg hs, if_neg hs]
    · rw [if_neg hk, if_neg hk]
/-- A run of another one who tries. -/
theorem run_who (c : List Step) (h : List Heap.Cell) (r : List Stripe.Rec) (t : Try) (o : Int) : runS c h r (wh t o) = (wh (runS c h r t).1 o, (runS c h r t).2) := by
  unfold runS
  rw [runF_who]
  split
  · rfl
  · rfl
theorem first_who (c : List Step) (who other snap : Int) : first c other snap = wh (first c who snap) other := settle_who c.length other [] ⟨who, snap, 0, List.replicate 8 0, [], [], ⟨[], []⟩, [], 0, 0⟩
end Go.Proofs.YtclbeboiojgejaaGreat.Attempt
