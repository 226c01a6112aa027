/-
  PLAIN LEMMAS ON WHAT A CODE DOES: how long a path becomes. No conditions beyond those that each theorem states. Nothing of the program is named here.
-/
import Derived.Test.YtlmkhnjdifamgaaModelA
namespace Go.Proofs.Ytlmkhnjdifamgaa.Model
open Go.ChangeShapes Go.WideShapes Go.ChangeAt Go.RowKit Mem Go.Proofs.Ytlmkhnjdifamgaa.Code

/-- How long a path becomes. -/
theorem partF_path (f : Nat) : ∀ (c : List Step) (s : St), (partF f c s).path.length ≤ s.path.length + c.length := by
  induction f with
  | zero => intro c s; show s.path.length ≤ _; omega
  | succ f ih =>
    intro c s
    cases c with
    | nil => show s.path.length ≤ _; omega
    | cons x c =>
      simp only [partF, List.length_cons]
      split
      · split
        · have := ih c (loaded s x.a x.b); have e : (loaded s x.a x.b).path = s.path := rfl; rw [e] at this; omega
        · show s.path.length ≤ _; omega
      split
      · have := ih c (setTo s x.a (tellM s x.t)); have e : (setTo s x.a (tellM s x.t)).path = s.path := rfl; rw [e] at this; omega
      split
      · split
        · have := ih c (stored s x.a (tellM s x.t)); have e : (stored s x.a (tellM s x.t)).path = s.path := rfl; rw [e] at this; omega
        · show s.path.length ≤ _; omega
      split
      · split
        · have := ih (c.drop x.a.toNat) s; rw [List.length_drop] at this; omega
        · have := ih c s; omega
      split
      · show s.path.length ≤ _; omega
      split
      · show s.path.length ≤ _; omega
      · have hU := ih (c.take x.a.toNat) (onPath s 1)
        have e1 : (onPath s 1).path.length = s.path.length + 1 := by show (s.path ++ [1]).length = _; simp
        rw [e1, List.length_take] at hU
        have h2 : ∀ r : St, r = (if (partF f (c.take x.a.toNat) (onPath s 1)).kind = 2 then partF f ((c.drop x.a.toNat).take x.b.toNat) (saw (onPath s 2) (partF f (c.take x.a.toNat) (onPath s 1)).seen) else partF f (c.take x.a.toNat) (onPath s 1)) →
            r.path.length ≤ s.path.length + 1 + (c.length - (c.length - (x.a.toNat + x.b.toNat))) := by
          rintro r rfl
          split
          · have hV := ih ((c.drop x.a.toNat).take x.b.toNat) (saw (onPath s 2) (partF f (c.take x.a.toNat) (onPath s 1)).seen)
            have e2 : (saw (onPath s 2) (partF f (c.take x.a.toNat) (onPath s 1)).seen).path.length = s.path.length + 1 := by show (s.path ++ [2]).length = _; simp
            rw [e2, List.length_take, List.length_drop] at hV
            omega
          · omega
        revert h2
        generalize (if (partF f (c.take x.a.toNat) (onPath s 1)).kind = 2 then partF f ((c.drop x.a.toNat).take x.b.toNat) (saw (onPath s 2) (partF f (c.take x.a.toNat) (onPath s 1)).seen) else partF f (c.take x.a.toNat) (onPath s 1)) = r
        intro h2
        have h3 := h2 r rfl
        split
        · have hR := ih (c.drop (x.a.toNat + x.b.toNat)) r
          rw [List.length_drop] at hR
          omega
        · omega
theorem part_path (c : List Step) (s : St) : (part c s).path.length ≤ s.path.length + c.length := partF_path _ c s
theorem either_path (U V : List Step) (s : St) : (eitherS U V s).path.length ≤ s.path.length + 1 + U.length + V.length := by
  unfold eitherS
  have hU := part_path U (onPath s 1)
  have e1 : (onPath s 1).path.length = s.path.length + 1 := by show (s.path ++ [1]).length = _; simp
  split
  · have hV := part_path V (saw (onPath s 2) (part U (onPath s 1)).seen)
    have e2 : (saw (onPath s 2) (part U (onPath s 1)).seen).path.length = s.path.length + 1 := by show (s.path ++ [2]).length = _; simp
    omega
  · omega
end Go.Proofs.Ytlmkhnjdifamgaa.Model
