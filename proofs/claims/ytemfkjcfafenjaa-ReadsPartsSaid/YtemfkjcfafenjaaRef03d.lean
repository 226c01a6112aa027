/-
  WHAT THE DOCUMENT'S ANSWER FOR LAYER 3 RETURNS: Let, Stamp.
-/
import Derived.Test.YtemfkjcfafenjaaRef03c
namespace Go.Proofs.Ytemfkjcfafenjaa.Stripe
open Go.ChangeShapes Go.WideShapes Go.ChangeAt Go.RowKit Mem

theorem held_at (t : List Rec) (who : Int) (k : Nat) (x : Rec) (hk : t[k]? = some x) : (heldS t who).any (fun z => z == (k : Int)) = (rightB t && whoB who && (x.owner == who)) := by
  have hl : k < t.length := (List.getElem?_eq_some_iff.1 hk).1
  unfold heldS
  split
  · rename_i h; rw [pick_any _ _ _ hl, h]; unfold holds; rw [hk]; simp
  · rename_i h; have : (rightB t && whoB who) = false := by simpa using h
    rw [this]; rfl
theorem held_len (t : List Rec) (who : Int) : (heldS t who).length ≤ t.length := by
  unfold heldS; split
  · exact pick_len _ _
  · simp
theorem let_len (t : List Rec) (who : Int) : (letS t who).length = t.length := by unfold letS; split <;> simp
theorem let_at (t : List Rec) (who : Int) (k : Nat) (x : Rec) (hk : t[k]? = some x) : (letS t who)[k]? = some (if (rightB t && whoB who && (x.owner == who)) = true then ⟨x.version, 0⟩ else x) := by
  unfold letS
  split
  · rename_i h
    rw [List.getElem?_map, hk, h]
    simp only [Option.map_some, let1, Bool.true_and, beq_iff_eq]
  · rename_i h; have : (rightB t && whoB who) = false := by simpa using h
    rw [this, hk]; simp


end Go.Proofs.Ytemfkjcfafenjaa.Stripe
