/-
  PLAIN LEMMAS ON TABLES. No conditions. Nothing of the program is named here.
-/
import Derived.Test.YtemfkjcfafenjaaStripePlain
namespace Go.Proofs.Ytemfkjcfafenjaa.Stripe
open Mem

theorem of_len (t : List Rec) (l : List Int) : (ofS t l).length ≤ t.length := by
  unfold ofS; split
  · exact pick_len _ _
  · simp
theorem held_len' (t : List Rec) (who : Int) : (heldS t who).length ≤ t.length := by
  unfold heldS; split
  · exact pick_len _ _
  · simp
theorem new_yes (n : Int) (h : 1 ≤ n ∧ n ≤ 16) : newS n = (List.replicate n.toNat ⟨0, 0⟩, 0) := by unfold newS; rw [if_pos h]
theorem new_no (n : Int) (h : ¬ (1 ≤ n ∧ n ≤ 16)) : newS n = ([], 1) := by unfold newS; rw [if_neg h]
end Go.Proofs.Ytemfkjcfafenjaa.Stripe
