/-
  WHAT THE DOCUMENT'S ANSWER FOR LAYER 3 RETURNS: Lock, Let, Stamp.
-/
import Derived.Test.YtemfkjcfafenjaaRef03b
namespace Go.Proofs.Ytemfkjcfafenjaa.Stripe
open Go.ChangeShapes Go.WideShapes Go.ChangeAt Go.RowKit Mem

theorem lockAll_at (t : List Rec) (who : Int) (l : List Int) (k : Nat) (x : Rec) (hk : t[k]? = some x) : (lockAll t who l)[k]? = some (lock1 t.length who l k x) := by
  unfold lockAll; rw [List.getElem?_mapIdx, hk]; rfl
theorem lockAll_len (t : List Rec) (who : Int) (l : List Int) : (lockAll t who l).length = t.length := by unfold lockAll; simp
theorem may_at (t : List Rec) (who : Int) (l : List Int) (k : Nat) (x : Rec) (hk : t[k]? = some x) : (t.mapIdx (may1 t.length who l))[k]? = some (may1 t.length who l k x) := by
  rw [List.getElem?_mapIdx, hk]; rfl

end Go.Proofs.Ytemfkjcfafenjaa.Stripe
