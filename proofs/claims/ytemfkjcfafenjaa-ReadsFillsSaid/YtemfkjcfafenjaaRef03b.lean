/-
  WHAT THE DOCUMENT'S ANSWER FOR LAYER 3 RETURNS: Of, Held.
-/
import Derived.Test.YtemfkjcfafenjaaRef03
namespace Go.Proofs.Ytemfkjcfafenjaa.Stripe
open Go.ChangeShapes Go.WideShapes Go.ChangeAt Go.RowKit Mem

theorem hit_any (n : Nat) (l : List Int) (k : Nat) : (l.map (fun c => c % (n : Int))).any (fun x => x == (k : Int)) = hit n l k := by
  unfold hit; rw [List.any_map]
  congr 1
theorem own_pick {w0 w : World} {e : Nat} {v : Value} {p : Nat → Bool} {k : Nat} (h : Own w0 w e 1 v ((pick p k).length + 1) (zs (pick p k) ++ [.int .i64 (k : Int)])) (hp : p k = true) :
    Own w0 w e 1 v (pick p (k + 1)).length (zs (pick p (k + 1))) := by
  rw [pick_yes p k hp, zs_app, List.length_append]; exact h


end Go.Proofs.Ytemfkjcfafenjaa.Stripe
