/-
  WHAT EACH FUNCTION OF THE LAYER term RETURNS, AS IT IS WRITTEN: Eval.
-/
import Derived.Test.YtilfkohckmknkaaTermCode3
import Derived.Test.YtilfkohckmknkaaInts
import Derived.Deep.RegionHeld3
namespace Go.Proofs.Ytilfkohckmknkaa.Term
open Go.ChangeShapes Go.WideShapes Go.ChangeAt Go.RowKit Mem

/-- What is left of a slice behind a place. -/
theorem rd_tail {w : World} {B : Option Addr} {n : Nat} {xs : List Int} (h : Rd w 1 B n (zs xs)) (k d : Nat) (hk : k ≤ n) (hd : n ≤ d) : Rd w 1 (if d = k then B else B.map (·.add k)) (n - k) (zs (xs.drop k)) := by
  have hl := zs_len h
  refine ⟨by unfold zs; rw [flat_len zc_len, List.length_drop, hl], fun h0 => ?_⟩
  obtain ⟨b, off, rfl, hc⟩ := h.2 (by omega)
  rw [if_neg (by omega)]
  refine ⟨b, off + k, by simp [Mem.add_plain], fun j u hu => ?_⟩
  have e : zs xs = zs (xs.take k) ++ zs (xs.drop k) := by rw [← zs_app, List.take_append_drop]
  rw [Nat.add_assoc]
  refine hc (k + j) u ?_
  have hlk : (zs (xs.take k)).length = k := by unfold zs; rw [flat_len zc_len, List.length_take, hl]; omega
  rw [e, List.getElem?_append_right (by omega), hlk, show k + j - k = j from by omega]
  exact hu
theorem told_v (h : List Heap.Cell) (rg : List Int) (hr : Heap.rightB h = true) (o : Op) (ho : oneB o = true) (ys : List Int) (v : Int) (hv : tellS h rg o ys = some v) : Heap.vB v = true := by
  have h1 := one_kind o ho
  rcases (by omega : takes o.kind = 0 ∨ takes o.kind = 1 ∨ takes o.kind = 2 ∨ 2 < takes o.kind) with h0 | h0 | h0 | h0
  · have e : tellS h rg o ys = tellS h rg o [] := by
      have h3 := takes_0 _ h0
      unfold tellS
      rcases (by omega : o.kind = 1 ∨ o.kind = 2 ∨ o.kind = 3) with e | e | e
      all_goals simp [e]
    have := val_v h rg hr (.leaf o) h0 (by simpa [Tree.ops] using ho)
    unfold Tree.val at this
    rw [← e, hv] at this
    exact this
  · have h11 := takes_1 _ h0
    unfold tellS at hv
    rw [if_neg (by omega), if_neg (by omega), if_neg (by omega), if_pos h11] at hv
    injection hv with e; rw [← e]; exact truth_v _
  · have h2 := takes_2 _ h0
    unfold tellS at hv
    rw [if_neg (by omega), if_neg (by omega), if_neg (by omega), if_neg (by omega)] at hv
    injection hv with e; rw [← e]; exact two_v _ _ _
  · have := takes_le o.kind; omega
def runOn (h : List Heap.Cell) (rg : List Int) (t : List Op) (ys : List Int) : Option Int → Option (List Int)
  | none => none
  | some v => run h rg t (ys ++ [v])
def outOf : Option (List Int) → Int × Int
  | some (v :: _) => (v, 0)
  | _ => (0, 3)
theorem run_cons (h : List Heap.Cell) (rg : List Int) (o : Op) (t : List Op) (xs : List Int) : run h rg (o :: t) xs = runOn h rg t (xs.take (xs.length - takes o.kind)) (tellS h rg o (xs.drop (xs.length - takes o.kind))) := by
  unfold runOn; cases hv : tellS h rg o (xs.drop (xs.length - takes o.kind)) <;> simp only [run, hv]

end Go.Proofs.Ytilfkohckmknkaa.Term
