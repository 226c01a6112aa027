/-
  WHAT EACH FUNCTION OF THE LAYER heap RETURNS, AS IT IS WRITTEN: New, Live, Alloc, Free, Put. So the laws' premise 'Said' holds.
-/
import Derived.Test.YthgmjmecedhkoaaHeapCode
namespace Go.Proofs.Ythgmjmecedhkoaa.Heap
open Go.ChangeShapes Go.WideShapes Go.ChangeAt Go.RowKit Mem

theorem made_two (a b : Value) (n : Nat) : (madeCells #[a, b] (n * 2)).toList = (List.replicate n ()).flatMap (fun _ => [a, b]) := by
  unfold madeCells
  rw [Array.toList_map, Array.toList_range]
  induction n with
  | zero => rfl
  | succ n ih =>
    have e : (n + 1) * 2 = n * 2 + 1 + 1 := by omega
    rw [e, List.range_succ, List.range_succ, List.map_append, List.map_append, ih, List.replicate_succ', List.flatMap_append]
    have e1 : n * 2 % 2 = 0 := by omega
    have e2 : (n * 2 + 1) % 2 = 1 := by omega
    simp [e1, e2]
set_option maxRecDepth 100000 in
theorem cs_new (n : Nat) : (madeCells (Value.agg #[.bool false, .int .i64 0]).cells (n * 2)).toList = cs (List.replicate n ⟨false, 0⟩) := by
  have h : (Value.agg #[.bool false, .int .i64 0]).cells = #[.bool false, .int .i64 0] := by first | rfl | kernel_rfl | simp [Value.cells]
  rw [h, made_two]
  induction n with
  | zero => rfl
  | succ n ih => simp [cs, cc, List.replicate_succ] at *; exact ih


set_option maxRecDepth 100000 in
theorem tIntS : SliceT Try.prog 37 3 1 8 := SliceT.mk_ (z := .int .i64 0) Try.underlying37 (by kernel_rfl) rfl (by decide)
def lives (h : List Cell) (k : Nat) : List Nat := (List.range k).filter (fun k => liveAt h (k : Int))
theorem lives_yes (h : List Cell) (k : Nat) (hl : liveAt h (k : Int) = true) : lives h (k + 1) = lives h k ++ [k] := by
  unfold lives; rw [List.range_succ, List.filter_append]; simp [hl]
theorem lives_no (h : List Cell) (k : Nat) (hl : liveAt h (k : Int) = false) : lives h (k + 1) = lives h k := by
  unfold lives; rw [List.range_succ, List.filter_append]; simp [hl]
theorem lives_len (h : List Cell) (k : Nat) : (lives h k).length ≤ k := by
  unfold lives; have := List.length_filter_le (fun k : Nat => liveAt h (k : Int)) (List.range k); simpa using this
theorem is_app (a b : List Nat) : is (a ++ b) = is a ++ is b := by unfold is; rw [List.flatMap_append]


end Go.Proofs.Ythgmjmecedhkoaa.Heap
