/-
  WHAT THE DOCUMENT'S ANSWER FOR LAYER 15 RETURNS: Right, Find, Add.
-/
import Derived.Test.YtddgdhaioomnnaaSleepRef
import Derived.Test.YtddgdhaioomnnaaMemA
import Derived.Deep.RegionHeld3
namespace Go.Proofs.Ytddgdhaioomnnaa.Sleep
open Go.ChangeShapes Go.WideShapes Go.ChangeAt Go.RowKit Mem
open Heap (Write)

theorem tRSleeper : SliceT Try.prog 50 76 5 72 := SliceT.mk_ (z := .agg #[.int .i64 0, .int .i64 0, .int .i64 0, .slice none 0 0, .slice none 0 0]) Try.underlying50 (by kernel_rfl) rfl (by decide)

/-- The place of somebody, or -1. -/
def IsAt (L : List RawS) (c p : Int) : Prop := (p = -1 ∧ hasB (cc L) c = false) ∨ ∃ (k : Nat) (x : RawS), p = (k : Nat) ∧ L[k]? = some x ∧ x.who = c ∧ findG (cc L) c = some (st x)

def lowR (c : Int) (L : List RawS) : List RawS := L.filter (fun x => decide (x.who < c))
def highR (c : Int) (L : List RawS) : List RawS := L.filter (fun x => !decide (x.who < c))
theorem ins_cc (L : List RawS) (x : RawS) : cc (lowR x.who L ++ x :: highR x.who L) = insS (cc L) (st x) := by
  unfold insS cc lowR highR
  rw [List.map_append, List.map_cons, List.filter_map, List.filter_map]
  rfl
theorem filt_take (L : List RawS) (q : RawS → Bool) (k : Nat) (x : RawS) (hx : L[k]? = some x) : (L.take (k + 1)).filter q = (L.take k).filter q ++ (if q x = true then [x] else []) := by
  rw [List.take_add_one, hx, List.filter_append]
  by_cases h : q x = true
  · simp [h]
  · simp [h]
end Go.Proofs.Ytddgdhaioomnnaa.Sleep
