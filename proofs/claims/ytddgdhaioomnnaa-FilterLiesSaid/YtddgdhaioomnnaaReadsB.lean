/-
  WHAT EACH FUNCTION OF THE LAYER reads RETURNS, AS IT IS WRITTEN: Cells, Same.
-/
import Derived.Test.YtddgdhaioomnnaaReadsA
import Derived.Test.YtddgdhaioomnnaaHeapA
import Derived.Deep.RegionHeld3
import Derived.Test.YtddgdhaioomnnaaSort
import Derived.Sort.OwnSortedInts
namespace Go.Proofs.Ytddgdhaioomnnaa.Reads
open Go.ChangeShapes Go.WideShapes Go.ChangeAt Go.RowKit Mem

/-- A read, as a value. -/
def rv (x : Read) : Value := .agg #[.int .i64 x.cell, .int .i64 x.version, .int .i64 x.value]
/-- What is returned: a read, and whether there is one. -/
def RetR (w : World) (r : Read × Bool) (e : Ending) (w' : World) : Prop :=
  e = .returned (.tuple #[.agg #[.int .i64 r.1.cell, .int .i64 r.1.version, .int .i64 r.1.value], .bool r.2]) ∧ Below w.heap.size w w'
/-- What is returned: a slice that reads as a list of cells and has room for it, and an error's number. -/
def RetSEC (w : World) (K n : Nat) (xs : List Value) (f : Int) (e : Ending) (w' : World) : Prop :=
  ∃ B d, n ≤ d ∧ e = .returned (.tuple #[.slice B n d, .int .i64 f]) ∧ Rd w' K B n xs ∧ Below w.heap.size w w'

theorem cells_one : cellsS [⟨3, 4, 5⟩] = [3] := by
  unfold cellsS
  rw [if_pos (by decide)]
  exact sort_of _ _ (List.Perm.refl _) (by simp)


end Go.Proofs.Ytddgdhaioomnnaa.Reads

namespace Go.Proofs.Ytddgdhaioomnnaa.Reads
open Go.ChangeShapes Go.WideShapes Go.ChangeAt Go.RowKit Mem

set_option maxRecDepth 100000 in
theorem tick_any (n : Int) (w : World) : Calls Try.prog 39 #[.int .i64 n] w fun e w' => e = .returned (.bool (timeB n)) ∧ w = w' := by
  by_cases h1 : 0 ≤ n
  all_goals by_cases h2 : n ≤ 2147483647
  all_goals
    go_enter Try.func39, Try.ntmps39
    go_wp2
    go_ret
    exact ⟨ret_bool (by unfold timeB; simp [h1, h2]), rfl⟩


def orNo : Option Read → Read × Bool
  | some x => (x, true)
  | none => (⟨0, 0, 0⟩, false)
theorem findR_yes (l : List Read) (c : Int) (h : rightB l = true) : findR l c = orNo (findS l c) := by
  unfold findR; rw [if_pos h]; cases findS l c <;> rfl
theorem findR_no (l : List Read) (c : Int) (h : rightB l = false) : findR l c = orNo none := by
  unfold findR; rw [h]; rfl

end Go.Proofs.Ytddgdhaioomnnaa.Reads

namespace Go.Proofs.Ytddgdhaioomnnaa.Reads
open Go.ChangeShapes Go.WideShapes Go.ChangeAt Go.RowKit Mem

end Go.Proofs.Ytddgdhaioomnnaa.Reads

namespace Go.Proofs.Ytddgdhaioomnnaa.Reads
open Go.ChangeShapes Go.WideShapes Go.ChangeAt Go.RowKit Mem



theorem own_room {w0 w : World} {e size n : Nat} {v : Value} {xs : List Value} (h : Own w0 w e size v n xs) : ∃ B d, v = .slice B n d ∧ n ≤ d ∧ Rd w size B n xs := by
  obtain ⟨B, d, hv, hr⟩ := h.form
  refine ⟨B, d, hv, ?_, hr⟩
  rcases h.1.2 with ⟨h1, h2⟩ | ⟨g, cap, cur, h1, _, _, h2, _⟩
  · omega
  · rw [hv] at h1; injection h1 with _ _ h3; omega

end Go.Proofs.Ytddgdhaioomnnaa.Reads

namespace Go.Proofs.Ytddgdhaioomnnaa.Reads
open Go.ChangeShapes Go.WideShapes Go.ChangeAt Go.RowKit Mem

theorem zs_map (l : List Int) : zs l = l.map (Value.int .i64) := by
  induction l with
  | nil => rfl
  | cons x l ih => unfold zs at *; rw [List.flatMap_cons, ih]; rfl
/-- The library's sort, on a slice of the call's own. -/
theorem sort_own (w0 w : World) (v : Value) (n : Nat) (l : List Int) (ho : Own w0 w 3 1 v n (zs l)) (hn : n ≤ 1000000) :
    Calls Try.prog 76 #[v] w fun e w' => e = .returned (.tuple #[]) ∧ Own w0 w' 3 1 v n (zs (sortZ l)) := by
  have hl : l.length = n := by have := ho.1.1; rw [zs_map, List.length_map] at this; omega
  rcases ho.1.2 with ⟨rfl, rfl⟩ | ⟨g, cap, cur, rfl, hbase, hb, hnc, hcap, hsz, htk⟩
  · obtain rfl : l = [] := List.eq_nil_of_length_eq_zero hl
    refine (Srt.slices_Sort_int_none _ _ w).mono ?_
    rintro e w' ⟨rfl, rfl⟩
    exact ⟨rfl, by rw [sort_of [] [] (List.Perm.refl _) List.Pairwise.nil]; exact ho⟩
  · subst hl
    rw [zs_map, Nat.mul_one] at htk
    have hg : g < w.heap.size := (Array.getElem?_eq_some_iff.1 hb).1
    refine (Srt.slices_Sort_int g 0 cap l w (holds_of_blockI hb htk) hg (by omega)).mono ?_
    rintro e w' ⟨rfl, q, os, rfl⟩
    refine ⟨rfl, ?_, ?_⟩
    · rw [zs_map]
      exact ownsRow_sortedI (ts := sortZ l) (sort_len l) hbase hb hnc hcap (by rw [hsz])
    · exact ho.grown (grownBy_sortedI (w := w) (g := g) (n := q) (os := os) _)


theorem get_still (h : List Heap.Cell) (x : Read) (hr : Heap.rightB h = true) (r : Int × Int) (hg : Heap.getS h x.cell = r) : stillB h x = (decide (r.2 = 0) && (r.1 == x.value)) := by
  subst hg
  unfold Heap.getS stillB
  rw [if_pos hr]
  cases Heap.liveAt h x.cell
  · rfl
  · rfl
end Go.Proofs.Ytddgdhaioomnnaa.Reads
