/-
  SMALL LAWS FOR THE WALKS OF LAYER 16: what Small answers, how long lists are.
-/
import Derived.Test.YtddgdhaioomnnaaGreatFilterAwake
import Derived.Test.YtddgdhaioomnnaaGreatSleepLaw
namespace Go.Proofs.YtddgdhaioomnnaaGreat.Filter
open Go.ChangeShapes Go.WideShapes Go.ChangeAt Go.RowKit Mem
open Heap (Write)
open Sleep

theorem small_no (L : List RawS) (n : Nat) (h : smallB L = false) : (if smallB L = true then (n : Int) else -1) = -1 := by rw [if_neg (by rw [h]; decide)]
theorem small_yes (L : List RawS) (n : Nat) (h : smallB L = true) : (if smallB L = true then (n : Int) else -1) = n := by rw [if_pos h]
theorem small_one (x : RawS) (h : smallB [x] = true) : Lim1 x := (small_lim [x] h).1 x (List.mem_singleton_self x)
theorem sls_one (w : World) (x : RawS) (e : Nat) (hi : Inner w x) : Sls (w.alloc (.cells (cS x) e)) (some ⟨w.heap.size, 0, none⟩) 1 [x] := ⟨Rd.built w 5 1 (ss [x]) e rfl, Inners.one (hi.alloc _)⟩
theorem add_len (L : List Sl) (s : Sl) : (addS L s).1.length ≤ L.length + L.length + 1 := by
  unfold addS
  split
  · split
    · show L.length ≤ _; omega
    · exact ins_len L s
  · show L.length ≤ _; omega
theorem lie_len (L : List Sl) (s : Sl) (h : List Heap.Cell) : (lieS L s h).1.length ≤ L.length + L.length + 1 := by
  unfold lieS
  split
  · split
    · split
      · show L.length ≤ _; omega
      · exact add_len L s
    · show L.length ≤ _; omega
  · show L.length ≤ _; omega
theorem rest_le (L : List Sl) (h : List Heap.Cell) (cs : List Int) : (restS L h cs).length ≤ L.length := by have := rest_len L h cs; omega
theorem sls_n {w : World} {A : Option Addr} {n : Nat} {L : List RawS} {S : List Sl} (h : Sls w A n L) (e : cc L = S) : n = S.length := by rw [← h.len, ← cc_len L, e]
end Go.Proofs.YtddgdhaioomnnaaGreat.Filter
