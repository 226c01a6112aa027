/-
  WORDS ON MEMORY, of my own: a slice of integers of the call's own, sorted by the library, and compacted: nothing but its own block has changed. No conditions beyond those that each theorem states.
-/
import Derived.Test.YtlmkhnjdifamgaaMemA
namespace Go.Proofs.Ytlmkhnjdifamgaa.Mem
open Go.ChangeShapes Go.WideShapes Go.ChangeAt Go.RowKit

theorem sort_own2 (w0 w : World) (v : Value) (n : Nat) (l : List Int) (ho : Own w0 w 3 1 v n (zs l)) (hn : n ≤ 1000000) :
    Calls Try.prog 19 #[v] w fun e w' => e = .returned (.tuple #[]) ∧ Own w0 w' 3 1 v n (zs (sortZ l)) ∧ w.grownBy w' v.ownBlock := by
  have hl : l.length = n := by have := ho.1.1; rw [zs_map, List.length_map] at this; omega
  rcases ho.1.2 with ⟨rfl, rfl⟩ | ⟨g, cap, cur, rfl, hbase, hb, hnc, hcap, hsz, htk⟩
  · obtain rfl : l = [] := List.eq_nil_of_length_eq_zero hl
    refine (Srt.slices_Sort_int_none _ _ w).mono ?_
    rintro e w' ⟨rfl, rfl⟩
    exact ⟨rfl, by have : sortZ [] = [] := List.eq_nil_of_length_eq_zero (sort_len []); rw [this]; exact ho, World.grownBy.refl _ _⟩
  · subst hl
    rw [zs_map, Nat.mul_one] at htk
    have hg : g < w.heap.size := (Array.getElem?_eq_some_iff.1 hb).1
    refine (Srt.slices_Sort_int g 0 cap l w (holds_of_blockI hb htk) hg (by omega)).mono ?_
    rintro e w' ⟨rfl, q, os, rfl⟩
    refine ⟨rfl, ⟨?_, ?_⟩, grownBy_sortedI (w := w) (g := g) (n := q) (os := os) _⟩
    · rw [zs_map]
      exact ownsRow_sortedI (ts := sortZ l) (sort_len l) hbase hb hnc hcap (by rw [hsz])
    · exact ho.grown (grownBy_sortedI (w := w) (g := g) (n := q) (os := os) _)
theorem compact_own2 (w0 w : World) (v : Value) (n : Nat) (l : List Int) (ho : Own w0 w 3 1 v n (zs l)) (hn : n ≤ 1000000) :
    Calls Try.prog 20 #[v] w fun e w' => ∃ v', e = .returned v' ∧ Own w0 w' 3 1 v' (Lib.compact l).length (zs (Lib.compact l)) ∧ w.grownBy w' v.ownBlock ∧ v'.ownBlock = v.ownBlock := by
  have hl : l.length = n := by have := ho.1.1; rw [zs_map, List.length_map] at this; omega
  have hcl : (Lib.compact l).length ≤ l.length := by
    unfold Lib.compact Lib.compactUpTo
    rw [List.length_map]
    have := List.length_filter_le (Lib.keeps l.toArray) (List.range l.length)
    simpa using this
  rcases ho.1.2 with ⟨rfl, rfl⟩ | ⟨g, cap, cur, rfl, hbase, hb, hnc, hcap, hsz, htk⟩
  · obtain rfl : l = [] := List.eq_nil_of_length_eq_zero hl
    refine (Srt.slices_Compact_int_empty _ _ w).mono ?_
    rintro e w' ⟨rfl, rfl⟩
    exact ⟨_, rfl, ho, World.grownBy.refl _ _, rfl⟩
  · subst hl
    rw [zs_map, Nat.mul_one] at htk
    refine (Srt.slices_Compact_int g 0 cap l w (holds_of_blockI hb htk) (by omega) hnc).mono ?_
    rintro e w' ⟨rfl, q, rfl⟩
    have hlen : (Lib.compact l ++ List.replicate (l.length - (Lib.compact l).length) 0).length = l.length := by rw [List.length_append, List.length_replicate]; omega
    have e0 := Sort.grow_empty (Sort.putRow (Value.int .i64) (Sort.ahead w q) g 0 (Lib.compact l ++ List.replicate (l.length - (Lib.compact l).length) 0).toArray)
    have hgb : w.grownBy (Sort.putRow (Value.int .i64) (Sort.ahead w q) g 0 (Lib.compact l ++ List.replicate (l.length - (Lib.compact l).length) 0).toArray) (some g) := by
      rw [← e0]
      exact grownBy_sortedI (w := w) (g := g) (n := q) (os := #[]) _
    refine ⟨_, rfl, ?_, hgb, rfl⟩
    have h1 : Own w0 (Sort.putRow (Value.int .i64) (Sort.ahead w q) g 0 (Lib.compact l ++ List.replicate (l.length - (Lib.compact l).length) 0).toArray) 3 1 (.slice (some ⟨g, 0, none⟩) l.length cap) l.length (zs (Lib.compact l ++ List.replicate (l.length - (Lib.compact l).length) 0)) := by
      refine ⟨?_, ho.grown hgb⟩
      rw [← e0, zs_map]
      exact ownsRow_sortedI hlen hbase hb hnc hcap (by rw [hsz])
    have h2 := own_first h1 (Lib.compact l).length hcl
    rw [zs_taken, List.take_left] at h2
    exact h2
theorem blk_grown {w w' : World} {g : Nat} {t : TypeId} {xs : Array Value} {o : Option Nat} (h : Blk w g t xs) (hg : w.grownBy w' o) (hne : o ≠ some g) : Blk w' g t xs := (hg.block g h.lt (fun e => hne e.symm)).trans h
theorem own_grown_ {w0 w w' : World} {e size n : Nat} {u : Value} {xs : List Value} {o : Option Nat} (h : Own w0 w e size u n xs) (hg : w.grownBy w' o) (hne : u.ownBlock = none ∨ u.ownBlock ≠ o) (hb : Below w0.heap.size w0 w') : Own w0 w' e size u n xs := ⟨h.1.kept hg hne, hb⟩
end Go.Proofs.Ytlmkhnjdifamgaa.Mem
