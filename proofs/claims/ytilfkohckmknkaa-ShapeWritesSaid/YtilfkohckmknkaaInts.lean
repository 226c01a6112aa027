/-
  WORDS ON MEMORY, of my own: a slice of integers of the call's own, sorted by the library, and compacted; what the lists are. No conditions beyond those that each theorem states.
-/
import Derived.Test.YtilfkohckmknkaaMemA
import Derived.Test.YtilfkohckmknkaaSort
import Derived.Sort.OwnSortedInts
namespace Go.Proofs.Ytilfkohckmknkaa.Mem
open Go.ChangeShapes Go.WideShapes Go.ChangeAt Go.RowKit

def sortZ (l : List Int) : List Int := l.mergeSort (fun x y => decide (x ≤ y))
theorem sort_perm (l : List Int) : (sortZ l).Perm l := List.mergeSort_perm _ _
theorem sort_sorted (l : List Int) : (sortZ l).Pairwise (· ≤ ·) := by
  have := List.pairwise_mergeSort (le := fun x y : Int => decide (x ≤ y)) (by simp; omega) (by simp; omega) l
  simpa [sortZ] using this
theorem sort_len (l : List Int) : (sortZ l).length = l.length := (sort_perm l).length_eq
theorem zs_map (l : List Int) : zs l = l.map (Value.int .i64) := by
  induction l with
  | nil => rfl
  | cons x l ih => unfold zs at *; rw [List.flatMap_cons, ih]; rfl
theorem zs_taken (xs : List Int) (k : Nat) : (zs xs).take k = zs (xs.take k) := by rw [zs_map, zs_map, List.map_take]
/-- The first ones of a slice of the call's own. -/
theorem own_first {w0 w : World} {e n d : Nat} {B : Option Addr} {xs : List Value} (h : Own w0 w e 1 (.slice B n d) n xs) (k : Nat) (hk : k ≤ n) : Own w0 w e 1 (.slice B k d) k (xs.take k) := by
  refine ⟨⟨by have := h.1.1; simp at this ⊢; omega, ?_⟩, h.2⟩
  rcases h.1.2 with ⟨hv, hn⟩ | ⟨g, cap, cur, hv, hb, hc, hnc, hm, hs, ht⟩
  · injection hv with e1 e2 e3
    subst e1 e2 e3
    obtain rfl : k = 0 := by omega
    exact .inl ⟨rfl, rfl⟩
  · injection hv with e1 e2 e3
    subst e1 e3
    refine .inr ⟨g, d, cur, rfl, hb, hc, by omega, hm, hs, ?_⟩
    have := congrArg (List.take k) ht
    rw [List.take_take, Nat.min_eq_left (by omega)] at this
    simpa using this
/-- The library's sort, on a slice of the call's own. -/
theorem sort_own (w0 w : World) (v : Value) (n : Nat) (l : List Int) (ho : Own w0 w 3 1 v n (zs l)) (hn : n ≤ 1000000) :
    Calls Try.prog 58 #[v] w fun e w' => e = .returned (.tuple #[]) ∧ Own w0 w' 3 1 v n (zs (sortZ l)) := by
  have hl : l.length = n := by have := ho.1.1; rw [zs_map, List.length_map] at this; omega
  rcases ho.1.2 with ⟨rfl, rfl⟩ | ⟨g, cap, cur, rfl, hbase, hb, hnc, hcap, hsz, htk⟩
  · obtain rfl : l = [] := List.eq_nil_of_length_eq_zero hl
    refine (Srt.slices_Sort_int_none _ _ w).mono ?_
    rintro e w' ⟨rfl, rfl⟩
    exact ⟨rfl, by have : sortZ [] = [] := List.eq_nil_of_length_eq_zero (sort_len []); rw [this]; exact ho⟩
  · subst hl
    rw [zs_map, Nat.mul_one] at htk
    have hg : g < w.heap.size := (Array.getElem?_eq_some_iff.1 hb).1
    refine (Srt.slices_Sort_int g 0 cap l w (holds_of_blockI hb htk) hg (by omega)).mono ?_
    rintro e w' ⟨rfl, q, os, rfl⟩
    refine ⟨rfl, ?_, ?_⟩
    · rw [zs_map]
      exact ownsRow_sortedI (ts := sortZ l) (sort_len l) hbase hb hnc hcap (by rw [hsz])
    · exact ho.grown (grownBy_sortedI (w := w) (g := g) (n := q) (os := os) _)
/-- The library's compact, on a slice of the call's own. -/
theorem compact_own (w0 w : World) (v : Value) (n : Nat) (l : List Int) (ho : Own w0 w 3 1 v n (zs l)) (hn : n ≤ 1000000) :
    Calls Try.prog 59 #[v] w fun e w' => ∃ v', e = .returned v' ∧ Own w0 w' 3 1 v' (Lib.compact l).length (zs (Lib.compact l)) := by
  have hl : l.length = n := by have := ho.1.1; rw [zs_map, List.length_map] at this; omega
  have hcl : (Lib.compact l).length ≤ l.length := by
    unfold Lib.compact Lib.compactUpTo
    rw [List.length_map]
    have := List.length_filter_le (Lib.keeps l.toArray) (List.range l.length)
    simpa using this
  rcases ho.1.2 with ⟨rfl, rfl⟩ | ⟨g, cap, cur, rfl, hbase, hb, hnc, hcap, hsz, htk⟩
  · obtain rfl : l = [] := List.eq_nil_of_length_eq_zero hl
    refine (Srt.slices_Compact_int_empty _ _ w).mono ?_
    rintro e w' ⟨rfl, rfl⟩
    exact ⟨_, rfl, ho⟩
  · subst hl
    rw [zs_map, Nat.mul_one] at htk
    refine (Srt.slices_Compact_int g 0 cap l w (holds_of_blockI hb htk) (by omega) hnc).mono ?_
    rintro e w' ⟨rfl, q, rfl⟩
    refine ⟨_, rfl, ?_⟩
    have hlen : (Lib.compact l ++ List.replicate (l.length - (Lib.compact l).length) 0).length = l.length := by rw [List.length_append, List.length_replicate]; omega
    have h1 : Own w0 (Sort.putRow (Value.int .i64) (Sort.ahead w q) g 0 (Lib.compact l ++ List.replicate (l.length - (Lib.compact l).length) 0).toArray) 3 1 (.slice (some ⟨g, 0, none⟩) l.length cap) l.length (zs (Lib.compact l ++ List.replicate (l.length - (Lib.compact l).length) 0)) := by
      have e0 := Sort.grow_empty (Sort.putRow (Value.int .i64) (Sort.ahead w q) g 0 (Lib.compact l ++ List.replicate (l.length - (Lib.compact l).length) 0).toArray)
      rw [← e0]
      refine ⟨?_, ho.grown (grownBy_sortedI (w := w) (g := g) (n := q) (os := #[]) _)⟩
      rw [zs_map]
      exact ownsRow_sortedI hlen hbase hb hnc hcap (by rw [hsz])
    have h2 := own_first h1 (Lib.compact l).length hcl
    rw [zs_taken, List.take_left] at h2
    exact h2

theorem strict_eq (a b : List Int) (ha : a.Pairwise (· < ·)) (hb : b.Pairwise (· < ·)) (h : ∀ x, x ∈ a ↔ x ∈ b) : a = b := by
  refine List.Perm.eq_of_pairwise (le := (· ≤ ·)) (fun _ _ _ _ h1 h2 => Int.le_antisymm h1 h2) (ha.imp Int.le_of_lt) (hb.imp Int.le_of_lt) ?_
  exact (List.perm_ext_iff_of_nodup (ha.imp (fun h e => by omega)) (hb.imp (fun h e => by omega))).2 h
theorem pick_strict (p : Nat → Bool) (n : Nat) : (pick p n).Pairwise (· < ·) := by
  unfold pick
  rw [List.pairwise_map]
  refine (List.pairwise_lt_range.filter p).imp ?_
  intro a b h
  exact Int.ofNat_lt.2 h
theorem compact_some (d : Array Int) (hs : ∀ i j, i ≤ j → j < d.size → d[i]! ≤ d[j]!) (m : Nat) (hm : m ≤ d.size) :
    (Lib.compactUpTo d m).Pairwise (· < ·) ∧ ∀ x, x ∈ Lib.compactUpTo d m ↔ ∃ j, j < m ∧ d[j]! = x := by
  induction m with
  | zero => exact ⟨by simp [Lib.compactUpTo], by simp [Lib.compactUpTo]⟩
  | succ m ih =>
    obtain ⟨h1, h2⟩ := ih (by omega)
    rw [Lib.compactUpTo_succ]
    by_cases hk : Lib.keeps d m = true
    · rw [if_pos hk]
      refine ⟨List.pairwise_append.2 ⟨h1, by simp, ?_⟩, ?_⟩
      · intro x hx y hy
        rw [List.mem_singleton] at hy
        subst hy
        obtain ⟨j, hj, rfl⟩ := (h2 x).1 hx
        have g1 := hs j (m - 1) (by omega) (by omega)
        have g2 := hs (m - 1) m (by omega) (by omega)
        unfold Lib.keeps at hk
        have hk2 : m = 0 ∨ d[m]! ≠ d[m - 1]! := by simpa using hk
        omega
      · intro x
        rw [List.mem_append, List.mem_singleton, h2]
        constructor
        · rintro (⟨j, hj, e⟩ | e)
          · exact ⟨j, by omega, e⟩
          · exact ⟨m, by omega, e.symm⟩
        · rintro ⟨j, hj, e⟩
          by_cases e2 : j = m
          · subst e2; exact .inr e.symm
          · exact .inl ⟨j, by omega, e⟩
    · rw [if_neg hk, List.append_nil]
      refine ⟨h1, fun x => ?_⟩
      rw [h2]
      have hk2 : ¬ (m = 0 ∨ d[m]! ≠ d[m - 1]!) := by unfold Lib.keeps at hk; simpa using hk
      constructor
      · rintro ⟨j, hj, e⟩; exact ⟨j, by omega, e⟩
      · rintro ⟨j, hj, e⟩
        by_cases e2 : j = m
        · subst e2
          refine ⟨j - 1, by omega, ?_⟩
          rw [← e]
          by_cases e3 : d[j]! = d[j - 1]!
          · exact e3.symm
          · exact absurd (.inr e3) hk2
        · exact ⟨j, by omega, e⟩
theorem compact_sorted (s : List Int) (hs : s.Pairwise (· ≤ ·)) : (Lib.compact s).Pairwise (· < ·) ∧ ∀ x, x ∈ Lib.compact s ↔ x ∈ s := by
  have hget : ∀ i, i < s.length → ∃ h : i < s.length, s.toArray[i]! = s[i] := fun i hi => ⟨hi, by simp [hi]⟩
  have := compact_some s.toArray (fun i j hij hj => by
    have hj' : j < s.length := by simpa using hj
    obtain ⟨_, e1⟩ := hget i (by omega)
    obtain ⟨_, e2⟩ := hget j hj'
    rw [e1, e2]
    rcases Nat.lt_or_eq_of_le hij with h | h
    · exact List.pairwise_iff_getElem.1 hs i j (by omega) hj' h
    · subst h; exact Int.le_refl _) s.length (by simp)
  refine ⟨this.1, fun x => ?_⟩
  unfold Lib.compact
  rw [this.2, List.mem_iff_getElem]
  constructor
  · rintro ⟨j, hj, e⟩
    obtain ⟨h, e1⟩ := hget j hj
    exact ⟨j, h, by rw [← e1]; exact e⟩
  · rintro ⟨j, hj, e⟩
    obtain ⟨_, e1⟩ := hget j hj
    exact ⟨j, hj, by rw [e1]; exact e⟩
/-- Sorted and compacted: just the picked ones. -/
theorem compact_pick (l : List Int) (p : Nat → Bool) (n : Nat) (h : ∀ x, x ∈ l ↔ ∃ k : Nat, k < n ∧ p k = true ∧ x = (k : Int)) : Lib.compact (sortZ l) = pick p n := by
  obtain ⟨h1, h2⟩ := compact_sorted (sortZ l) (sort_sorted l)
  refine strict_eq _ _ h1 (pick_strict p n) (fun x => ?_)
  rw [h2, (sort_perm l).mem_iff, h, pick_mem]
end Go.Proofs.Ytilfkohckmknkaa.Mem
