/-
  PLAIN LEMMAS ON READS: the least cell above another, again and again. No conditions beyond those that each theorem states. Nothing of the program is named here.
-/
import Derived.Test.YthgmjmecedhkoaaReadsPlain
namespace Go.Proofs.Ythgmjmecedhkoaa.Reads
open Mem

/-- Of the first i reads: b is the least cell above la, or -1. -/
def Least (l : List Read) (i : Nat) (la b : Int) : Prop :=
  (b = -1 ∧ ∀ x ∈ l.take i, x.cell ≤ la) ∨ (0 ≤ b ∧ la < b ∧ (∃ x ∈ l.take i, x.cell = b) ∧ ∀ y ∈ l.take i, la < y.cell → b ≤ y.cell)
theorem mem_take_succ {l : List Read} {i : Nat} {x : Read} (hx : l[i]? = some x) (y : Read) : y ∈ l.take (i + 1) ↔ y ∈ l.take i ∨ y = x := by
  rw [List.take_add_one, hx]; simp
theorem least_0 (l : List Read) (la : Int) : Least l 0 la (-1) := .inl ⟨rfl, by simp⟩
theorem least_skip (l : List Read) (i : Nat) (la b : Int) (x : Read) (hx : l[i]? = some x) (h : Least l i la b) (hs : x.cell ≤ la ∨ (0 ≤ b ∧ b ≤ x.cell)) : Least l (i + 1) la b := by
  rcases h with ⟨rfl, h⟩ | ⟨h0, h1, ⟨y, hy, e⟩, h2⟩
  · refine .inl ⟨rfl, fun y hy => ?_⟩
    rcases (mem_take_succ hx y).1 hy with hy | rfl
    · exact h y hy
    · omega
  · refine .inr ⟨h0, h1, ⟨y, (mem_take_succ hx y).2 (.inl hy), e⟩, fun z hz hlt => ?_⟩
    rcases (mem_take_succ hx z).1 hz with hz | rfl
    · exact h2 z hz hlt
    · omega
theorem least_take (l : List Read) (i : Nat) (la b : Int) (x : Read) (hx : l[i]? = some x) (hx0 : 0 ≤ x.cell) (h : Least l i la b) (hl : la < x.cell) (hs : b < 0 ∨ x.cell < b) : Least l (i + 1) la x.cell := by
  refine .inr ⟨hx0, hl, ⟨x, (mem_take_succ hx x).2 (.inr rfl), rfl⟩, fun z hz hlt => ?_⟩
  rcases (mem_take_succ hx z).1 hz with hz | rfl
  · rcases h with ⟨rfl, h⟩ | ⟨h0, h1, ⟨y, hy, e⟩, h2⟩
    · have := h z hz; omega
    · have := h2 z hz hlt; omega
  · exact Int.le_refl _
def lastOf (s : List Int) (j : Nat) : Int := if j = 0 then -1 else s.getD (j - 1) 0
theorem sort_strict (l : List Int) (hn : l.Nodup) : (sortZ l).Pairwise (· < ·) := by
  have h1 := sort_sorted l
  have h2 : (sortZ l).Nodup := (sort_perm l).nodup_iff.2 hn
  refine (h1.and h2).imp ?_
  rintro a b ⟨h, h'⟩
  omega
theorem above_last (s : List Int) (hs : s.Pairwise (· < ·)) (h0 : ∀ x ∈ s, 0 ≤ x) (j i : Nat) (hj : j ≤ s.length) (hi : i < s.length) : lastOf s j < s[i] ↔ j ≤ i := by
  have hp := List.pairwise_iff_getElem.1 hs
  unfold lastOf
  by_cases hj0 : j = 0
  · rw [if_pos hj0]
    have := h0 _ (List.getElem_mem hi)
    omega
  · rw [if_neg hj0]
    have e : s.getD (j - 1) 0 = s[j - 1]'(by omega) := by rw [List.getD_eq_getElem?_getD, List.getElem?_eq_getElem (by omega)]; rfl
    rw [e]
    constructor
    · intro h
      rcases Nat.lt_or_ge i j with hij | hij
      · rcases Nat.lt_or_ge i (j - 1) with h2 | h2
        · have := hp i (j - 1) hi (by omega) h2
          omega
        · have : i = j - 1 := by omega
          subst this
          omega
      · exact hij
    · intro h
      exact hp (j - 1) i (by omega) hi (by omega)
theorem least_end (l : List Read) (j : Nat) (b : Int) (hr : rightB l = true) (hj : j ≤ l.length) (h : Least l l.length (lastOf (sortZ (l.map Read.cell)) j) b) :
    (b = -1 ∧ j = l.length) ∨ (0 ≤ b ∧ (sortZ (l.map Read.cell))[j]? = some b) := by
  have hs := sort_strict _ (right_nodup l hr)
  have hm : ∀ x, x ∈ sortZ (l.map Read.cell) ↔ ∃ y ∈ l, y.cell = x := fun x => by rw [(sort_perm _).mem_iff, List.mem_map]
  have hlen : (sortZ (l.map Read.cell)).length = l.length := by rw [sort_len, List.length_map]
  have h0 : ∀ x ∈ sortZ (l.map Read.cell), 0 ≤ x := fun x hx => by
    obtain ⟨y, hy, rfl⟩ := (hm x).1 hx
    exact one_cell y (right_one l hr y hy)
  unfold Least at h
  rw [List.take_length] at h
  generalize sortZ (l.map Read.cell) = s at *
  rcases h with ⟨rfl, h⟩ | ⟨hb, h1, ⟨x, hx, rfl⟩, h2⟩
  · refine .inl ⟨rfl, ?_⟩
    rcases Nat.lt_or_ge j l.length with hlt | hge
    · have h3 := (above_last s hs h0 j j (by omega) (by omega)).2 (Nat.le_refl _)
      obtain ⟨y, hy, e⟩ := (hm s[j]).1 (List.getElem_mem _)
      have := h y hy
      omega
    · omega
  · refine .inr ⟨hb, ?_⟩
    obtain ⟨i, hi, e⟩ := List.getElem_of_mem ((hm x.cell).2 ⟨x, hx, rfl⟩)
    have hji := (above_last s hs h0 j i (by omega) hi).1 (by rw [e]; exact h1)
    have hjs : j < s.length := by omega
    have h3 := (above_last s hs h0 j j (by omega) hjs).2 (Nat.le_refl _)
    obtain ⟨y, hy, e2⟩ := (hm s[j]).1 (List.getElem_mem _)
    have h4 := h2 y hy (by omega)
    have : i = j := by
      rcases Nat.lt_or_ge j i with hlt | hge
      · have := List.pairwise_iff_getElem.1 hs j i hjs hi hlt
        omega
      · omega
    subst this
    rw [List.getElem?_eq_getElem hi, e]
theorem last_succ (s : List Int) (j : Nat) (b : Int) (h : s[j]? = some b) : lastOf s (j + 1) = b := by
  unfold lastOf; rw [if_neg (by omega), Nat.add_sub_cancel, List.getD_eq_getElem?_getD, h]; rfl
end Go.Proofs.Ythgmjmecedhkoaa.Reads
