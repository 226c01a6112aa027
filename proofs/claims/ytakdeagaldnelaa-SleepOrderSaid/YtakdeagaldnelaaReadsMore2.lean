/-
  PLAIN LEMMAS ON READ SETS: what is added is found. No conditions beyond those that each theorem states. Nothing of the program is named here.
-/
import Derived.Test.YtakdeagaldnelaaReadsA
namespace Go.Proofs.Ytakdeagaldnelaa.Reads
open Mem

theorem add_err (l m : List Read) (r : Read) (e : Int) (h : addS l r = (m, e)) (he : e ≠ 0) : m = l := by
  unfold addS at h
  split at h
  · split at h
    · split at h
      · injection h with h1 h2; exact h1.symm
      · injection h with h1 h2; exact h1.symm
    · split at h
      · injection h with h1 h2; exact h1.symm
      · injection h with h1 h2; exact absurd h2.symm he
  · injection h with h1 h2; exact h1.symm
/-- What an addition without an error was. -/
theorem add_ok (l m : List Read) (r : Read) (h : addS l r = (m, 0)) : rightB l = true ∧ oneB r = true ∧ ((m = l ∧ findS l r.cell = some r) ∨ (m = l ++ [r] ∧ findS l r.cell = none ∧ l.length ≠ 24)) := by
  unfold addS at h
  split at h
  · rename_i h0
    rw [Bool.and_eq_true] at h0
    refine ⟨h0.1, h0.2, ?_⟩
    split at h
    · rename_i x hf
      split at h
      · rename_i hx
        injection h with h1 h2
        subst hx
        exact .inl ⟨h1.symm, hf⟩
      · injection h with h1 h2; cases h2
    · rename_i hf
      split at h
      · injection h with h1 h2; cases h2
      · rename_i hl
        injection h with h1 h2
        exact .inr ⟨h1.symm, hf, hl⟩
  · injection h with h1 h2; cases h2
theorem right_app (l : List Read) (r : Read) (h : rightB l = true) (h1 : oneB r = true) (hf : findS l r.cell = none) (hl : l.length ≠ 24) : rightB (l ++ [r]) = true := by
  have hlen := right_len l h
  have hg := good_take (l ++ [r]) l.length r (by simp)
  rw [List.take_of_length_le (by simp), List.take_append_of_le_length (Nat.le_refl _), List.take_length] at hg
  have hh : hasB l r.cell = false := by rw [← find_has, hf]; rfl
  have hgl : goodB l = true := by unfold rightB at h; rw [Bool.and_eq_true] at h; exact h.2
  unfold rightB
  rw [hg, hgl, h1, hh]
  simp
  omega
theorem find_app (l : List Read) (r : Read) (c : Int) : findS (l ++ [r]) c = (findS l c).or (if r.cell = c then some r else none) := by
  unfold findS
  rw [List.find?_append]
  congr 1
  by_cases h : r.cell = c
  · simp [h]
  · simp [h]
theorem again_law (l m : List Read) (r : Read) (c : Int) (h : addS l r = (m, 0)) :
    rightB m = true ∧ addS m r = (m, 0) ∧ findR m r.cell = (r, true) ∧
      (((findR l c).2 = true ∧ (findR m c).2 = true ∧ (findR l c).1 = (findR m c).1) ∨ ((findR l c).2 = false ∧ (findR m c).2 = false) ∨ ((findR l c).2 = false ∧ (findR m c).2 = true ∧ c = r.cell)) := by
  obtain ⟨h1, h2, hm⟩ := add_ok l m r h
  have fr : ∀ (k : List Read) (d : Int), rightB k = true → findR k d = (match findS k d with | some x => (x, true) | none => (⟨0, 0, 0⟩, false)) := fun k d hk => by unfold findR; rw [if_pos hk]; cases findS k d <;> rfl
  rcases hm with ⟨rfl, hf⟩ | ⟨rfl, hf, hl⟩
  · refine ⟨h1, h, by rw [fr _ _ h1, hf], ?_⟩
    rw [fr _ _ h1]
    cases findS m c
    · exact .inr (.inl ⟨rfl, rfl⟩)
    · exact .inl ⟨rfl, rfl, rfl⟩
  · have hr := right_app l r h1 h2 hf hl
    have hfr : findS (l ++ [r]) r.cell = some r := by rw [find_app, hf]; simp
    refine ⟨hr, add_had _ _ (by rw [hr, h2]; rfl) hfr, by rw [fr _ _ hr, hfr], ?_⟩
    rw [fr _ _ h1, fr _ _ hr, find_app]
    cases hc : findS l c with
    | some x => exact .inl ⟨rfl, rfl, rfl⟩
    | none =>
      by_cases h3 : r.cell = c
      · rw [if_pos h3]; exact .inr (.inr ⟨rfl, rfl, h3.symm⟩)
      · rw [if_neg h3]; exact .inr (.inl ⟨rfl, rfl⟩)
end Go.Proofs.Ytakdeagaldnelaa.Reads
