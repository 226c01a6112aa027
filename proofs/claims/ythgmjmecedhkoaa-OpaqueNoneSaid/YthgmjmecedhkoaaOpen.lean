/-
  AN ARGUMENT THAT IS A SLICE OF PLAIN STRUCTS, OPENED: it reads as a list. No conditions beyond those that each theorem states. Nothing of the program is named here.
-/
import Derived.Test.YthgmjmecedhkoaaMem
import Derived.Deep.Slices
import Derived.Deep.Fields
import Derived.ChangeSame
import Derived.ChangeOld
import Derived.Below
import Derived.Carry
namespace Go.Proofs.Ythgmjmecedhkoaa.Mem
open Go.ChangeShapes Go.WideShapes Go.ChangeAt Go.RowKit Go.Deep

section
variable {H : Type} {enc : TypeId × Value → H} {P : Program} {W : World}

theorem flat_len {τ : Type} {K : Nat} {code : τ → List Value} (hcode : ∀ x, (code x).length = K) (l : List τ) : (l.flatMap code).length = l.length * K := by
  induction l with
  | nil => simp
  | cons x l ih => rw [List.flatMap_cons, List.length_append, ih, hcode, List.length_cons, Nat.succ_mul, Nat.add_comm]
theorem flat_at {τ : Type} {K : Nat} {code : τ → List Value} (hcode : ∀ x, (code x).length = K) (l : List τ) (i : Nat) (x : τ) (hi : l[i]? = some x) (j : Nat) (hj : j < K) :
    (l.flatMap code)[i * K + j]? = (code x)[j]? := by
  induction l generalizing i with
  | nil => simp at hi
  | cons y l ih =>
    cases i with
    | zero =>
      simp at hi; subst hi
      rw [List.flatMap_cons, Nat.zero_mul, Nat.zero_add, List.getElem?_append_left (by rw [hcode]; exact hj)]
    | succ i =>
      rw [List.flatMap_cons, List.getElem?_append_right (by rw [hcode, Nat.succ_mul]; omega), hcode]
      have e : (i + 1) * K + j - K = i * K + j := by rw [Nat.succ_mul]; omega
      rw [e]
      exact ih i (by simpa using hi)

set_option maxRecDepth 100000 in
/-- The elements of a slice that came in, as a list; each as its own law tells. -/
theorem open_rows {τ : Type} [Inhabited τ] {t e : TypeId} {A : Option Addr} {n c : Nat} {d : DataW H} {p : List MemPlace} (ht : P.underlying t = some (.slice e)) (K : Nat) (hK : P.cellsOf e = K) (hK0 : 0 < K)
    (code : τ → List Value) (hcode : ∀ x, (code x).length = K) (good : τ → Prop)
    (hel : ∀ (fuel : Nat) (cs' : List Value) (x : DataW H × List MemPlace), cs'.length = K → DataW.trod enc P W 0 (fun _ => true) true fuel e cs' = some x → ∃ y : τ, cs' = code y ∧ good y)
    (h : DataW.Trod enc P W 0 (fun _ => true) true t (.slice A n c) d p) :
    n ≤ c ∧ c ≤ 9223372036854775807 ∧ ∃ xs : List τ, Rd W K A n (xs.flatMap code) ∧ xs.length = n ∧ ∀ x ∈ xs, good x := by
  obtain ⟨fuel, hf⟩ := h
  rcases open_slice ht hf with ⟨hcs, _⟩ | ⟨a, len, cap, m, n', D, Pl, hcs, _, hl, hm, hmm, _, hx⟩
  · simp [Value.cells] at hcs
    obtain ⟨rfl, rfl, rfl⟩ := hcs
    exact ⟨Nat.le_refl _, by omega, [], Rd.none_, rfl, by simp⟩
  · simp [Value.cells] at hcs
    obtain ⟨rfl, rfl, rfl⟩ := hcs
    have hlm : n ≤ m := by rw [hmm]; simp; exact hl
    have each : ∀ i, i < n → ∃ y : τ, (∀ j, j < K → W.cell? (a.add (i * K + j)) = (code y)[j]?) ∧ good y := by
      intro i hi
      obtain ⟨cs', h1, h2⟩ := hx i (by omega)
      rw [hK] at h1
      obtain ⟨_, hlen, hcell⟩ := World.cells?_some h1
      obtain ⟨y, rfl, hy⟩ := hel _ _ _ hlen h2
      exact ⟨y, fun j hj => by rw [← Mem.add_add]; exact hcell j hj, hy⟩
    obtain ⟨f, hfs⟩ := choose_lt each
    refine ⟨hl, by unfold maxLen at hm; exact hm, (List.range n).map f, ⟨?_, fun hn => ?_⟩, by simp, ?_⟩
    · rw [flat_len hcode]; simp
    · have h00 := (hfs 0 hn).1 0 hK0
      have hk0 : (code (f 0))[0]? = some ((code (f 0))[0]'(by rw [hcode]; exact hK0)) := List.getElem?_eq_getElem _
      rw [hk0] at h00
      obtain ⟨b, off, spot⟩ := a
      have hspot : spot = none := by simpa [Addr.add] using World.cell?_spot h00
      subst hspot
      refine ⟨b, off, rfl, fun j u hu => ?_⟩
      have hj : j < n * K := by
        have := (List.getElem?_eq_some_iff.1 hu).1
        rw [flat_len hcode] at this; simpa using this
      have hi : j / K < n := Nat.div_lt_of_lt_mul (by rw [Nat.mul_comm]; exact hj)
      have hmod : j % K < K := Nat.mod_lt _ hK0
      have hdm : j / K * K + j % K = j := by rw [Nat.mul_comm]; exact Nat.div_add_mod j K
      have hc := (hfs (j / K) hi).1 (j % K) hmod
      rw [hdm, add_plain] at hc
      rw [hc]
      have := flat_at hcode ((List.range n).map f) (j / K) (f (j / K)) (by simp [hi]) (j % K) hmod
      rw [hdm] at this
      rw [← this]; exact hu
    · intro x hx'
      obtain ⟨i, hi, rfl⟩ := List.mem_map.1 hx'
      exact (hfs i (List.mem_range.1 hi)).2
end
end Go.Proofs.Ythgmjmecedhkoaa.Mem
