/-
  WHAT MERGING TWO SORTED STRETCHES IS ASKED TO DO ('MergeC'), up to a length; where an element of a row lies; what a cut of two sorted stretches gives. No conditions beyond those that each theorem states.
-/
import Derived.Test.YtdbgpmfdiljopaaTickMergeL
import Derived.Test.YtdbgpmfdiljopaaTickMergeR
import Derived.Test.YtdbgpmfdiljopaaTickRotate
namespace Go.Proofs.Ytdbgpmfdiljopaa.Tick
open Go.ChangeShapes Go.WideShapes Go.ChangeAt Go.RowKit Mem

def MergeC (l : List Int) (w0 : World) (cb : Array Value) (g q cap N : Nat) : Prop :=
  ∀ (a m b : Nat) (P L R Q : List Nat) (W : World), L.length + R.length ≤ N → Rw w0 g q cap (P ++ (L ++ (R ++ Q))) W → P.length = a → a + L.length = m → m + R.length = b → 0 < L.length → 0 < R.length →
    L.Pairwise (bef l) → R.Pairwise (bef l) → (∀ x ∈ L, ∀ y ∈ R, x < y) → (∀ x ∈ L, x < l.length) → (∀ y ∈ R, y < l.length) →
    Calls Try.prog 26 #[.slice (some ⟨g, 0, none⟩) q cap, .int .i64 a, .int .i64 m, .int .i64 b, .func (.func 21) #[] cb] W fun e w' =>
      e = .returned (.tuple #[]) ∧ ∃ M', Rw w0 g q cap (P ++ (M' ++ Q)) w' ∧ M'.Pairwise (bef l) ∧ M'.Perm (L ++ R)

theorem row_left (P L Q : List Nat) (a c x : Nat) (ha : P.length = a) (hc : a ≤ c) (hx : L[c - a]? = some x) : (P ++ (L ++ Q))[c]? = some x := by
  obtain ⟨h1, _⟩ := List.getElem?_eq_some_iff.1 hx
  rw [List.getElem?_append_right (by omega), ha, List.getElem?_append_left h1]; exact hx
theorem row_right (P L R Q : List Nat) (m k y : Nat) (hm : P.length + L.length = m) (hy : R[k]? = some y) : (P ++ (L ++ (R ++ Q)))[m + k]? = some y := by
  have e : P ++ (L ++ (R ++ Q)) = (P ++ L) ++ (R ++ Q) := by simp
  rw [e]
  refine row_left (P ++ L) R Q m (m + k) y (by rw [List.length_append]; exact hm) (by omega) ?_
  rw [Nat.add_sub_cancel_left]; exact hy

theorem cut_facts (l : List Int) (L R : List Nat) (a mid lo hi s : Nat) (h : Sb l L R a mid lo hi s s) (hL : L.Pairwise (bef l)) (hR : R.Pairwise (bef l)) (ha : a ≤ lo) (h1 : lo ≤ s) (h2 : s ≤ hi) (h3 : hi ≤ mid) (h4 : hi ≤ a + L.length) (h5 : mid ≤ lo + R.length)
    (hlo : lo = a ∨ mid = lo + R.length) (hhi : hi = mid ∨ hi = a + L.length) :
    ∃ L1 L2 R1 R2 : List Nat, L = L1 ++ L2 ∧ R = R1 ++ R2 ∧ L1.length + a = s ∧ R1.length + s = mid ∧ L1.Pairwise (bef l) ∧ L2.Pairwise (bef l) ∧ R1.Pairwise (bef l) ∧ R2.Pairwise (bef l) ∧
      ∀ M1 M2 : List Nat, M1.Pairwise (bef l) → M2.Pairwise (bef l) → M1.Perm (L1 ++ R1) → M2.Perm (L2 ++ R2) → (M1 ++ M2).Pairwise (bef l) ∧ (M1 ++ M2).Perm (L ++ R) := by
  obtain ⟨o1, o2⟩ := h.out hL hR ha h1 h2 h3 h4 h5 hlo hhi
  refine ⟨L.take (s - a), L.drop (s - a), R.take (mid - s), R.drop (mid - s), (List.take_append_drop _ _).symm, (List.take_append_drop _ _).symm, by rw [List.length_take]; omega, by rw [List.length_take]; omega, hL.sublist (List.take_sublist _ _), hL.sublist (List.drop_sublist _ _), hR.sublist (List.take_sublist _ _), hR.sublist (List.drop_sublist _ _), ?_⟩
  intro M1 M2 s1 s2 p1 p2
  exact halves l L R _ _ M1 M2 hL hR s1 s2 p1 p2 o1 o2
end Go.Proofs.Ytdbgpmfdiljopaa.Tick
