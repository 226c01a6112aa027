/-
  PLAIN LEMMAS ON A RUN THAT KEEPS A LOG: what such a run has so far, and what it stands for. No conditions beyond those that each theorem states. Nothing of the program is named here.
-/
import Derived.Test.YtclbeboiojgejaaGreatCodeA
import Derived.Test.YtclbeboiojgejaaGreatTermB
import Derived.Test.YtclbeboiojgejaaGreatHeapA
import Derived.Test.YtclbeboiojgejaaGreatWritesA
import Derived.Test.YtclbeboiojgejaaGreatMemA
namespace Go.Proofs.YtclbeboiojgejaaGreat.Model
open Go.ChangeShapes Go.WideShapes Go.ChangeAt Go.RowKit Mem Go.Proofs.YtclbeboiojgejaaGreat.Code

/-- What a run has so far. -/
structure St where
  h : List Heap.Cell
  wrote : Nat → Bool
  regs : List Int
  path : List Int
  seen : Nat → Bool
  kind : Int
  why : Int
def tellM (s : St) (t : List Term.Op) : Int := (Term.evalS t s.h s.regs).1
section
variable (x : Step) (c : List Step) (s : St)
end
structure Out where
  kind : Int
  why : Int
  regs : List Int
  path : List Int
  seen : List Int
  writes : List Heap.Write
  deriving DecidableEq
end Go.Proofs.YtclbeboiojgejaaGreat.Model

namespace Go.Proofs.YtclbeboiojgejaaGreat.Model
open Go.ChangeShapes Go.WideShapes Go.ChangeAt Go.RowKit Mem Go.Proofs.YtclbeboiojgejaaGreat.Code

theorem well_tail (x : Step) (c : List Step) (ho : (x :: c).all oneB = true) (h : (wellP (x :: c)).2 = true) : (wellP c).2 = true := by
  rw [List.all_cons, Bool.and_eq_true] at ho
  by_cases h7 : x.d = 7
  · have h1 := one_either x ho.1 h7
    by_cases hlt : (c.length : Int) < x.a + x.b
    · rw [well_out x c h7 hlt] at h; cases h
    · obtain ⟨U, V, R, rfl, ha, hb⟩ := either_parts c x.a x.b (by omega) (by omega) (by omega)
      rw [well_either x U V R h7 ha hb, Bool.and_eq_true, Bool.and_eq_true] at h
      obtain ⟨⟨hu, hv⟩, hr⟩ := h
      have h2 := ho.2
      rw [List.all_append, List.all_append, Bool.and_eq_true, Bool.and_eq_true] at h2
      obtain ⟨ou, ov, or⟩ := h2
      have e1 := behind_well V.length V R (Nat.le_refl _) ov hv hr
      rw [behind_well U.length U (V ++ R) (Nat.le_refl _) ou hu (by rw [e1])]
  · by_cases h4 : x.d = 4 ∧ (c.length : Int) < x.a
    · rw [well_skip x c h4.1 h4.2] at h; cases h
    · rwa [well_plain x c h7 h4] at h
theorem well_drop (k : Nat) : ∀ c : List Step, c.all oneB = true → (wellP c).2 = true → (wellP (c.drop k)).2 = true := by
  induction k with
  | zero => intro c _ h; exact h
  | succ k ih =>
    intro c ho h
    cases c with
    | nil => exact h
    | cons x c =>
      have h2 := well_tail x c ho h
      rw [List.all_cons, Bool.and_eq_true] at ho
      exact ih c ho.2 h2
theorem tell_v (s : St) (t : List Term.Op) : Heap.vB (tellM s t) = true := by
  unfold tellM
  by_cases hc : Term.checkS t = 0
  · by_cases hr : Heap.rightB s.h = true
    · obtain ⟨_, _, h3, h4⟩ := Term.check_ok t hc
      obtain ⟨T, hk, rfl⟩ := Term.well_tree t h4
      rw [Term.eval_tree T hk hc s.h s.regs hr]
      split
      · exact Term.val_v s.h s.regs hr T hk h3
      · decide
    · unfold Term.evalS; rw [if_pos hc, if_neg hr]; decide
  · unfold Term.evalS; rw [if_neg hc]; show Heap.vB 0 = true; decide
end Go.Proofs.YtclbeboiojgejaaGreat.Model

namespace Go.Proofs.YtclbeboiojgejaaGreat.Model
open Go.ChangeShapes Go.WideShapes Go.ChangeAt Go.RowKit Mem Go.Proofs.YtclbeboiojgejaaGreat.Code

section
variable {p p' : List Int} {d d' : Nat → Bool} {b : Bool} {s t : St}
end
end Go.Proofs.YtclbeboiojgejaaGreat.Model

namespace Go.Proofs.YtclbeboiojgejaaGreat.Model
open Go.ChangeShapes Go.WideShapes Go.ChangeAt Go.RowKit Mem Go.Proofs.YtclbeboiojgejaaGreat.Code

/-! What a run hangs on. -/
section
variable {F : Nat → Bool} {s t : St}
end
/-! What is written. -/
end Go.Proofs.YtclbeboiojgejaaGreat.Model

namespace Go.Proofs.YtclbeboiojgejaaGreat.Model
open Go.ChangeShapes Go.WideShapes Go.ChangeAt Go.RowKit Mem Go.Proofs.YtclbeboiojgejaaGreat.Code

/-! Two codes, with all registers set to 0 between. -/
/-! A Skip. -/
end Go.Proofs.YtclbeboiojgejaaGreat.Model

namespace Go.Proofs.YtclbeboiojgejaaGreat.Model
open Go.ChangeShapes Go.WideShapes Go.ChangeAt Go.RowKit Mem Go.Proofs.YtclbeboiojgejaaGreat.Code

section
variable {h : List Heap.Cell} {m : CS} {left : Nat}
end
end Go.Proofs.YtclbeboiojgejaaGreat.Model
