/-
  WORDS FOR THE WALKS OF STAGE 10'S LAWS: codes put together; whether a number is among the first ones of a list. No conditions beyond those that each theorem states.
-/
import Derived.Test.YtlmkhnjdifamgaaModelTail
import Derived.Test.YtlmkhnjdifamgaaModelLaws3
namespace Go.Proofs.Ytlmkhnjdifamgaa.Model
open Go.ChangeShapes Go.WideShapes Go.ChangeAt Go.RowKit Mem Go.Proofs.Ytlmkhnjdifamgaa.Code

theorem own_built (w : World) (e : TypeId) (size n : Nat) (xs : List Value) (h : xs.length = n * size) (hn : n ≤ 1000000) : Own w (w.alloc (.cells xs.toArray e)) e size (.slice (some ⟨w.heap.size, 0, none⟩) n n) n xs :=
  ⟨⟨h, .inr ⟨w.heap.size, n, _, rfl, Nat.le_refl _, heap_alloc_new w _, Nat.le_refl _, by unfold maxLen; omega, by simpa using h, by rw [← h]; simp⟩⟩, bl_alloc (Below.refl _ _) _⟩
theorem own_eq {w0 w : World} {e size n : Nat} {v : Value} {xs ys : List Value} (h : Own w0 w e size v n xs) (he : xs = ys) : Own w0 w e size v n ys := he ▸ h
theorem own_zero {w0 w : World} {e size n : Nat} {v : Value} {ys : List Value} (h : Own w0 w e size v (0 + n) ([] ++ ys)) : Own w0 w e size v n ys := by
  rw [Nat.zero_add, List.nil_append] at h; exact h
theorem Lim.app {a b : List Raw} (ha : Lim a) (hb : Lim b) : Lim (a ++ b) := by
  intro r hr
  rcases List.mem_append.1 hr with hr | hr
  · exact ha r hr
  · exact hb r hr
/-- A step without a term. -/
def bareR (d a b : Int) : Raw := ⟨⟨d, a, b, []⟩, none, 0, 0⟩
theorem barer_terms (w : World) (d a b : Int) : Terms w [bareR d a b] := by
  intro r hr
  rw [List.mem_singleton] at hr
  subst hr
  exact ⟨Rd.none_, Nat.le_refl _, by show 0 ≤ 9223372036854775807; omega⟩
theorem barer_lim (d a b : Int) : Lim [bareR d a b] := by
  intro r hr
  rw [List.mem_singleton] at hr
  subst hr
  exact Nat.zero_le _
/-- Is it among the first ones? -/
def inb (l : List Int) (z : Int) (q : Nat) : Bool := (l.take q).any (fun y => y == z)
theorem inb_zero (l : List Int) (z : Int) : inb l z 0 = false := rfl
theorem inb_step (l : List Int) (z y : Int) (q : Nat) (h : l[q]? = some y) : inb l z (q + 1) = (inb l z q || (y == z)) := by
  unfold inb; rw [List.take_add_one, h, List.any_append]; simp
theorem inb_end (l : List Int) (z : Int) (q : Nat) (hq : l.length ≤ q) (hz : z ∈ l) : inb l z q = true := by
  unfold inb; rw [List.take_of_length_le hq, List.any_eq_true]; exact ⟨z, hz, by simp⟩
theorem AsPart.swap {o x : Out} {g gx : List Heap.Cell} {way : Int} (h : AsPart o x g gx way) : (o.kind != x.kind) = false ∧ (o.why != x.why) = false := by rw [h.kind, h.why]; simp
theorem either_ss (l l2 : List Raw) (n m : Nat) (h1 : l.length = n) (h2 : l2.length = m) : ss ([bareR 7 (n : Int) (m : Int)] ++ l ++ l2) = eitherL (ss l) (ss l2) := by
  unfold eitherL
  rw [ss_app, ss_app, ss_len, ss_len, h1, h2]
  rfl
end Go.Proofs.Ytlmkhnjdifamgaa.Model
