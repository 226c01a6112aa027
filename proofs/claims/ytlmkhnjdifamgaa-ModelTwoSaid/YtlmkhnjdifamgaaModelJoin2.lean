/-
  WORDS FOR THE WALK OF ModelTwo: eight Sets of 0, as they are built. No conditions beyond those that each theorem states.
-/
import Derived.Test.YtlmkhnjdifamgaaModelJoin
import Derived.Test.YtlmkhnjdifamgaaModelRun
namespace Go.Proofs.Ytlmkhnjdifamgaa.Model
open Go.ChangeShapes Go.WideShapes Go.ChangeAt Go.RowKit Mem Go.Proofs.Ytlmkhnjdifamgaa.Code

theorem terms_moved {w w' : World} {v v' : Value} {l : List Raw} {n n' : Nat} (h : Terms w l) (ho : Off v l) (hm : Moved w w' v v' n n') : Terms w' l ∧ Off v' l := by
  rcases hm with ⟨g, c, rfl, rfl, hg⟩ | ⟨hg, hn⟩
  · exact ⟨h.grown ho hg, ho⟩
  · refine ⟨h.below (grown_below hg), fun r hr b off e hp e2 => ?_⟩
    have h1 := rd_lt (h r hr).1 (by decide) hp e
    have h2 := hn b e2
    omega
/-- A Set of 0, its term in a block of its own. -/
def zR (q j : Nat) : Raw := ⟨zeroS (j : Int), some ⟨q, 0, none⟩, 1, 1⟩
theorem zR_terms {w : World} {q j : Nat} (h : Rd w 2 (some ⟨q, 0, none⟩) 1 (Term.ops [⟨1, 0⟩])) : Terms w [zR q j] := by
  intro r hr
  rw [List.mem_singleton] at hr
  subst hr
  exact ⟨h, Nat.le_refl _, by show 1 ≤ 9223372036854775807; omega⟩
theorem zR_lim (q j : Nat) : Lim [zR q j] := by
  intro r hr
  rw [List.mem_singleton] at hr
  subst hr
  show 1 ≤ 1000000; omega
theorem zeros_step (j : Nat) (hj : j < 8) : zeros.take (j + 1) = zeros.take j ++ [zeroS (j : Int)] := by
  match j, hj with
  | 0, _ => rfl
  | 1, _ => rfl
  | 2, _ => rfl
  | 3, _ => rfl
  | 4, _ => rfl
  | 5, _ => rfl
  | 6, _ => rfl
  | 7, _ => rfl
theorem off_new {w : World} {v : Value} {e : TypeId} {size n : Nat} {xs : List Value} {w0 : World} {q j : Nat} (h : Own w0 w e size v n xs) (hq : w.heap.size ≤ q) : Off v [zR q j] := by
  intro r hr b off e1 _ e2
  rw [List.mem_singleton] at hr
  subst hr
  injection e1 with e1
  injection e1 with e1 _
  have := h.lt _ e2
  omega
/-- The Sets that have been built. -/
structure Zs (w : World) (v : Value) (zr : List Raw) (j : Nat) : Prop where
  terms : Terms w zr
  off : Off v zr
  ss_ : ss zr = zeros.take j
  lim : Lim zr
theorem Zs.start (w : World) (v : Value) : Zs w v [] 0 := ⟨Terms.nil_, (fun r hr => by cases hr), rfl, (fun r hr => by cases hr)⟩
theorem Zs.step {w w1 w' w0 : World} {v v' : Value} {zr : List Raw} {j n n' q : Nat} {e : TypeId} {size k : Nat} {xs : List Value} (h : Zs w v zr j) (hj : j < 8) (hb : Below w.heap.size w w1) (ht : Rd w1 2 (some ⟨q, 0, none⟩) 1 (Term.ops [⟨1, 0⟩])) (ho : Own w0 w e size v k xs) (hq : w.heap.size ≤ q) (hm : Moved w1 w' v v' n n') : Zs w' v' (zr ++ [zR q j]) (j + 1) := by
  have h1 : Terms w1 (zr ++ [zR q j]) := (h.terms.below hb).app (zR_terms ht)
  have h2 : Off v (zr ++ [zR q j]) := h.off.app (off_new ho hq)
  obtain ⟨h3, h4⟩ := terms_moved h1 h2 hm
  exact ⟨h3, h4, by rw [ss_app, h.ss_, zeros_step j hj]; rfl, Lim.app h.lim (zR_lim q j)⟩
theorem two_ss (l l2 zr : List Raw) (h : ss zr = zeros.take 8) : ss (l ++ zr ++ l2) = ss l ++ (zeros ++ ss l2) := by
  rw [ss_app, ss_app, h, List.append_assoc]; rfl
end Go.Proofs.Ytlmkhnjdifamgaa.Model
