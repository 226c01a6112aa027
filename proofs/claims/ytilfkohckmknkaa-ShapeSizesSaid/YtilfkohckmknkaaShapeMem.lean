/-
  CODES IN MEMORY: slices of slices; what stays where another slice grows. No conditions beyond those that each theorem states. Of the program only its types are named.
-/
import Derived.Test.YtilfkohckmknkaaShapeBytes
import Derived.Test.YtilfkohckmknkaaCodeLaw2
namespace Go.Proofs.Ytilfkohckmknkaa.Shape
open Go.ChangeShapes Go.WideShapes Go.ChangeAt Go.RowKit Mem Go.Proofs.Ytilfkohckmknkaa.Code

/-- A code, and where it lies. -/
structure RawC where
  A : Option Addr
  n : Nat
  c : Nat
  l : List Raw
  deriving Inhabited
def hc (x : RawC) : List Value := [.slice x.A x.n x.c]
def hs (L : List RawC) : List Value := L.flatMap hc
def cc (L : List RawC) : List (List Step) := L.map fun x => ss x.l
theorem hc_len (x : RawC) : (hc x).length = 1 := rfl
theorem hc_one (x : RawC) : ∀ u ∈ hc x, u.oneCell' = true := one_cons rfl one_nil
theorem hs_one (L : List RawC) : ∀ u ∈ hs L, u.oneCell' = true := flat_one hc_one L
theorem hs_app (a b : List RawC) : hs (a ++ b) = hs a ++ hs b := by unfold hs; rw [List.flatMap_append]
theorem cc_app (a b : List RawC) : cc (a ++ b) = cc a ++ cc b := by unfold cc; rw [List.map_append]
theorem cc_len (L : List RawC) : (cc L).length = L.length := by unfold cc; rw [List.length_map]
theorem cc_at (L : List RawC) (k : Nat) (x : RawC) (h : L[k]? = some x) : (cc L)[k]? = some (ss x.l) := by unfold cc; rw [List.getElem?_map, h]; rfl
/-- A code that lies in the world. -/
def Inner (w : World) (x : RawC) : Prop := At w x.A x.n x.l ∧ x.n ≤ x.c ∧ x.c ≤ 9223372036854775807
def Inners (w : World) (L : List RawC) : Prop := ∀ x ∈ L, Inner w x
/-- Codes in memory. -/
def Codes (w : World) (A : Option Addr) (n : Nat) (L : List RawC) : Prop := Rd w 1 A n (hs L) ∧ Inners w L
/-- No code has more steps, and no term more operations, than so many. -/
def LimC (L : List RawC) : Prop := ∀ x ∈ L, x.n ≤ 1000000 ∧ Lim x.l
section
variable {w w' : World} {A : Option Addr} {n : Nat} {L M : List RawC} {v v' : Value} {o : Option Nat}
theorem Inner.below {x : RawC} (h : Inner w x) (hb : Below w.heap.size w w') : Inner w' x := ⟨h.1.below hb, h.2⟩
theorem Inners.below (h : Inners w L) (hb : Below w.heap.size w w') : Inners w' L := fun x hx => (h x hx).below hb
theorem Inners.nil_ : Inners w [] := by intro x hx; cases hx
theorem Inners.app (h : Inners w L) (k : Inners w M) : Inners w (L ++ M) := by
  intro x hx
  rcases List.mem_append.1 hx with hx | hx
  · exact h x hx
  · exact k x hx
theorem Inners.one {x : RawC} (h : Inner w x) : Inners w [x] := by intro y hy; rw [List.mem_singleton] at hy; subst hy; exact h
theorem Codes.below (h : Codes w A n L) (hb : Below w.heap.size w w') : Codes w' A n L := ⟨h.1.below hb, h.2.below hb⟩
theorem Codes.alloc (h : Codes w A n L) (o : Obj) : Codes (w.alloc o) A n L := h.below (bl_alloc (Below.refl _ _) o)
theorem Codes.len (h : Codes w A n L) : L.length = n := Rd.len hc_len h.1 (by decide)
theorem Codes.none_ : Codes w A 0 [] := ⟨Rd.none_, Inners.nil_⟩
theorem Codes.at_ (h : Codes w A n L) (k : Nat) (hk : k < n) :
    ∃ b off, ∃ x : RawC, A = some ⟨b, off, none⟩ ∧ L[k]? = some x ∧ w.cell? ⟨b, off + k, none⟩ = some (.slice x.A x.n x.c) ∧ Inner w x := by
  obtain ⟨b, off, x, hA, hx, hcc⟩ := Rd.at_ hc_len h.1 (by decide) k hk
  exact ⟨b, off, x, hA, hx, by have := hcc 0 _ rfl; simpa using this, h.2 x (List.mem_of_getElem? hx)⟩
theorem LimC.nil_ : LimC [] := by intro x hx; cases hx
theorem LimC.app (h : LimC L) (k : LimC M) : LimC (L ++ M) := by
  intro x hx
  rcases List.mem_append.1 hx with hx | hx
  · exact h x hx
  · exact k x hx
/-- A code lies in other blocks than a slice that grows. -/
def OffC (v : Value) (x : RawC) : Prop := (∀ b off, x.A = some ⟨b, off, none⟩ → 0 < x.n → v.ownBlock ≠ some b) ∧ Off v x.l
def OffL (v : Value) (L : List RawC) : Prop := ∀ x ∈ L, OffC v x
theorem OffL.nil_ : OffL v [] := by intro x hx; cases hx
theorem OffL.app (h : OffL v L) (k : OffL v M) : OffL v (L ++ M) := by
  intro x hx
  rcases List.mem_append.1 hx with hx | hx
  · exact h x hx
  · exact k x hx
theorem OffL.one {x : RawC} (h : OffC v x) : OffL v [x] := by intro y hy; rw [List.mem_singleton] at hy; subst hy; exact h
theorem Inner.grown {x : RawC} (h : Inner w x) (ho : OffC v x) (hg : w.grownBy w' v.ownBlock) : Inner w' x :=
  ⟨⟨rd_grown h.1.1 hg ho.1, h.1.2.grown ho.2 hg⟩, h.2⟩
theorem OffC.grown {x : RawC} (h : Inner w x) (ho : OffC v x) (hat : v'.ownBlock = v.ownBlock ∨ v'.ownBlock = some w.heap.size) : OffC v' x := by
  refine ⟨fun b off e hn => ?_, ho.2.grown h.1.2 hat⟩
  rcases hat with hat | hat
  · rw [hat]; exact ho.1 b off e hn
  · rw [hat]
    have := rd_lt h.1.1 (by decide) hn e
    intro e2; injection e2 with e2; omega
theorem Inners.grown (h : Inners w L) (ho : OffL v L) (hg : w.grownBy w' v.ownBlock) : Inners w' L := fun x hx => (h x hx).grown (ho x hx) hg
theorem OffL.grown (h : Inners w L) (ho : OffL v L) (hat : v'.ownBlock = v.ownBlock ∨ v'.ownBlock = some w.heap.size) : OffL v' L := fun x hx => OffC.grown (h x hx) (ho x hx) hat
/-- A code that has been laid since a world. -/
def New (w0 : World) (x : RawC) : Prop := (∀ b off, x.A = some ⟨b, off, none⟩ → 0 < x.n → w0.heap.size ≤ b) ∧ ∀ r ∈ x.l, ∀ b off, r.T = some ⟨b, off, none⟩ → 0 < r.n → w0.heap.size ≤ b
theorem New.off {x : RawC} (h : New w x) (hv : ∀ g, v.ownBlock = some g → g < w.heap.size) : OffC v x := by
  refine ⟨fun b off e hn e2 => ?_, fun r hr b off e hn e2 => ?_⟩
  · have := h.1 b off e hn; have := hv b e2; omega
  · have := h.2 r hr b off e hn; have := hv b e2; omega
end
end Go.Proofs.Ytilfkohckmknkaa.Shape
