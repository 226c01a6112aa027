/-
  PASTS IN MEMORY: a slice of structs with slices in them. No conditions beyond those that each theorem states. Nothing of the program is named here.
-/
import Derived.Test.YthgmjmecedhkoaaOpaquePlain
import Derived.Test.YthgmjmecedhkoaaOwn
import Derived.Test.YthgmjmecedhkoaaMem3
import Derived.Test.YthgmjmecedhkoaaData
namespace Go.Proofs.Ythgmjmecedhkoaa.Opaque
open Go.ChangeShapes Go.WideShapes Go.ChangeAt Go.RowKit Mem

/-- A heap with its version, and where it lies. -/
structure RawS where
  v : Int
  A : Option Addr
  n : Nat
  c : Nat
  h : List Heap.Cell
  deriving Inhabited
def sc (x : RawS) : List Value := [.int .i64 x.v, .slice x.A x.n x.c]
def ss (L : List RawS) : List Value := L.flatMap sc
def st (x : RawS) : St := ⟨x.v, x.h⟩
def cc (L : List RawS) : List St := L.map st
theorem sc_len (x : RawS) : (sc x).length = 2 := rfl
theorem sc_one (x : RawS) : ∀ u ∈ sc x, u.oneCell' = true := one_cons rfl (one_cons rfl one_nil)
theorem ss_one (L : List RawS) : ∀ u ∈ ss L, u.oneCell' = true := flat_one sc_one L
theorem ss_app (a b : List RawS) : ss (a ++ b) = ss a ++ ss b := by unfold ss; rw [List.flatMap_append]
theorem cc_app (a b : List RawS) : cc (a ++ b) = cc a ++ cc b := by unfold cc; rw [List.map_append]
theorem cc_len (L : List RawS) : (cc L).length = L.length := by unfold cc; rw [List.length_map]
theorem cc_at (L : List RawS) (k : Nat) (x : RawS) (h : L[k]? = some x) : (cc L)[k]? = some (st x) := by unfold cc; rw [List.getElem?_map, h]; rfl
theorem cc_get (L : List RawS) (k : Nat) (s : St) (h : (cc L)[k]? = some s) : ∃ x, L[k]? = some x ∧ st x = s := by
  unfold cc at h; rw [List.getElem?_map] at h
  cases hx : L[k]? with
  | none => rw [hx] at h; cases h
  | some x => rw [hx] at h; injection h with h; exact ⟨x, rfl, h⟩
/-- A heap that lies in the world. -/
def Inner (w : World) (x : RawS) : Prop := Rd w 2 x.A x.n (Heap.cs x.h)
def Inners (w : World) (L : List RawS) : Prop := ∀ x ∈ L, Inner w x
/-- A past in memory. -/
def Past (w : World) (A : Option Addr) (n : Nat) (L : List RawS) : Prop := Rd w 2 A n (ss L) ∧ Inners w L
/-- No heap has more cells than so many. -/
def Lim (L : List RawS) : Prop := ∀ x ∈ L, x.n ≤ 1000000
theorem cell_grown_ {w w' : World} {o : Option Nat} {a : Addr} {u : Value} (h : w.cell? a = some u) (hg : w.grownBy w' o) (hne : o ≠ some a.block) : w'.cell? a = some u := by
  obtain ⟨_, _, _, _, hb⟩ := hg
  have e := hb a.block (cell_lt h) (fun e => hne e.symm)
  unfold World.cell? at h ⊢
  rw [e]; exact h
theorem rd_grown {w w' : World} {o : Option Nat} {k n : Nat} {A : Option Addr} {xs : List Value} (h : Rd w k A n xs) (hg : w.grownBy w' o) (hne : ∀ b off, A = some ⟨b, off, none⟩ → 0 < n → o ≠ some b) : Rd w' k A n xs :=
  ⟨h.1, fun hn => by
    obtain ⟨b, off, e, hc⟩ := h.2 hn
    exact ⟨b, off, e, fun j u hu => cell_grown_ (hc j u hu) hg (hne b off e hn)⟩⟩
theorem rd_lt {w : World} {k n b off : Nat} {A : Option Addr} {xs : List Value} (h : Rd w k A n xs) (hk : 0 < k) (hn : 0 < n) (e : A = some ⟨b, off, none⟩) : b < w.heap.size := by
  obtain ⟨b', off', e', hc⟩ := h.2 hn
  rw [e] at e'
  injection e' with e'
  injection e' with e1 e2
  subst e1 e2
  have hl : 0 < xs.length := by rw [h.1]; exact Nat.mul_pos hn hk
  exact cell_lt (hc 0 _ (List.getElem?_eq_getElem hl))
section
variable {w w' : World} {A : Option Addr} {n : Nat} {L M : List RawS}
theorem Inner.below {x : RawS} (h : Inner w x) (hb : Below w.heap.size w w') : Inner w' x := Rd.below h hb
theorem Inner.alloc {x : RawS} (h : Inner w x) (o : Obj) : Inner (w.alloc o) x := Rd.alloc h o
theorem Inners.below (h : Inners w L) (hb : Below w.heap.size w w') : Inners w' L := fun x hx => (h x hx).below hb
theorem Inners.nil_ : Inners w [] := by intro x hx; cases hx
theorem Inners.app (h : Inners w L) (k : Inners w M) : Inners w (L ++ M) := by
  intro x hx
  rcases List.mem_append.1 hx with hx | hx
  · exact h x hx
  · exact k x hx
theorem Inners.one {x : RawS} (h : Inner w x) : Inners w [x] := by intro y hy; rw [List.mem_singleton] at hy; subst hy; exact h
theorem Past.below (h : Past w A n L) (hb : Below w.heap.size w w') : Past w' A n L := ⟨h.1.below hb, h.2.below hb⟩
theorem Past.alloc (h : Past w A n L) (o : Obj) : Past (w.alloc o) A n L := h.below (bl_alloc (Below.refl _ _) o)
theorem Past.len (h : Past w A n L) : L.length = n := Rd.len sc_len h.1 (by decide)
theorem Past.none_ : Past w A 0 [] := ⟨Rd.none_, Inners.nil_⟩
theorem Past.at_ (h : Past w A n L) (k : Nat) (hk : k < n) :
    ∃ b off, ∃ x : RawS, A = some ⟨b, off, none⟩ ∧ L[k]? = some x ∧ w.cell? ⟨b, off + k * 2, none⟩ = some (.int .i64 x.v) ∧ w.cell? ⟨b, off + k * 2 + 1, none⟩ = some (.slice x.A x.n x.c) ∧ Inner w x := by
  obtain ⟨b, off, x, hA, hx, hcc⟩ := Rd.at_ sc_len h.1 (by decide) k hk
  exact ⟨b, off, x, hA, hx, by have := hcc 0 _ rfl; simpa using this, hcc 1 _ rfl, h.2 x (List.mem_of_getElem? hx)⟩
theorem Lim.at_ (h : Lim L) (k : Nat) (x : RawS) (hk : L[k]? = some x) : x.n ≤ 1000000 := h x (List.mem_of_getElem? hk)
theorem Inner.len {x : RawS} (h : Inner w x) : x.h.length = x.n := by have := h.1; rw [Heap.cs_len] at this; omega
end
end Go.Proofs.Ythgmjmecedhkoaa.Opaque
