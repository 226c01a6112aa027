/-
  WHO SLEEPS, IN MEMORY: a slice of structs with two slices in each. No conditions beyond those that each theorem states. Nothing of the program is named here.
-/
import Derived.Test.YtddgdhaioomnnaaSleepPlain
import Derived.Test.YtddgdhaioomnnaaMemA
namespace Go.Proofs.Ytddgdhaioomnnaa.Sleep
open Go.ChangeShapes Go.WideShapes Go.ChangeAt Go.RowKit Mem
open Heap (Write)

/-- A sleeper, and where its slices lie. -/
structure RawS where
  who : Int
  mode : Int
  til : Int
  A : Option Addr
  n : Nat
  c : Nat
  W : List Write
  B : Option Addr
  m : Nat
  d : Nat
  T : List Term.Op
  deriving Inhabited
def sc (x : RawS) : List Value := [.int .i64 x.who, .int .i64 x.mode, .int .i64 x.til, .slice x.A x.n x.c, .slice x.B x.m x.d]
def ss (L : List RawS) : List Value := L.flatMap sc
def st (x : RawS) : Sl := ⟨x.who, x.mode, x.til, x.W, x.T⟩
def cc (L : List RawS) : List Sl := L.map st
def cS (x : RawS) : Array Value := #[.int .i64 x.who, .int .i64 x.mode, .int .i64 x.til, .slice x.A x.n x.c, .slice x.B x.m x.d]
theorem sc_len (x : RawS) : (sc x).length = 5 := rfl
theorem sc_one (x : RawS) : ∀ u ∈ sc x, u.oneCell' = true := one_cons rfl (one_cons rfl (one_cons rfl (one_cons rfl (one_cons rfl one_nil))))
theorem ss_len (L : List RawS) : (ss L).length = L.length * 5 := flat_len sc_len L
theorem ss_one (L : List RawS) : ∀ u ∈ ss L, u.oneCell' = true := flat_one sc_one L
theorem ss_app (a b : List RawS) : ss (a ++ b) = ss a ++ ss b := by unfold ss; rw [List.flatMap_append]
theorem cc_app (a b : List RawS) : cc (a ++ b) = cc a ++ cc b := by unfold cc; rw [List.map_append]
theorem cc_len (L : List RawS) : (cc L).length = L.length := by unfold cc; rw [List.length_map]
theorem cc_take (L : List RawS) (k : Nat) : cc (L.take k) = (cc L).take k := by unfold cc; rw [List.map_take]
theorem cc_drop (L : List RawS) (k : Nat) : cc (L.drop k) = (cc L).drop k := by unfold cc; rw [List.map_drop]
theorem cc_at (L : List RawS) (k : Nat) (x : RawS) (h : L[k]? = some x) : (cc L)[k]? = some (st x) := by unfold cc; rw [List.getElem?_map, h]; rfl
theorem cc_get (L : List RawS) (k : Nat) (s : Sl) (h : (cc L)[k]? = some s) : ∃ x, L[k]? = some x ∧ st x = s := by
  unfold cc at h; rw [List.getElem?_map] at h
  cases hx : L[k]? with
  | none => rw [hx] at h; cases h
  | some x => rw [hx] at h; injection h with h; exact ⟨x, rfl, h⟩
/-- The slices of a sleeper lie in the world. -/
def Inner (w : World) (x : RawS) : Prop := Rd w 2 x.A x.n (Heap.ws x.W) ∧ Rd w 2 x.B x.m (Term.ops x.T)
def Inners (w : World) (L : List RawS) : Prop := ∀ x ∈ L, Inner w x
/-- Who sleeps, in memory. -/
def Sls (w : World) (A : Option Addr) (n : Nat) (L : List RawS) : Prop := Rd w 5 A n (ss L) ∧ Inners w L
/-- Nobody has more than so many. -/
def Lim1 (x : RawS) : Prop := (x.n ≤ 1000000 ∧ x.m ≤ 1000000)
def Lim (L : List RawS) : Prop := ∀ x ∈ L, Lim1 x
theorem cell_grown_ {w w' : World} {o : Option Nat} {a : Addr} {u : Value} (h : w.cell? a = some u) (hg : w.grownBy w' o) (hne : o ≠ some a.block) : w'.cell? a = some u := by
  obtain ⟨_, _, _, _, hb⟩ := hg
  have e := hb a.block (cell_lt h) (fun e => hne e.symm)
  unfold World.cell? at h ⊢
  rw [e]; exact h
theorem rd_grown {w w' : World} {o : Option Nat} {k n : Nat} {A : Option Addr} {xs : List Value} (h : Rd w k A n xs) (hg : w.grownBy w' o) (hne : ∀ b off, A = some ⟨b, off, none⟩ → 0 < n → o ≠ some b) : Rd w' k A n xs :=
  ⟨h.1, fun hn => by
    obtain ⟨b, off, e, hc⟩ := h.2 hn
    exact ⟨b, off, e, fun j u hu => cell_grown_ (hc j u hu) hg (hne b off e hn)⟩⟩
theorem rd_lt {w : World} {k n b off : Nat} {A : Option Addr} {xs : List Value} (h : Rd w k A n xs) (hk : 0 < k) (hn : 0 < n) (e : A = some ⟨b, off, none⟩) : b < w.heap.size := by
  obtain ⟨b', off', e', hc⟩ := h.2 hn
  rw [e] at e'
  injection e' with e'
  injection e' with e1 e2
  subst e1 e2
  have hl : 0 < xs.length := by rw [h.1]; exact Nat.mul_pos hn hk
  exact cell_lt (hc 0 _ (List.getElem?_eq_getElem hl))
section
variable {w w' : World} {A : Option Addr} {n : Nat} {L M : List RawS}
theorem Inner.below {x : RawS} (h : Inner w x) (hb : Below w.heap.size w w') : Inner w' x := ⟨h.1.below hb, h.2.below hb⟩
theorem Inner.alloc {x : RawS} (h : Inner w x) (o : Obj) : Inner (w.alloc o) x := ⟨h.1.alloc o, h.2.alloc o⟩
theorem Inner.lenW {x : RawS} (h : Inner w x) : x.W.length = x.n := by have := h.1.1; rw [Heap.ws_len] at this; omega
theorem Inner.lenT {x : RawS} (h : Inner w x) : x.T.length = x.m := Term.ops_len h.2
theorem Inners.below (h : Inners w L) (hb : Below w.heap.size w w') : Inners w' L := fun x hx => (h x hx).below hb
theorem Inners.nil_ : Inners w [] := by intro x hx; cases hx
theorem Inners.app (h : Inners w L) (k : Inners w M) : Inners w (L ++ M) := by
  intro x hx
  rcases List.mem_append.1 hx with hx | hx
  · exact h x hx
  · exact k x hx
theorem Inners.one {x : RawS} (h : Inner w x) : Inners w [x] := by intro y hy; rw [List.mem_singleton] at hy; subst hy; exact h
theorem Sls.below (h : Sls w A n L) (hb : Below w.heap.size w w') : Sls w' A n L := ⟨h.1.below hb, h.2.below hb⟩
theorem Sls.alloc (h : Sls w A n L) (o : Obj) : Sls (w.alloc o) A n L := h.below (bl_alloc (Below.refl _ _) o)
theorem Sls.len (h : Sls w A n L) : L.length = n := Rd.len sc_len h.1 (by decide)
theorem Sls.none_ : Sls w A 0 [] := ⟨Rd.none_, Inners.nil_⟩
theorem Sls.at_ (h : Sls w A n L) (k : Nat) (hk : k < n) :
    ∃ b off, ∃ x : RawS, A = some ⟨b, off, none⟩ ∧ L[k]? = some x ∧ w.cell? ⟨b, off + k * 5, none⟩ = some (.int .i64 x.who) ∧ w.cell? ⟨b, off + k * 5 + 1, none⟩ = some (.int .i64 x.mode)
      ∧ w.cell? ⟨b, off + k * 5 + 2, none⟩ = some (.int .i64 x.til) ∧ w.cell? ⟨b, off + k * 5 + 3, none⟩ = some (.slice x.A x.n x.c) ∧ w.cell? ⟨b, off + k * 5 + 4, none⟩ = some (.slice x.B x.m x.d) ∧ Inner w x := by
  obtain ⟨b, off, x, hA, hx, hcc⟩ := Rd.at_ sc_len h.1 (by decide) k hk
  exact ⟨b, off, x, hA, hx, by have := hcc 0 _ rfl; simpa using this, hcc 1 _ rfl, hcc 2 _ rfl, hcc 3 _ rfl, hcc 4 _ rfl, h.2 x (List.mem_of_getElem? hx)⟩
theorem Lim.at_ (h : Lim L) (k : Nat) (x : RawS) (hk : L[k]? = some x) : Lim1 x := h x (List.mem_of_getElem? hk)
theorem Lim.nil_ : Lim [] := by intro x hx; cases hx
theorem Lim.app (h : Lim L) (k : Lim M) : Lim (L ++ M) := by
  intro x hx
  rcases List.mem_append.1 hx with hx | hx
  · exact h x hx
  · exact k x hx
theorem Lim.one {x : RawS} (h : Lim1 x) : Lim [x] := by intro y hy; rw [List.mem_singleton] at hy; subst hy; exact h
theorem Lim.take (h : Lim L) (k : Nat) : Lim (L.take k) := fun x hx => h x (List.mem_of_mem_take hx)
theorem Lim.drop (h : Lim L) (k : Nat) : Lim (L.drop k) := fun x hx => h x (List.mem_of_mem_drop hx)
theorem Inners.take (h : Inners w L) (k : Nat) : Inners w (L.take k) := fun x hx => h x (List.mem_of_mem_take hx)
theorem Inners.drop (h : Inners w L) (k : Nat) : Inners w (L.drop k) := fun x hx => h x (List.mem_of_mem_drop hx)
end
/-- The slices lie in other blocks than a slice of the call's own. -/
def Off1 (v : Value) (x : RawS) : Prop := (∀ b off, x.A = some ⟨b, off, none⟩ → 0 < x.n → v.ownBlock ≠ some b) ∧ (∀ b off, x.B = some ⟨b, off, none⟩ → 0 < x.m → v.ownBlock ≠ some b)
def Off (v : Value) (L : List RawS) : Prop := ∀ x ∈ L, Off1 v x
theorem off_old {w0 w : World} {e size n : Nat} {v : Value} {xs : List Value} {L : List RawS} (h : Own w0 w e size v n xs) (hi : Inners w0 L) : Off v L := by
  intro x hx
  refine ⟨fun b off hA hn e1 => ?_, fun b off hA hn e1 => ?_⟩
  · have h1 := h.base b e1
    have h2 := rd_lt (hi x hx).1 (by decide) hn hA
    omega
  · have h1 := h.base b e1
    have h2 := rd_lt (hi x hx).2 (by decide) hn hA
    omega
theorem Inners.grown {w w' : World} {L : List RawS} {v : Value} (h : Inners w L) (ho : Off v L) (hg : w.grownBy w' v.ownBlock) : Inners w' L := fun x hx =>
  ⟨rd_grown (h x hx).1 hg (fun b off e hn => (ho x hx).1 b off e hn), rd_grown (h x hx).2 hg (fun b off e hn => (ho x hx).2 b off e hn)⟩
theorem cc_set (L : List RawS) (k : Nat) (x y : RawS) (hx : L[k]? = some x) (hy : st y = st x) : cc (L.set k y) = cc L := by
  unfold cc
  rw [List.map_set, hy]
  apply List.ext_getElem?
  intro i
  by_cases hi : i = k
  · subst hi
    have hl := (List.getElem?_eq_some_iff.1 hx).1
    rw [List.getElem?_set_self (by simpa using hl), List.getElem?_map, hx]; rfl
  · rw [List.getElem?_set_ne (fun e => hi e.symm)]
theorem mem_set {L : List RawS} {k : Nat} {y z : RawS} (h : z ∈ L.set k y) : z ∈ L ∨ z = y := by
  rcases List.mem_or_eq_of_mem_set h with h | h
  · exact .inl h
  · exact .inr h
/-- What is returned: who sleeps, and an error's number. -/
def RetP (w : World) (r : List Sl × Int) (e : Ending) (w' : World) : Prop :=
  ∃ B m d L, e = .returned (.tuple #[.slice B m d, .int .i64 r.2]) ∧ Sls w' B m L ∧ cc L = r.1 ∧ Lim L ∧ Below w.heap.size w w'
/-- What is returned: who sleeps, in a slice of the call's own, beside what lies in no block of it. -/
def RetOP (te : Nat) (w : World) (n : Nat) (S : List Sl) (e : Ending) (w' : World) : Prop :=
  ∃ v L, e = .returned v ∧ Own w w' te 5 v n (ss L) ∧ cc L = S ∧ Inners w' L ∧ Lim L ∧ Off v L
end Go.Proofs.Ytddgdhaioomnnaa.Sleep
