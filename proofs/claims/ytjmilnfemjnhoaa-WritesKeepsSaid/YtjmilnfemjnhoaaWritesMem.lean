/-
  A WRITE LOG IN MEMORY: a struct that holds two slices. No conditions beyond those that each theorem states.
-/
import Derived.Test.YtjmilnfemjnhoaaWritesMore
import Derived.Test.YtjmilnfemjnhoaaMem3
import Derived.Test.YtjmilnfemjnhoaaHeapLaw
import Derived.Test.YtjmilnfemjnhoaaHeapCode
namespace Go.Proofs.Ytjmilnfemjnhoaa.Writes
open Go.ChangeShapes Go.WideShapes Go.ChangeAt Go.RowKit Mem
open Heap (Write wc ws ws_len vB at_write)

theorem tWrite : SliceT Try.prog 22 27 2 16 := SliceT.mk_ (z := .agg #[.int .i64 0, .int .i64 0]) Try.underlying22 (by kernel_rfl) rfl (by decide)
theorem tInt : SliceT Try.prog 23 3 1 8 := SliceT.mk_ (z := .int .i64 0) Try.underlying23 (by kernel_rfl) rfl (by decide)
theorem wc_len (r : Write) : (wc r).length = 2 := rfl
theorem wc_one (r : Write) : ∀ u ∈ wc r, u.oneCell' = true := one_cons rfl (one_cons rfl one_nil)
theorem ws_one (l : List Write) : ∀ u ∈ ws l, u.oneCell' = true := flat_one wc_one l
theorem ws_app (a b : List Write) : ws (a ++ b) = ws a ++ ws b := by unfold ws; rw [List.flatMap_append]
theorem ws_take (l : List Write) (k : Nat) (x : Write) (hk : l[k]? = some x) : ws (l.take (k + 1)) = ws (l.take k) ++ wc x := flat_take l k x hk
theorem ws_n {w : World} {A : Option Addr} {n : Nat} {l : List Write} (hr : Rd w 2 A n (ws l)) : l.length = n := Rd.len wc_len hr (by decide)

/-- The two slices of a log, in memory. -/
structure LogAt (w : World) (A : Option Addr) (n c : Nat) (B : Option Addr) (m d : Nat) (l : Log) : Prop where
  rl : Rd w 2 A n (ws l.list)
  rm : Rd w 1 B m (zs l.marks)
  nc : n ≤ c
  md : m ≤ d
section
variable {w w' : World} {A B : Option Addr} {n c m d : Nat} {l : Log}
theorem LogAt.below (h : LogAt w A n c B m d l) (hb : Below w.heap.size w w') : LogAt w' A n c B m d l := ⟨h.rl.below hb, h.rm.below hb, h.nc, h.md⟩
theorem LogAt.alloc (h : LogAt w A n c B m d l) (o : Obj) : LogAt (w.alloc o) A n c B m d l := ⟨h.rl.alloc o, h.rm.alloc o, h.nc, h.md⟩
theorem LogAt.drewN (h : LogAt w A n c B m d l) (q : Nat) : LogAt (w.drewN q) A n c B m d l := ⟨h.rl, h.rm, h.nc, h.md⟩
theorem LogAt.ln (h : LogAt w A n c B m d l) : l.list.length = n := ws_n h.rl
theorem LogAt.lm (h : LogAt w A n c B m d l) : l.marks.length = m := zs_len h.rm
end
/-- What is returned: a log, and an error's number. -/
def RetL (w : World) (n m : Nat) (l : Log) (f : Int) (e : Ending) (w' : World) : Prop :=
  ∃ A c B d, e = .returned (.tuple #[.agg #[.slice A n c, .slice B m d], .int .i64 f]) ∧ LogAt w' A n c B m d l ∧ Below w.heap.size w w'
/-- What is returned: a value, and whether there is one. -/
def RetV (w : World) (r : Int × Bool) (e : Ending) (w' : World) : Prop := e = .returned (.tuple #[.int .i64 r.1, .bool r.2]) ∧ Below w.heap.size w w'

/-- Two slices of the call's own, side by side. -/
structure Pair (w0 w : World) (v1 : Value) (n : Nat) (v2 : Value) (m : Nat) (l : Log) : Prop where
  ol : Own w0 w 27 2 v1 n (ws l.list)
  om : Own w0 w 3 1 v2 m (zs l.marks)
  ap : Apart v1 v2
section
variable {w0 w w' : World} {v1 v2 : Value} {n m : Nat} {l : Log}
theorem Pair.below (h : Pair w0 w v1 n v2 m l) (hb : Below w.heap.size w w') : Pair w0 w' v1 n v2 m l := ⟨h.ol.below hb, h.om.below hb, h.ap⟩
theorem Pair.alloc (h : Pair w0 w v1 n v2 m l) (o : Obj) : Pair w0 (w.alloc o) v1 n v2 m l := ⟨h.ol.alloc o, h.om.alloc o, h.ap⟩
theorem Pair.wide {wa : World} (h : Pair w0 w v1 n v2 m l) (hb : Below wa.heap.size wa w0) : Pair wa w v1 n v2 m l := ⟨h.ol.wide hb, h.om.wide hb, h.ap⟩
theorem Pair.set_ne {g : Nat} (h : Pair w0 w v1 n v2 m l) (hg : w0.heap.size ≤ g) (n1 : v1.ownBlock ≠ some g) (n2 : v2.ownBlock ≠ some g) (i : Nat) (u : Value) : Pair w0 (w.setCell ⟨g, i, none⟩ u) v1 n v2 m l := ⟨h.ol.set_ne hg n1 i u, h.om.set_ne hg n2 i u, h.ap⟩
theorem Pair.log {A B : Option Addr} {c d : Nat} (h : Pair w0 w (.slice A n c) n (.slice B m d) m l) : LogAt w A n c B m d l := by
  obtain ⟨_, h1, h2⟩ := own_cap h.ol
  obtain ⟨_, h3, h4⟩ := own_cap h.om
  exact ⟨h2, h4, h1, h3⟩
end
/-- What is returned: a log of the call's own, and an error's number. -/
def RetLP (w : World) (n m : Nat) (l : Log) (f : Int) (e : Ending) (w' : World) : Prop :=
  ∃ A c B d, e = .returned (.tuple #[.agg #[.slice A n c, .slice B m d], .int .i64 f]) ∧ Pair w w' (.slice A n c) n (.slice B m d) m l
theorem RetLP.toL {w : World} {n m : Nat} {l : Log} {f : Int} {e : Ending} {w' : World} (h : RetLP w n m l f e w') : RetL w n m l f e w' := by
  obtain ⟨A, c, B, d, h1, h2⟩ := h
  exact ⟨A, c, B, d, h1, h2.log, h2.ol.2⟩
/-- A log of a call's own, behind one store into a block that lay there ahead of it. -/
theorem pair_old {w0 w : World} {v1 v2 : Value} {n m g : Nat} {l : Log} (h : Pair w0 w v1 n v2 m l) (hg : g < w0.heap.size) : v1.ownBlock ≠ some g ∧ v2.ownBlock ≠ some g := ⟨h.ol.ne_old hg, h.om.ne_old hg⟩
theorem LogAt.set_ne {w : World} {A B : Option Addr} {n c m d g : Nat} {l : Log} (h : LogAt w A n c B m d l) (n1 : (Value.slice A n c).ownBlock ≠ some g) (n2 : (Value.slice B m d).ownBlock ≠ some g) (i : Nat) (u : Value) : LogAt (w.setCell ⟨g, i, none⟩ u) A n c B m d l :=
  ⟨h.rl.set_ne (own_ne n1) i u, h.rm.set_ne (own_ne n2) i u, h.nc, h.md⟩
theorem log_eq (x y : Log) : decide (x = y) = (decide (x.list = y.list) && decide (x.marks = y.marks)) := by
  obtain ⟨a, b⟩ := x
  obtain ⟨c, d⟩ := y
  rw [Bool.eq_iff_iff]; simp
end Go.Proofs.Ytjmilnfemjnhoaa.Writes
