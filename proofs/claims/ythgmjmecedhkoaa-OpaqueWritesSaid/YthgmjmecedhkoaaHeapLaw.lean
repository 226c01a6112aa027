/-
  WHAT THE LAWS OF LAYER 2 ASK OF THE LAYER'S FUNCTIONS ('Said'), and what they make of it: the fixed answer awake.
-/
import Derived.Test.YthgmjmecedhkoaaRef02c
import Derived.Test.YthgmjmecedhkoaaOpen
import Derived.Test.YthgmjmecedhkoaaHeapMore2
namespace Go.Proofs.Ythgmjmecedhkoaa.Heap
open Go.ChangeShapes Go.WideShapes Go.ChangeAt Go.RowKit Mem

def ic (k : Nat) : List Value := [.int .i64 (k : Int)]
def is (l : List Nat) : List Value := l.flatMap ic

theorem is_len (l : List Nat) : (is l).length = l.length := by
  induction l with
  | nil => rfl
  | cons x l ih => simp [is, ic] at *; omega
theorem is_at (l : List Nat) (k x : Nat) (hk : l[k]? = some x) : (is l)[k]? = some (.int .i64 (x : Int)) := by
  induction l generalizing k with
  | nil => simp at hk
  | cons y l ih =>
    cases k with
    | zero => simp at hk; subst hk; rfl
    | succ k => simpa [is, ic] using ih k (by simpa using hk)
theorem at_int {w : World} {A : Option Addr} {n : Nat} {l : List Nat} (hr : Rd w 1 A n (is l)) (k x : Nat) (hk : l[k]? = some x) :
    k < n ∧ ∃ b off, A = some ⟨b, off, none⟩ ∧ w.cell? ⟨b, off + k, none⟩ = some (.int .i64 (x : Int)) := by
  have hl : k < l.length := (List.getElem?_eq_some_iff.1 hk).1
  have h1 := hr.1
  rw [is_len] at h1
  obtain ⟨b, off, rfl, hc⟩ := hr.2 (by omega)
  exact ⟨by omega, b, off, rfl, hc _ _ (is_at l k x hk)⟩

def RetB (w : World) (b : Bool) (e : Ending) (w' : World) : Prop := e = .returned (.bool b) ∧ Below w.heap.size w w'
def RetG (w : World) (r : Int × Int) (e : Ending) (w' : World) : Prop := e = .returned (.tuple #[.int .i64 r.1, .int .i64 r.2]) ∧ Below w.heap.size w w'
def RetI (w : World) (m : Nat) (r : List Nat) (e : Ending) (w' : World) : Prop :=
  ∃ B d, e = .returned (.slice B m d) ∧ Rd w' 1 B m (is r) ∧ Below w.heap.size w w'



/-- The numbers of a struct fit 64 bits. -/
def Fits (n : Int) : Prop := -9223372036854775808 ≤ n ∧ n ≤ 9223372036854775807
set_option maxRecDepth 100000 in
theorem open_cells {H : Type} {enc : TypeId × Value → H} {W : World} {A : Option Addr} {n c : Nat} {d : DataW H} {p : List MemPlace}
    (h : DataW.Trod enc Try.prog W 0 (fun _ => true) true 29 (.slice A n c) d p) :
    n ≤ c ∧ c ≤ 9223372036854775807 ∧ ∃ xs : List Cell, Rd W 2 A n (cs xs) ∧ xs.length = n ∧ ∀ x ∈ xs, Fits x.value := by
  refine open_rows Try.underlying29 2 (by kernel_rfl) (by decide) cc (fun _ => rfl) (fun x => Fits x.value) ?_ h
  intro fuel cs' x hl ht
  obtain ⟨xs, n', _, _, _, hxl, hf⟩ := DataW.trod_struct Try.underlying33 ht
  match cs', hl with
  | [c0, c1], _ =>
    have g0 := hf 0 _ rfl
    have g1 := hf 1 _ rfl
    have k3 : Try.prog.cellsOf 3 = 1 := by kernel_rfl
    have k4 : Try.prog.cellsOf 4 = 1 := by kernel_rfl
    match xs, hxl with
    | [y0, y1], _ =>
      simp [k3, k4] at g0 g1
      obtain ⟨b, e0, _⟩ := DataW.trod_bool Try.underlying4 g0
      obtain ⟨m, e1, _, wf⟩ := DataW.trod_int Try.underlying3 g1
      simp at e0 e1
      subst e0 e1
      exact ⟨⟨b, m⟩, rfl, bounds_i64 wf⟩
set_option maxRecDepth 100000 in
theorem open_writes {H : Type} {enc : TypeId × Value → H} {W : World} {A : Option Addr} {n c : Nat} {d : DataW H} {p : List MemPlace}
    (h : DataW.Trod enc Try.prog W 0 (fun _ => true) true 23 (.slice A n c) d p) :
    n ≤ c ∧ c ≤ 9223372036854775807 ∧ ∃ xs : List Write, Rd W 2 A n (ws xs) ∧ xs.length = n ∧ ∀ x ∈ xs, Fits x.cell ∧ Fits x.value := by
  refine open_rows Try.underlying23 2 (by kernel_rfl) (by decide) wc (fun _ => rfl) (fun x => Fits x.cell ∧ Fits x.value) ?_ h
  intro fuel cs' x hl ht
  obtain ⟨xs, n', _, _, _, hxl, hf⟩ := DataW.trod_struct Try.underlying35 ht
  match cs', hl with
  | [c0, c1], _ =>
    have g0 := hf 0 _ rfl
    have g1 := hf 1 _ rfl
    have k3 : Try.prog.cellsOf 3 = 1 := by kernel_rfl
    match xs, hxl with
    | [y0, y1], _ =>
      simp [k3] at g0 g1
      obtain ⟨m0, e0, _, wf0⟩ := DataW.trod_int Try.underlying3 g0
      obtain ⟨m, e1, _, wf⟩ := DataW.trod_int Try.underlying3 g1
      simp at e0 e1
      subst e0 e1
      exact ⟨⟨m0, m⟩, rfl, bounds_i64 wf0, bounds_i64 wf⟩

end Go.Proofs.Ythgmjmecedhkoaa.Heap
