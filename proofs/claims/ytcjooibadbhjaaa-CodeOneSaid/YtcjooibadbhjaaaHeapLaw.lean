/-
  WHAT THE LAWS OF LAYER 2 ASK OF THE LAYER'S FUNCTIONS ('Said'), and what they make of it: the fixed answer awake.
-/
import Derived.Test.YtcjooibadbhjaaaRef02c
import Derived.Test.YtcjooibadbhjaaaOpen
import Derived.Test.YtcjooibadbhjaaaHeapMore2
namespace Go.Proofs.Ytcjooibadbhjaaa.Heap
open Go.ChangeShapes Go.WideShapes Go.ChangeAt Go.RowKit Mem

def ic (k : Nat) : List Value := [.int .i64 (k : Int)]
def is (l : List Nat) : List Value := l.flatMap ic

theorem is_len (l : List Nat) : (is l).length = l.length := by
  induction l with
  | nil => rfl
  | cons x l ih => simp [is, ic] at *; omega
theorem is_at (l : List Nat) (k x : Nat) (hk : l[k]? = some x) : (is l)[k]? = some (.int .i64 (x : Int)) := by
  induction l generalizing k with
  | nil => simp at hk
  | cons y l ih =>
    cases k with
    | zero => simp at hk; subst hk; rfl
    | succ k => simpa [is, ic] using ih k (by simpa using hk)
theorem at_int {w : World} {A : Option Addr} {n : Nat} {l : List Nat} (hr : Rd w 1 A n (is l)) (k x : Nat) (hk : l[k]? = some x) :
    k < n ∧ ∃ b off, A = some ⟨b, off, none⟩ ∧ w.cell? ⟨b, off + k, none⟩ = some (.int .i64 (x : Int)) := by
  have hl : k < l.length := (List.getElem?_eq_some_iff.1 hk).1
  have h1 := hr.1
  rw [is_len] at h1
  obtain ⟨b, off, rfl, hc⟩ := hr.2 (by omega)
  exact ⟨by omega, b, off, rfl, hc _ _ (is_at l k x hk)⟩

def RetB (w : World) (b : Bool) (e : Ending) (w' : World) : Prop := e = .returned (.bool b) ∧ Below w.heap.size w w'
def RetG (w : World) (r : Int × Int) (e : Ending) (w' : World) : Prop := e = .returned (.tuple #[.int .i64 r.1, .int .i64 r.2]) ∧ Below w.heap.size w w'
def RetI (w : World) (m : Nat) (r : List Nat) (e : Ending) (w' : World) : Prop :=
  ∃ B d, e = .returned (.slice B m d) ∧ Rd w' 1 B m (is r) ∧ Below w.heap.size w w'



/-- The numbers of a struct fit 64 bits. -/
def Fits (n : Int) : Prop := -9223372036854775808 ≤ n ∧ n ≤ 9223372036854775807

end Go.Proofs.Ytcjooibadbhjaaa.Heap
