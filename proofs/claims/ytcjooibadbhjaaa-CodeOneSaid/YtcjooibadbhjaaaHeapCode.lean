/-
  WHAT EACH FUNCTION OF THE LAYER heap RETURNS, AS IT IS WRITTEN: so the laws' premise 'Said' holds.
-/
import Derived.Test.YtcjooibadbhjaaaHeapLaw
import Derived.OwnWalk
import Derived.Lib.SliceRun
namespace Go.Proofs.Ytcjooibadbhjaaa.Heap
open Go.ChangeShapes Go.WideShapes Go.ChangeAt Go.RowKit Mem

theorem own_set {w0 w : World} {e size n cap g : Nat} {xs : List Value} (h : Own w0 w e size (.slice (some ⟨g, 0, none⟩) n cap) n xs) (j : Nat) (u : Value) :
    Own w0 (w.setCell ⟨g, j, none⟩ u) e size (.slice (some ⟨g, 0, none⟩) n cap) n (xs.set j u) :=
  ⟨(h.1.stored j u).1, h.2.setCell (h.base g rfl) u⟩
theorem own_lay {w0 w : World} {e size n : Nat} {v : Value} {xs : List Value} (h : Own w0 w e size v n xs) (hn : 0 < n) : ∃ g cap, v = .slice (some ⟨g, 0, none⟩) n cap := by
  rcases h.1.2 with ⟨_, h0⟩ | ⟨g, cap, cur, rfl, _⟩
  · omega
  · exact ⟨g, cap, rfl⟩
theorem cs_one (h : List Cell) : ∀ u ∈ cs h, u.oneCell' = true := by
  intro u hu
  obtain ⟨x, _, hx⟩ := List.mem_flatMap.1 hu
  unfold cc at hx
  simp at hx
  rcases hx with rfl | rfl <;> rfl
theorem cs_set (h : List Cell) (k : Nat) (c : Cell) : ((cs h).set (k * 2) (.bool c.live)).set (k * 2 + 1) (.int .i64 c.value) = cs (h.set k c) := by
  induction h generalizing k with
  | nil => simp [cs]
  | cons x h ih =>
    cases k with
    | zero => rfl
    | succ k =>
      have e1 : (k + 1) * 2 = k * 2 + 2 := by omega
      have e2 : (k + 1) * 2 + 1 = k * 2 + 1 + 2 := by omega
      have := ih k
      simp only [cs, cc, List.flatMap_cons, List.cons_append, List.nil_append, e1, List.set_cons_succ] at *
      rw [this]

theorem spanright_any (n : Int) (w : World) :
    Calls Try.prog 37 #[.int .i64 n] w fun e w' => e = .returned (.bool (vB n)) ∧ w = w' := by
  by_cases h1 : -2147483648 ≤ n
  all_goals by_cases h2 : n ≤ 2147483647
  all_goals
    go_enter Try.func37, Try.ntmps37
    go_wp2
    go_ret
    exact ⟨ret_bool (by unfold vB; simp [h1, h2]), rfl⟩

def lenB (n : Int) : Bool := decide (1 ≤ n ∧ n ≤ 64)





def RetF (w : World) (f : Option Nat) (e : Ending) (w' : World) : Prop :=
  e = .returned (.tuple #[.int .i64 ((f.getD 0 : Nat) : Int), .bool f.isSome]) ∧ Below w.heap.size w w'

end Go.Proofs.Ytcjooibadbhjaaa.Heap
