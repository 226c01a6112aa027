/-
  WORDS FOR THE WALK OF ModelSeen: numbers of 32 bits, an argument that is a slice of them; a cell of a heap of the call's own. No conditions beyond those that each theorem states.
-/
import Derived.Test.YtlmkhnjdifamgaaModelJoin
import Derived.Test.YtlmkhnjdifamgaaModelSeenP
namespace Go.Proofs.Ytlmkhnjdifamgaa.Model
open Go.ChangeShapes Go.WideShapes Go.ChangeAt Go.RowKit Mem Go.Proofs.Ytlmkhnjdifamgaa.Code

def ic (z : Int) : List Value := [.int .i32 z]
def is32 (l : List Int) : List Value := l.flatMap ic
theorem ic_len (z : Int) : (ic z).length = 1 := rfl
theorem at_i {w : World} {A : Option Addr} {n : Nat} {l : List Int} (hr : Rd w 1 A n (is32 l)) (k : Nat) (hk : k < n) :
    ∃ b off, ∃ x : Int, A = some ⟨b, off, none⟩ ∧ l[k]? = some x ∧ w.cell? ⟨b, off + k, none⟩ = some (.int .i32 x) := by
  obtain ⟨b, off, x, hA, hx, hc⟩ := Rd.at_ ic_len hr (by decide) k hk
  exact ⟨b, off, x, hA, hx, by have := hc 0 _ rfl; simpa using this⟩
theorem is_len {w : World} {A : Option Addr} {n : Nat} {l : List Int} (hr : Rd w 1 A n (is32 l)) : l.length = n := Rd.len ic_len hr (by decide)
theorem open_i32s {H : Type} {enc : TypeId × Value → H} {W : World} {A : Option Addr} {n c : Nat} {d : DataW H} {p : List MemPlace}
    (h : DataW.Trod enc Try.prog W 0 (fun _ => true) true 24 (.slice A n c) d p) :
    n ≤ c ∧ c ≤ 9223372036854775807 ∧ ∃ xs : List Int, Rd W 1 A n (is32 xs) ∧ xs.length = n ∧ ∀ x ∈ xs, -2147483648 ≤ x ∧ x ≤ 2147483647 := by
  refine open_rows Try.underlying24 1 (by kernel_rfl) (by decide) ic (fun _ => rfl) (fun x => -2147483648 ≤ x ∧ x ≤ 2147483647) ?_ h
  intro fuel cs' x hl ht
  obtain ⟨m, e1, _, wf⟩ := DataW.trod_int Try.underlying21 ht
  exact ⟨m, e1, bounds_i32 wf⟩
/-- A cell of a heap of the call's own. -/
theorem own_cell {w0 w : World} {e n cap g : Nat} {H : List Heap.Cell} (h : Own w0 w e 2 (.slice (some ⟨g, 0, none⟩) n cap) n (Heap.cs H)) (k : Nat) (x : Heap.Cell) (hx : H[k]? = some x) :
    w.cell? ⟨g, k * 2, none⟩ = some (.bool x.live) ∧ w.cell? ⟨g, k * 2 + 1, none⟩ = some (.int .i64 x.value) ∧ w.frozen? ⟨g, k * 2, none⟩ = false ∧ w.frozen? ⟨g, k * 2 + 1, none⟩ = false := by
  have hl : H.length = n := by have h1 := h.1.1; rw [Heap.cs_len] at h1; omega
  have hk : k < n := by rw [← hl]; exact (List.getElem?_eq_some_iff.1 hx).1
  obtain ⟨b, off, y, hA, hy, c0, c1⟩ := Heap.at_cell (own_rd h) k hk
  injection hA with hA
  injection hA with e1 e2
  subst e1 e2
  rw [hx] at hy
  injection hy with hy
  subst hy
  rw [Nat.zero_add] at c0 c1
  exact ⟨c0, c1, h.1.frozenAt _, h.1.frozenAt _⟩
theorem mix_own {w0 w : World} {e n cap g : Nat} {h : List Heap.Cell} {vs : List Int} {j : Nat} (ho : Own w0 w e 2 (.slice (some ⟨g, 0, none⟩) n cap) n (Heap.cs (mix h vs j))) (x : Heap.Cell) (v : Int) (hx : h[j]? = some x) (hv : vs[j]? = some v) (hl : x.live = true) :
    Own w0 (w.setCell ⟨g, j * 2 + 1, none⟩ (.int .i64 v)) e 2 (.slice (some ⟨g, 0, none⟩) n cap) n (Heap.cs (mix h vs (j + 1))) := by
  have h1 := own_set ho (j * 2 + 1) (.int .i64 v)
  rw [Heap.cs_set1 _ j x v (by rw [mix_at]; exact hx), ← mix_yes h vs j x v hx hv hl] at h1
  exact h1
theorem back_own {w0 w : World} {e n cap g : Nat} {h G : List Heap.Cell} {l : List Int} {q k : Nat} (ho : Own w0 w e 2 (.slice (some ⟨g, 0, none⟩) n cap) n (Heap.cs (back h G (l.take q)))) (x : Heap.Cell) (hz : l[q]? = some (k : Int)) (hx : h[k]? = some x) :
    Own w0 ((w.setCell ⟨g, k * 2, none⟩ (.bool x.live)).setCell ⟨g, k * 2 + 1, none⟩ (.int .i64 x.value)) e 2 (.slice (some ⟨g, 0, none⟩) n cap) n (Heap.cs (back h G (l.take (q + 1)))) := by
  have h1 := own_set (own_set ho (k * 2) (.bool x.live)) (k * 2 + 1) (.int .i64 x.value)
  have e1 := back_take h G l q (k : Int) x hz (by simpa using hx)
  rw [Int.toNat_natCast] at e1
  rw [Heap.cs_set, ← e1] at h1
  exact h1
end Go.Proofs.Ytlmkhnjdifamgaa.Model
