/-
  ARGUMENTS OPENED: a code, a step by value (a struct that holds a slice).
-/
import Derived.Test.YtilfkohckmknkaaCodeLaw
namespace Go.Proofs.Ytilfkohckmknkaa.Code
open Go.ChangeShapes Go.WideShapes Go.ChangeAt Go.RowKit Go.Deep Mem

theorem slice_cell {H : Type} {enc : TypeId × Value → H} {P : Program} {W : World} {fuel : Nat} {t e : TypeId} {c0 : Value} {x : DataW H × List MemPlace} (ht : P.underlying t = some (.slice e))
    (hf : DataW.trod enc P W 0 (fun _ => true) true fuel t [c0] = some x) : ∃ A n c, c0 = .slice A n c := by
  rcases open_slice ht hf with ⟨hcs, _⟩ | ⟨a, len, cap, m, n', D, Pl, hcs, _⟩
  · simp at hcs
    exact ⟨_, _, _, hcs⟩
  · simp at hcs
    exact ⟨_, _, _, hcs⟩
/-- What a step that came in keeps. -/
def Good (W : World) (y : Raw) : Prop := (Rd W 2 y.T y.n (Term.ops y.s.t) ∧ y.n ≤ y.c ∧ y.c ≤ 9223372036854775807) ∧ Fits y.s.d ∧ Fits y.s.a ∧ Fits y.s.b
set_option maxRecDepth 100000 in
theorem trod_step {H : Type} {enc : TypeId × Value → H} {W : World} {fuel : Nat} {cs' : List Value} {x : DataW H × List MemPlace} (hl : cs'.length = 4)
    (ht : DataW.trod enc Try.prog W 0 (fun _ => true) true fuel 53 cs' = some x) : ∃ y : Raw, cs' = rc y ∧ Good W y := by
  obtain ⟨xs, n', _, _, _, hxl, hf⟩ := DataW.trod_struct Try.underlying53 ht
  match cs', hl with
  | [c0, c1, c2, c3], _ =>
    have g0 := hf 0 _ rfl
    have g1 := hf 1 _ rfl
    have g2 := hf 2 _ rfl
    have g3 := hf 3 _ rfl
    have k3 : Try.prog.cellsOf 3 = 1 := by kernel_rfl
    have k4 : Try.prog.cellsOf 51 = 1 := by kernel_rfl
    match xs, hxl with
    | [y0, y1, y2, y3], _ =>
      simp [k3, k4] at g0 g1 g2 g3
      obtain ⟨m0, e0, _, wf0⟩ := DataW.trod_int Try.underlying3 g0
      obtain ⟨m1, e1, _, wf1⟩ := DataW.trod_int Try.underlying3 g1
      obtain ⟨m2, e2, _, wf2⟩ := DataW.trod_int Try.underlying3 g2
      obtain ⟨A, n, c, rfl⟩ := slice_cell Try.underlying51 g3
      obtain ⟨hnc, hc, lst, hr, _, _⟩ := Term.open_ops (A := A) (n := n) (c := c) (d := y3.1) (p := y3.2) ⟨_, g3⟩
      simp at e0 e1 e2
      subst e0 e1 e2
      exact ⟨⟨⟨m0, m1, m2, lst⟩, A, n, c⟩, rfl, ⟨hr, hnc, hc⟩, bounds_i64 wf0, bounds_i64 wf1, bounds_i64 wf2⟩
set_option maxRecDepth 100000 in
theorem open_steps {H : Type} {enc : TypeId × Value → H} {W : World} {A : Option Addr} {n c : Nat} {d : DataW H} {p : List MemPlace}
    (h : DataW.Trod enc Try.prog W 0 (fun _ => true) true 33 (.slice A n c) d p) :
    n ≤ c ∧ c ≤ 9223372036854775807 ∧ ∃ xs : List Raw, Rd W 4 A n (rs xs) ∧ xs.length = n ∧ ∀ x ∈ xs, Good W x :=
  open_rows Try.underlying33 4 (by kernel_rfl) (by decide) rc (fun _ => rfl) (Good W) (fun _ _ _ hl ht => trod_step hl ht) h
set_option maxRecDepth 100000 in
theorem open_step {H : Type} {enc : TypeId × Value → H} {W : World} {r : Reach} {base : Nat} {v : Value} {d : DataW H} {p : List MemPlace} (hv : Value.okWide Try.prog W r base 53 v)
    (h : DataW.Trod enc Try.prog W 0 (fun _ => true) true 53 v d p) :
    ∃ x : Raw, v = .agg #[.int .i64 x.s.d, .int .i64 x.s.a, .int .i64 x.s.b, .slice x.T x.n x.c] ∧ Good W x := by
  obtain ⟨cs, rfl, hsz⟩ := okWide_struct Try.underlying53 hv
  have k4 : Try.prog.cellsOf 53 = 4 := by kernel_rfl
  obtain ⟨fuel, hf⟩ := h
  obtain ⟨y, e, hy⟩ := trod_step (cs' := cs.toList) (by rw [Array.length_toList, hsz, k4]) (by simpa [Value.cells] using hf)
  refine ⟨y, ?_, hy⟩
  have : cs = (rc y).toArray := by rw [← e]
  rw [this]; rfl
theorem good_at {W : World} {A : Option Addr} {n : Nat} {xs : List Raw} (hr : Rd W 4 A n (rs xs)) (hg : ∀ x ∈ xs, Good W x) : At W A n xs := ⟨hr, fun r h => (hg r h).1⟩
end Go.Proofs.Ytilfkohckmknkaa.Code
