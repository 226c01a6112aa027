/-
  WHAT THE LAWS OF LAYER 7 MAKE OF THE LAYER'S FUNCTIONS: the fixed answer awake; a term that came in, opened.
-/
import Derived.Test.YtilfkohckmknkaaTermCode5
import Derived.Test.YtilfkohckmknkaaHeapA
namespace Go.Proofs.Ytilfkohckmknkaa.Term
open Go.ChangeShapes Go.WideShapes Go.ChangeAt Go.RowKit Mem

theorem cells_five : cellsS [⟨2, 5⟩] = [5] := by decide +kernel

set_option maxRecDepth 100000 in
theorem trod_op {H : Type} {enc : TypeId × Value → H} {W : World} {fuel : Nat} {cs' : List Value} {x : DataW H × List MemPlace} (hl : cs'.length = 2)
    (ht : DataW.trod enc Try.prog W 0 (fun _ => true) true fuel 50 cs' = some x) : ∃ y : Op, cs' = oc y ∧ (Fits y.kind ∧ Fits y.n) := by
  obtain ⟨xs, n', _, _, _, hxl, hf⟩ := DataW.trod_struct Try.underlying50 ht
  match cs', hl with
  | [c0, c1], _ =>
    have g0 := hf 0 _ rfl
    have g1 := hf 1 _ rfl
    have k3 : Try.prog.cellsOf 3 = 1 := by kernel_rfl
    match xs, hxl with
    | [y0, y1], _ =>
      simp [k3] at g0 g1
      obtain ⟨m0, e0, _, wf0⟩ := DataW.trod_int Try.underlying3 g0
      obtain ⟨m1, e1, _, wf1⟩ := DataW.trod_int Try.underlying3 g1
      simp at e0 e1
      subst e0 e1
      exact ⟨⟨m0, m1⟩, rfl, bounds_i64 wf0, bounds_i64 wf1⟩
set_option maxRecDepth 100000 in
theorem open_ops {H : Type} {enc : TypeId × Value → H} {W : World} {A : Option Addr} {n c : Nat} {d : DataW H} {p : List MemPlace}
    (h : DataW.Trod enc Try.prog W 0 (fun _ => true) true 51 (.slice A n c) d p) :
    n ≤ c ∧ c ≤ 9223372036854775807 ∧ ∃ xs : List Op, Rd W 2 A n (ops xs) ∧ xs.length = n ∧ ∀ x ∈ xs, Fits x.kind ∧ Fits x.n :=
  open_rows Try.underlying51 2 (by kernel_rfl) (by decide) oc (fun _ => rfl) (fun x => Fits x.kind ∧ Fits x.n) (fun _ _ _ hl ht => trod_op hl ht) h
end Go.Proofs.Ytilfkohckmknkaa.Term
