/-
  ARGUMENTS OPENED: bytes, and codes (a slice of slices of steps).
-/
import Derived.Test.YtilfkohckmknkaaShapeMem
import Derived.Test.YtilfkohckmknkaaCodeOpen
namespace Go.Proofs.Ytilfkohckmknkaa.Shape
open Go.ChangeShapes Go.WideShapes Go.ChangeAt Go.RowKit Go.Deep Mem Go.Proofs.Ytilfkohckmknkaa.Code

def Byte (z : Int) : Prop := 0 ≤ z ∧ z < 256
set_option maxRecDepth 100000 in
theorem open_bytes {H : Type} {enc : TypeId × Value → H} {W : World} {A : Option Addr} {n c : Nat} {d : DataW H} {p : List MemPlace}
    (h : DataW.Trod enc Try.prog W 0 (fun _ => true) true 25 (.slice A n c) d p) :
    n ≤ c ∧ c ≤ 9223372036854775807 ∧ ∃ xs : List Int, Rd W 1 A n (bs xs) ∧ xs.length = n ∧ ∀ x ∈ xs, Byte x :=
  open_rows Try.underlying25 1 (by kernel_rfl) (by decide) bc bc_len Byte (fun _ cs' _ hl ht => by
    match cs', hl with
    | [c0], _ =>
      obtain ⟨m0, e0, _, wf0⟩ := DataW.trod_int Try.underlying5 ht
      have hb := bounds_u8 wf0
      exact ⟨m0, e0, by unfold Byte; omega⟩) h
set_option maxRecDepth 100000 in
theorem open_codes {H : Type} {enc : TypeId × Value → H} {W : World} {A : Option Addr} {n c : Nat} {d : DataW H} {p : List MemPlace}
    (h : DataW.Trod enc Try.prog W 0 (fun _ => true) true 22 (.slice A n c) d p) :
    n ≤ c ∧ c ≤ 9223372036854775807 ∧ ∃ xs : List RawC, Rd W 1 A n (hs xs) ∧ xs.length = n ∧ ∀ x ∈ xs, Inner W x :=
  open_rows Try.underlying22 1 (by kernel_rfl) (by decide) hc hc_len (Inner W) (fun _ cs' x hl ht => by
    match cs', hl with
    | [c0], _ =>
      obtain ⟨A1, n1, c1, rfl⟩ := Code.slice_cell Try.underlying33 ht
      obtain ⟨hnc, hcm, lst, hr, _, hg⟩ := Code.open_steps (A := A1) (n := n1) (c := c1) (d := x.1) (p := x.2) ⟨_, ht⟩
      exact ⟨⟨A1, n1, c1, lst⟩, rfl, Code.good_at hr hg, hnc, hcm⟩) h
end Go.Proofs.Ytilfkohckmknkaa.Shape
