/-
  WHAT THE LAWS OF LAYER 3 ASK OF THE LAYER'S FUNCTIONS ('Said'), and what they make of it: the fixed answer awake.
-/
import Derived.Test.YtemfkjcfafenjaaRef03d
namespace Go.Proofs.Ytemfkjcfafenjaa.Stripe
open Go.ChangeShapes Go.WideShapes Go.ChangeAt Go.RowKit Mem



/-- The numbers of a struct fit 64 bits. -/
def Fits (n : Int) : Prop := -9223372036854775808 ≤ n ∧ n ≤ 9223372036854775807
theorem open_recs {H : Type} {enc : TypeId × Value → H} {W : World} {A : Option Addr} {n c : Nat} {d : DataW H} {p : List MemPlace}
    (h : DataW.Trod enc Try.prog W 0 (fun _ => true) true 40 (.slice A n c) d p) :
    n ≤ c ∧ c ≤ 9223372036854775807 ∧ ∃ xs : List Rec, Rd W 2 A n (rs xs) ∧ xs.length = n ∧ ∀ x ∈ xs, Fits x.version ∧ Fits x.owner := by
  refine open_rows Try.underlying40 2 (by kernel_rfl) (by decide) rc (fun _ => rfl) (fun x => Fits x.version ∧ Fits x.owner) ?_ h
  intro fuel cs' x hl ht
  obtain ⟨xs, n', _, _, _, hxl, hf⟩ := DataW.trod_struct Try.underlying56 ht
  match cs', hl with
  | [c0, c1], _ =>
    have g0 := hf 0 _ rfl
    have g1 := hf 1 _ rfl
    have k3 : Try.prog.cellsOf 3 = 1 := by kernel_rfl
    match xs, hxl with
    | [y0, y1], _ =>
      simp [k3] at g0 g1
      obtain ⟨m0, e0, _, wf0⟩ := DataW.trod_int Try.underlying3 g0
      obtain ⟨m, e1, _, wf⟩ := DataW.trod_int Try.underlying3 g1
      simp at e0 e1
      subst e0 e1
      exact ⟨⟨m0, m⟩, rfl, bounds_i64 wf0, bounds_i64 wf⟩
theorem open_ints_ {H : Type} {enc : TypeId × Value → H} {W : World} {A : Option Addr} {n c : Nat} {d : DataW H} {p : List MemPlace}
    (h : DataW.Trod enc Try.prog W 0 (fun _ => true) true 35 (.slice A n c) d p) :
    n ≤ c ∧ c ≤ 9223372036854775807 ∧ ∃ xs : List Int, Rd W 1 A n (zs xs) ∧ xs.length = n ∧ ∀ x ∈ xs, Fits x := by
  refine open_rows Try.underlying35 1 (by kernel_rfl) (by decide) zc (fun _ => rfl) Fits ?_ h
  intro fuel cs' x hl ht
  obtain ⟨m, e1, _, wf⟩ := DataW.trod_int Try.underlying3 ht
  exact ⟨m, e1, bounds_i64 wf⟩
end Go.Proofs.Ytemfkjcfafenjaa.Stripe
