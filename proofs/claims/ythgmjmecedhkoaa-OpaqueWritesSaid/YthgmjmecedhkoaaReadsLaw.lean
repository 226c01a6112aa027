/-
  WHAT THE LAWS OF LAYER 5 ASK OF THE LAYER'S FUNCTIONS ('Said'), and what they make of it: the fixed answer awake.
-/
import Derived.Test.YthgmjmecedhkoaaReadsRef3
import Derived.Test.YthgmjmecedhkoaaHeapLaw
namespace Go.Proofs.Ythgmjmecedhkoaa.Reads
open Go.ChangeShapes Go.WideShapes Go.ChangeAt Go.RowKit Mem

/-- A read, as a value. -/
def rv (x : Read) : Value := .agg #[.int .i64 x.cell, .int .i64 x.version, .int .i64 x.value]
/-- What is returned: a read, and whether there is one. -/
def RetR (w : World) (r : Read × Bool) (e : Ending) (w' : World) : Prop :=
  e = .returned (.tuple #[.agg #[.int .i64 r.1.cell, .int .i64 r.1.version, .int .i64 r.1.value], .bool r.2]) ∧ Below w.heap.size w w'
/-- What is returned: a slice that reads as a list of cells and has room for it, and an error's number. -/
def RetSEC (w : World) (K n : Nat) (xs : List Value) (f : Int) (e : Ending) (w' : World) : Prop :=
  ∃ B d, n ≤ d ∧ e = .returned (.tuple #[.slice B n d, .int .i64 f]) ∧ Rd w' K B n xs ∧ Below w.heap.size w w'

theorem cells_one : cellsS [⟨3, 4, 5⟩] = [3] := by
  unfold cellsS
  rw [if_pos (by decide)]
  exact sort_of _ _ (List.Perm.refl _) (by simp)


set_option maxRecDepth 100000 in
theorem trod_read {H : Type} {enc : TypeId × Value → H} {W : World} {fuel : Nat} {cs' : List Value} {x : DataW H × List MemPlace} (hl : cs'.length = 3)
    (ht : DataW.trod enc Try.prog W 0 (fun _ => true) true fuel 43 cs' = some x) : ∃ y : Read, cs' = dc y ∧ (Fits y.cell ∧ Fits y.version ∧ Fits y.value) := by
  obtain ⟨xs, n', _, _, _, hxl, hf⟩ := DataW.trod_struct Try.underlying43 ht
  match cs', hl with
  | [c0, c1, c2], _ =>
    have g0 := hf 0 _ rfl
    have g1 := hf 1 _ rfl
    have g2 := hf 2 _ rfl
    have k3 : Try.prog.cellsOf 3 = 1 := by kernel_rfl
    match xs, hxl with
    | [y0, y1, y2], _ =>
      simp [k3] at g0 g1 g2
      obtain ⟨m0, e0, _, wf0⟩ := DataW.trod_int Try.underlying3 g0
      obtain ⟨m1, e1, _, wf1⟩ := DataW.trod_int Try.underlying3 g1
      obtain ⟨m2, e2, _, wf2⟩ := DataW.trod_int Try.underlying3 g2
      simp at e0 e1 e2
      subst e0 e1 e2
      exact ⟨⟨m0, m1, m2⟩, rfl, bounds_i64 wf0, bounds_i64 wf1, bounds_i64 wf2⟩
set_option maxRecDepth 100000 in
theorem open_reads {H : Type} {enc : TypeId × Value → H} {W : World} {A : Option Addr} {n c : Nat} {d : DataW H} {p : List MemPlace}
    (h : DataW.Trod enc Try.prog W 0 (fun _ => true) true 44 (.slice A n c) d p) :
    n ≤ c ∧ c ≤ 9223372036854775807 ∧ ∃ xs : List Read, Rd W 3 A n (ds xs) ∧ xs.length = n ∧ ∀ x ∈ xs, Fits x.cell ∧ Fits x.version ∧ Fits x.value :=
  open_rows Try.underlying44 3 (by kernel_rfl) (by decide) dc (fun _ => rfl) (fun x => Fits x.cell ∧ Fits x.version ∧ Fits x.value) (fun _ _ _ hl ht => trod_read hl ht) h
set_option maxRecDepth 100000 in
theorem open_read {H : Type} {enc : TypeId × Value → H} {W : World} {r : Reach} {base : Nat} {v : Value} {d : DataW H} {p : List MemPlace} (hv : Value.okWide Try.prog W r base 43 v)
    (h : DataW.Trod enc Try.prog W 0 (fun _ => true) true 43 v d p) :
    ∃ x : Read, v = .agg #[.int .i64 x.cell, .int .i64 x.version, .int .i64 x.value] ∧ (Fits x.cell ∧ Fits x.version ∧ Fits x.value) := by
  obtain ⟨cs, rfl, hsz⟩ := okWide_struct Try.underlying43 hv
  have k3 : Try.prog.cellsOf 43 = 3 := by kernel_rfl
  obtain ⟨fuel, hf⟩ := h
  obtain ⟨y, e, hy⟩ := trod_read (cs' := cs.toList) (by rw [Array.length_toList, hsz, k3]) (by simpa [Value.cells] using hf)
  refine ⟨y, ?_, hy⟩
  have : cs = (dc y).toArray := by rw [← e]
  rw [this]; rfl
end Go.Proofs.Ythgmjmecedhkoaa.Reads
