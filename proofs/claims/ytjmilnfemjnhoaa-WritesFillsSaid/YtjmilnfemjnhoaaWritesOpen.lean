/-
  ARGUMENTS OPENED: a write log by value (a struct that holds two slices), a write by value.
-/
import Derived.Test.YtjmilnfemjnhoaaWritesMem
import Derived.Test.YtjmilnfemjnhoaaNumbers
namespace Go.Proofs.Ytjmilnfemjnhoaa.Writes
open Go.ChangeShapes Go.WideShapes Go.ChangeAt Go.RowKit Go.Deep Mem
open Heap (Write wc ws ws_len vB at_write)

theorem slice_cell {H : Type} {enc : TypeId × Value → H} {P : Program} {W : World} {fuel : Nat} {t e : TypeId} {c0 : Value} {x : DataW H × List MemPlace} (ht : P.underlying t = some (.slice e))
    (hf : DataW.trod enc P W 0 (fun _ => true) true fuel t [c0] = some x) : ∃ A n c, c0 = .slice A n c := by
  rcases open_slice ht hf with ⟨hcs, _⟩ | ⟨a, len, cap, m, n', D, Pl, hcs, _⟩
  · simp at hcs
    exact ⟨_, _, _, hcs⟩
  · simp at hcs
    exact ⟨_, _, _, hcs⟩
theorem open_log {H : Type} {enc : TypeId × Value → H} {W : World} {r : Reach} {base : Nat} {v : Value} {d : DataW H} {p : List MemPlace} (hv : Value.okWide Try.prog W r base 25 v)
    (h : DataW.Trod enc Try.prog W 0 (fun _ => true) true 25 v d p) :
    ∃ x : Option Addr × Nat × Nat × Option Addr × Nat × Nat × Log, v = .agg #[.slice x.1 x.2.1 x.2.2.1, .slice x.2.2.2.1 x.2.2.2.2.1 x.2.2.2.2.2.1] ∧
      (LogAt W x.1 x.2.1 x.2.2.1 x.2.2.2.1 x.2.2.2.2.1 x.2.2.2.2.2.1 x.2.2.2.2.2.2 ∧ x.2.1 ≤ 9223372036854775807 ∧ x.2.2.2.2.1 ≤ 9223372036854775807) := by
  obtain ⟨cs, rfl, hsz⟩ := okWide_struct Try.underlying25 hv
  have k2 : Try.prog.cellsOf 25 = 2 := by kernel_rfl
  obtain ⟨fuel, hf⟩ := h
  have hf' : DataW.trod enc Try.prog W 0 (fun _ => true) true fuel 25 cs.toList = some (d, p) := by simpa [Value.cells] using hf
  obtain ⟨xs, n', _, _, _, hxl, hg⟩ := DataW.trod_struct Try.underlying25 hf'
  have hl : cs.toList.length = 2 := by rw [Array.length_toList, hsz, k2]
  obtain ⟨cl, hcl⟩ : ∃ cl, cs.toList = cl := ⟨_, rfl⟩
  rw [hcl] at hl hg
  match cl, hl, hcl with
  | [c0, c1], _, hcl =>
    have g0 := hg 0 _ rfl
    have g1 := hg 1 _ rfl
    have k3 : Try.prog.cellsOf 22 = 1 := by kernel_rfl
    have k4 : Try.prog.cellsOf 23 = 1 := by kernel_rfl
    match xs, hxl with
    | [y0, y1], _ =>
      simp [k3, k4] at g0 g1
      obtain ⟨A, n, c, rfl⟩ := slice_cell Try.underlying22 g0
      obtain ⟨B, m, dd, rfl⟩ := slice_cell Try.underlying23 g1
      obtain ⟨hnc, hc, lst, hr, _, _⟩ := Heap.open_writes (A := A) (n := n) (c := c) (d := y0.1) (p := y0.2) ⟨_, g0⟩
      obtain ⟨hmd, hd, mks, hr2, _, _⟩ := Mem.open_ints_ (A := B) (n := m) (c := dd) (d := y1.1) (p := y1.2) ⟨_, g1⟩
      refine ⟨⟨A, n, c, B, m, dd, ⟨lst, mks⟩⟩, ?_, ⟨hr, hr2, hnc, hmd⟩, Nat.le_trans hnc hc, Nat.le_trans hmd hd⟩
      have : cs = #[.slice A n c, .slice B m dd] := by
        have := congrArg List.toArray hcl
        simpa using this
      rw [this]
theorem open_write {H : Type} {enc : TypeId × Value → H} {W : World} {r : Reach} {base : Nat} {v : Value} {d : DataW H} {p : List MemPlace} (hv : Value.okWide Try.prog W r base 27 v)
    (h : DataW.Trod enc Try.prog W 0 (fun _ => true) true 27 v d p) :
    ∃ x : Write, v = .agg #[.int .i64 x.cell, .int .i64 x.value] ∧ (Heap.Fits x.cell ∧ Heap.Fits x.value) := by
  obtain ⟨cs, rfl, hsz⟩ := okWide_struct Try.underlying27 hv
  have k2 : Try.prog.cellsOf 27 = 2 := by kernel_rfl
  obtain ⟨fuel, hf⟩ := h
  have hf' : DataW.trod enc Try.prog W 0 (fun _ => true) true fuel 27 cs.toList = some (d, p) := by simpa [Value.cells] using hf
  obtain ⟨xs, n', _, _, _, hxl, hg⟩ := DataW.trod_struct Try.underlying27 hf'
  have hl : cs.toList.length = 2 := by rw [Array.length_toList, hsz, k2]
  obtain ⟨cl, hcl⟩ : ∃ cl, cs.toList = cl := ⟨_, rfl⟩
  rw [hcl] at hl hg
  match cl, hl, hcl with
  | [c0, c1], _, hcl =>
    have g0 := hg 0 _ rfl
    have g1 := hg 1 _ rfl
    have k3 : Try.prog.cellsOf 3 = 1 := by kernel_rfl
    match xs, hxl with
    | [y0, y1], _ =>
      simp [k3] at g0 g1
      obtain ⟨m0, e0, _, wf0⟩ := DataW.trod_int Try.underlying3 g0
      obtain ⟨m1, e1, _, wf1⟩ := DataW.trod_int Try.underlying3 g1
      simp at e0 e1
      subst e0 e1
      refine ⟨⟨m0, m1⟩, ?_, bounds_i64 wf0, bounds_i64 wf1⟩
      have : cs = #[.int .i64 m0, .int .i64 m1] := by
        have := congrArg List.toArray hcl
        simpa using this
      rw [this]
end Go.Proofs.Ytjmilnfemjnhoaa.Writes
