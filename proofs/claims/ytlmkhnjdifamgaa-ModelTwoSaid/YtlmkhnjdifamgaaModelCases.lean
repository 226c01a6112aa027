/-
  WHAT A RUN COMES TO, BY CASES; small codes. No conditions beyond those that each theorem states.
-/
import Derived.Test.YtlmkhnjdifamgaaModelAwake
import Derived.Test.YtlmkhnjdifamgaaModelPath
namespace Go.Proofs.Ytlmkhnjdifamgaa.Model
open Go.ChangeShapes Go.WideShapes Go.ChangeAt Go.RowKit Mem Go.Proofs.Ytlmkhnjdifamgaa.Code

theorem small_val (l : List Raw) (n : Nat) (hl : l.length = n) (h : smallB l = true) : smallI l = (n : Int) := by unfold smallI; rw [if_pos h, hl]
theorem small_neg (l : List Raw) (h : smallB l = false) : smallI l = -1 := by unfold smallI; rw [h]; rfl
/-- What a run comes to. -/
theorem run_cases (c : List Step) (h : List Heap.Cell) :
    (runS c h = (⟨0, 0, [], [], [], []⟩, h, false)) ∨
    (∃ k y sn, k ≠ 1 ∧ sn.length ≤ 64 ∧ checkS c = 0 ∧ Heap.rightB h = true ∧ runS c h = (⟨k, y, [], [], sn, []⟩, h, true)) ∨
    (∃ y rg p sn ws g, rg.length = 8 ∧ p.length ≤ 24 ∧ sn.length ≤ 64 ∧ ws.length ≤ 64 ∧ g.length = h.length ∧ checkS c = 0 ∧ Heap.rightB h = true ∧ Heap.putS h ws = (g, 0) ∧ runS c h = (⟨1, y, rg, p, sn, ws⟩, g, true)) := by
  unfold runS
  cases ho : okR c h with
  | false => exact .inl rfl
  | true =>
    rw [if_pos rfl]
    unfold okR at ho
    rw [Bool.and_eq_true, decide_eq_true_eq] at ho
    have hsn : (pick (part c (s0 h)).seen 64).length ≤ 64 := pick_len _ _
    by_cases hk : (part c (s0 h)).kind = 1
    · refine .inr (.inr ?_)
      have K := keeps c (s0 h)
      have hp := part_path c (s0 h)
      obtain ⟨hc, _⟩ := check_ok _ ho.1
      have hw : (writesS (part c (s0 h))).length ≤ 64 := by
        unfold writesS
        rw [List.length_map]
        have h1 := pick_len (part c (s0 h)).wrote (part c (s0 h)).h.length
        have h2 := K.len
        have h3 := Heap.right_len h ho.2
        have h4 : (s0 h).h.length = h.length := rfl
        omega
      refine ⟨(part c (s0 h)).why, (part c (s0 h)).regs, (part c (s0 h)).path, pick (part c (s0 h)).seen 64, writesS (part c (s0 h)), (part c (s0 h)).h, K.regs, ?_, hsn, hw, K.len, ho.1, ho.2, done_put c h ho.2, ?_⟩
      · have h0 : (s0 h).path.length = 0 := rfl
        omega
      · rw [if_pos hk]
        unfold outS
        rw [if_pos hk, hk]
    · refine .inr (.inl ⟨(part c (s0 h)).kind, (part c (s0 h)).why, pick (part c (s0 h)).seen 64, hk, hsn, ho.1, ho.2, ?_⟩)
      rw [if_neg hk]
      unfold outS
      rw [if_neg hk]
end Go.Proofs.Ytlmkhnjdifamgaa.Model
