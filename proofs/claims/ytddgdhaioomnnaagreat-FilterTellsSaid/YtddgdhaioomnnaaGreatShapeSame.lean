/-
  WHAT THE DOCUMENT'S ANSWERS FOR LAYERS 7, 8 AND 9 RETURN: Same.
-/
import Derived.Test.YtddgdhaioomnnaaGreatTermA
import Derived.Laws.StructEq
import Derived.Deep.QuietTactic
import Derived.BigQuiet
namespace Go.Proofs.YtddgdhaioomnnaaGreat.Shape
open Go.ChangeShapes Go.WideShapes Go.ChangeAt Go.RowKit Mem

/-- What is returned: a truth; the world has drawn at most. -/
def RetQ (w : World) (v : Bool) (e : Ending) (w' : World) : Prop := e = .returned (.bool v) ∧ ∃ q, w' = w.drewN q
theorem RetQ.toB {w w' : World} {v : Bool} {e : Ending} (h : RetQ w v e w') : RetB w v e w' := by
  obtain ⟨rfl, q, rfl⟩ := h
  exact ⟨rfl, bl_drewN (Below.refl _ _) _⟩
set_option maxRecDepth 100000 in
theorem same7 (x y : List Term.Op) (A B : Option Addr) (n m c d : Nat) (w : World) (v : Bool) (hx : Rd w 2 A n (Term.ops x)) (hy : Rd w 2 B m (Term.ops y)) (hn : n ≤ 1000000) (hm : m ≤ 1000000) (hv : decide (x = y) = v) :
    Calls Tryz.prog 53 #[.slice A n c, .slice B m d] w (RetQ w v) := by
  subst hv
  have HX := Lib.hid (Term.ops_len hx)
  have HY := Lib.hid (Term.ops_len hy)
  by_cases hnm : n = m
  · subst hnm
    go_enter Tryz.func53, Tryz.ntmps53
    go_wp2
    go_loopw [5] (fun i wr => ∃ k q : Nat, k ≤ n ∧ i = .int .i64 k ∧ wr = w.drewN q ∧ Hid (x.take k = y.take k)) (fun i _ => n - (intOf i).toNat)
    case atStart => exact ⟨0, 0, Nat.zero_le _, rfl, rfl, Lib.hid rfl⟩
    case round =>
      obtain ⟨k, q, hk, rfl, rfl, hall⟩ := hrel
      by_cases hlt : k < n
      · obtain ⟨b, off, ⟨vr, ow⟩, rfl, gx, c0, c1⟩ := Term.at_op hx k hlt
        obtain ⟨b', off', ⟨vr', ow'⟩, rfl, gy, c0', c1'⟩ := Term.at_op hy k hlt
        simp only at c0 c1 c0' c1'
        have GX := Lib.hid gx
        have GY := Lib.hid gy
        clear gx gy
        by_cases heq : vr = vr' ∧ ow = ow'
        · obtain ⟨rfl, rfl⟩ := heq
          have hs : Hid (x.take (k + 1) = y.take (k + 1)) := Lib.hid (take_eq x y k _ GX.out GY.out hall.out)
          go_wp2
          go_quiet (fail)
          go_wp2
          go_roundw
          case rel => exact ⟨k + 1, _, by omega, by go_num, by first | rfl | rw [World.drewN_drewN], hs⟩
          case measure => simp [intOf]; omega
        · have hf : Hid (decide (x = y) = false) := Lib.hid (take_ne x y k _ _ GX.out GY.out (by intro e; injection e with e0 e1; exact heq ⟨e0, e1⟩))
          by_cases h0 : vr = vr'
          · subst h0
            have h1 : ¬ ow = ow' := fun e => heq ⟨rfl, e⟩
            clear heq
            go_wp2
            go_quiet (fail)
            go_wp2
            go_ret
            exact ⟨ret_bool hf.out.symm, _, by first | rfl | rw [World.drewN_drewN]⟩
          · clear heq
            go_wp2
            go_quiet (fail)
            go_wp2
            go_ret
            exact ⟨ret_bool hf.out.symm, _, by first | rfl | rw [World.drewN_drewN]⟩
      · have hf : Hid (decide (x = y) = true) := by
          refine Lib.hid (decide_eq_true ?_)
          have := hall.out
          rwa [List.take_of_length_le (by rw [HX.out]; omega), List.take_of_length_le (by rw [HY.out]; omega)] at this
        go_wp2
        go_ret
        exact ⟨ret_bool hf.out.symm, _, rfl⟩
  · have hf : Hid (decide (x = y) = false) := by
      refine Lib.hid (decide_eq_false ?_)
      intro e
      have l1 := HX.out
      have l2 := HY.out
      rw [e] at l1
      exact hnm (by omega)
    go_enter Tryz.func53, Tryz.ntmps53
    go_wp2
    go_ret
    exact ⟨ret_bool hf.out.symm, 0, rfl⟩


end Go.Proofs.YtddgdhaioomnnaaGreat.Shape
