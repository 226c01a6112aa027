/-
  THE WALK OF THE LAW ReadsFills.
-/
import Derived.Test.YtemfkjcfafenjaaReadsLaw
import Derived.Test.YtemfkjcfafenjaaReadsMore2
import Derived.Test.YtemfkjcfafenjaaReadsMore3
namespace Go.Proofs.Ytemfkjcfafenjaa.Reads
open Go.ChangeShapes Go.WideShapes Go.ChangeAt Go.RowKit Mem

set_option maxRecDepth 100000 in
set_option maxHeartbeats 2000000 in
theorem fills_walk (S : Said) (a v u : Int) (ha : 0 ≤ a ∧ a ≤ 65535) (hv : 0 ≤ v ∧ v ≤ 65535) (hu : -32768 ≤ u ∧ u ≤ 32767) (w : World) :
    Calls Try.prog 6 #[.int .u16 a, .int .u16 v, .int .i16 u] w (RetB w true) := by
  have HS := Lib.hid S
  clear S
  obtain ⟨a0, a1⟩ := ha
  obtain ⟨v0, v1⟩ := hv
  obtain ⟨u0, u1⟩ := hu
  have HU : Hid (Heap.vB u = true) := Lib.hid (by unfold Heap.vB; simp; omega)
  go_enter Try.func6, Try.ntmps6
  go_wp2
  go_loopw [7, 16] (fun lv i wr => ∃ k : Nat, k ≤ 24 ∧ i = .int .i64 k ∧ (∃ B d, lv = .slice B k d ∧ k ≤ d ∧ Hid (Rd wr 3 B k (ds (filled a v u k)))) ∧ Hid (Below w.heap.size w wr)) (fun _ i _ => 24 - (intOf i).toNat)
  case atStart => exact ⟨0, Nat.zero_le _, rfl, ⟨none, 0, rfl, Nat.le_refl _, Lib.hid Rd.none_⟩, Lib.hid (Below.refl _ _)⟩
  case round =>
    obtain ⟨k, hk, rfl, ⟨B, d, rfl, hkd, HR⟩, HB⟩ := hrel
    generalize wr = w2 at *
    by_cases hlt : k < 24
    · have HA := Lib.hid (filled_add a v u a0 v0 v1 HU.out k hlt)
      go_wp2_with fail
      refine (HS.out.add (filled a v u k) _ _ _ (a + 7 * (k : Int)) (v + (k : Int)) u _ (filled a v u (k + 1), 0) (k + 1) HR.out hkd (by omega) HA.out (filled_len _ _ _ _)).mono ?_
      rintro e w3 ⟨B3, d3, z3, rfl, s3, b3⟩
      have HR3 := Lib.hid s3
      have HB3 := Lib.hid (bl_trans HB.out b3)
      clear s3 b3
      go_wp2
      go_roundw
      case rel => exact ⟨k + 1, by omega, by go_num, ⟨B3, d3, rfl, z3, HR3⟩, HB3⟩
      case measure => simp [intOf]; omega
    · have HK : Hid (k = 24) := Lib.hid (by omega)
      go_wp2
      go_loopw [47] (fun i wq => ∃ j : Nat, j ≤ 24 ∧ i = .int .i64 j ∧ Hid (Below w2.heap.size w2 wq)) (fun i _ => 24 - (intOf i).toNat)
      case atStart => exact ⟨0, Nat.zero_le _, rfl, Lib.hid (Below.refl _ _)⟩
      case round =>
        obtain ⟨j, hj, rfl, HBq⟩ := hrel
        by_cases hjt : j < 24
        · have HF := Lib.hid (show findR (filled a v u k) (a + 7 * (j : Int)) = (⟨a + 7 * (j : Int), v + (j : Int), u⟩, true) by rw [HK.out]; exact filled_find a v u a0 v0 v1 HU.out j hjt)
          have t1 : ((v + (j : Int)) != (v + (j : Int))) = false := by simp
          have t2 : (u != u) = false := by simp
          go_wp2_with fail
          refine (HS.out.find (filled a v u k) _ _ _ (a + 7 * (j : Int)) _ _ (HR.out.below HBq.out) hkd (by omega) HF.out).mono ?_
          rintro e w3 ⟨rfl, b3⟩
          have HB3 := Lib.hid (bl_trans HBq.out b3)
          clear b3
          go_wp2
          go_roundw
          case rel => exact ⟨j + 1, by omega, by go_num, Lib.hid (bl_alloc HB3.out _)⟩
          case measure => simp [intOf]; omega
        · have HA := Lib.hid (show addS (filled a v u k) ⟨a + 1, 0, 0⟩ = (filled a v u k, 5) by rw [HK.out]; exact filled_big a v u a0 v0 v1 HU.out)
          have HC := Lib.hid (show (cellsS (filled a v u k)).length = 24 by rw [HK.out]; exact filled_cells a v u a0 v0 v1 HU.out)
          have HR4 := Lib.hid (HR.out.below HBq.out)
          have bb := bl_trans HB.out HBq.out
          go_wp2_with fail
          refine (HS.out.add (filled a v u k) _ _ _ (a + 1) 0 0 _ (filled a v u k, 5) k HR4.out hkd (by omega) HA.out (filled_len _ _ _ _)).mono ?_
          rintro e w5 ⟨B5, d5, z5, rfl, s5, b5⟩
          have HR5 := Lib.hid (HR4.out.below b5)
          replace bb := bl_trans bb b5
          clear b5
          go_wp2_with fail
          refine (same_b (filled a v u k) (filled a v u k) _ _ _ _ _ _ _ true s5 HR5.out (by omega) (by omega) (decide_eq_true rfl)).mono ?_
          rintro e w6 ⟨rfl, b6⟩
          have HR6 := Lib.hid (HR5.out.below b6)
          replace bb := bl_trans bb b6
          clear b6 s5
          go_wp2_with fail
          refine (HS.out.cells (filled a v u k) _ _ _ _ _ 24 HR6.out hkd (by omega) rfl HC.out).mono ?_
          rintro e w7 ⟨B7, d7, rfl, s7, b7⟩
          replace bb := bl_trans bb b7
          clear b7 s7
          go_wp2_with fail
          refine (awake_any HS.out _).mono ?_
          rintro e w8 ⟨rfl, b8⟩
          replace bb := bl_trans bb b8
          clear b8
          go_wp2
          go_ret
          exact ⟨rfl, bb⟩
end Go.Proofs.Ytemfkjcfafenjaa.Reads
