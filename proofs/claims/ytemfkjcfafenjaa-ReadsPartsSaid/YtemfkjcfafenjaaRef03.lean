/-
  WHAT THE DOCUMENT'S ANSWER FOR LAYER 3 RETURNS: Who, Right, in, Cells, Same, Numbers.
-/
import Derived.Test.YtemfkjcfafenjaaRows
import Derived.Test.YtemfkjcfafenjaaStripePlain
import Derived.LoopTactic
import Derived.Deep.QuietTactic
import Derived.BigQuiet
import Derived.RegionTactic
import Derived.Laws.StructEq
namespace Go.Proofs.Ytemfkjcfafenjaa.Stripe
open Go.ChangeShapes Go.WideShapes Go.ChangeAt Go.RowKit Mem

theorem tRec : SliceT Try.prog 40 56 2 16 := SliceT.mk_ (z := .agg #[.int .i64 0, .int .i64 0]) Try.underlying40 (by kernel_rfl) rfl (by decide)
theorem tInt : SliceT Try.prog 35 3 1 8 := SliceT.mk_ (z := .int .i64 0) Try.underlying35 (by kernel_rfl) rfl (by decide)

theorem who_any (n : Int) (w : World) :
    Calls Try.prog 36 #[.int .i64 n] w fun e w' => e = .returned (.bool (whoB n)) ∧ w = w' := by
  by_cases h1 : 0 < n
  all_goals by_cases h2 : n < 9
  all_goals
    go_enter Try.func36, Try.ntmps36
    go_wp2
    go_ret
    exact ⟨ret_bool (by unfold whoB; simp [h1, h2]), rfl⟩

theorem right_any (t : List Rec) (A : Option Addr) (n c : Nat) (w : World) (hr : Rd w 2 A n (rs t)) (hn : n ≤ 1000000) :
    Calls Try.prog 35 #[.slice A n c] w fun e w' => e = .returned (.bool (rightB t)) ∧ w = w' := by
  have HL := Lib.hid (rs_len hr)
  go_enter Try.func35, Try.ntmps35
  go_wp2
  go_loop [3] (fun i => ∃ k : Nat, k ≤ n ∧ i = .int .i64 k ∧ Hid ((t.take k).all recB = true)) (fun i => n - (intOf i).toNat)
  case atStart => exact ⟨0, Nat.zero_le _, rfl, Lib.hid rfl⟩
  case round =>
    obtain ⟨k, hk, rfl, hall⟩ := hrel
    by_cases hlt : k < n
    · obtain ⟨b, off, ⟨vr, ow⟩, rfl, hx, c0, c1⟩ := at_rec hr k hlt
      have hs := Lib.hid (take_all t recB k _ hx)
      have HX := Lib.hid hx
      clear hx
      by_cases hok : recB ⟨vr, ow⟩ = true
      · have HOK := Lib.hid hok
        unfold recB at hok
        simp only [decide_eq_true_eq] at hok
        obtain ⟨t1, t2, t3, t4⟩ := hok
        go_wp2
        go_round
        case rel => exact ⟨k + 1, by omega, by go_num, Lib.hid (by rw [hs.out, hall.out, HOK.out]; rfl)⟩
        case measure => simp [intOf]; omega
      · have HF : Hid (rightB t = false) := Lib.hid (by
          unfold rightB; rw [all_bad t recB k _ HX.out (by simpa using hok)]; simp)
        unfold recB at hok
        simp only [decide_eq_true_eq] at hok
        by_cases t1 : vr < 0
        · go_wp2
          go_ret
          exact ⟨ret_bool HF.out.symm, rfl⟩
        · by_cases t2 : 2147483647 < vr
          · go_wp2
            go_ret
            exact ⟨ret_bool HF.out.symm, rfl⟩
          · by_cases t3 : ow < 0
            · go_wp2
              go_ret
              exact ⟨ret_bool HF.out.symm, rfl⟩
            · have t4 : 8 < ow := by omega
              clear hok
              go_wp2
              go_ret
              exact ⟨ret_bool HF.out.symm, rfl⟩
    · have hkn : k = n := by omega
      have HF : Hid (rightB t = decide (0 < n ∧ n < 17)) := Lib.hid (by
        have := hall.out
        rw [hkn, ← HL.out, List.take_length] at this
        unfold rightB; rw [this, HL.out]; simp)
      clear hkn
      by_cases h1 : 0 < n
      all_goals by_cases h2 : n < 17
      all_goals
        go_wp2
        go_ret
        exact ⟨ret_bool (by rw [HF.out]; first | (simp [h1, h2]; done) | (simp [h1, h2]; omega)), rfl⟩




theorem numbers_b (x y : List Int) (A B : Option Addr) (n m c d : Nat) (w : World) (v : Bool) (hx : Rd w 1 A n (zs x)) (hy : Rd w 1 B m (zs y)) (hn : n ≤ 1000000) (hm : m ≤ 1000000) (hv : decide (x = y) = v) :
    Calls Try.prog 18 #[.slice A n c, .slice B m d] w (RetB w v) := by
  subst hv
  have HX := Lib.hid (zs_len hx)
  have HY := Lib.hid (zs_len hy)
  by_cases hnm : n = m
  · subst hnm
    go_enter Try.func18, Try.ntmps18
    go_wp2
    go_loopw [5] (fun i wr => ∃ k q : Nat, k ≤ n ∧ i = .int .i64 k ∧ wr = w.drewN q ∧ Hid (x.take k = y.take k)) (fun i _ => n - (intOf i).toNat)
    case atStart => exact ⟨0, 0, Nat.zero_le _, rfl, rfl, Lib.hid rfl⟩
    case round =>
      obtain ⟨k, q, hk, rfl, rfl, hall⟩ := hrel
      by_cases hlt : k < n
      · obtain ⟨b, off, z, rfl, gx, c0⟩ := at_z hx k hlt
        obtain ⟨b', off', z', rfl, gy, c0'⟩ := at_z hy k hlt
        have GX := Lib.hid gx
        have GY := Lib.hid gy
        clear gx gy
        by_cases heq : z = z'
        · obtain rfl := heq
          have hs : Hid (x.take (k + 1) = y.take (k + 1)) := Lib.hid (take_eq x y k _ GX.out GY.out hall.out)
          go_wp2
          go_quiet (fail)
          go_wp2
          go_roundw
          case rel => exact ⟨k + 1, _, by omega, by go_num, rfl, hs⟩
          case measure => simp [intOf]; omega
        · have hf : Hid (decide (x = y) = false) := Lib.hid (take_ne x y k _ _ GX.out GY.out (by exact heq))
          have h1 : (z != z') = true := by simpa using heq
          clear heq
          go_wp2
          go_quiet (fail)
          go_wp2
          go_ret
          exact ⟨ret_bool hf.out.symm, by first | exact bl_drewN (bl_drewN (Below.refl _ _) _) _ | exact bl_drewN (Below.refl _ _) _⟩
      · have hf : Hid (decide (x = y) = true) := by
          refine Lib.hid (decide_eq_true ?_)
          have := hall.out
          rwa [List.take_of_length_le (by rw [HX.out]; omega), List.take_of_length_le (by rw [HY.out]; omega)] at this
        go_wp2
        go_ret
        exact ⟨ret_bool hf.out.symm, bl_drewN (Below.refl _ _) _⟩
  · have hf : Hid (decide (x = y) = false) := by
      refine Lib.hid (decide_eq_false ?_)
      intro e
      have l1 := HX.out
      have l2 := HY.out
      rw [e] at l1
      exact hnm (by omega)
    go_enter Try.func18, Try.ntmps18
    go_wp2
    go_ret
    exact ⟨ret_bool hf.out.symm, Below.refl _ _⟩
end Go.Proofs.Ytemfkjcfafenjaa.Stripe
