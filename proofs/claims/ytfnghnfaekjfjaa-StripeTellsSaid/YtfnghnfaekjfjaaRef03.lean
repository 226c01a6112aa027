/-
  WHAT THE DOCUMENT'S ANSWER FOR LAYER 3 RETURNS: Who, Right, in, Cells, Same, Numbers.
-/
import Derived.Test.YtfnghnfaekjfjaaRows
import Derived.Test.YtfnghnfaekjfjaaStripePlain
import Derived.LoopTactic
import Derived.Deep.QuietTactic
import Derived.BigQuiet
import Derived.RegionTactic
import Derived.Laws.StructEq
namespace Go.Proofs.Ytfnghnfaekjfjaa.Stripe
open Go.ChangeShapes Go.WideShapes Go.ChangeAt Go.RowKit Mem

theorem tRec : SliceT Try.prog 22 44 2 16 := SliceT.mk_ (z := .agg #[.int .i64 0, .int .i64 0]) Try.underlying22 (by kernel_rfl) rfl (by decide)
theorem tInt : SliceT Try.prog 23 3 1 8 := SliceT.mk_ (z := .int .i64 0) Try.underlying23 (by kernel_rfl) rfl (by decide)

theorem who_any (n : Int) (w : World) :
    Calls Try.prog 29 #[.int .i64 n] w fun e w' => e = .returned (.bool (whoB n)) ∧ w = w' := by
  by_cases h1 : 0 < n
  all_goals by_cases h2 : n < 9
  all_goals
    go_enter Try.func29, Try.ntmps29
    go_wp2
    go_ret
    exact ⟨ret_bool (by unfold whoB; simp [h1, h2]), rfl⟩

theorem right_any (t : List Rec) (A : Option Addr) (n c : Nat) (w : World) (hr : Rd w 2 A n (rs t)) (hn : n ≤ 1000000) :
    Calls Try.prog 16 #[.slice A n c] w fun e w' => e = .returned (.bool (rightB t)) ∧ w = w' := by
  have HL := Lib.hid (rs_len hr)
  go_enter Try.func16, Try.ntmps16
  go_wp2
  go_loop [3] (fun i => ∃ k : Nat, k ≤ n ∧ i = .int .i64 k ∧ Hid ((t.take k).all recB = true)) (fun i => n - (intOf i).toNat)
  case atStart => exact ⟨0, Nat.zero_le _, rfl, Lib.hid rfl⟩
  case round =>
    obtain ⟨k, hk, rfl, hall⟩ := hrel
    by_cases hlt : k < n
    · obtain ⟨b, off, ⟨vr, ow⟩, rfl, hx, c0, c1⟩ := at_rec hr k hlt
      have hs := Lib.hid (take_all t recB k _ hx)
      have HX := Lib.hid hx
      clear hx
      by_cases hok : recB ⟨vr, ow⟩ = true
      · have HOK := Lib.hid hok
        unfold recB at hok
        simp only [decide_eq_true_eq] at hok
        obtain ⟨t1, t2, t3, t4⟩ := hok
        go_wp2
        go_round
        case rel => exact ⟨k + 1, by omega, by go_num, Lib.hid (by rw [hs.out, hall.out, HOK.out]; rfl)⟩
        case measure => simp [intOf]; omega
      · have HF : Hid (rightB t = false) := Lib.hid (by
          unfold rightB; rw [all_bad t recB k _ HX.out (by simpa using hok)]; simp)
        unfold recB at hok
        simp only [decide_eq_true_eq] at hok
        by_cases t1 : vr < 0
        · go_wp2
          go_ret
          exact ⟨ret_bool HF.out.symm, rfl⟩
        · by_cases t2 : 2147483647 < vr
          · go_wp2
            go_ret
            exact ⟨ret_bool HF.out.symm, rfl⟩
          · by_cases t3 : ow < 0
            · go_wp2
              go_ret
              exact ⟨ret_bool HF.out.symm, rfl⟩
            · have t4 : 8 < ow := by omega
              clear hok
              go_wp2
              go_ret
              exact ⟨ret_bool HF.out.symm, rfl⟩
    · have hkn : k = n := by omega
      have HF : Hid (rightB t = decide (0 < n ∧ n < 17)) := Lib.hid (by
        have := hall.out
        rw [hkn, ← HL.out, List.take_length] at this
        unfold rightB; rw [this, HL.out]; simp)
      clear hkn
      by_cases h1 : 0 < n
      all_goals by_cases h2 : n < 17
      all_goals
        go_wp2
        go_ret
        exact ⟨ret_bool (by rw [HF.out]; first | (simp [h1, h2]; done) | (simp [h1, h2]; omega)), rfl⟩

theorem in_any (l : List Int) (A : Option Addr) (n c : Nat) (z : Int) (w : World) (hr : Rd w 1 A n (zs l)) (hn : n ≤ 1000000) :
    Calls Try.prog 31 #[.slice A n c, .int .i64 z] w fun e w' => e = .returned (.bool (l.any (fun x => x == z))) ∧ w = w' := by
  have HL := Lib.hid (zs_len hr)
  go_enter Try.func31, Try.ntmps31
  go_wp2
  go_loop [5] (fun i => ∃ k : Nat, k ≤ n ∧ i = .int .i64 k ∧ Hid ((l.take k).any (fun x => x == z) = false)) (fun i => n - (intOf i).toNat)
  case atStart => exact ⟨0, Nat.zero_le _, rfl, Lib.hid rfl⟩
  case round =>
    obtain ⟨k, hk, rfl, hall⟩ := hrel
    by_cases hlt : k < n
    · obtain ⟨b, off, x, rfl, hx, c0⟩ := at_z hr k hlt
      have hs := Lib.hid (take_any l (fun x => x == z) k _ hx)
      have HX := Lib.hid hx
      clear hx
      by_cases he : x = z
      · have HF : Hid (l.any (fun x => x == z) = true) := Lib.hid (any_good l _ k _ HX.out (by simpa using he))
        subst he
        go_wp2
        go_ret
        exact ⟨ret_bool HF.out.symm, rfl⟩
      · have t1 : (x == z) = false := beq_eq_false_iff_ne.2 he
        clear he
        go_wp2
        go_round
        case rel => exact ⟨k + 1, by omega, by go_num, Lib.hid (by rw [hs.out, hall.out, t1]; rfl)⟩
        case measure => simp [intOf]; omega
    · have HF : Hid (l.any (fun x => x == z) = false) := Lib.hid (by
        have := hall.out
        rwa [List.take_of_length_le (by rw [HL.out]; omega)] at this)
      go_wp2
      go_ret
      exact ⟨ret_bool HF.out.symm, rfl⟩

theorem cells_any (l : List Int) (A : Option Addr) (n c : Nat) (w : World) (hr : Rd w 1 A n (zs l)) (hn : n ≤ 1000000) :
    Calls Try.prog 30 #[.slice A n c] w fun e w' => e = .returned (.bool (cellsB l)) ∧ w = w' := by
  have HL := Lib.hid (zs_len hr)
  go_enter Try.func30, Try.ntmps30
  go_wp2
  go_loop [3] (fun i => ∃ k : Nat, k ≤ n ∧ i = .int .i64 k ∧ Hid ((l.take k).all (fun c => decide (0 ≤ c)) = true)) (fun i => n - (intOf i).toNat)
  case atStart => exact ⟨0, Nat.zero_le _, rfl, Lib.hid rfl⟩
  case round =>
    obtain ⟨k, hk, rfl, hall⟩ := hrel
    by_cases hlt : k < n
    · obtain ⟨b, off, x, rfl, hx, c0⟩ := at_z hr k hlt
      have hs := Lib.hid (take_all l (fun c => decide (0 ≤ c)) k _ hx)
      have HX := Lib.hid hx
      clear hx
      by_cases he : 0 ≤ x
      · go_wp2
        go_round
        case rel => exact ⟨k + 1, by omega, by go_num, Lib.hid (by rw [hs.out, hall.out]; simpa using he)⟩
        case measure => simp [intOf]; omega
      · have HF : Hid (cellsB l = false) := Lib.hid (all_bad l _ k _ HX.out (by simpa using he))
        go_wp2
        go_ret
        exact ⟨ret_bool HF.out.symm, rfl⟩
    · have HF : Hid (cellsB l = true) := Lib.hid (by
        have := hall.out
        rwa [List.take_of_length_le (by rw [HL.out]; omega)] at this)
      go_wp2
      go_ret
      exact ⟨ret_bool HF.out.symm, rfl⟩

theorem same_b (x y : List Rec) (A B : Option Addr) (n m c d : Nat) (w : World) (v : Bool) (hx : Rd w 2 A n (rs x)) (hy : Rd w 2 B m (rs y)) (hn : n ≤ 1000000) (hm : m ≤ 1000000) (hv : decide (x = y) = v) :
    Calls Try.prog 22 #[.slice A n c, .slice B m d] w (RetB w v) := by
  subst hv
  have HX := Lib.hid (rs_len hx)
  have HY := Lib.hid (rs_len hy)
  by_cases hnm : n = m
  · subst hnm
    go_enter Try.func22, Try.ntmps22
    go_wp2
    go_loopw [5] (fun i wr => ∃ k q : Nat, k ≤ n ∧ i = .int .i64 k ∧ wr = w.drewN q ∧ Hid (x.take k = y.take k)) (fun i _ => n - (intOf i).toNat)
    case atStart => exact ⟨0, 0, Nat.zero_le _, rfl, rfl, Lib.hid rfl⟩
    case round =>
      obtain ⟨k, q, hk, rfl, rfl, hall⟩ := hrel
      by_cases hlt : k < n
      · obtain ⟨b, off, ⟨vr, ow⟩, rfl, gx, c0, c1⟩ := at_rec hx k hlt
        obtain ⟨b', off', ⟨vr', ow'⟩, rfl, gy, c0', c1'⟩ := at_rec hy k hlt
        have GX := Lib.hid gx
        have GY := Lib.hid gy
        clear gx gy
        by_cases heq : vr = vr' ∧ ow = ow'
        · obtain ⟨rfl, rfl⟩ := heq
          have hs : Hid (x.take (k + 1) = y.take (k + 1)) := Lib.hid (take_eq x y k _ GX.out GY.out hall.out)
          go_wp2
          go_quiet (fail)
          go_wp2
          go_roundw
          case rel => exact ⟨k + 1, _, by omega, by go_num, rfl, hs⟩
          case measure => simp [intOf]; omega
        · have hf : Hid (decide (x = y) = false) := Lib.hid (take_ne x y k _ _ GX.out GY.out (by intro e; injection e with e0 e1; exact heq ⟨e0, e1⟩))
          by_cases h0 : vr = vr'
          · subst h0
            have h1 : ¬ ow = ow' := fun e => heq ⟨rfl, e⟩
            clear heq
            go_wp2
            go_quiet (fail)
            go_wp2
            go_ret
            exact ⟨ret_bool hf.out.symm, by first | exact bl_drewN (bl_drewN (Below.refl _ _) _) _ | exact bl_drewN (Below.refl _ _) _⟩
          · clear heq
            go_wp2
            go_quiet (fail)
            go_wp2
            go_ret
            exact ⟨ret_bool hf.out.symm, by first | exact bl_drewN (bl_drewN (Below.refl _ _) _) _ | exact bl_drewN (Below.refl _ _) _⟩
      · have hf : Hid (decide (x = y) = true) := by
          refine Lib.hid (decide_eq_true ?_)
          have := hall.out
          rwa [List.take_of_length_le (by rw [HX.out]; omega), List.take_of_length_le (by rw [HY.out]; omega)] at this
        go_wp2
        go_ret
        exact ⟨ret_bool hf.out.symm, bl_drewN (Below.refl _ _) _⟩
  · have hf : Hid (decide (x = y) = false) := by
      refine Lib.hid (decide_eq_false ?_)
      intro e
      have l1 := HX.out
      have l2 := HY.out
      rw [e] at l1
      exact hnm (by omega)
    go_enter Try.func22, Try.ntmps22
    go_wp2
    go_ret
    exact ⟨ret_bool hf.out.symm, Below.refl _ _⟩

theorem numbers_b (x y : List Int) (A B : Option Addr) (n m c d : Nat) (w : World) (v : Bool) (hx : Rd w 1 A n (zs x)) (hy : Rd w 1 B m (zs y)) (hn : n ≤ 1000000) (hm : m ≤ 1000000) (hv : decide (x = y) = v) :
    Calls Try.prog 17 #[.slice A n c, .slice B m d] w (RetB w v) := by
  subst hv
  have HX := Lib.hid (zs_len hx)
  have HY := Lib.hid (zs_len hy)
  by_cases hnm : n = m
  · subst hnm
    go_enter Try.func17, Try.ntmps17
    go_wp2
    go_loopw [5] (fun i wr => ∃ k q : Nat, k ≤ n ∧ i = .int .i64 k ∧ wr = w.drewN q ∧ Hid (x.take k = y.take k)) (fun i _ => n - (intOf i).toNat)
    case atStart => exact ⟨0, 0, Nat.zero_le _, rfl, rfl, Lib.hid rfl⟩
    case round =>
      obtain ⟨k, q, hk, rfl, rfl, hall⟩ := hrel
      by_cases hlt : k < n
      · obtain ⟨b, off, z, rfl, gx, c0⟩ := at_z hx k hlt
        obtain ⟨b', off', z', rfl, gy, c0'⟩ := at_z hy k hlt
        have GX := Lib.hid gx
        have GY := Lib.hid gy
        clear gx gy
        by_cases heq : z = z'
        · obtain rfl := heq
          have hs : Hid (x.take (k + 1) = y.take (k + 1)) := Lib.hid (take_eq x y k _ GX.out GY.out hall.out)
          go_wp2
          go_quiet (fail)
          go_wp2
          go_roundw
          case rel => exact ⟨k + 1, _, by omega, by go_num, rfl, hs⟩
          case measure => simp [intOf]; omega
        · have hf : Hid (decide (x = y) = false) := Lib.hid (take_ne x y k _ _ GX.out GY.out (by exact heq))
          have h1 : (z != z') = true := by simpa using heq
          clear heq
          go_wp2
          go_quiet (fail)
          go_wp2
          go_ret
          exact ⟨ret_bool hf.out.symm, by first | exact bl_drewN (bl_drewN (Below.refl _ _) _) _ | exact bl_drewN (Below.refl _ _) _⟩
      · have hf : Hid (decide (x = y) = true) := by
          refine Lib.hid (decide_eq_true ?_)
          have := hall.out
          rwa [List.take_of_length_le (by rw [HX.out]; omega), List.take_of_length_le (by rw [HY.out]; omega)] at this
        go_wp2
        go_ret
        exact ⟨ret_bool hf.out.symm, bl_drewN (Below.refl _ _) _⟩
  · have hf : Hid (decide (x = y) = false) := by
      refine Lib.hid (decide_eq_false ?_)
      intro e
      have l1 := HX.out
      have l2 := HY.out
      rw [e] at l1
      exact hnm (by omega)
    go_enter Try.func17, Try.ntmps17
    go_wp2
    go_ret
    exact ⟨ret_bool hf.out.symm, Below.refl _ _⟩
end Go.Proofs.Ytfnghnfaekjfjaa.Stripe
