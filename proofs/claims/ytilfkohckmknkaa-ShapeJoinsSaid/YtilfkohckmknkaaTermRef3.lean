/-
  WHAT THE DOCUMENT'S ANSWER FOR LAYER 7 RETURNS: Check, value, Eval, Cells, Deep; and a term as the document's.
-/
import Derived.Test.YtilfkohckmknkaaTermRef2
namespace Go.Proofs.Ytilfkohckmknkaa.Term
open Go.ChangeShapes Go.WideShapes Go.ChangeAt Go.RowKit Mem

def RetI (w : World) (v : Int) (e : Ending) (w' : World) : Prop := e = .returned (.int .i64 v) ∧ Below w.heap.size w w'
theorem refcheck (l : List Op) (A : Option Addr) (n c : Nat) (w : World) (v : Int) (hr : Rd w 2 A n (ops l)) (hn : n ≤ 1000000) (hv : checkS l = v) :
    Calls Try.prog 46 #[.slice A n c] w (RetI w v) := by
  have HV := Lib.hid hv
  have HL := Lib.hid (ops_len hr)
  have HR := Lib.hid hr
  clear hr hv
  by_cases h0 : n < 1
  · have HF : Hid (v = 1) := Lib.hid (by rw [← HV.out]; exact check_len l (by rw [HL.out]; omega))
    go_enter Try.func46, Try.ntmps46
    go_wp2
    go_ret
    exact ⟨ret_int HF.out.symm, Below.refl _ _⟩
  by_cases h1 : 12 < n
  · have HF : Hid (v = 1) := Lib.hid (by rw [← HV.out]; exact check_len l (by rw [HL.out]; omega))
    go_enter Try.func46, Try.ntmps46
    go_wp2
    go_ret
    exact ⟨ret_int HF.out.symm, Below.refl _ _⟩
  go_enter Try.func46, Try.ntmps46
  go_wp2
  go_loopw [3] (fun i wr => ∃ k : Nat, k ≤ n ∧ i = .int .i64 k ∧ Hid (Below w.heap.size w wr) ∧ Hid ((l.take k).all oneB = true)) (fun i _ => n - (intOf i).toNat)
  case atStart => exact ⟨0, Nat.zero_le _, rfl, Lib.hid (Below.refl _ _), Lib.hid rfl⟩
  case round =>
    obtain ⟨k, hk, rfl, HB, hall⟩ := hrel
    generalize wr = w2 at *
    by_cases hlt : k < n
    · obtain ⟨b, off, ⟨kd, nn⟩, rfl, hx, c0, c1⟩ := at_op (HR.out.below HB.out) k hlt
      have hs := Lib.hid (take_all l oneB k _ hx)
      cases hok : oneB ⟨kd, nn⟩
      · have HOK := Lib.hid hok
        have HF : Hid (v = 1) := Lib.hid (by rw [← HV.out]; exact check_bad l k _ hx hok)
        clear hx hok
        go_wp2_with fail
        refine (refone_any _ _ _ false HOK.out).mono ?_
        rintro e w3 ⟨rfl, b3⟩
        have HB3 := Lib.hid (bl_trans HB.out b3.below)
        clear b3
        go_wp2_with fail
        go_ret
        exact ⟨ret_int HF.out.symm, HB3.out⟩
      · have HOK := Lib.hid hok
        clear hx hok
        go_wp2_with fail
        refine (refone_any _ _ _ true HOK.out).mono ?_
        rintro e w3 ⟨rfl, b3⟩
        have HB3 := Lib.hid (bl_trans HB.out b3.below)
        clear b3
        go_wp2_with fail
        go_roundw
        case rel => exact ⟨k + 1, by omega, by go_num, HB3, Lib.hid (by rw [hs.out, hall.out, HOK.out]; rfl)⟩
        case measure => simp [intOf]; omega
    · have HA : Hid (l.all oneB = true) := Lib.hid (by
        have := hall.out
        rwa [List.take_of_length_le (by rw [HL.out]; omega)] at this)
      cases hw : wellB l
      · have HF : Hid (v = 2) := Lib.hid (by
          rw [← HV.out]; unfold checkS; rw [if_pos (by rw [HA.out, HL.out]; simp; omega), hw]; rfl)
        have HW := Lib.hid hw
        clear hw
        go_wp2_with fail
        refine (refstart_any l _ _ _ _ (HR.out.below HB.out) hn n _ (by omega) (by omega) (by omega)).mono ?_
        rintro e w3 ⟨⟨b, rfl, b1, b2, HX⟩, rfl⟩
        have hb0 : ¬ b = 0 := by
          intro e
          obtain ⟨T, P, Q, t1, t2, t3, t4⟩ := HX.out (by omega)
          have hp : P = [] := List.eq_nil_of_length_eq_zero (by omega)
          subst hp
          have hq : Q = [] := List.eq_nil_of_length_eq_zero (by
            have h5 := HL.out; rw [t2] at h5; simp at h5 t4; omega)
          subst hq
          have := tree_well T t1
          rw [show T.ops = l by rw [t2]; simp] at this
          rw [HW.out] at this; cases this
        have hb1 : (b != 0) = true := by simpa using hb0
        clear hb0
        go_wp2_with fail
        go_ret
        exact ⟨ret_int HF.out.symm, HB.out⟩
      · have HF : Hid (v = 0) := Lib.hid (by
          rw [← HV.out]; unfold checkS; rw [if_pos (by rw [HA.out, HL.out]; simp; omega), hw]; rfl)
        obtain ⟨T, t1, t2⟩ := well_tree l hw
        have HT := Lib.hid t2
        clear hw t2
        go_wp2_with fail
        refine (refstart_tree T t1 [] [] l _ _ _ (n - 1) 0 _ (HR.out.below HB.out) hn (by rw [HT.out]; simp) (by rw [HT.out]; simp; have := HL.out; omega) rfl _ (by omega)).mono ?_
        rintro e w3 ⟨rfl, rfl⟩
        go_wp2_with fail
        go_ret
        exact ⟨ret_int HF.out.symm, HB.out⟩


theorem tROp : SliceT Try.prog 56 62 2 16 := SliceT.mk_ (z := .agg #[.int .i64 0, .int .i64 0]) Try.underlying56 (by kernel_rfl) rfl (by decide)
/-- A term as the document's. -/
theorem ref_o (l : List Op) (A : Option Addr) (n c : Nat) (w : World) (hr : Rd w 2 A n (ops l)) (hn : n ≤ 1000000) :
    Calls Try.prog 26 #[.slice A n c] w (RetO w 62 2 n (ops l)) := by
  have HL := Lib.hid (ops_len hr)
  have HR := Lib.hid hr
  clear hr
  go_enter Try.func26, Try.ntmps26
  go_wp2
  go_loopw [3, 8] (fun v i wr => ∃ k : Nat, k ≤ n ∧ i = .int .i64 k ∧ Own w wr 62 2 v k (ops (l.take k))) (fun _ i _ => n - (intOf i).toNat)
  case atStart => exact ⟨0, Nat.zero_le _, rfl, Own.nil_ (Below.refl _ _)⟩
  case round =>
    obtain ⟨k, hk, rfl, hown⟩ := hrel
    by_cases hlt : k < n
    · obtain ⟨b, off, ⟨kd, nn⟩, rfl, hx, c0, c1⟩ := at_op (HR.out.below hown.2) k hlt
      have HT := Lib.hid (ops_take l k _ hx)
      clear hx
      go_wp2_with (at_builtin; refine append_rd rfl _ _ 56 rfl tROp w _ _ _ rfl ((hown.alloc _).alloc _) _ 1 1 [.int .i64 kd, .int .i64 nn] rfl (Rd.builtAt _ 2 1 [.int .i64 kd, .int .i64 nn] _ rfl (by simp)) (one_cons rfl (one_cons rfl one_nil)) (by omega) (by omega) ?_; intro v' w' hown' hg; clear hg)
      go_roundw
      case rel => exact ⟨k + 1, by omega, by go_num, by rw [HT.out]; exact hown'⟩
      case measure => simp [intOf]; omega
    · obtain rfl : k = n := by omega
      have ho := hown
      rw [List.take_of_length_le (by rw [HL.out]; exact Nat.le_refl _)] at ho
      have HO := Lib.hid ho
      clear ho hown
      go_wp2
      go_ret
      exact ⟨_, rfl, HO.out⟩
theorem ref_c (l : List Op) (A : Option Addr) (n c : Nat) (w : World) (hr : Rd w 2 A n (ops l)) (hn : n ≤ 1000000) :
    Calls Try.prog 26 #[.slice A n c] w (RetS w 2 n (ops l)) := (ref_o l A n c w hr hn).mono (fun _ _ => RetO.toS)
end Go.Proofs.Ytilfkohckmknkaa.Term
