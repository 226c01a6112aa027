/-
  WHAT EACH FUNCTION OF THE LAYER term RETURNS, AS IT IS WRITTEN: Check, Deep, register, tell.
-/
import Derived.Test.YtilfkohckmknkaaTermCode
import Derived.BigQuiet
namespace Go.Proofs.Ytilfkohckmknkaa.Term
open Go.ChangeShapes Go.WideShapes Go.ChangeAt Go.RowKit Mem

theorem pile_well (l : List Op) : (pileR l).2 = wellB l := by
  unfold pileR wellB
  cases pile l 0 0 <;> rfl
theorem check_c (l : List Op) (A : Option Addr) (n c : Nat) (w : World) (v : Int) (hr : Rd w 2 A n (ops l)) (hn : n ≤ 1000000) (hv : checkS l = v) :
    Calls Try.prog 50 #[.slice A n c] w (RetI w v) := by
  have HV := Lib.hid hv
  have HL := Lib.hid (ops_len hr)
  have HR := Lib.hid hr
  clear hr hv
  by_cases h0 : n < 1
  · have HF : Hid (v = 1) := Lib.hid (by rw [← HV.out]; exact check_len l (by rw [HL.out]; omega))
    go_enter Try.func50, Try.ntmps50
    go_wp2
    go_ret
    exact ⟨ret_int HF.out.symm, Below.refl _ _⟩
  by_cases h1 : 12 < n
  · have HF : Hid (v = 1) := Lib.hid (by rw [← HV.out]; exact check_len l (by rw [HL.out]; omega))
    go_enter Try.func50, Try.ntmps50
    go_wp2
    go_ret
    exact ⟨ret_int HF.out.symm, Below.refl _ _⟩
  go_enter Try.func50, Try.ntmps50
  go_wp2
  go_loopw [17] (fun i wr => ∃ k : Nat, k ≤ n ∧ i = .int .i64 k ∧ Hid (Below w.heap.size w wr) ∧ Hid ((l.take k).all oneB = true)) (fun i _ => n - (intOf i).toNat)
  case atStart => exact ⟨0, Nat.zero_le _, rfl, Lib.hid (Below.refl _ _), Lib.hid rfl⟩
  case round =>
    obtain ⟨k, hk, rfl, HB, hall⟩ := hrel
    generalize wr = w2 at *
    by_cases hlt : k < n
    · obtain ⟨b, off, ⟨kd, nn⟩, rfl, hx, c0, c1⟩ := at_op (HR.out.below HB.out) k hlt
      have hs := Lib.hid (take_all l oneB k _ hx)
      cases hok : oneB ⟨kd, nn⟩
      · have HOK := Lib.hid hok
        have HF : Hid (v = 1) := Lib.hid (by rw [← HV.out]; exact check_bad l k _ hx hok)
        clear hx hok
        go_wp2_with fail
        refine (right_any _ _ _ false HOK.out).mono ?_
        rintro e w3 ⟨rfl, b3⟩
        have HB3 := Lib.hid (bl_trans (bl_alloc HB.out _) b3.below)
        clear b3
        go_wp2_with fail
        go_ret
        exact ⟨ret_int HF.out.symm, HB3.out⟩
      · have HOK := Lib.hid hok
        clear hx hok
        go_wp2_with fail
        refine (right_any _ _ _ true HOK.out).mono ?_
        rintro e w3 ⟨rfl, b3⟩
        have HB3 := Lib.hid (bl_trans (bl_alloc HB.out _) b3.below)
        clear b3
        go_wp2_with fail
        go_roundw
        case rel => exact ⟨k + 1, by omega, by go_num, HB3, Lib.hid (by rw [hs.out, hall.out, HOK.out]; rfl)⟩
        case measure => simp [intOf]; omega
    · have HA : Hid (l.all oneB = true) := Lib.hid (by
        have := hall.out
        rwa [List.take_of_length_le (by rw [HL.out]; omega)] at this)
      obtain ⟨⟨dp, wl⟩, hpr⟩ : ∃ p, pileR l = p := ⟨_, rfl⟩
      have hw : wl = wellB l := by rw [← pile_well l, hpr]
      have HPR := Lib.hid hpr
      clear hpr
      cases wl
      · have HF : Hid (v = 2) := Lib.hid (by
          rw [← HV.out]; unfold checkS; rw [if_pos (by rw [HA.out, HL.out]; simp; omega), ← hw]; rfl)
        clear hw
        go_wp2_with fail
        refine (pile_any l _ _ _ _ (dp, false) (HR.out.below HB.out) hn HA.out HPR.out).mono ?_
        rintro e w3 ⟨rfl, b3⟩
        have HB3 := Lib.hid (bl_trans HB.out b3)
        clear b3
        go_wp2_with fail
        go_ret
        exact ⟨ret_int HF.out.symm, HB3.out⟩
      · have HF : Hid (v = 0) := Lib.hid (by
          rw [← HV.out]; unfold checkS; rw [if_pos (by rw [HA.out, HL.out]; simp; omega), ← hw]; rfl)
        clear hw
        go_wp2_with fail
        refine (pile_any l _ _ _ _ (dp, true) (HR.out.below HB.out) hn HA.out HPR.out).mono ?_
        rintro e w3 ⟨rfl, b3⟩
        have HB3 := Lib.hid (bl_trans HB.out b3)
        clear b3
        go_wp2_with fail
        go_ret
        exact ⟨ret_int HF.out.symm, HB3.out⟩


/-- What is told, and the error's number. -/
def told (r : Option Int) : Int × Int := match r with
  | some v => (v, 0)
  | none => (0, 3)
end Go.Proofs.Ytilfkohckmknkaa.Term
