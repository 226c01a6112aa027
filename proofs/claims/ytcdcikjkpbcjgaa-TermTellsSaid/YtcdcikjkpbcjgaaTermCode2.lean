/-
  WHAT EACH FUNCTION OF THE LAYER term RETURNS, AS IT IS WRITTEN: Check, Deep, register, tell.
-/
import Derived.Test.YtcdcikjkpbcjgaaTermCode
import Derived.BigQuiet
namespace Go.Proofs.Ytcdcikjkpbcjgaa.Term
open Go.ChangeShapes Go.WideShapes Go.ChangeAt Go.RowKit Mem

theorem pile_well (l : List Op) : (pileR l).2 = wellB l := by
  unfold pileR wellB
  cases pile l 0 0 <;> rfl
theorem check_c (l : List Op) (A : Option Addr) (n c : Nat) (w : World) (v : Int) (hr : Rd w 2 A n (ops l)) (hn : n ≤ 1000000) (hv : checkS l = v) :
    Calls Try.prog 13 #[.slice A n c] w (RetI w v) := by
  have HV := Lib.hid hv
  have HL := Lib.hid (ops_len hr)
  have HR := Lib.hid hr
  clear hr hv
  by_cases h0 : n < 1
  · have HF : Hid (v = 1) := Lib.hid (by rw [← HV.out]; exact check_len l (by rw [HL.out]; omega))
    go_enter Try.func13, Try.ntmps13
    go_wp2
    go_ret
    exact ⟨ret_int HF.out.symm, Below.refl _ _⟩
  by_cases h1 : 12 < n
  · have HF : Hid (v = 1) := Lib.hid (by rw [← HV.out]; exact check_len l (by rw [HL.out]; omega))
    go_enter Try.func13, Try.ntmps13
    go_wp2
    go_ret
    exact ⟨ret_int HF.out.symm, Below.refl _ _⟩
  go_enter Try.func13, Try.ntmps13
  go_wp2
  go_loopw [17] (fun i wr => ∃ k : Nat, k ≤ n ∧ i = .int .i64 k ∧ Hid (Below w.heap.size w wr) ∧ Hid ((l.take k).all oneB = true)) (fun i _ => n - (intOf i).toNat)
  case atStart => exact ⟨0, Nat.zero_le _, rfl, Lib.hid (Below.refl _ _), Lib.hid rfl⟩
  case round =>
    obtain ⟨k, hk, rfl, HB, hall⟩ := hrel
    generalize wr = w2 at *
    by_cases hlt : k < n
    · obtain ⟨b, off, ⟨kd, nn⟩, rfl, hx, c0, c1⟩ := at_op (HR.out.below HB.out) k hlt
      have hs := Lib.hid (take_all l oneB k _ hx)
      cases hok : oneB ⟨kd, nn⟩
      · have HOK := Lib.hid hok
        have HF : Hid (v = 1) := Lib.hid (by rw [← HV.out]; exact check_bad l k _ hx hok)
        clear hx hok
        go_wp2_with fail
        refine (right_any _ _ _ false HOK.out).mono ?_
        rintro e w3 ⟨rfl, b3⟩
        have HB3 := Lib.hid (bl_trans (bl_alloc HB.out _) b3.below)
        clear b3
        go_wp2_with fail
        go_ret
        exact ⟨ret_int HF.out.symm, HB3.out⟩
      · have HOK := Lib.hid hok
        clear hx hok
        go_wp2_with fail
        refine (right_any _ _ _ true HOK.out).mono ?_
        rintro e w3 ⟨rfl, b3⟩
        have HB3 := Lib.hid (bl_trans (bl_alloc HB.out _) b3.below)
        clear b3
        go_wp2_with fail
        go_roundw
        case rel => exact ⟨k + 1, by omega, by go_num, HB3, Lib.hid (by rw [hs.out, hall.out, HOK.out]; rfl)⟩
        case measure => simp [intOf]; omega
    · have HA : Hid (l.all oneB = true) := Lib.hid (by
        have := hall.out
        rwa [List.take_of_length_le (by rw [HL.out]; omega)] at this)
      obtain ⟨⟨dp, wl⟩, hpr⟩ : ∃ p, pileR l = p := ⟨_, rfl⟩
      have hw : wl = wellB l := by rw [← pile_well l, hpr]
      have HPR := Lib.hid hpr
      clear hpr
      cases wl
      · have HF : Hid (v = 2) := Lib.hid (by
          rw [← HV.out]; unfold checkS; rw [if_pos (by rw [HA.out, HL.out]; simp; omega), ← hw]; rfl)
        clear hw
        go_wp2_with fail
        refine (pile_any l _ _ _ _ (dp, false) (HR.out.below HB.out) hn HA.out HPR.out).mono ?_
        rintro e w3 ⟨rfl, b3⟩
        have HB3 := Lib.hid (bl_trans HB.out b3)
        clear b3
        go_wp2_with fail
        go_ret
        exact ⟨ret_int HF.out.symm, HB3.out⟩
      · have HF : Hid (v = 0) := Lib.hid (by
          rw [← HV.out]; unfold checkS; rw [if_pos (by rw [HA.out, HL.out]; simp; omega), ← hw]; rfl)
        clear hw
        go_wp2_with fail
        refine (pile_any l _ _ _ _ (dp, true) (HR.out.below HB.out) hn HA.out HPR.out).mono ?_
        rintro e w3 ⟨rfl, b3⟩
        have HB3 := Lib.hid (bl_trans HB.out b3)
        clear b3
        go_wp2_with fail
        go_ret
        exact ⟨ret_int HF.out.symm, HB3.out⟩

theorem deep_c (l : List Op) (A : Option Addr) (n c : Nat) (w : World) (v : Nat) (hr : Rd w 2 A n (ops l)) (hn : n ≤ 1000000) (hv : deepS l = v) :
    Calls Try.prog 18 #[.slice A n c] w (RetI w (v : Int)) := by
  have HL := Lib.hid (ops_len hr)
  have HR := Lib.hid hr
  clear hr
  by_cases h0 : checkS l = 0
  · have H0 := Lib.hid h0
    obtain ⟨g1, g2, g3, g4⟩ := check_ok l h0
    have HO := Lib.hid g3
    obtain ⟨⟨dp, wl⟩, hpr⟩ : ∃ p, pileR l = p := ⟨_, rfl⟩
    have hd : dp = (v : Int) := by
      have e : dp = (pileR l).1 := by rw [hpr]
      rw [e, ← hv]; unfold deepS pileR; rw [if_pos h0]
      cases pile l 0 0 <;> rfl
    subst hd
    have HPR := Lib.hid hpr
    clear h0 g1 g2 g3 g4 hv hpr
    go_enter Try.func18, Try.ntmps18
    go_wp2_with fail
    refine (check_c l _ _ _ _ 0 HR.out hn H0.out).mono ?_
    rintro e w1 ⟨rfl, b1⟩
    have HB := Lib.hid b1
    clear b1
    go_wp2_with fail
    refine (pile_any l _ _ _ _ _ (HR.out.below HB.out) hn HO.out HPR.out).mono ?_
    rintro e w3 ⟨rfl, b3⟩
    have HB3 := Lib.hid (bl_trans HB.out b3)
    clear b3
    go_wp2_with fail
    go_ret
    exact ⟨rfl, HB3.out⟩
  · have HF : Hid ((v : Int) = 0) := Lib.hid (by have h9 : deepS l = 0 := if_neg h0; omega)
    obtain ⟨ck, hck⟩ : ∃ x, checkS l = x := ⟨_, rfl⟩
    have HC := Lib.hid hck
    have hne : (ck != 0) = true := by rw [← hck]; simpa using h0
    clear h0 hv hck
    go_enter Try.func18, Try.ntmps18
    go_wp2_with fail
    refine (check_c l _ _ _ _ ck HR.out hn HC.out).mono ?_
    rintro e w1 ⟨rfl, b1⟩
    have HB := Lib.hid b1
    clear b1
    go_wp2_with fail
    go_ret
    exact ⟨ret_int HF.out.symm, HB.out⟩

/-- What is told, and the error's number. -/
def told (r : Option Int) : Int × Int := match r with
  | some v => (v, 0)
  | none => (0, 3)
theorem register_any (rg : List Int) (E : Option Addr) (x y k : Nat) (w : World) (hg : Rd w 1 E x (zs rg)) :
    Calls Try.prog 36 #[.slice E x y, .int .i64 (k : Int)] w fun e w' => e = .returned (.tuple #[.int .i64 (told ((rg[k]?).map Span.sw)).1, .int .i64 (told ((rg[k]?).map Span.sw)).2]) ∧ w = w' := by
  have HL := Lib.hid (zs_len hg)
  by_cases hj : k < x
  · obtain ⟨eb, ef, rv, rfl, hrv, e0⟩ := at_z hg k hj
    have HF : Hid (told ((rg[k]?).map Span.sw) = (Span.sw rv, 0)) := Lib.hid (by rw [hrv]; rfl)
    clear hrv hg
    go_enter Try.func36, Try.ntmps36
    go_wp2_with (go_at_call 20; refine (Span.wrap_any _ _).mono ?_; rintro e w' ⟨rfl, rfl⟩)
    go_ret2
    exact ⟨by rw [HF.out]; rfl, rfl⟩
  · have HF : Hid (told ((rg[k]?).map Span.sw) = (0, 3)) := Lib.hid (by rw [List.getElem?_eq_none (by rw [HL.out]; omega)]; rfl)
    clear hg
    go_enter Try.func36, Try.ntmps36
    go_wp2
    go_ret2
    exact ⟨by rw [HF.out]; rfl, rfl⟩
end Go.Proofs.Ytcdcikjkpbcjgaa.Term
