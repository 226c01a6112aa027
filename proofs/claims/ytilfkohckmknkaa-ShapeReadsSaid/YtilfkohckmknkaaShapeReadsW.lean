/-
  THE WALK OF THE LAW ShapeReads.
-/
import Derived.Test.YtilfkohckmknkaaShapeAwake
import Derived.Test.YtilfkohckmknkaaShapeRef3
import Derived.Test.YtilfkohckmknkaaShapeSame
import Derived.Test.YtilfkohckmknkaaShapeLaw
namespace Go.Proofs.Ytilfkohckmknkaa.Shape
open Go.ChangeShapes Go.WideShapes Go.ChangeAt Go.RowKit Mem Go.Proofs.Ytilfkohckmknkaa.Code

theorem codes_nil {w : World} {B : Option Addr} {q : Nat} {M : List RawC} (h : Codes w B q M) (hc : cc M = []) : q = 0 := by
  have := h.len
  have h7 := congrArg List.length hc
  rw [cc_len] at h7
  rw [← this, h7]; rfl
theorem codes_few {w : World} {B : Option Addr} {q : Nat} {M : List RawC} {b : List Int} (h : Codes w B q M) (hc : readS b = some (cc M)) : q ≤ 8 := by
  have := h.len
  obtain ⟨h8, _, _⟩ := write_ok ((read_iff _ _).1 hc)
  rw [cc_len] at h8
  omega
/-- What the region at the end of a law does, where all has come out true: the fixed answer. -/
theorem refread_y (b : List Int) (L : List (List Step)) (A : Option Addr) (n c : Nat) (w : World) (hr : Rd w 1 A n (bs b)) (hb : BB b) (hn : n ≤ 1000000) (hv : readS b = some L) :
    Calls Try.prog 19 #[.slice A n c] w (fun e w' => ∃ B d q M, e = .returned (.tuple #[.slice B q d, .bool true]) ∧ Codes w' B q M ∧ cc M = L ∧ LimC M ∧ Below w.heap.size w w') :=
  (refread b A n c w _ hr hb hn hv).mono fun _ _ h => h
theorem refread_n (b : List Int) (A : Option Addr) (n c : Nat) (w : World) (hr : Rd w 1 A n (bs b)) (hb : BB b) (hn : n ≤ 1000000) (hv : readS b = none) :
    Calls Try.prog 19 #[.slice A n c] w (fun e w' => ∃ B d q M, e = .returned (.tuple #[.slice B q d, .bool false]) ∧ Codes w' B q M ∧ cc M = [] ∧ LimC M ∧ Below w.heap.size w w') :=
  (refread b A n c w _ hr hb hn hv).mono fun _ _ h => h
set_option maxRecDepth 100000 in
theorem reads_awake (A : Option Addr) (n c : Nat) (b : List Int) (w : World) (hr : Rd w 1 A n (bs b)) (h : 400 < n ∨ ∃ x, b[0]? = some x ∧ 20 < x) :
    Calls Try.prog 4 #[.slice A n c] w (RetB w true) := by
  rcases h with h | ⟨x, hx, h20⟩
  · have h4 : (400 : Int) < (n : Int) := by omega
    clear hr h
    go_enter Try.func4, Try.ntmps4
    go_wp2_with fail
    refine (awake_any _).mono ?_
    rintro e w1 ⟨rfl, b_⟩
    go_wp2
    go_ret
    exact ⟨rfl, b_⟩
  · by_cases h4 : (400 : Int) < (n : Int)
    · clear hr hx h20
      go_enter Try.func4, Try.ntmps4
      go_wp2_with fail
      refine (awake_any _).mono ?_
      rintro e w1 ⟨rfl, b_⟩
      go_wp2
      go_ret
      exact ⟨rfl, b_⟩
    · have hn : 0 < n := by
        have := bs_len hr
        rcases Nat.eq_zero_or_pos n with h0 | h0
        · have : b = [] := List.eq_nil_of_length_eq_zero (by omega)
          rw [this] at hx; cases hx
        · exact h0
      obtain ⟨g, off, y, rfl, hy, c0⟩ := at_b hr 0 hn
      obtain rfl : y = x := by rw [hx] at hy; injection hy with hy; exact hy.symm
      rw [Nat.add_zero] at c0
      have hn' : (0 : Int) < (n : Int) := by omega
      clear hr hx hy
      go_enter Try.func4, Try.ntmps4
      go_wp2_with fail
      refine (awake_any _).mono ?_
      rintro e w1 ⟨rfl, b_⟩
      go_wp2
      go_ret
      exact ⟨rfl, b_⟩
set_option maxRecDepth 100000 in
set_option maxHeartbeats 2000000 in
theorem reads_walk (A : Option Addr) (n c : Nat) (b : List Int) (w : World) (hnc : n ≤ c) (hcm : c ≤ 9223372036854775807) (hr : Rd w 1 A n (bs b)) (hb : BB b) :
    Calls Try.prog 4 #[.slice A n c] w (RetB w true) := by
  by_cases hbig : 400 < n ∨ ∃ x, b[0]? = some x ∧ 20 < x
  · exact reads_awake A n c b w hr hbig
  have h4 : ¬ (400 : Int) < (n : Int) := by intro h; exact hbig (.inl (by omega))
  have hn : n ≤ 1000000 := by omega
  have HR := Lib.hid hr
  have HB := Lib.hid hb
  obtain ⟨r, hv⟩ : ∃ r, readS b = r := ⟨_, rfl⟩
  have HV := Lib.hid hv
  have hfirst : n = 0 ∨ ∃ g off x, A = some ⟨g, off, none⟩ ∧ w.cell? ⟨g, off, none⟩ = some (.int .u8 x) ∧ ¬ 20 < x ∧ 0 < n := by
    rcases Nat.eq_zero_or_pos n with h0 | h0
    · exact .inl h0
    · obtain ⟨g, off, y, hA, hy, c0⟩ := at_b hr 0 h0
      exact .inr ⟨g, off, y, hA, by simpa using c0, fun h => hbig (.inr ⟨y, hy, h⟩), h0⟩
  clear hr hb hv hbig
  rcases hfirst with rfl | ⟨g, off, x, rfl, c0, h20, hn0⟩
  · cases r with
    | none =>
      go_enter Try.func4, Try.ntmps4
      go_wp2_with fail
      refine (read_n b _ _ _ _ HR.out HB.out hnc (by omega) hcm HV.out).mono ?_
      rintro e w1 ⟨B1, d1, M1, rfl, hc1, hcc1, hl1, b_⟩
      have HC1 := Lib.hid hc1
      have HCC1 := Lib.hid hcc1
      have HL1 := Lib.hid hl1
      have bb := Lib.hid b_
      clear hc1 hcc1 hl1 b_
      go_wp2_with fail
      refine (refread_n b _ _ _ _ (HR.out.below bb.out) HB.out hn HV.out).mono ?_
      rintro e w2 ⟨B2, d2, q2, M2, rfl, hc2, hcc2, hl2, b_⟩
      have hq2 : q2 ≤ 8 := by have := codes_nil hc2 hcc2; omega
      have HC2 := Lib.hid hc2
      have HCC2 := Lib.hid hcc2
      have HL2 := Lib.hid hl2
      replace HC1 := Lib.hid (HC1.out.below b_)
      replace bb := Lib.hid (bl_trans bb.out b_)
      clear hc2 hcc2 hl2 b_
      go_wp2_with fail
      refine (refs_l M1 _ _ _ _ HC1.out HL1.out (by omega)).mono ?_
      rintro e w3 ⟨B3, d3, M3, rfl, hc3, hcc3, hl3, b_⟩
      have HC3 := Lib.hid hc3
      have HCC3 := Lib.hid (hcc3.trans HCC1.out)
      have HL3 := Lib.hid hl3
      replace HC2 := Lib.hid (HC2.out.below b_)
      replace bb := Lib.hid (bl_trans bb.out b_)
      clear hc3 hcc3 hl3 b_
      go_wp2_with fail
      refine (same9 M3 M2 _ _ _ _ _ _ _ true HC3.out HC2.out HL3.out HL2.out (by omega) (by omega) (by rw [HCC3.out, HCC2.out]; exact decide_eq_true rfl)).mono ?_
      rintro e w4 ⟨rfl, z4, rfl⟩
      replace bb := Lib.hid (bl_drewN bb.out z4)
      go_wp2_with fail
      refine (awake_any _).mono ?_
      rintro e w5 ⟨rfl, b_⟩
      replace bb := Lib.hid (bl_trans bb.out b_)
      clear b_
      go_wp2
      go_ret
      exact ⟨rfl, bb.out⟩
    | some L =>
      go_enter Try.func4, Try.ntmps4
      go_wp2_with fail
      refine (read_y b L _ _ _ _ HR.out HB.out hnc (by omega) hcm HV.out).mono ?_
      rintro e w1 ⟨B1, q1, d1, M1, rfl, hc1, hq1, hd1, hcc1, hl1, b_⟩
      have HC1 := Lib.hid hc1
      have HCC1 := Lib.hid hcc1
      have HL1 := Lib.hid hl1
      have bb := Lib.hid b_
      clear hc1 hcc1 hl1 b_
      go_wp2_with fail
      refine (refread_y b L _ _ _ _ (HR.out.below bb.out) HB.out hn HV.out).mono ?_
      rintro e w2 ⟨B2, d2, q2, M2, rfl, hc2, hcc2, hl2, b_⟩
      have hq2 : q2 ≤ 8 := codes_few hc2 (by rw [hcc2]; exact HV.out)
      have HC2 := Lib.hid hc2
      have HCC2 := Lib.hid hcc2
      have HL2 := Lib.hid hl2
      replace HC1 := Lib.hid (HC1.out.below b_)
      replace bb := Lib.hid (bl_trans bb.out b_)
      clear hc2 hcc2 hl2 b_
      go_wp2_with fail
      refine (refs_l M1 _ _ _ _ HC1.out HL1.out (by omega)).mono ?_
      rintro e w3 ⟨B3, d3, M3, rfl, hc3, hcc3, hl3, b_⟩
      have HC3 := Lib.hid hc3
      have HCC3 := Lib.hid (hcc3.trans HCC1.out)
      have HL3 := Lib.hid hl3
      replace HC2 := Lib.hid (HC2.out.below b_)
      replace bb := Lib.hid (bl_trans bb.out b_)
      clear hc3 hcc3 hl3 b_
      go_wp2_with fail
      refine (same9 M3 M2 _ _ _ _ _ _ _ true HC3.out HC2.out HL3.out HL2.out (by omega) (by omega) (by rw [HCC3.out, HCC2.out]; exact decide_eq_true rfl)).mono ?_
      rintro e w4 ⟨rfl, z4, rfl⟩
      replace bb := Lib.hid (bl_drewN bb.out z4)
      go_wp2_with fail
      refine (awake_any _).mono ?_
      rintro e w5 ⟨rfl, b_⟩
      replace bb := Lib.hid (bl_trans bb.out b_)
      clear b_
      go_wp2
      go_ret
      exact ⟨rfl, bb.out⟩
  · cases r with
    | none =>
      go_enter Try.func4, Try.ntmps4
      go_wp2_with fail
      refine (read_n b _ _ _ _ HR.out HB.out hnc (by omega) hcm HV.out).mono ?_
      rintro e w1 ⟨B1, d1, M1, rfl, hc1, hcc1, hl1, b_⟩
      have HC1 := Lib.hid hc1
      have HCC1 := Lib.hid hcc1
      have HL1 := Lib.hid hl1
      have bb := Lib.hid b_
      clear hc1 hcc1 hl1 b_
      go_wp2_with fail
      refine (refread_n b _ _ _ _ (HR.out.below bb.out) HB.out hn HV.out).mono ?_
      rintro e w2 ⟨B2, d2, q2, M2, rfl, hc2, hcc2, hl2, b_⟩
      have hq2 : q2 ≤ 8 := by have := codes_nil hc2 hcc2; omega
      have HC2 := Lib.hid hc2
      have HCC2 := Lib.hid hcc2
      have HL2 := Lib.hid hl2
      replace HC1 := Lib.hid (HC1.out.below b_)
      replace bb := Lib.hid (bl_trans bb.out b_)
      clear hc2 hcc2 hl2 b_
      go_wp2_with fail
      refine (refs_l M1 _ _ _ _ HC1.out HL1.out (by omega)).mono ?_
      rintro e w3 ⟨B3, d3, M3, rfl, hc3, hcc3, hl3, b_⟩
      have HC3 := Lib.hid hc3
      have HCC3 := Lib.hid (hcc3.trans HCC1.out)
      have HL3 := Lib.hid hl3
      replace HC2 := Lib.hid (HC2.out.below b_)
      replace bb := Lib.hid (bl_trans bb.out b_)
      clear hc3 hcc3 hl3 b_
      go_wp2_with fail
      refine (same9 M3 M2 _ _ _ _ _ _ _ true HC3.out HC2.out HL3.out HL2.out (by omega) (by omega) (by rw [HCC3.out, HCC2.out]; exact decide_eq_true rfl)).mono ?_
      rintro e w4 ⟨rfl, z4, rfl⟩
      replace bb := Lib.hid (bl_drewN bb.out z4)
      go_wp2_with fail
      refine (awake_any _).mono ?_
      rintro e w5 ⟨rfl, b_⟩
      replace bb := Lib.hid (bl_trans bb.out b_)
      clear b_
      go_wp2
      go_ret
      exact ⟨rfl, bb.out⟩
    | some L =>
      go_enter Try.func4, Try.ntmps4
      go_wp2_with fail
      refine (read_y b L _ _ _ _ HR.out HB.out hnc (by omega) hcm HV.out).mono ?_
      rintro e w1 ⟨B1, q1, d1, M1, rfl, hc1, hq1, hd1, hcc1, hl1, b_⟩
      have HC1 := Lib.hid hc1
      have HCC1 := Lib.hid hcc1
      have HL1 := Lib.hid hl1
      have bb := Lib.hid b_
      clear hc1 hcc1 hl1 b_
      go_wp2_with fail
      refine (refread_y b L _ _ _ _ (HR.out.below bb.out) HB.out hn HV.out).mono ?_
      rintro e w2 ⟨B2, d2, q2, M2, rfl, hc2, hcc2, hl2, b_⟩
      have hq2 : q2 ≤ 8 := codes_few hc2 (by rw [hcc2]; exact HV.out)
      have HC2 := Lib.hid hc2
      have HCC2 := Lib.hid hcc2
      have HL2 := Lib.hid hl2
      replace HC1 := Lib.hid (HC1.out.below b_)
      replace bb := Lib.hid (bl_trans bb.out b_)
      clear hc2 hcc2 hl2 b_
      go_wp2_with fail
      refine (refs_l M1 _ _ _ _ HC1.out HL1.out (by omega)).mono ?_
      rintro e w3 ⟨B3, d3, M3, rfl, hc3, hcc3, hl3, b_⟩
      have HC3 := Lib.hid hc3
      have HCC3 := Lib.hid (hcc3.trans HCC1.out)
      have HL3 := Lib.hid hl3
      replace HC2 := Lib.hid (HC2.out.below b_)
      replace bb := Lib.hid (bl_trans bb.out b_)
      clear hc3 hcc3 hl3 b_
      go_wp2_with fail
      refine (same9 M3 M2 _ _ _ _ _ _ _ true HC3.out HC2.out HL3.out HL2.out (by omega) (by omega) (by rw [HCC3.out, HCC2.out]; exact decide_eq_true rfl)).mono ?_
      rintro e w4 ⟨rfl, z4, rfl⟩
      replace bb := Lib.hid (bl_drewN bb.out z4)
      go_wp2_with fail
      refine (awake_any _).mono ?_
      rintro e w5 ⟨rfl, b_⟩
      replace bb := Lib.hid (bl_trans bb.out b_)
      clear b_
      go_wp2
      go_ret
      exact ⟨rfl, bb.out⟩
end Go.Proofs.Ytilfkohckmknkaa.Shape
