/-
  THE WALK OF THE LAW ShapeWrites.
-/
import Derived.Test.YtilfkohckmknkaaShapeAwake
import Derived.Test.YtilfkohckmknkaaShapeLaw
namespace Go.Proofs.Ytilfkohckmknkaa.Shape
open Go.ChangeShapes Go.WideShapes Go.ChangeAt Go.RowKit Mem Go.Proofs.Ytilfkohckmknkaa.Code

theorem limc_len {w : World} {A : Option Addr} {n : Nat} {L : List RawC} (h : Codes w A n L) (hs : smallC L = true) : LimC L ∧ n ≤ 12 := by
  obtain ⟨h1, h2⟩ := small_limC L (fun x hx => ((h.2 x hx).1).len) hs
  exact ⟨h1, by rw [← h.len]; exact h2⟩
theorem small_out {w : World} {A : Option Addr} {n : Nat} {L : List RawC} (h : Codes w A n L) (hs : smallC L = true) : LimC L ∧ n ≤ 12 := limc_len h hs
set_option maxRecDepth 100000 in
set_option maxHeartbeats 2000000 in
theorem writes_walk (A : Option Addr) (n c : Nat) (L : List RawC) (w : World) (hcm : n ≤ 9223372036854775807) (hat : Codes w A n L) :
    Calls Try.prog 3 #[.slice A n c] w (RetB w true) := by
  have HA := Lib.hid hat
  cases hs : smallC L with
  | false =>
    have HS := Lib.hid hs
    clear hat hs
    go_enter Try.func3, Try.ntmps3
    go_wp2_with fail
    refine (small_l L _ _ _ _ false HA.out hcm HS.out).mono ?_
    rintro e w1 ⟨rfl, b_⟩
    go_wp2_with fail
    refine (awake_any _).mono ?_
    rintro e w2 ⟨rfl, b2_⟩
    go_wp2
    go_ret
    exact ⟨rfl, bl_trans b_ b2_⟩
  | true =>
    obtain ⟨hlim, h12⟩ := small_out hat hs
    have HS := Lib.hid hs
    have HLM := Lib.hid hlim
    have HL := Lib.hid hat.len
    obtain ⟨r, hr⟩ : ∃ r, writeS (cc L) = r := ⟨_, rfl⟩
    have HR := Lib.hid hr
    clear hat hs hlim hr
    cases r with
    | none =>
      go_enter Try.func3, Try.ntmps3
      go_wp2_with fail
      refine (small_l L _ _ _ _ true HA.out hcm HS.out).mono ?_
      rintro e w1 ⟨rfl, b_⟩
      have bb := Lib.hid b_
      clear b_
      go_wp2_with fail
      refine (write_n L _ _ _ _ (HA.out.below bb.out) HLM.out (by omega) HR.out).mono ?_
      rintro e w2 ⟨B2, d2, rfl, ho2⟩
      replace bb := Lib.hid (bl_trans bb.out ho2.2)
      obtain ⟨_, _, hr2⟩ := own_lims ho2
      have R2 : Hid (Rd w2 1 B2 0 (bs [])) := Lib.hid hr2
      clear ho2 hr2
      go_wp2_with fail
      refine (refs_l L _ _ _ _ (HA.out.below bb.out) HLM.out (by omega)).mono ?_
      rintro e w3 ⟨B3, d3, M3, rfl, hc3, hcc3, hl3, b_⟩
      have HC3 := Lib.hid hc3
      have HCC3 := Lib.hid hcc3
      have HL3 := Lib.hid hl3
      replace R2 := Lib.hid (R2.out.below b_)
      replace bb := Lib.hid (bl_trans bb.out b_)
      clear hc3 hcc3 hl3 b_
      go_wp2_with fail
      refine (refwrite M3 _ _ _ _ (none) HC3.out HL3.out (by omega) (by rw [HCC3.out]; exact HR.out)).mono ?_
      rintro e w4 ⟨B4, d4, q4, rfl, _, hr4, b_⟩
      have R4 : Hid (Rd w4 1 B4 q4 (bs [])) := Lib.hid hr4
      replace R2 := Lib.hid (R2.out.below b_)
      replace bb := Lib.hid (bl_trans bb.out b_)
      clear hr4 b_ HC3 HCC3 HL3
      go_wp2
      go_loopw [27] (fun i wr => ∃ k : Nat, k ≤ n ∧ i = .int .i64 k ∧ Hid (Below w4.heap.size w4 wr)) (fun i _ => n - (intOf i).toNat)
      case atStart => exact ⟨0, Nat.zero_le _, rfl, Lib.hid (Below.refl _ _)⟩
      case round =>
        obtain ⟨k, hk, rfl, bk⟩ := hrel
        generalize wr = w5 at *
        by_cases hlt : k < n
        · obtain ⟨bA, off, ⟨XA, xn, xc, xl⟩, rfl, hx, c0, hin⟩ := ((HA.out.below bb.out).below bk.out).at_ k hlt
          simp only at c0
          have hxl := HLM.out _ (List.mem_of_getElem? hx)
          simp only at hxl
          have hxn : xn ≤ 1000000 := hxl.1
          have HXL := Lib.hid hxl.2
          have HI := Lib.hid hin.1
          have hxc := hin.2.1
          simp only at HI hxc
          obtain ⟨ck, hck⟩ : ∃ x, checkS (ss xl) = x := ⟨_, rfl⟩
          have HCK := Lib.hid hck
          clear hx hin hxl
          go_wp2_with fail
          refine (ref_c xl _ _ _ _ HI.out HXL.out hxn).mono ?_
          rintro e w6 ⟨B6, d6, m6, rfl, r6, hsm6, hlm6, b_⟩
          have R6 := Lib.hid r6
          have HSM6 := Lib.hid hsm6
          have HLM6 := Lib.hid hlm6
          have HB6 := Lib.hid b_
          have c1 := cell_up c0 b_
          clear r6 hsm6 hlm6 b_ c0
          go_wp2_with fail
          refine (Code.refcheck m6 _ _ _ _ ck R6.out HLM6.out hxn (by rw [HSM6.out]; exact HCK.out)).mono ?_
          rintro e w7 ⟨rfl, b_⟩
          have HB7 := Lib.hid (bl_trans HB6.out b_)
          have c2 := cell_up c1 b_
          clear b_ c1
          by_cases h0 : ck = 0
          · subst h0
            have HFT := Lib.hid (code_fit _ hck)
            obtain ⟨qq, hqq⟩ : ∃ qq, (codeS (ss xl)).length = qq := ⟨_, rfl⟩
            have HSZ : Hid (sizeS (ss xl) = qq) := Lib.hid (by unfold sizeS; rw [if_pos hck]; exact hqq)
            have HQQ := Lib.hid hqq
            clear hck hqq
            go_wp2_with fail
            refine (ref_c xl _ _ _ _ (HI.out.below HB7.out) HXL.out hxn).mono ?_
            rintro e w8 ⟨B8, d8, m8, rfl, r8, hsm8, hlm8, b_⟩
            have R8 := Lib.hid r8
            have HSM8 := Lib.hid hsm8
            have HB8 := Lib.hid (bl_trans HB7.out b_)
            clear r8 hsm8 hlm8 b_
            go_wp2_with fail
            refine (refcode m8 _ _ _ _ qq R8.out (by rw [HSM8.out]; exact HFT.out) (by rw [HSM8.out]; exact HQQ.out)).mono ?_
            rintro e w9 ⟨v9, rfl, ho9⟩
            obtain ⟨B9, d9, rfl, _⟩ := ho9.form
            have HB9 := Lib.hid (bl_trans HB8.out ho9.2)
            clear ho9
            go_wp2_with fail
            refine (size_c xl _ _ _ _ qq (HI.out.below HB9.out) hxc HXL.out hxn HSZ.out).mono ?_
            rintro e w10 ⟨rfl, b_⟩
            have HB10 := Lib.hid (bl_trans HB9.out b_)
            clear b_
            go_wp2
            go_roundw
            case rel => exact ⟨k + 1, by omega, by go_num, Lib.hid (bl_trans bk.out HB10.out)⟩
            case measure => simp [intOf]; omega
          · have HSZ : Hid (sizeS (ss xl) = 0) := Lib.hid (by unfold sizeS; rw [if_neg (by rw [hck]; exact h0)])
            have hne : (ck == 0) = false := beq_eq_false_iff_ne.2 h0
            clear hck h0
            go_wp2_with fail
            refine (size_c xl _ _ _ _ 0 (HI.out.below HB7.out) hxc HXL.out hxn HSZ.out).mono ?_
            rintro e w10 ⟨rfl, b_⟩
            have HB10 := Lib.hid (bl_trans HB7.out b_)
            clear b_
            go_wp2
            go_roundw
            case rel => exact ⟨k + 1, by omega, by go_num, Lib.hid (bl_trans bk.out HB10.out)⟩
            case measure => simp [intOf]; omega
        · have k1 := run_str (P := Try.prog) (c := d2) (R2.out.below bk.out) 25 5 9 Try.underlying25 Try.underlying5 Try.underlying9
          have k2 := run_str (P := Try.prog) (c := d4) (R4.out.below bk.out) 25 5 9 Try.underlying25 Try.underlying5 Try.underlying9
          have bf := Lib.hid (bl_trans bb.out bk.out)
          go_wp2_with fail
          refine (awake_any _).mono ?_
          rintro e w11 ⟨rfl, b_⟩
          have bg := Lib.hid (bl_trans bf.out b_)
          clear b_
          go_wp2
          go_ret
          exact ⟨rfl, bg.out⟩
    | some b =>
      obtain ⟨q, hq⟩ : ∃ q, b.length = q := ⟨_, rfl⟩
      have HQ := Lib.hid hq
      clear hq
      go_enter Try.func3, Try.ntmps3
      go_wp2_with fail
      refine (small_l L _ _ _ _ true HA.out hcm HS.out).mono ?_
      rintro e w1 ⟨rfl, b_⟩
      have bb := Lib.hid b_
      clear b_
      go_wp2_with fail
      refine (write_y L _ _ _ _ b q (HA.out.below bb.out) HLM.out (by omega) HR.out HQ.out).mono ?_
      rintro e w2 ⟨B2, d2, rfl, ho2⟩
      replace bb := Lib.hid (bl_trans bb.out ho2.2)
      obtain ⟨_, _, hr2⟩ := own_lims ho2
      have R2 : Hid (Rd w2 1 B2 q (bs b)) := Lib.hid hr2
      clear ho2 hr2
      go_wp2_with fail
      refine (refs_l L _ _ _ _ (HA.out.below bb.out) HLM.out (by omega)).mono ?_
      rintro e w3 ⟨B3, d3, M3, rfl, hc3, hcc3, hl3, b_⟩
      have HC3 := Lib.hid hc3
      have HCC3 := Lib.hid hcc3
      have HL3 := Lib.hid hl3
      replace R2 := Lib.hid (R2.out.below b_)
      replace bb := Lib.hid (bl_trans bb.out b_)
      clear hc3 hcc3 hl3 b_
      go_wp2_with fail
      refine (refwrite M3 _ _ _ _ (some b) HC3.out HL3.out (by omega) (by rw [HCC3.out]; exact HR.out)).mono ?_
      rintro e w4 ⟨B4, d4, q4, rfl, _, hr4, b_⟩
      have R4 : Hid (Rd w4 1 B4 q4 (bs b)) := Lib.hid hr4
      replace R2 := Lib.hid (R2.out.below b_)
      replace bb := Lib.hid (bl_trans bb.out b_)
      clear hr4 b_ HC3 HCC3 HL3
      go_wp2
      go_loopw [27] (fun i wr => ∃ k : Nat, k ≤ n ∧ i = .int .i64 k ∧ Hid (Below w4.heap.size w4 wr)) (fun i _ => n - (intOf i).toNat)
      case atStart => exact ⟨0, Nat.zero_le _, rfl, Lib.hid (Below.refl _ _)⟩
      case round =>
        obtain ⟨k, hk, rfl, bk⟩ := hrel
        generalize wr = w5 at *
        by_cases hlt : k < n
        · obtain ⟨bA, off, ⟨XA, xn, xc, xl⟩, rfl, hx, c0, hin⟩ := ((HA.out.below bb.out).below bk.out).at_ k hlt
          simp only at c0
          have hxl := HLM.out _ (List.mem_of_getElem? hx)
          simp only at hxl
          have hxn : xn ≤ 1000000 := hxl.1
          have HXL := Lib.hid hxl.2
          have HI := Lib.hid hin.1
          have hxc := hin.2.1
          simp only at HI hxc
          obtain ⟨ck, hck⟩ : ∃ x, checkS (ss xl) = x := ⟨_, rfl⟩
          have HCK := Lib.hid hck
          clear hx hin hxl
          go_wp2_with fail
          refine (ref_c xl _ _ _ _ HI.out HXL.out hxn).mono ?_
          rintro e w6 ⟨B6, d6, m6, rfl, r6, hsm6, hlm6, b_⟩
          have R6 := Lib.hid r6
          have HSM6 := Lib.hid hsm6
          have HLM6 := Lib.hid hlm6
          have HB6 := Lib.hid b_
          have c1 := cell_up c0 b_
          clear r6 hsm6 hlm6 b_ c0
          go_wp2_with fail
          refine (Code.refcheck m6 _ _ _ _ ck R6.out HLM6.out hxn (by rw [HSM6.out]; exact HCK.out)).mono ?_
          rintro e w7 ⟨rfl, b_⟩
          have HB7 := Lib.hid (bl_trans HB6.out b_)
          have c2 := cell_up c1 b_
          clear b_ c1
          by_cases h0 : ck = 0
          · subst h0
            have HFT := Lib.hid (code_fit _ hck)
            obtain ⟨qq, hqq⟩ : ∃ qq, (codeS (ss xl)).length = qq := ⟨_, rfl⟩
            have HSZ : Hid (sizeS (ss xl) = qq) := Lib.hid (by unfold sizeS; rw [if_pos hck]; exact hqq)
            have HQQ := Lib.hid hqq
            clear hck hqq
            go_wp2_with fail
            refine (ref_c xl _ _ _ _ (HI.out.below HB7.out) HXL.out hxn).mono ?_
            rintro e w8 ⟨B8, d8, m8, rfl, r8, hsm8, hlm8, b_⟩
            have R8 := Lib.hid r8
            have HSM8 := Lib.hid hsm8
            have HB8 := Lib.hid (bl_trans HB7.out b_)
            clear r8 hsm8 hlm8 b_
            go_wp2_with fail
            refine (refcode m8 _ _ _ _ qq R8.out (by rw [HSM8.out]; exact HFT.out) (by rw [HSM8.out]; exact HQQ.out)).mono ?_
            rintro e w9 ⟨v9, rfl, ho9⟩
            obtain ⟨B9, d9, rfl, _⟩ := ho9.form
            have HB9 := Lib.hid (bl_trans HB8.out ho9.2)
            clear ho9
            go_wp2_with fail
            refine (size_c xl _ _ _ _ qq (HI.out.below HB9.out) hxc HXL.out hxn HSZ.out).mono ?_
            rintro e w10 ⟨rfl, b_⟩
            have HB10 := Lib.hid (bl_trans HB9.out b_)
            clear b_
            go_wp2
            go_roundw
            case rel => exact ⟨k + 1, by omega, by go_num, Lib.hid (bl_trans bk.out HB10.out)⟩
            case measure => simp [intOf]; omega
          · have HSZ : Hid (sizeS (ss xl) = 0) := Lib.hid (by unfold sizeS; rw [if_neg (by rw [hck]; exact h0)])
            have hne : (ck == 0) = false := beq_eq_false_iff_ne.2 h0
            clear hck h0
            go_wp2_with fail
            refine (size_c xl _ _ _ _ 0 (HI.out.below HB7.out) hxc HXL.out hxn HSZ.out).mono ?_
            rintro e w10 ⟨rfl, b_⟩
            have HB10 := Lib.hid (bl_trans HB7.out b_)
            clear b_
            go_wp2
            go_roundw
            case rel => exact ⟨k + 1, by omega, by go_num, Lib.hid (bl_trans bk.out HB10.out)⟩
            case measure => simp [intOf]; omega
        · have k1 := run_str (P := Try.prog) (c := d2) (R2.out.below bk.out) 25 5 9 Try.underlying25 Try.underlying5 Try.underlying9
          have k2 := run_str (P := Try.prog) (c := d4) (R4.out.below bk.out) 25 5 9 Try.underlying25 Try.underlying5 Try.underlying9
          have bf := Lib.hid (bl_trans bb.out bk.out)
          go_wp2_with fail
          refine (awake_any _).mono ?_
          rintro e w11 ⟨rfl, b_⟩
          have bg := Lib.hid (bl_trans bf.out b_)
          clear b_
          go_wp2
          go_ret
          exact ⟨rfl, bg.out⟩
end Go.Proofs.Ytilfkohckmknkaa.Shape
