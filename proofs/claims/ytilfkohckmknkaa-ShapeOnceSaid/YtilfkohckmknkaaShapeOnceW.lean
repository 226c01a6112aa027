/-
  THE WALK OF THE LAW ShapeOnce.
-/
import Derived.Test.YtilfkohckmknkaaShapeAwake
namespace Go.Proofs.Ytilfkohckmknkaa.Shape
open Go.ChangeShapes Go.WideShapes Go.ChangeAt Go.RowKit Mem Go.Proofs.Ytilfkohckmknkaa.Code

set_option maxRecDepth 100000 in
theorem once_awake (A : Option Addr) (n c : Nat) (b : List Int) (w : World) (hr : Rd w 1 A n (bs b)) (h : 400 < n ∨ ∃ x, b[0]? = some x ∧ 20 < x) :
    Calls Try.prog 6 #[.slice A n c] w (RetB w true) := by
  rcases h with h | ⟨x, hx, h20⟩
  · have h4 : (400 : Int) < (n : Int) := by omega
    clear hr h
    go_enter Try.func6, Try.ntmps6
    go_wp2_with fail
    refine (awake_any _).mono ?_
    rintro e w1 ⟨rfl, b_⟩
    go_wp2
    go_ret
    exact ⟨rfl, b_⟩
  · by_cases h4 : (400 : Int) < (n : Int)
    · clear hr hx h20
      go_enter Try.func6, Try.ntmps6
      go_wp2_with fail
      refine (awake_any _).mono ?_
      rintro e w1 ⟨rfl, b_⟩
      go_wp2
      go_ret
      exact ⟨rfl, b_⟩
    · have hn : 0 < n := by
        have := bs_len hr
        rcases Nat.eq_zero_or_pos n with h0 | h0
        · have : b = [] := List.eq_nil_of_length_eq_zero (by omega)
          rw [this] at hx; cases hx
        · exact h0
      obtain ⟨g, off, y, rfl, hy, c0⟩ := at_b hr 0 hn
      obtain rfl : y = x := by rw [hx] at hy; injection hy with hy; exact hy.symm
      rw [Nat.add_zero] at c0
      have hn' : (0 : Int) < (n : Int) := by omega
      clear hr hx hy
      go_enter Try.func6, Try.ntmps6
      go_wp2_with fail
      refine (awake_any _).mono ?_
      rintro e w1 ⟨rfl, b_⟩
      go_wp2
      go_ret
      exact ⟨rfl, b_⟩
theorem codes_short {w : World} {B : Option Addr} {q : Nat} {M : List RawC} {b : List Int} (h : Codes w B q M) (hc : writeS (cc M) = some b) : q ≤ 8 ∧ (∀ c ∈ cc M, checkS c = 0) ∧ b.length = 1 + ((cc M).flatMap codeS).length := by
  obtain ⟨h8, ha, hb⟩ := write_ok hc
  have := h.len
  refine ⟨by rw [cc_len] at h8; omega, fun c hc => by have := List.all_eq_true.1 ha c hc; unfold okB at this; simpa using this, ?_⟩
  rw [hb, List.length_cons, Nat.add_comm]
set_option maxRecDepth 100000 in
set_option maxHeartbeats 2000000 in
theorem once_walk (A : Option Addr) (n c : Nat) (b : List Int) (w : World) (hnc : n ≤ c) (hcm : c ≤ 9223372036854775807) (hr : Rd w 1 A n (bs b)) (hb : BB b) :
    Calls Try.prog 6 #[.slice A n c] w (RetB w true) := by
  by_cases hbig : 400 < n ∨ ∃ x, b[0]? = some x ∧ 20 < x
  · exact once_awake A n c b w hr hbig
  have h4 : ¬ (400 : Int) < (n : Int) := by intro h; exact hbig (.inl (by omega))
  have hn : n ≤ 1000000 := by omega
  have HR := Lib.hid hr
  have HB := Lib.hid hb
  have HBL := Lib.hid (bs_len hr)
  obtain ⟨r, hv⟩ : ∃ r, readS b = r := ⟨_, rfl⟩
  have HV := Lib.hid hv
  have hfirst : n = 0 ∨ ∃ g off x, A = some ⟨g, off, none⟩ ∧ w.cell? ⟨g, off, none⟩ = some (.int .u8 x) ∧ ¬ 20 < x ∧ 0 < n := by
    rcases Nat.eq_zero_or_pos n with h0 | h0
    · exact .inl h0
    · obtain ⟨g, off, y, hA, hy, c0⟩ := at_b hr 0 h0
      exact .inr ⟨g, off, y, hA, by simpa using c0, fun h => hbig (.inr ⟨y, hy, h⟩), h0⟩
  clear hr hb hv hbig
  rcases hfirst with rfl | ⟨g, off, x, rfl, c0, h20, hn0⟩
  · cases r with
    | none =>
      go_enter Try.func6, Try.ntmps6
      go_wp2_with fail
      refine (read_n b _ _ _ _ HR.out HB.out hnc (by omega) hcm HV.out).mono ?_
      rintro e w1 ⟨B1, d1, M1, rfl, hc1, hcc1, hl1, b_⟩
      have bb := Lib.hid b_
      clear hc1 hcc1 hl1 b_
      go_wp2_with fail
      refine (awake_any _).mono ?_
      rintro e w5 ⟨rfl, b_⟩
      replace bb := Lib.hid (bl_trans bb.out b_)
      clear b_
      go_wp2
      go_ret
      exact ⟨rfl, bb.out⟩
    | some L =>
      go_enter Try.func6, Try.ntmps6
      go_wp2_with fail
      refine (read_y b L _ _ _ _ HR.out HB.out hnc (by omega) hcm HV.out).mono ?_
      rintro e w1 ⟨B1, q1, d1, M1, rfl, hc1, hq1, hd1, hcc1, hl1, b_⟩
      have HW : Hid (writeS (cc M1) = some b) := Lib.hid (by rw [hcc1]; exact (read_iff _ _).1 HV.out)
      have HSH := Lib.hid (codes_short hc1 HW.out)
      have HC1 := Lib.hid hc1
      have HL1 := Lib.hid hl1
      have HLN := Lib.hid hc1.len
      have bb := Lib.hid b_
      clear hc1 hcc1 hl1 b_
      go_wp2_with fail
      refine (write_y M1 _ _ _ _ b 0 HC1.out HL1.out (by omega) HW.out HBL.out).mono ?_
      rintro e w2 ⟨B2, d2, rfl, ho2⟩
      replace bb := Lib.hid (bl_trans bb.out ho2.2)
      replace HC1 := Lib.hid (HC1.out.below ho2.2)
      obtain ⟨_, _, hr2⟩ := own_lims ho2
      have R2 := Lib.hid hr2
      clear ho2 hr2
      go_wp2
      go_loopw [7, 49] (fun v i wr => ∃ (k u : Nat), k ≤ q1 ∧ i = .int .i64 k ∧ v = .int .i64 u ∧ u ≤ 1 + k * 400000 ∧ Hid (u = 1 + (((cc M1).take k).flatMap codeS).length) ∧ Hid (Below w2.heap.size w2 wr)) (fun _ i _ => q1 - (intOf i).toNat)
      case atStart => exact ⟨0, 1, Nat.zero_le _, rfl, rfl, by omega, Lib.hid rfl, Lib.hid (Below.refl _ _)⟩
      case round =>
        obtain ⟨k, u, hk, rfl, rfl, hu, HU, bk⟩ := hrel
        generalize wr = w5 at *
        by_cases hlt : k < q1
        · obtain ⟨bA, off', ⟨XA, xn, xc, xl⟩, rfl, hx, c0', hin⟩ := (HC1.out.below bk.out).at_ k hlt
          simp only at c0'
          have hxl := HL1.out _ (List.mem_of_getElem? hx)
          simp only at hxl
          have hxn : xn ≤ 1000000 := hxl.1
          have HXL := Lib.hid hxl.2
          have HI := Lib.hid hin.1
          have hxc := hin.2.1
          simp only at HI hxc
          have hxa := cc_at M1 k _ hx
          have hck : checkS (ss xl) = 0 := HSH.out.2.1 _ (List.mem_of_getElem? hxa)
          have HCK := Lib.hid hck
          obtain ⟨qq, hqq⟩ : ∃ qq, (codeS (ss xl)).length = qq := ⟨_, rfl⟩
          have HSZ : Hid (sizeS (ss xl) = qq) := Lib.hid (by unfold sizeS; rw [if_pos hck]; exact hqq)
          have hqb : qq ≤ 400000 := by rw [← hqq]; exact code_bound _ (code_fit _ hck)
          have HUN : Hid (u + qq = 1 + (((cc M1).take (k + 1)).flatMap codeS).length) := Lib.hid (by
            rw [codes_take (cc M1) k _ hxa, List.length_append, ← Nat.add_assoc, ← HU.out]
            show u + qq = u + (codeS (ss xl)).length
            rw [hqq])
          clear hx hin hxl hck hqq hxa
          go_wp2_with fail
          refine (size_c xl _ _ _ _ qq HI.out hxc HXL.out hxn HSZ.out).mono ?_
          rintro e w6 ⟨rfl, b_⟩
          have HB6 := Lib.hid b_
          clear b_
          go_wp2_with fail
          refine (Code.check_c xl _ _ _ _ 0 (HI.out.below HB6.out) hxc HXL.out HCK.out hxn).mono ?_
          rintro e w7 ⟨rfl, b_⟩
          have HB7 := Lib.hid (bl_trans HB6.out b_)
          clear b_
          go_wp2
          go_roundw
          case rel => exact ⟨k + 1, u + qq, by omega, by go_num, by go_num, by omega, HUN, Lib.hid (bl_trans bk.out HB7.out)⟩
          case measure => simp [intOf]; omega
        · have hkq : k = q1 := by omega
          have hun : u = 0 := by
            have h1 := HU.out
            have h2 := HSH.out.2.2
            rw [List.take_of_length_le (by rw [cc_len, HLN.out]; omega)] at h1
            have h3 := HBL.out
            omega
          subst hun
          have k1 := run_str (P := Try.prog) (c := d2) (R2.out.below bk.out) 25 5 9 Try.underlying25 Try.underlying5 Try.underlying9
          have k2 := run_str (P := Try.prog) (c := c) ((HR.out.below bb.out).below bk.out) 25 5 9 Try.underlying25 Try.underlying5 Try.underlying9
          have bf := Lib.hid (bl_trans bb.out bk.out)
          go_wp2_with fail
          refine (awake_any _).mono ?_
          rintro e w11 ⟨rfl, b_⟩
          have bg := Lib.hid (bl_trans bf.out b_)
          clear b_
          go_wp2
          go_ret
          exact ⟨rfl, bg.out⟩
  · cases r with
    | none =>
      go_enter Try.func6, Try.ntmps6
      go_wp2_with fail
      refine (read_n b _ _ _ _ HR.out HB.out hnc (by omega) hcm HV.out).mono ?_
      rintro e w1 ⟨B1, d1, M1, rfl, hc1, hcc1, hl1, b_⟩
      have bb := Lib.hid b_
      clear hc1 hcc1 hl1 b_
      go_wp2_with fail
      refine (awake_any _).mono ?_
      rintro e w5 ⟨rfl, b_⟩
      replace bb := Lib.hid (bl_trans bb.out b_)
      clear b_
      go_wp2
      go_ret
      exact ⟨rfl, bb.out⟩
    | some L =>
      go_enter Try.func6, Try.ntmps6
      go_wp2_with fail
      refine (read_y b L _ _ _ _ HR.out HB.out hnc (by omega) hcm HV.out).mono ?_
      rintro e w1 ⟨B1, q1, d1, M1, rfl, hc1, hq1, hd1, hcc1, hl1, b_⟩
      have HW : Hid (writeS (cc M1) = some b) := Lib.hid (by rw [hcc1]; exact (read_iff _ _).1 HV.out)
      have HSH := Lib.hid (codes_short hc1 HW.out)
      have HC1 := Lib.hid hc1
      have HL1 := Lib.hid hl1
      have HLN := Lib.hid hc1.len
      have bb := Lib.hid b_
      clear hc1 hcc1 hl1 b_
      go_wp2_with fail
      refine (write_y M1 _ _ _ _ b n HC1.out HL1.out (by omega) HW.out HBL.out).mono ?_
      rintro e w2 ⟨B2, d2, rfl, ho2⟩
      replace bb := Lib.hid (bl_trans bb.out ho2.2)
      replace HC1 := Lib.hid (HC1.out.below ho2.2)
      obtain ⟨_, _, hr2⟩ := own_lims ho2
      have R2 := Lib.hid hr2
      clear ho2 hr2
      go_wp2
      go_loopw [7, 49] (fun v i wr => ∃ (k u : Nat), k ≤ q1 ∧ i = .int .i64 k ∧ v = .int .i64 u ∧ u ≤ 1 + k * 400000 ∧ Hid (u = 1 + (((cc M1).take k).flatMap codeS).length) ∧ Hid (Below w2.heap.size w2 wr)) (fun _ i _ => q1 - (intOf i).toNat)
      case atStart => exact ⟨0, 1, Nat.zero_le _, rfl, rfl, by omega, Lib.hid rfl, Lib.hid (Below.refl _ _)⟩
      case round =>
        obtain ⟨k, u, hk, rfl, rfl, hu, HU, bk⟩ := hrel
        generalize wr = w5 at *
        by_cases hlt : k < q1
        · obtain ⟨bA, off', ⟨XA, xn, xc, xl⟩, rfl, hx, c0', hin⟩ := (HC1.out.below bk.out).at_ k hlt
          simp only at c0'
          have hxl := HL1.out _ (List.mem_of_getElem? hx)
          simp only at hxl
          have hxn : xn ≤ 1000000 := hxl.1
          have HXL := Lib.hid hxl.2
          have HI := Lib.hid hin.1
          have hxc := hin.2.1
          simp only at HI hxc
          have hxa := cc_at M1 k _ hx
          have hck : checkS (ss xl) = 0 := HSH.out.2.1 _ (List.mem_of_getElem? hxa)
          have HCK := Lib.hid hck
          obtain ⟨qq, hqq⟩ : ∃ qq, (codeS (ss xl)).length = qq := ⟨_, rfl⟩
          have HSZ : Hid (sizeS (ss xl) = qq) := Lib.hid (by unfold sizeS; rw [if_pos hck]; exact hqq)
          have hqb : qq ≤ 400000 := by rw [← hqq]; exact code_bound _ (code_fit _ hck)
          have HUN : Hid (u + qq = 1 + (((cc M1).take (k + 1)).flatMap codeS).length) := Lib.hid (by
            rw [codes_take (cc M1) k _ hxa, List.length_append, ← Nat.add_assoc, ← HU.out]
            show u + qq = u + (codeS (ss xl)).length
            rw [hqq])
          clear hx hin hxl hck hqq hxa
          go_wp2_with fail
          refine (size_c xl _ _ _ _ qq HI.out hxc HXL.out hxn HSZ.out).mono ?_
          rintro e w6 ⟨rfl, b_⟩
          have HB6 := Lib.hid b_
          clear b_
          go_wp2_with fail
          refine (Code.check_c xl _ _ _ _ 0 (HI.out.below HB6.out) hxc HXL.out HCK.out hxn).mono ?_
          rintro e w7 ⟨rfl, b_⟩
          have HB7 := Lib.hid (bl_trans HB6.out b_)
          clear b_
          go_wp2
          go_roundw
          case rel => exact ⟨k + 1, u + qq, by omega, by go_num, by go_num, by omega, HUN, Lib.hid (bl_trans bk.out HB7.out)⟩
          case measure => simp [intOf]; omega
        · have hkq : k = q1 := by omega
          have hun : u = n := by
            have h1 := HU.out
            have h2 := HSH.out.2.2
            rw [List.take_of_length_le (by rw [cc_len, HLN.out]; omega)] at h1
            have h3 := HBL.out
            omega
          subst hun
          have k1 := run_str (P := Try.prog) (c := d2) (R2.out.below bk.out) 25 5 9 Try.underlying25 Try.underlying5 Try.underlying9
          have k2 := run_str (P := Try.prog) (c := c) ((HR.out.below bb.out).below bk.out) 25 5 9 Try.underlying25 Try.underlying5 Try.underlying9
          have bf := Lib.hid (bl_trans bb.out bk.out)
          go_wp2_with fail
          refine (awake_any _).mono ?_
          rintro e w11 ⟨rfl, b_⟩
          have bg := Lib.hid (bl_trans bf.out b_)
          clear b_
          go_wp2
          go_ret
          exact ⟨rfl, bg.out⟩
end Go.Proofs.Ytilfkohckmknkaa.Shape
