/-
  THE WALK OF THE LAW ShapeBack.
-/
import Derived.Test.YtilfkohckmknkaaShapeAwake
import Derived.Test.YtilfkohckmknkaaShapeSame
import Derived.Test.YtilfkohckmknkaaShapeLaw
namespace Go.Proofs.Ytilfkohckmknkaa.Shape
open Go.ChangeShapes Go.WideShapes Go.ChangeAt Go.RowKit Mem Go.Proofs.Ytilfkohckmknkaa.Code

theorem own_nought {w0 w : World} {e size n : Nat} {v : Value} {ys : List Value} (h : Own w0 w e size v (0 + n) ([] ++ ys)) : Own w0 w e size v n ys := by
  rw [Nat.zero_add, List.nil_append] at h; exact h
theorem limc_back {w : World} {A : Option Addr} {n : Nat} {L : List RawC} (h : Codes w A n L) (hs : smallC L = true) : LimC L ∧ n ≤ 12 := by
  obtain ⟨h1, h2⟩ := small_limC L (fun x hx => ((h.2 x hx).1).len) hs
  exact ⟨h1, by rw [← h.len]; exact h2⟩
theorem all_most (C : Nat) (L : List (List Step)) (h : ∀ c ∈ L, (codeS c).length ≤ C) : (L.flatMap codeS).length ≤ L.length * C := by
  induction L with
  | nil => simp
  | cons x L ih =>
    rw [List.flatMap_cons, List.length_append, List.length_cons, Nat.succ_mul]
    have h1 := h x (List.mem_cons_self ..)
    have h2 := ih (fun c hc => h c (List.mem_cons_of_mem _ hc))
    omega
theorem write_most {l : List (List Step)} {b : List Int} (h : writeS l = some b) : 1 ≤ b.length ∧ b.length ≤ 3200001 := by
  obtain ⟨h1, h2, rfl⟩ := write_ok h
  have h3 := all_most 400000 l (fun c hc => code_bound c (all_fit h2 c hc))
  have h4 : l.length * 400000 ≤ 8 * 400000 := Nat.mul_le_mul_right _ h1
  rw [List.length_cons]
  omega
theorem front_none {l : List (List Step)} {b : List Int} (h : writeS l = some b) (k : Nat) (hk : k < b.length) : readS (b.take k) = none := by
  cases e : readS (b.take k) with
  | none => rfl
  | some m =>
    have h1 := (read_iff _ _).1 e
    obtain ⟨h2, _⟩ := write_front (Q := b.drop k) h1 (by rw [List.take_append_drop]; exact h)
    have h3 := congrArg List.length h2
    rw [List.length_drop] at h3
    simp at h3
    omega
theorem more_none {l : List (List Step)} {b M : List Int} (h : writeS l = some b) (hM : M ≠ []) : readS (b ++ M) = none := by
  cases e : readS (b ++ M) with
  | none => rfl
  | some m =>
    have h1 := (read_iff _ _).1 e
    obtain ⟨h2, _⟩ := write_front h h1
    exact absurd h2 hM
theorem rd_front {w : World} {A : Option Addr} {n : Nat} {l : List Int} (hr : Rd w 1 A n (bs l)) (k : Nat) (hk : k ≤ n) : Rd w 1 A k (bs (l.take k)) := rd_first bc_len (by decide) hr k hk
set_option maxRecDepth 100000 in
set_option maxHeartbeats 4000000 in
theorem back_walk (A : Option Addr) (n c : Nat) (L : List RawC) (a : Int) (C : Option Addr) (m2 c2 : Nat) (M : List Int) (w : World) (hcm : n ≤ 9223372036854775807) (hat : Codes w A n L) (a0 : 0 ≤ a) (a1 : a < 65536) (mm : m2 ≤ 9223372036854775807) (hM : Rd w 1 C m2 (bs M)) (hMB : BB M) :
    Calls Try.prog 5 #[.slice A n c, .int .u16 a, .slice C m2 c2] w (RetB w true) := by
  have HA := Lib.hid hat
  have HM := Lib.hid hM
  have HMB := Lib.hid hMB
  have HML := Lib.hid (bs_len hM)
  clear hM hMB
  cases hs : smallC L with
  | false =>
    have HS := Lib.hid hs
    clear hat hs
    go_enter Try.func5, Try.ntmps5
    go_wp2_with fail
    refine (small_l L _ _ _ _ false HA.out hcm HS.out).mono ?_
    rintro e w1 ⟨rfl, b_⟩
    go_wp2_with fail
    refine (awake_any _).mono ?_
    rintro e w2 ⟨rfl, b2_⟩
    go_wp2
    go_ret
    exact ⟨rfl, bl_trans b_ b2_⟩
  | true =>
    obtain ⟨hlim, h12⟩ := limc_back hat hs
    have HS := Lib.hid hs
    have HLM := Lib.hid hlim
    obtain ⟨r, hr⟩ : ∃ r, writeS (cc L) = r := ⟨_, rfl⟩
    have HR := Lib.hid hr
    clear hat hs hlim hr
    by_cases h20 : 20 < m2
    · have h20' : (20 : Int) < (m2 : Int) := by omega
      go_enter Try.func5, Try.ntmps5
      go_wp2_with fail
      refine (small_l L _ _ _ _ true HA.out hcm HS.out).mono ?_
      rintro e w1 ⟨rfl, b_⟩
      go_wp2_with fail
      refine (awake_any _).mono ?_
      rintro e w2 ⟨rfl, b2_⟩
      go_wp2
      go_ret
      exact ⟨rfl, bl_trans b_ b2_⟩
    have h20' : ¬ (20 : Int) < (m2 : Int) := by omega
    cases r with
    | none =>
      go_enter Try.func5, Try.ntmps5
      go_wp2_with fail
      refine (small_l L _ _ _ _ true HA.out hcm HS.out).mono ?_
      rintro e w1 ⟨rfl, b_⟩
      have bb := Lib.hid b_
      clear b_
      go_wp2_with fail
      refine (write_n L _ _ _ _ (HA.out.below bb.out) HLM.out (by omega) HR.out).mono ?_
      rintro e w2 ⟨B2, d2, rfl, ho2⟩
      replace bb := Lib.hid (bl_trans bb.out ho2.2)
      clear ho2
      go_wp2_with fail
      refine (awake_any _).mono ?_
      rintro e w3 ⟨rfl, b_⟩
      replace bb := Lib.hid (bl_trans bb.out b_)
      clear b_
      go_wp2
      go_ret
      exact ⟨rfl, bb.out⟩
    | some b =>
      obtain ⟨q, hq⟩ : ∃ q, b.length = q := ⟨_, rfl⟩
      have hqb := write_most HR.out
      rw [hq] at hqb
      obtain ⟨q1, q2⟩ := hqb
      have hq0 : ((q : Int) == 0) = false := beq_eq_false_iff_ne.2 (by omega)
      have hqn : ¬ (q : Int) = 0 := by omega
      have HQ := Lib.hid hq
      have HBB := Lib.hid (write_bb HR.out)
      have HRD : Hid (readS b = some (cc L)) := Lib.hid (read_some HR.out)
      obtain ⟨k, hk⟩ : ∃ k : Nat, a.tmod (q : Int) = (k : Int) := ⟨(a.tmod (q : Int)).toNat, by have := Int.tmod_nonneg (q : Int) a0; omega⟩
      have hkq : k < q := by have := Int.tmod_lt_of_pos a (show (0 : Int) < (q : Int) by omega); omega
      have HFN : Hid (readS (b.take k) = none) := Lib.hid (front_none HR.out k (by omega))
      clear hq
      obtain ⟨r2, hr2⟩ : ∃ r2, readS (b ++ M) = r2 := ⟨_, rfl⟩
      have HR2 := Lib.hid hr2
      clear hr2
      by_cases hm0 : m2 = 0
      · subst hm0
        have HME : Hid (M = []) := Lib.hid (List.eq_nil_of_length_eq_zero HML.out)
        have HRM : Hid (readS (b ++ M) = some (cc L)) := Lib.hid (by rw [HME.out, List.append_nil]; exact HRD.out)
        go_enter Try.func5, Try.ntmps5
        go_wp2_with fail
        refine (small_l L _ _ _ _ true HA.out hcm HS.out).mono ?_
        rintro e w1 ⟨rfl, b_⟩
        have bb := Lib.hid b_
        clear b_
        go_wp2_with fail
        refine (write_y L _ _ _ _ b q (HA.out.below bb.out) HLM.out (by omega) HR.out HQ.out).mono ?_
        rintro e w2 ⟨B2, d2, rfl, ho2⟩
        replace bb := Lib.hid (bl_trans bb.out ho2.2)
        obtain ⟨hd2, hm2, hr2⟩ := own_lims ho2
        have R2 : Hid (Rd w2 1 B2 q (bs b)) := Lib.hid hr2
        clear ho2 hr2
        go_wp2_with fail
        refine (read_y b _ _ _ _ _ R2.out HBB.out hd2 (by omega) hm2 HRD.out).mono ?_
        rintro e w3 ⟨B3, q3, d3, M3, rfl, hc3, hq3, _, hcc3, hl3, b_⟩
        have HC3 := Lib.hid hc3
        have HCC3 := Lib.hid hcc3
        have HL3 := Lib.hid hl3
        replace R2 := Lib.hid (R2.out.below b_)
        replace bb := Lib.hid (bl_trans bb.out b_)
        clear hc3 hcc3 hl3 b_
        go_wp2_with fail
        refine (read_n (b.take k) _ _ _ _ (rd_front R2.out k (by omega)) (fun y hy => HBB.out y (List.mem_of_mem_take hy)) (by omega) (by omega) hm2 HFN.out).mono ?_
        rintro e w4 ⟨B4, d4, M4, rfl, _, _, _, b_⟩
        replace HC3 := Lib.hid (HC3.out.below b_)
        replace R2 := Lib.hid (R2.out.below b_)
        replace bb := Lib.hid (bl_trans bb.out b_)
        clear b_
        have T1 : True := trivial
        have T2 : True := trivial
        go_wp2_with (first
          | (at_builtin; clear T1; refine append_rd rfl _ _ 25 rfl tByte w4 _ 0 [] rfl (Own.empty _ _ _) _ q _ (bs b) rfl (R2.out.alloc _) (bs_one _) (by omega) (by omega) ?_; intro v5 w5 ho5 hg5; have HO5 := Lib.hid (own_nought ho5); clear ho5 hg5)
          | (at_builtin; clear T2; refine append_rd rfl _ _ 25 rfl tByte w4 _ q (bs b) rfl HO5.out _ 0 _ (bs M) rfl ((HM.out.below bb.out).below HO5.out.2) (bs_one _) (by omega) (by omega) ?_; intro v6 w6 ho6 hg6; obtain ⟨B6, d6, rfl, _⟩ := ho6.form; obtain ⟨hd6, hm6, hr6⟩ := own_lims ho6; have R6 := Lib.hid hr6; have HB6 := Lib.hid ho6.2; clear ho6 hg6 hr6))
        replace HC3 := Lib.hid (HC3.out.below HB6.out)
        replace bb := Lib.hid (bl_trans bb.out HB6.out)
        refine (read_y (b ++ M) (cc L) _ _ _ _ (by rw [bs_app]; exact R6.out) (HBB.out.app HMB.out) hd6 (by omega) hm6 HRM.out).mono ?_
        rintro e w7 ⟨B7, q7, d7, M7, rfl, _, _, _, _, _, b_⟩
        replace HC3 := Lib.hid (HC3.out.below b_)
        replace bb := Lib.hid (bl_trans bb.out b_)
        clear b_
        go_wp2_with fail
        refine (refs_l M3 _ _ _ _ HC3.out HL3.out (by omega)).mono ?_
        rintro e w8 ⟨B8, d8, M8, rfl, hc8, hcc8, hl8, b_⟩
        have HC8 := Lib.hid hc8
        have HCC8 := Lib.hid (hcc8.trans HCC3.out)
        have HL8 := Lib.hid hl8
        replace bb := Lib.hid (bl_trans bb.out b_)
        clear hc8 hcc8 hl8 b_
        go_wp2_with fail
        refine (refs_l L _ _ _ _ (HA.out.below bb.out) HLM.out (by omega)).mono ?_
        rintro e w9 ⟨B9, d9, M9, rfl, hc9, hcc9, hl9, b_⟩
        have HC9 := Lib.hid hc9
        have HCC9 := Lib.hid hcc9
        have HL9 := Lib.hid hl9
        replace HC8 := Lib.hid (HC8.out.below b_)
        replace bb := Lib.hid (bl_trans bb.out b_)
        clear hc9 hcc9 hl9 b_
        go_wp2_with fail
        refine (same9 M8 M9 _ _ _ _ _ _ _ true HC8.out HC9.out HL8.out HL9.out (by omega) (by omega) (by rw [HCC8.out, HCC9.out]; exact decide_eq_true rfl)).mono ?_
        rintro e w10 ⟨rfl, z10, rfl⟩
        replace bb := Lib.hid (bl_drewN bb.out z10)
        go_wp2_with fail
        refine (awake_any _).mono ?_
        rintro e w11 ⟨rfl, b_⟩
        replace bb := Lib.hid (bl_trans bb.out b_)
        clear b_
        go_wp2
        go_ret
        exact ⟨rfl, bb.out⟩
      · have hm0' : ((m2 : Int) == 0) = false := beq_eq_false_iff_ne.2 (by omega)
        have HRM : Hid (readS (b ++ M) = none) := Lib.hid (more_none HR.out (fun e => hm0 (by rw [← HML.out, e]; rfl)))
        go_enter Try.func5, Try.ntmps5
        go_wp2_with fail
        refine (small_l L _ _ _ _ true HA.out hcm HS.out).mono ?_
        rintro e w1 ⟨rfl, b_⟩
        have bb := Lib.hid b_
        clear b_
        go_wp2_with fail
        refine (write_y L _ _ _ _ b q (HA.out.below bb.out) HLM.out (by omega) HR.out HQ.out).mono ?_
        rintro e w2 ⟨B2, d2, rfl, ho2⟩
        replace bb := Lib.hid (bl_trans bb.out ho2.2)
        obtain ⟨hd2, hm2, hr2⟩ := own_lims ho2
        have R2 : Hid (Rd w2 1 B2 q (bs b)) := Lib.hid hr2
        clear ho2 hr2
        go_wp2_with fail
        refine (read_y b _ _ _ _ _ R2.out HBB.out hd2 (by omega) hm2 HRD.out).mono ?_
        rintro e w3 ⟨B3, q3, d3, M3, rfl, hc3, hq3, _, hcc3, hl3, b_⟩
        have HC3 := Lib.hid hc3
        have HCC3 := Lib.hid hcc3
        have HL3 := Lib.hid hl3
        replace R2 := Lib.hid (R2.out.below b_)
        replace bb := Lib.hid (bl_trans bb.out b_)
        clear hc3 hcc3 hl3 b_
        go_wp2_with fail
        refine (read_n (b.take k) _ _ _ _ (rd_front R2.out k (by omega)) (fun y hy => HBB.out y (List.mem_of_mem_take hy)) (by omega) (by omega) hm2 HFN.out).mono ?_
        rintro e w4 ⟨B4, d4, M4, rfl, _, _, _, b_⟩
        replace HC3 := Lib.hid (HC3.out.below b_)
        replace R2 := Lib.hid (R2.out.below b_)
        replace bb := Lib.hid (bl_trans bb.out b_)
        clear b_
        have T1 : True := trivial
        have T2 : True := trivial
        go_wp2_with (first
          | (at_builtin; clear T1; refine append_rd rfl _ _ 25 rfl tByte w4 _ 0 [] rfl (Own.empty _ _ _) _ q _ (bs b) rfl (R2.out.alloc _) (bs_one _) (by omega) (by omega) ?_; intro v5 w5 ho5 hg5; have HO5 := Lib.hid (own_nought ho5); clear ho5 hg5)
          | (at_builtin; clear T2; refine append_rd rfl _ _ 25 rfl tByte w4 _ q (bs b) rfl HO5.out _ m2 _ (bs M) rfl ((HM.out.below bb.out).below HO5.out.2) (bs_one _) (by omega) (by omega) ?_; intro v6 w6 ho6 hg6; obtain ⟨B6, d6, rfl, _⟩ := ho6.form; obtain ⟨hd6, hm6, hr6⟩ := own_lims ho6; have R6 := Lib.hid hr6; have HB6 := Lib.hid ho6.2; clear ho6 hg6 hr6))
        replace HC3 := Lib.hid (HC3.out.below HB6.out)
        replace bb := Lib.hid (bl_trans bb.out HB6.out)
        refine (read_n (b ++ M) _ _ _ _ (by rw [bs_app]; exact R6.out) (HBB.out.app HMB.out) hd6 (by omega) hm6 HRM.out).mono ?_
        rintro e w7 ⟨B7, d7, M7, rfl, _, _, _, b_⟩
        replace HC3 := Lib.hid (HC3.out.below b_)
        replace bb := Lib.hid (bl_trans bb.out b_)
        clear b_
        go_wp2_with fail
        refine (refs_l M3 _ _ _ _ HC3.out HL3.out (by omega)).mono ?_
        rintro e w8 ⟨B8, d8, M8, rfl, hc8, hcc8, hl8, b_⟩
        have HC8 := Lib.hid hc8
        have HCC8 := Lib.hid (hcc8.trans HCC3.out)
        have HL8 := Lib.hid hl8
        replace bb := Lib.hid (bl_trans bb.out b_)
        clear hc8 hcc8 hl8 b_
        go_wp2_with fail
        refine (refs_l L _ _ _ _ (HA.out.below bb.out) HLM.out (by omega)).mono ?_
        rintro e w9 ⟨B9, d9, M9, rfl, hc9, hcc9, hl9, b_⟩
        have HC9 := Lib.hid hc9
        have HCC9 := Lib.hid hcc9
        have HL9 := Lib.hid hl9
        replace HC8 := Lib.hid (HC8.out.below b_)
        replace bb := Lib.hid (bl_trans bb.out b_)
        clear hc9 hcc9 hl9 b_
        go_wp2_with fail
        refine (same9 M8 M9 _ _ _ _ _ _ _ true HC8.out HC9.out HL8.out HL9.out (by omega) (by omega) (by rw [HCC8.out, HCC9.out]; exact decide_eq_true rfl)).mono ?_
        rintro e w10 ⟨rfl, z10, rfl⟩
        replace bb := Lib.hid (bl_drewN bb.out z10)
        go_wp2_with fail
        refine (awake_any _).mono ?_
        rintro e w11 ⟨rfl, b_⟩
        replace bb := Lib.hid (bl_trans bb.out b_)
        clear b_
        go_wp2
        go_ret
        exact ⟨rfl, bb.out⟩
end Go.Proofs.Ytilfkohckmknkaa.Shape
