/-
  THE WALK OF THE LAW CodeOne, of a term of registers alone.
-/
import Derived.Test.YtcjooibadbhjaaaCodeAwake
import Derived.Test.YtcjooibadbhjaaaCodeAlone
namespace Go.Proofs.Ytcjooibadbhjaaa.Code
open Go.ChangeShapes Go.WideShapes Go.ChangeAt Go.RowKit Mem

set_option maxRecDepth 100000 in
set_option maxHeartbeats 8000000 in
theorem one_walk2b (S : Said) (dd aa b_ : Int) (t : List Term.Op) (T : Option Addr) (n c : Nat) (w : World) (hr : Rd w 2 T n (Term.ops t)) (hnc : n ≤ c) (hc : c ≤ 9223372036854775807) (h20 : n ≤ 20) (hn : 0 < n) (hck : Term.checkS t = 0) (cz : List Int) (hcz : Term.cellsS t = cz) (hcq : cz.length = 0) :
    Calls Try.prog 8 #[.agg #[.int .i64 dd, .int .i64 aa, .int .i64 b_, .slice T n c]] w (RetB w true) := by
  have HS := Lib.hid S
  clear S
  have HL := Lib.hid (Term.ops_len hr)
  have HR := Lib.hid hr
  have HNC : Hid (n ≤ c ∧ c ≤ 9223372036854775807) := Lib.hid ⟨hnc, hc⟩
  have HBK : Hid (Blk (w.alloc (.cells #[.int .i64 dd, .int .i64 aa, .int .i64 b_, .slice T n c] 37)) w.heap.size 37 #[.int .i64 dd, .int .i64 aa, .int .i64 b_, .slice T n c]) := Lib.hid (Blk.new _ _ _)
  have bb : Hid (Below w.heap.size w (w.alloc (.cells #[.int .i64 dd, .int .i64 aa, .int .i64 b_, .slice T n c] 37))) := Lib.hid (bl_alloc (Below.refl _ _) _)
  have HC := Lib.hid hck
  have HZ := Lib.hid hcz
  have HQ := Lib.hid hcq
  have HK : Hid (reckonsB t = decide (1 = 1)) := Lib.hid (by unfold reckonsB; rw [hck, hcz, hcq]; rfl)
  clear hck hcz hcq
  obtain ⟨v, hv⟩ : ∃ x, checkS [⟨dd, aa, b_, t⟩] = x := ⟨_, rfl⟩
  have HV := Lib.hid hv
  have HAL := Lib.hid (alone dd aa b_ t n 1 HL.out HK.out v hv)
  have AT : Hid (∀ W, Below w.heap.size w W → At (W.alloc (.cells #[.int .i64 dd, .int .i64 aa, .int .i64 b_, .slice T n c] 37)) (some ⟨W.heap.size, 0, none⟩) 1 [⟨⟨dd, aa, b_, t⟩, T, n, c⟩]) := Lib.hid (fun W hW => ⟨Rd.built W 4 1 (rs [⟨⟨dd, aa, b_, t⟩, T, n, c⟩]) _ rfl, by
    intro r hr
    rw [List.mem_singleton] at hr
    subst hr
    exact ⟨(HR.out.below hW).alloc _, HNC.out⟩⟩)
  have HLM : Hid (Lim [⟨⟨dd, aa, b_, t⟩, T, n, c⟩]) := Lib.hid (by
    intro r hr
    rw [List.mem_singleton] at hr
    subst hr
    show n ≤ 1000000
    omega)
  clear hv hr hnc hc
  have hn1 : ((n : Int) == 0) = false := by apply beq_eq_false_iff_ne.2; omega
  have hn2 : (n == 0) = false := by apply beq_eq_false_iff_ne.2; omega
  rcases (by omega : dd = 1 ∨ (dd = 2 ∧ b_ = 0) ∨ (dd = 2 ∧ b_ ≠ 0) ∨ (dd = 3 ∧ b_ = 0) ∨ (dd = 3 ∧ b_ ≠ 0) ∨ (dd = 4 ∧ b_ = 0) ∨ (dd = 4 ∧ b_ ≠ 0) ∨ (dd = 5 ∧ b_ = 0 ∧ aa = 0) ∨ (dd = 5 ∧ b_ = 0 ∧ aa ≠ 0) ∨ (dd = 5 ∧ b_ ≠ 0) ∨ (dd = 6 ∧ b_ = 0) ∨ (dd = 6 ∧ b_ ≠ 0) ∨ dd = 7 ∨ (dd ≠ 1 ∧ dd ≠ 2 ∧ dd ≠ 3 ∧ dd ≠ 4 ∧ dd ≠ 5 ∧ dd ≠ 6 ∧ dd ≠ 7)) with rfl | ⟨rfl, rfl⟩ | ⟨rfl, hb⟩ | ⟨rfl, rfl⟩ | ⟨rfl, hb⟩ | ⟨rfl, rfl⟩ | ⟨rfl, hb⟩ | ⟨rfl, rfl, rfl⟩ | ⟨rfl, rfl, ha⟩ | ⟨rfl, hb⟩ | ⟨rfl, rfl⟩ | ⟨rfl, hb⟩ | rfl | ⟨e1, e2, e3, e4, e5, e6, e7⟩
  · go_enter Try.func8, Try.ntmps8
    go_wp2_with fail
    all_goals
      refine (Term.check_c t _ _ _ _ 0 (HR.out.below bb.out) (by omega) HC.out).mono ?_
      rintro e w1 ⟨rfl, b1⟩
      have HB1 := Lib.hid (bl_trans bb.out b1)
      have K1 := Lib.hid (HBK.out.below b1)
      clear b1
      have c0 := K1.out.cell 0 _ rfl
      have c1 := K1.out.cell 1 _ rfl
      have c2 := K1.out.cell 2 _ rfl
      have c3 := K1.out.cell 3 _ rfl
      go_wp2_with fail
      refine ((Term.cells_c t _ _ _ _ cz 0 (HR.out.below HB1.out) (by omega) HZ.out HQ.out).mono (fun _ _ => RetO.toS)).mono ?_
      rintro e w2 ⟨B2, d2, rfl, r2, b2⟩
      have HB2 := Lib.hid (bl_trans HB1.out b2)
      have K2 := Lib.hid (K1.out.below b2)
      clear r2 b2 c0 c1 c2 c3
      have c0 := K2.out.cell 0 _ rfl
      have c1 := K2.out.cell 1 _ rfl
      have c2 := K2.out.cell 2 _ rfl
      have c3 := K2.out.cell 3 _ rfl
      go_wp2_with fail
      all_goals
        refine (HS.out.check _ _ _ _ _ v (AT.out _ HB2.out) (Nat.le_refl 1) HLM.out (by decide) HV.out).mono ?_
        rintro e w5 ⟨rfl, b5⟩
        have HB5 := Lib.hid (bl_trans (bl_alloc HB2.out _) b5)
        clear b5 c0 c1 c2 c3
        have hv3 : v = 0 ∨ v = 1 ∨ v = 2 := by have := HAL.out; omega
        rcases hv3 with rfl | rfl | rfl
        all_goals first
          | (exfalso; have := HAL.out; unfold May at this; omega)
          | (go_wp2_with fail
             refine (awake_any HS.out _).mono ?_
             rintro e w6 ⟨rfl, b6⟩
             go_wp2
             go_ret
             exact ⟨rfl, bl_trans HB5.out b6⟩)
          | (exfalso; have := HAL.out; unfold May at this; simp at this <;> omega)
  · go_enter Try.func8, Try.ntmps8
    go_wp2_with fail
    all_goals
      refine (Term.check_c t _ _ _ _ 0 (HR.out.below bb.out) (by omega) HC.out).mono ?_
      rintro e w1 ⟨rfl, b1⟩
      have HB1 := Lib.hid (bl_trans bb.out b1)
      have K1 := Lib.hid (HBK.out.below b1)
      clear b1
      have c0 := K1.out.cell 0 _ rfl
      have c1 := K1.out.cell 1 _ rfl
      have c2 := K1.out.cell 2 _ rfl
      have c3 := K1.out.cell 3 _ rfl
      go_wp2_with fail
      refine ((Term.cells_c t _ _ _ _ cz 0 (HR.out.below HB1.out) (by omega) HZ.out HQ.out).mono (fun _ _ => RetO.toS)).mono ?_
      rintro e w2 ⟨B2, d2, rfl, r2, b2⟩
      have HB2 := Lib.hid (bl_trans HB1.out b2)
      have K2 := Lib.hid (K1.out.below b2)
      clear r2 b2 c0 c1 c2 c3
      have c0 := K2.out.cell 0 _ rfl
      have c1 := K2.out.cell 1 _ rfl
      have c2 := K2.out.cell 2 _ rfl
      have c3 := K2.out.cell 3 _ rfl
      go_wp2_with fail
      all_goals
        refine (HS.out.check _ _ _ _ _ v (AT.out _ HB2.out) (Nat.le_refl 1) HLM.out (by decide) HV.out).mono ?_
        rintro e w5 ⟨rfl, b5⟩
        have HB5 := Lib.hid (bl_trans (bl_alloc HB2.out _) b5)
        clear b5 c0 c1 c2 c3
        have hv3 : v = 0 ∨ v = 1 ∨ v = 2 := by have := HAL.out; omega
        rcases hv3 with rfl | rfl | rfl
        all_goals first
          | (exfalso; have := HAL.out; unfold May at this; omega)
          | (go_wp2_with fail
             refine (awake_any HS.out _).mono ?_
             rintro e w6 ⟨rfl, b6⟩
             go_wp2
             go_ret
             exact ⟨rfl, bl_trans HB5.out b6⟩)
          | (exfalso; have := HAL.out; unfold May at this; simp at this <;> omega)
  · have hb1 : (b_ == 0) = false := beq_eq_false_iff_ne.2 hb
    go_enter Try.func8, Try.ntmps8
    go_wp2_with fail
    all_goals
      refine (Term.check_c t _ _ _ _ 0 (HR.out.below bb.out) (by omega) HC.out).mono ?_
      rintro e w1 ⟨rfl, b1⟩
      have HB1 := Lib.hid (bl_trans bb.out b1)
      have K1 := Lib.hid (HBK.out.below b1)
      clear b1
      have c0 := K1.out.cell 0 _ rfl
      have c1 := K1.out.cell 1 _ rfl
      have c2 := K1.out.cell 2 _ rfl
      have c3 := K1.out.cell 3 _ rfl
      go_wp2_with fail
      refine ((Term.cells_c t _ _ _ _ cz 0 (HR.out.below HB1.out) (by omega) HZ.out HQ.out).mono (fun _ _ => RetO.toS)).mono ?_
      rintro e w2 ⟨B2, d2, rfl, r2, b2⟩
      have HB2 := Lib.hid (bl_trans HB1.out b2)
      have K2 := Lib.hid (K1.out.below b2)
      clear r2 b2 c0 c1 c2 c3
      have c0 := K2.out.cell 0 _ rfl
      have c1 := K2.out.cell 1 _ rfl
      have c2 := K2.out.cell 2 _ rfl
      have c3 := K2.out.cell 3 _ rfl
      go_wp2_with fail
      all_goals
        refine (HS.out.check _ _ _ _ _ v (AT.out _ HB2.out) (Nat.le_refl 1) HLM.out (by decide) HV.out).mono ?_
        rintro e w5 ⟨rfl, b5⟩
        have HB5 := Lib.hid (bl_trans (bl_alloc HB2.out _) b5)
        clear b5 c0 c1 c2 c3
        have hv3 : v = 0 ∨ v = 1 ∨ v = 2 := by have := HAL.out; omega
        rcases hv3 with rfl | rfl | rfl
        all_goals first
          | (exfalso; have := HAL.out; unfold May at this; omega)
          | (go_wp2_with fail
             refine (awake_any HS.out _).mono ?_
             rintro e w6 ⟨rfl, b6⟩
             go_wp2
             go_ret
             exact ⟨rfl, bl_trans HB5.out b6⟩)
          | (exfalso; have := HAL.out; unfold May at this; simp at this <;> omega)
  · go_enter Try.func8, Try.ntmps8
    go_wp2_with fail
    all_goals
      refine (Term.check_c t _ _ _ _ 0 (HR.out.below bb.out) (by omega) HC.out).mono ?_
      rintro e w1 ⟨rfl, b1⟩
      have HB1 := Lib.hid (bl_trans bb.out b1)
      have K1 := Lib.hid (HBK.out.below b1)
      clear b1
      have c0 := K1.out.cell 0 _ rfl
      have c1 := K1.out.cell 1 _ rfl
      have c2 := K1.out.cell 2 _ rfl
      have c3 := K1.out.cell 3 _ rfl
      go_wp2_with fail
      refine ((Term.cells_c t _ _ _ _ cz 0 (HR.out.below HB1.out) (by omega) HZ.out HQ.out).mono (fun _ _ => RetO.toS)).mono ?_
      rintro e w2 ⟨B2, d2, rfl, r2, b2⟩
      have HB2 := Lib.hid (bl_trans HB1.out b2)
      have K2 := Lib.hid (K1.out.below b2)
      clear r2 b2 c0 c1 c2 c3
      have c0 := K2.out.cell 0 _ rfl
      have c1 := K2.out.cell 1 _ rfl
      have c2 := K2.out.cell 2 _ rfl
      have c3 := K2.out.cell 3 _ rfl
      go_wp2_with fail
      all_goals
        refine (HS.out.check _ _ _ _ _ v (AT.out _ HB2.out) (Nat.le_refl 1) HLM.out (by decide) HV.out).mono ?_
        rintro e w5 ⟨rfl, b5⟩
        have HB5 := Lib.hid (bl_trans (bl_alloc HB2.out _) b5)
        clear b5 c0 c1 c2 c3
        have hv3 : v = 0 ∨ v = 1 ∨ v = 2 := by have := HAL.out; omega
        rcases hv3 with rfl | rfl | rfl
        all_goals first
          | (exfalso; have := HAL.out; unfold May at this; omega)
          | (go_wp2_with fail
             refine (awake_any HS.out _).mono ?_
             rintro e w6 ⟨rfl, b6⟩
             go_wp2
             go_ret
             exact ⟨rfl, bl_trans HB5.out b6⟩)
          | (exfalso; have := HAL.out; unfold May at this; simp at this <;> omega)
  · have hb1 : (b_ == 0) = false := beq_eq_false_iff_ne.2 hb
    go_enter Try.func8, Try.ntmps8
    go_wp2_with fail
    all_goals
      refine (Term.check_c t _ _ _ _ 0 (HR.out.below bb.out) (by omega) HC.out).mono ?_
      rintro e w1 ⟨rfl, b1⟩
      have HB1 := Lib.hid (bl_trans bb.out b1)
      have K1 := Lib.hid (HBK.out.below b1)
      clear b1
      have c0 := K1.out.cell 0 _ rfl
      have c1 := K1.out.cell 1 _ rfl
      have c2 := K1.out.cell 2 _ rfl
      have c3 := K1.out.cell 3 _ rfl
      go_wp2_with fail
      refine ((Term.cells_c t _ _ _ _ cz 0 (HR.out.below HB1.out) (by omega) HZ.out HQ.out).mono (fun _ _ => RetO.toS)).mono ?_
      rintro e w2 ⟨B2, d2, rfl, r2, b2⟩
      have HB2 := Lib.hid (bl_trans HB1.out b2)
      have K2 := Lib.hid (K1.out.below b2)
      clear r2 b2 c0 c1 c2 c3
      have c0 := K2.out.cell 0 _ rfl
      have c1 := K2.out.cell 1 _ rfl
      have c2 := K2.out.cell 2 _ rfl
      have c3 := K2.out.cell 3 _ rfl
      go_wp2_with fail
      all_goals
        refine (HS.out.check _ _ _ _ _ v (AT.out _ HB2.out) (Nat.le_refl 1) HLM.out (by decide) HV.out).mono ?_
        rintro e w5 ⟨rfl, b5⟩
        have HB5 := Lib.hid (bl_trans (bl_alloc HB2.out _) b5)
        clear b5 c0 c1 c2 c3
        have hv3 : v = 0 ∨ v = 1 ∨ v = 2 := by have := HAL.out; omega
        rcases hv3 with rfl | rfl | rfl
        all_goals first
          | (exfalso; have := HAL.out; unfold May at this; omega)
          | (go_wp2_with fail
             refine (awake_any HS.out _).mono ?_
             rintro e w6 ⟨rfl, b6⟩
             go_wp2
             go_ret
             exact ⟨rfl, bl_trans HB5.out b6⟩)
          | (exfalso; have := HAL.out; unfold May at this; simp at this <;> omega)
  · go_enter Try.func8, Try.ntmps8
    go_wp2_with fail
    all_goals
      refine (Term.check_c t _ _ _ _ 0 (HR.out.below bb.out) (by omega) HC.out).mono ?_
      rintro e w1 ⟨rfl, b1⟩
      have HB1 := Lib.hid (bl_trans bb.out b1)
      have K1 := Lib.hid (HBK.out.below b1)
      clear b1
      have c0 := K1.out.cell 0 _ rfl
      have c1 := K1.out.cell 1 _ rfl
      have c2 := K1.out.cell 2 _ rfl
      have c3 := K1.out.cell 3 _ rfl
      go_wp2_with fail
      refine ((Term.cells_c t _ _ _ _ cz 0 (HR.out.below HB1.out) (by omega) HZ.out HQ.out).mono (fun _ _ => RetO.toS)).mono ?_
      rintro e w2 ⟨B2, d2, rfl, r2, b2⟩
      have HB2 := Lib.hid (bl_trans HB1.out b2)
      have K2 := Lib.hid (K1.out.below b2)
      clear r2 b2 c0 c1 c2 c3
      have c0 := K2.out.cell 0 _ rfl
      have c1 := K2.out.cell 1 _ rfl
      have c2 := K2.out.cell 2 _ rfl
      have c3 := K2.out.cell 3 _ rfl
      go_wp2_with fail
      all_goals
        refine (HS.out.check _ _ _ _ _ v (AT.out _ HB2.out) (Nat.le_refl 1) HLM.out (by decide) HV.out).mono ?_
        rintro e w5 ⟨rfl, b5⟩
        have HB5 := Lib.hid (bl_trans (bl_alloc HB2.out _) b5)
        clear b5 c0 c1 c2 c3
        have hv3 : v = 0 ∨ v = 1 ∨ v = 2 := by have := HAL.out; omega
        rcases hv3 with rfl | rfl | rfl
        all_goals first
          | (exfalso; have := HAL.out; unfold May at this; omega)
          | (go_wp2_with fail
             refine (awake_any HS.out _).mono ?_
             rintro e w6 ⟨rfl, b6⟩
             go_wp2
             go_ret
             exact ⟨rfl, bl_trans HB5.out b6⟩)
          | (exfalso; have := HAL.out; unfold May at this; simp at this <;> omega)
  · have hb1 : (b_ == 0) = false := beq_eq_false_iff_ne.2 hb
    go_enter Try.func8, Try.ntmps8
    go_wp2_with fail
    all_goals
      refine (Term.check_c t _ _ _ _ 0 (HR.out.below bb.out) (by omega) HC.out).mono ?_
      rintro e w1 ⟨rfl, b1⟩
      have HB1 := Lib.hid (bl_trans bb.out b1)
      have K1 := Lib.hid (HBK.out.below b1)
      clear b1
      have c0 := K1.out.cell 0 _ rfl
      have c1 := K1.out.cell 1 _ rfl
      have c2 := K1.out.cell 2 _ rfl
      have c3 := K1.out.cell 3 _ rfl
      go_wp2_with fail
      refine ((Term.cells_c t _ _ _ _ cz 0 (HR.out.below HB1.out) (by omega) HZ.out HQ.out).mono (fun _ _ => RetO.toS)).mono ?_
      rintro e w2 ⟨B2, d2, rfl, r2, b2⟩
      have HB2 := Lib.hid (bl_trans HB1.out b2)
      have K2 := Lib.hid (K1.out.below b2)
      clear r2 b2 c0 c1 c2 c3
      have c0 := K2.out.cell 0 _ rfl
      have c1 := K2.out.cell 1 _ rfl
      have c2 := K2.out.cell 2 _ rfl
      have c3 := K2.out.cell 3 _ rfl
      go_wp2_with fail
      all_goals
        refine (HS.out.check _ _ _ _ _ v (AT.out _ HB2.out) (Nat.le_refl 1) HLM.out (by decide) HV.out).mono ?_
        rintro e w5 ⟨rfl, b5⟩
        have HB5 := Lib.hid (bl_trans (bl_alloc HB2.out _) b5)
        clear b5 c0 c1 c2 c3
        have hv3 : v = 0 ∨ v = 1 ∨ v = 2 := by have := HAL.out; omega
        rcases hv3 with rfl | rfl | rfl
        all_goals first
          | (exfalso; have := HAL.out; unfold May at this; omega)
          | (go_wp2_with fail
             refine (awake_any HS.out _).mono ?_
             rintro e w6 ⟨rfl, b6⟩
             go_wp2
             go_ret
             exact ⟨rfl, bl_trans HB5.out b6⟩)
          | (exfalso; have := HAL.out; unfold May at this; simp at this <;> omega)
  · go_enter Try.func8, Try.ntmps8
    go_wp2_with fail
    all_goals
      refine (Term.check_c t _ _ _ _ 0 (HR.out.below bb.out) (by omega) HC.out).mono ?_
      rintro e w1 ⟨rfl, b1⟩
      have HB1 := Lib.hid (bl_trans bb.out b1)
      have K1 := Lib.hid (HBK.out.below b1)
      clear b1
      have c0 := K1.out.cell 0 _ rfl
      have c1 := K1.out.cell 1 _ rfl
      have c2 := K1.out.cell 2 _ rfl
      have c3 := K1.out.cell 3 _ rfl
      go_wp2_with fail
      refine ((Term.cells_c t _ _ _ _ cz 0 (HR.out.below HB1.out) (by omega) HZ.out HQ.out).mono (fun _ _ => RetO.toS)).mono ?_
      rintro e w2 ⟨B2, d2, rfl, r2, b2⟩
      have HB2 := Lib.hid (bl_trans HB1.out b2)
      have K2 := Lib.hid (K1.out.below b2)
      clear r2 b2 c0 c1 c2 c3
      have c0 := K2.out.cell 0 _ rfl
      have c1 := K2.out.cell 1 _ rfl
      have c2 := K2.out.cell 2 _ rfl
      have c3 := K2.out.cell 3 _ rfl
      go_wp2_with fail
      all_goals
        refine (HS.out.check _ _ _ _ _ v (AT.out _ HB2.out) (Nat.le_refl 1) HLM.out (by decide) HV.out).mono ?_
        rintro e w5 ⟨rfl, b5⟩
        have HB5 := Lib.hid (bl_trans (bl_alloc HB2.out _) b5)
        clear b5 c0 c1 c2 c3
        have hv3 : v = 0 ∨ v = 1 ∨ v = 2 := by have := HAL.out; omega
        rcases hv3 with rfl | rfl | rfl
        all_goals first
          | (exfalso; have := HAL.out; unfold May at this; omega)
          | (go_wp2_with fail
             refine (awake_any HS.out _).mono ?_
             rintro e w6 ⟨rfl, b6⟩
             go_wp2
             go_ret
             exact ⟨rfl, bl_trans HB5.out b6⟩)
          | (exfalso; have := HAL.out; unfold May at this; simp at this <;> omega)
  · have ha1 : (aa == 0) = false := beq_eq_false_iff_ne.2 ha
    go_enter Try.func8, Try.ntmps8
    go_wp2_with fail
    all_goals
      refine (Term.check_c t _ _ _ _ 0 (HR.out.below bb.out) (by omega) HC.out).mono ?_
      rintro e w1 ⟨rfl, b1⟩
      have HB1 := Lib.hid (bl_trans bb.out b1)
      have K1 := Lib.hid (HBK.out.below b1)
      clear b1
      have c0 := K1.out.cell 0 _ rfl
      have c1 := K1.out.cell 1 _ rfl
      have c2 := K1.out.cell 2 _ rfl
      have c3 := K1.out.cell 3 _ rfl
      go_wp2_with fail
      refine ((Term.cells_c t _ _ _ _ cz 0 (HR.out.below HB1.out) (by omega) HZ.out HQ.out).mono (fun _ _ => RetO.toS)).mono ?_
      rintro e w2 ⟨B2, d2, rfl, r2, b2⟩
      have HB2 := Lib.hid (bl_trans HB1.out b2)
      have K2 := Lib.hid (K1.out.below b2)
      clear r2 b2 c0 c1 c2 c3
      have c0 := K2.out.cell 0 _ rfl
      have c1 := K2.out.cell 1 _ rfl
      have c2 := K2.out.cell 2 _ rfl
      have c3 := K2.out.cell 3 _ rfl
      go_wp2_with fail
      all_goals
        refine (HS.out.check _ _ _ _ _ v (AT.out _ HB2.out) (Nat.le_refl 1) HLM.out (by decide) HV.out).mono ?_
        rintro e w5 ⟨rfl, b5⟩
        have HB5 := Lib.hid (bl_trans (bl_alloc HB2.out _) b5)
        clear b5 c0 c1 c2 c3
        have hv3 : v = 0 ∨ v = 1 ∨ v = 2 := by have := HAL.out; omega
        rcases hv3 with rfl | rfl | rfl
        all_goals first
          | (exfalso; have := HAL.out; unfold May at this; omega)
          | (go_wp2_with fail
             refine (awake_any HS.out _).mono ?_
             rintro e w6 ⟨rfl, b6⟩
             go_wp2
             go_ret
             exact ⟨rfl, bl_trans HB5.out b6⟩)
          | (exfalso; have := HAL.out; unfold May at this; simp at this <;> omega)
  · have hb1 : (b_ == 0) = false := beq_eq_false_iff_ne.2 hb
    go_enter Try.func8, Try.ntmps8
    go_wp2_with fail
    all_goals
      refine (Term.check_c t _ _ _ _ 0 (HR.out.below bb.out) (by omega) HC.out).mono ?_
      rintro e w1 ⟨rfl, b1⟩
      have HB1 := Lib.hid (bl_trans bb.out b1)
      have K1 := Lib.hid (HBK.out.below b1)
      clear b1
      have c0 := K1.out.cell 0 _ rfl
      have c1 := K1.out.cell 1 _ rfl
      have c2 := K1.out.cell 2 _ rfl
      have c3 := K1.out.cell 3 _ rfl
      go_wp2_with fail
      refine ((Term.cells_c t _ _ _ _ cz 0 (HR.out.below HB1.out) (by omega) HZ.out HQ.out).mono (fun _ _ => RetO.toS)).mono ?_
      rintro e w2 ⟨B2, d2, rfl, r2, b2⟩
      have HB2 := Lib.hid (bl_trans HB1.out b2)
      have K2 := Lib.hid (K1.out.below b2)
      clear r2 b2 c0 c1 c2 c3
      have c0 := K2.out.cell 0 _ rfl
      have c1 := K2.out.cell 1 _ rfl
      have c2 := K2.out.cell 2 _ rfl
      have c3 := K2.out.cell 3 _ rfl
      go_wp2_with fail
      all_goals
        refine (HS.out.check _ _ _ _ _ v (AT.out _ HB2.out) (Nat.le_refl 1) HLM.out (by decide) HV.out).mono ?_
        rintro e w5 ⟨rfl, b5⟩
        have HB5 := Lib.hid (bl_trans (bl_alloc HB2.out _) b5)
        clear b5 c0 c1 c2 c3
        have hv3 : v = 0 ∨ v = 1 ∨ v = 2 := by have := HAL.out; omega
        rcases hv3 with rfl | rfl | rfl
        all_goals first
          | (exfalso; have := HAL.out; unfold May at this; omega)
          | (go_wp2_with fail
             refine (awake_any HS.out _).mono ?_
             rintro e w6 ⟨rfl, b6⟩
             go_wp2
             go_ret
             exact ⟨rfl, bl_trans HB5.out b6⟩)
          | (exfalso; have := HAL.out; unfold May at this; simp at this <;> omega)
  · go_enter Try.func8, Try.ntmps8
    go_wp2_with fail
    all_goals
      refine (Term.check_c t _ _ _ _ 0 (HR.out.below bb.out) (by omega) HC.out).mono ?_
      rintro e w1 ⟨rfl, b1⟩
      have HB1 := Lib.hid (bl_trans bb.out b1)
      have K1 := Lib.hid (HBK.out.below b1)
      clear b1
      have c0 := K1.out.cell 0 _ rfl
      have c1 := K1.out.cell 1 _ rfl
      have c2 := K1.out.cell 2 _ rfl
      have c3 := K1.out.cell 3 _ rfl
      go_wp2_with fail
      refine ((Term.cells_c t _ _ _ _ cz 0 (HR.out.below HB1.out) (by omega) HZ.out HQ.out).mono (fun _ _ => RetO.toS)).mono ?_
      rintro e w2 ⟨B2, d2, rfl, r2, b2⟩
      have HB2 := Lib.hid (bl_trans HB1.out b2)
      have K2 := Lib.hid (K1.out.below b2)
      clear r2 b2 c0 c1 c2 c3
      have c0 := K2.out.cell 0 _ rfl
      have c1 := K2.out.cell 1 _ rfl
      have c2 := K2.out.cell 2 _ rfl
      have c3 := K2.out.cell 3 _ rfl
      go_wp2_with fail
      all_goals
        refine (HS.out.check _ _ _ _ _ v (AT.out _ HB2.out) (Nat.le_refl 1) HLM.out (by decide) HV.out).mono ?_
        rintro e w5 ⟨rfl, b5⟩
        have HB5 := Lib.hid (bl_trans (bl_alloc HB2.out _) b5)
        clear b5 c0 c1 c2 c3
        have hv3 : v = 0 ∨ v = 1 ∨ v = 2 := by have := HAL.out; omega
        rcases hv3 with rfl | rfl | rfl
        all_goals first
          | (exfalso; have := HAL.out; unfold May at this; omega)
          | (go_wp2_with fail
             refine (awake_any HS.out _).mono ?_
             rintro e w6 ⟨rfl, b6⟩
             go_wp2
             go_ret
             exact ⟨rfl, bl_trans HB5.out b6⟩)
          | (exfalso; have := HAL.out; unfold May at this; simp at this <;> omega)
  · have hb1 : (b_ == 0) = false := beq_eq_false_iff_ne.2 hb
    go_enter Try.func8, Try.ntmps8
    go_wp2_with fail
    all_goals
      refine (Term.check_c t _ _ _ _ 0 (HR.out.below bb.out) (by omega) HC.out).mono ?_
      rintro e w1 ⟨rfl, b1⟩
      have HB1 := Lib.hid (bl_trans bb.out b1)
      have K1 := Lib.hid (HBK.out.below b1)
      clear b1
      have c0 := K1.out.cell 0 _ rfl
      have c1 := K1.out.cell 1 _ rfl
      have c2 := K1.out.cell 2 _ rfl
      have c3 := K1.out.cell 3 _ rfl
      go_wp2_with fail
      refine ((Term.cells_c t _ _ _ _ cz 0 (HR.out.below HB1.out) (by omega) HZ.out HQ.out).mono (fun _ _ => RetO.toS)).mono ?_
      rintro e w2 ⟨B2, d2, rfl, r2, b2⟩
      have HB2 := Lib.hid (bl_trans HB1.out b2)
      have K2 := Lib.hid (K1.out.below b2)
      clear r2 b2 c0 c1 c2 c3
      have c0 := K2.out.cell 0 _ rfl
      have c1 := K2.out.cell 1 _ rfl
      have c2 := K2.out.cell 2 _ rfl
      have c3 := K2.out.cell 3 _ rfl
      go_wp2_with fail
      all_goals
        refine (HS.out.check _ _ _ _ _ v (AT.out _ HB2.out) (Nat.le_refl 1) HLM.out (by decide) HV.out).mono ?_
        rintro e w5 ⟨rfl, b5⟩
        have HB5 := Lib.hid (bl_trans (bl_alloc HB2.out _) b5)
        clear b5 c0 c1 c2 c3
        have hv3 : v = 0 ∨ v = 1 ∨ v = 2 := by have := HAL.out; omega
        rcases hv3 with rfl | rfl | rfl
        all_goals first
          | (exfalso; have := HAL.out; unfold May at this; omega)
          | (go_wp2_with fail
             refine (awake_any HS.out _).mono ?_
             rintro e w6 ⟨rfl, b6⟩
             go_wp2
             go_ret
             exact ⟨rfl, bl_trans HB5.out b6⟩)
          | (exfalso; have := HAL.out; unfold May at this; simp at this <;> omega)
  · go_enter Try.func8, Try.ntmps8
    go_wp2_with fail
    all_goals
      refine (Term.check_c t _ _ _ _ 0 (HR.out.below bb.out) (by omega) HC.out).mono ?_
      rintro e w1 ⟨rfl, b1⟩
      have HB1 := Lib.hid (bl_trans bb.out b1)
      have K1 := Lib.hid (HBK.out.below b1)
      clear b1
      have c0 := K1.out.cell 0 _ rfl
      have c1 := K1.out.cell 1 _ rfl
      have c2 := K1.out.cell 2 _ rfl
      have c3 := K1.out.cell 3 _ rfl
      go_wp2_with fail
      refine ((Term.cells_c t _ _ _ _ cz 0 (HR.out.below HB1.out) (by omega) HZ.out HQ.out).mono (fun _ _ => RetO.toS)).mono ?_
      rintro e w2 ⟨B2, d2, rfl, r2, b2⟩
      have HB2 := Lib.hid (bl_trans HB1.out b2)
      have K2 := Lib.hid (K1.out.below b2)
      clear r2 b2 c0 c1 c2 c3
      have c0 := K2.out.cell 0 _ rfl
      have c1 := K2.out.cell 1 _ rfl
      have c2 := K2.out.cell 2 _ rfl
      have c3 := K2.out.cell 3 _ rfl
      go_wp2_with fail
      all_goals
        refine (HS.out.check _ _ _ _ _ v (AT.out _ HB2.out) (Nat.le_refl 1) HLM.out (by decide) HV.out).mono ?_
        rintro e w5 ⟨rfl, b5⟩
        have HB5 := Lib.hid (bl_trans (bl_alloc HB2.out _) b5)
        clear b5 c0 c1 c2 c3
        have hv3 : v = 0 ∨ v = 1 ∨ v = 2 := by have := HAL.out; omega
        rcases hv3 with rfl | rfl | rfl
        all_goals first
          | (exfalso; have := HAL.out; unfold May at this; omega)
          | (go_wp2_with fail
             refine (awake_any HS.out _).mono ?_
             rintro e w6 ⟨rfl, b6⟩
             go_wp2
             go_ret
             exact ⟨rfl, bl_trans HB5.out b6⟩)
          | (exfalso; have := HAL.out; unfold May at this; simp at this <;> omega)
  · have g1 : (dd == 1) = false := beq_eq_false_iff_ne.2 e1
    have g2 : (dd == 2) = false := beq_eq_false_iff_ne.2 e2
    have g3 : (dd == 3) = false := beq_eq_false_iff_ne.2 e3
    have g4 : (dd == 4) = false := beq_eq_false_iff_ne.2 e4
    have g5 : (dd == 5) = false := beq_eq_false_iff_ne.2 e5
    have g6 : (dd == 6) = false := beq_eq_false_iff_ne.2 e6
    have g7 : (dd == 7) = false := beq_eq_false_iff_ne.2 e7
    go_enter Try.func8, Try.ntmps8
    go_wp2_with fail
    all_goals
      refine (Term.check_c t _ _ _ _ 0 (HR.out.below bb.out) (by omega) HC.out).mono ?_
      rintro e w1 ⟨rfl, b1⟩
      have HB1 := Lib.hid (bl_trans bb.out b1)
      have K1 := Lib.hid (HBK.out.below b1)
      clear b1
      have c0 := K1.out.cell 0 _ rfl
      have c1 := K1.out.cell 1 _ rfl
      have c2 := K1.out.cell 2 _ rfl
      have c3 := K1.out.cell 3 _ rfl
      go_wp2_with fail
      refine ((Term.cells_c t _ _ _ _ cz 0 (HR.out.below HB1.out) (by omega) HZ.out HQ.out).mono (fun _ _ => RetO.toS)).mono ?_
      rintro e w2 ⟨B2, d2, rfl, r2, b2⟩
      have HB2 := Lib.hid (bl_trans HB1.out b2)
      have K2 := Lib.hid (K1.out.below b2)
      clear r2 b2 c0 c1 c2 c3
      have c0 := K2.out.cell 0 _ rfl
      have c1 := K2.out.cell 1 _ rfl
      have c2 := K2.out.cell 2 _ rfl
      have c3 := K2.out.cell 3 _ rfl
      go_wp2_with fail
      all_goals
        refine (HS.out.check _ _ _ _ _ v (AT.out _ HB2.out) (Nat.le_refl 1) HLM.out (by decide) HV.out).mono ?_
        rintro e w5 ⟨rfl, b5⟩
        have HB5 := Lib.hid (bl_trans (bl_alloc HB2.out _) b5)
        clear b5 c0 c1 c2 c3
        have hv3 : v = 0 ∨ v = 1 ∨ v = 2 := by have := HAL.out; omega
        rcases hv3 with rfl | rfl | rfl
        all_goals first
          | (exfalso; have := HAL.out; unfold May at this; omega)
          | (go_wp2_with fail
             refine (awake_any HS.out _).mono ?_
             rintro e w6 ⟨rfl, b6⟩
             go_wp2
             go_ret
             exact ⟨rfl, bl_trans HB5.out b6⟩)
          | (exfalso; have := HAL.out; unfold May at this; simp at this <;> omega)
end Go.Proofs.Ytcjooibadbhjaaa.Code
