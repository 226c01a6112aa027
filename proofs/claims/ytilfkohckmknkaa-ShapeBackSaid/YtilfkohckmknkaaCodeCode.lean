/-
  WHAT EACH FUNCTION OF THE LAYER code RETURNS, AS IT IS WRITTEN: rightReg, rightCell, rightCount, rightTerm, rightStep.
-/
import Derived.Test.YtilfkohckmknkaaCodeRef3
import Derived.Test.YtilfkohckmknkaaTermCode5
namespace Go.Proofs.Ytilfkohckmknkaa.Code
open Go.ChangeShapes Go.WideShapes Go.ChangeAt Go.RowKit Mem

theorem reg_any (a : Int) (w : World) (v : Bool) (hv : decide (0 ≤ a ∧ a ≤ 7) = v) :
    Calls Try.prog 42 #[.int .i64 a] w fun e w' => e = .returned (.bool v) ∧ w = w' := by
  subst hv
  rcases (by omega : (0 ≤ a ∧ a ≤ 7) ∨ (0 ≤ a ∧ ¬ a ≤ 7) ∨ ¬ 0 ≤ a) with ⟨h1, h2⟩ | ⟨h1, h2⟩ | h1
  all_goals
    go_enter Try.func42, Try.ntmps42
    go_wp2
    go_ret
    exact ⟨ret_bool (by simp; omega), rfl⟩
theorem cell_any (a : Int) (w : World) (v : Bool) (hv : decide (0 ≤ a ∧ a ≤ 63) = v) :
    Calls Try.prog 43 #[.int .i64 a] w fun e w' => e = .returned (.bool v) ∧ w = w' := by
  subst hv
  rcases (by omega : (0 ≤ a ∧ a < 64) ∨ (0 ≤ a ∧ ¬ a < 64) ∨ ¬ 0 ≤ a) with ⟨h1, h2⟩ | ⟨h1, h2⟩ | h1
  all_goals
    go_enter Try.func43, Try.ntmps43
    go_wp2
    go_ret
    exact ⟨ret_bool (by simp; omega), rfl⟩
theorem count_any (a : Int) (w : World) (v : Bool) (hv : decide (1 ≤ a ∧ a ≤ 24) = v) :
    Calls Try.prog 45 #[.int .i64 a] w fun e w' => e = .returned (.bool v) ∧ w = w' := by
  subst hv
  rcases (by omega : (1 ≤ a ∧ a ≤ 24) ∨ (1 ≤ a ∧ ¬ a ≤ 24) ∨ ¬ 1 ≤ a) with ⟨h1, h2⟩ | ⟨h1, h2⟩ | h1
  all_goals
    go_enter Try.func45, Try.ntmps45
    go_wp2
    go_ret
    exact ⟨ret_bool (by simp; omega), rfl⟩

theorem term_c (t : List Term.Op) (A : Option Addr) (n c : Nat) (w : World) (b : Bool) (hr : Rd w 2 A n (Term.ops t)) (hn : n ≤ 1000000) (hb : reckonsB t = b) :
    Calls Try.prog 44 #[.slice A n c] w (RetB w b) := by
  have HR := Lib.hid hr
  have HB := Lib.hid hb
  obtain ⟨ck, hck⟩ : ∃ x, Term.checkS t = x := ⟨_, rfl⟩
  have HC := Lib.hid hck
  obtain ⟨cz, hcz⟩ : ∃ x, Term.cellsS t = x := ⟨_, rfl⟩
  obtain ⟨cq, hcq⟩ : ∃ x, cz.length = x := ⟨_, rfl⟩
  have HZ := Lib.hid hcz
  have HQ := Lib.hid hcq
  have HF : Hid (b = (decide (ck = 0) && decide (cq = 0))) := Lib.hid (by rw [← hb]; unfold reckonsB; rw [hck, hcz, hcq])
  clear hr hb hcz hcq hck
  by_cases h0 : ck = 0
  · subst h0
    by_cases h1 : cq = 0
    all_goals
      have HF2 : Hid (b = decide (cq = 0)) := Lib.hid (by rw [HF.out]; rfl)
      have q1 : ((cq : Int) == 0) = decide (cq = 0) := by simp [h1]
      go_enter Try.func44, Try.ntmps44
      go_wp2_with fail
      refine (Term.check_c t _ _ _ _ 0 HR.out hn HC.out).mono ?_
      rintro e w1 ⟨rfl, b1⟩
      go_wp2_with fail
      refine ((Term.cells_c t _ _ _ _ cz cq (HR.out.below b1) hn HZ.out HQ.out).mono (fun _ _ => RetO.toS)).mono ?_
      rintro e w2 ⟨B, d, rfl, _, b2⟩
      go_wp2
      go_ret
      exact ⟨ret_bool (by rw [HF2.out]; simp [h1]), bl_trans b1 b2⟩
  · have q1 : (ck == 0) = false := beq_eq_false_iff_ne.2 h0
    have HF2 : Hid (b = false) := Lib.hid (by rw [HF.out, decide_eq_false h0]; rfl)
    clear h0
    go_enter Try.func44, Try.ntmps44
    go_wp2_with fail
    refine (Term.check_c t _ _ _ _ ck HR.out hn HC.out).mono ?_
    rintro e w1 ⟨rfl, b1⟩
    go_wp2
    go_ret
    exact ⟨ret_bool HF2.out.symm, b1⟩

set_option maxHeartbeats 8000000 in
set_option maxRecDepth 100000 in
theorem step_c (r : Raw) (w : World) (v : Bool) (hr : Rd w 2 r.T r.n (Term.ops r.s.t)) (hn : r.n ≤ 1000000) (hv : oneB r.s = v) :
    Calls Try.prog 34 #[.agg #[.int .i64 r.s.d, .int .i64 r.s.a, .int .i64 r.s.b, .slice r.T r.n r.c]] w (RetB w v) := by
  obtain ⟨⟨dd, aa, bb, t⟩, T, n, c⟩ := r
  simp only at hr hn
  have HL := Lib.hid (Term.ops_len hr)
  have HR := Lib.hid hr
  have HV := Lib.hid hv
  obtain ⟨hs, hhs⟩ : ∃ x, reckonsB t = x := ⟨_, rfl⟩
  have HH := Lib.hid hhs
  clear hr hv hhs
  obtain ⟨z0, hz0⟩ : ∃ x, (bb == 0) = x := ⟨_, rfl⟩
  obtain ⟨n0, hn0⟩ : ∃ x, ((n : Int) == 0) = x := ⟨_, rfl⟩
  obtain ⟨ra, hra⟩ : ∃ x, decide (0 ≤ aa ∧ aa ≤ 7) = x := ⟨_, rfl⟩
  obtain ⟨ca, hca⟩ : ∃ x, decide (0 ≤ aa ∧ aa ≤ 63) = x := ⟨_, rfl⟩
  obtain ⟨cb, hcb⟩ : ∃ x, decide (0 ≤ bb ∧ bb ≤ 63) = x := ⟨_, rfl⟩
  obtain ⟨ka, hka⟩ : ∃ x, decide (1 ≤ aa ∧ aa ≤ 24) = x := ⟨_, rfl⟩
  obtain ⟨kb, hkb⟩ : ∃ x, decide (1 ≤ bb ∧ bb ≤ 24) = x := ⟨_, rfl⟩
  have HZ0 := Lib.hid hz0
  have HN0 := Lib.hid hn0
  have HRA := Lib.hid hra
  have HCA := Lib.hid hca
  have HCB := Lib.hid hcb
  have HKA := Lib.hid hka
  have HKB := Lib.hid hkb
  clear hra hca hcb hka hkb
  rcases (by omega : dd = 1 ∨ dd = 2 ∨ dd = 3 ∨ dd = 4 ∨ dd = 5 ∨ dd = 6 ∨ dd = 7 ∨ (dd ≠ 1 ∧ dd ≠ 2 ∧ dd ≠ 3 ∧ dd ≠ 4 ∧ dd ≠ 5 ∧ dd ≠ 6 ∧ dd ≠ 7)) with rfl | rfl | rfl | rfl | rfl | rfl | rfl | ⟨e1, e2, e3, e4, e5, e6, e7⟩
  · cases ra
    all_goals cases cb
    all_goals cases n0
    all_goals
      go_enter Try.func34, Try.ntmps34
      go_wp2_with (first
        | (go_at_call 42; refine (reg_any _ _ _ HRA.out).mono ?_; rintro e w' ⟨rfl, rfl⟩)
        | (go_at_call 43; refine (cell_any _ _ _ HCB.out).mono ?_; rintro e w' ⟨rfl, rfl⟩))
      go_ret
      refine ⟨ret_bool ?_, bl_alloc (Below.refl _ _) _⟩
      have hl := HL.out
      have h1 := HRA.out
      have h2 := HCB.out
      have h3 := HN0.out
      rw [← HV.out]
      unfold oneB
      simp [hl] at h1 h2 h3 ⊢
      try omega
  · cases ra
    all_goals cases z0
    all_goals cases hs
    all_goals
      go_enter Try.func34, Try.ntmps34
      go_wp2_with (first
        | (go_at_call 42; refine (reg_any _ _ _ HRA.out).mono ?_; rintro e w' ⟨rfl, rfl⟩)
        | (go_at_call 44; refine (term_c t _ _ _ _ _ (HR.out.alloc _) hn HH.out).mono ?_; rintro e w' ⟨rfl, b1⟩))
      go_ret
      refine ⟨ret_bool ?_, by first | exact bl_trans (bl_alloc (Below.refl _ _) _) b1 | exact bl_alloc (Below.refl _ _) _⟩
      have hh := HH.out
      have h1 := HRA.out
      have h3 := HZ0.out
      rw [← HV.out]
      unfold oneB
      simp at h1 h3 ⊢
      simp [hh]
      try omega
  · cases ca
    all_goals cases z0
    all_goals cases hs
    all_goals
      go_enter Try.func34, Try.ntmps34
      go_wp2_with (first
        | (go_at_call 43; refine (cell_any _ _ _ HCA.out).mono ?_; rintro e w' ⟨rfl, rfl⟩)
        | (go_at_call 44; refine (term_c t _ _ _ _ _ (HR.out.alloc _) hn HH.out).mono ?_; rintro e w' ⟨rfl, b1⟩))
      go_ret
      refine ⟨ret_bool ?_, by first | exact bl_trans (bl_alloc (Below.refl _ _) _) b1 | exact bl_alloc (Below.refl _ _) _⟩
      have hh := HH.out
      have h1 := HCA.out
      have h3 := HZ0.out
      rw [← HV.out]
      unfold oneB
      simp at h1 h3 ⊢
      simp [hh]
      try omega
  · cases ka
    all_goals cases z0
    all_goals cases hs
    all_goals
      go_enter Try.func34, Try.ntmps34
      go_wp2_with (first
        | (go_at_call 45; refine (count_any _ _ _ HKA.out).mono ?_; rintro e w' ⟨rfl, rfl⟩)
        | (go_at_call 44; refine (term_c t _ _ _ _ _ (HR.out.alloc _) hn HH.out).mono ?_; rintro e w' ⟨rfl, b1⟩))
      go_ret
      refine ⟨ret_bool ?_, by first | exact bl_trans (bl_alloc (Below.refl _ _) _) b1 | exact bl_alloc (Below.refl _ _) _⟩
      have hh := HH.out
      have h1 := HKA.out
      have h3 := HZ0.out
      rw [← HV.out]
      unfold oneB
      simp at h1 h3 ⊢
      simp [hh]
      try omega
  · obtain ⟨a0, ha0⟩ : ∃ x, (aa == 0) = x := ⟨_, rfl⟩
    have HA0 := Lib.hid ha0
    cases a0
    all_goals cases z0
    all_goals cases n0
    all_goals
      go_enter Try.func34, Try.ntmps34
      go_wp2
      go_ret
      refine ⟨ret_bool ?_, bl_alloc (Below.refl _ _) _⟩
      have hl := HL.out
      have h1 := HA0.out
      have h2 := HZ0.out
      have h3 := HN0.out
      rw [← HV.out]
      unfold oneB
      simp [hl] at h1 h2 h3 ⊢
      try omega
  · rcases (by omega : (0 ≤ aa ∧ aa ≤ 255) ∨ (0 ≤ aa ∧ ¬ aa ≤ 255) ∨ ¬ 0 ≤ aa) with ⟨g1, g2⟩ | ⟨g1, g2⟩ | g1
    all_goals cases z0
    all_goals cases n0
    all_goals
      go_enter Try.func34, Try.ntmps34
      go_wp2
      go_ret
      refine ⟨ret_bool ?_, bl_alloc (Below.refl _ _) _⟩
      have hl := HL.out
      have h2 := HZ0.out
      have h3 := HN0.out
      rw [← HV.out]
      unfold oneB
      simp [hl] at h2 h3 ⊢
      try omega
  · cases ka
    all_goals cases kb
    all_goals cases n0
    all_goals
      go_enter Try.func34, Try.ntmps34
      go_wp2_with (first
        | (go_at_call 45; refine (count_any _ _ _ HKA.out).mono ?_; rintro e w' ⟨rfl, rfl⟩)
        | (go_at_call 45; refine (count_any _ _ _ HKB.out).mono ?_; rintro e w' ⟨rfl, rfl⟩))
      go_ret
      refine ⟨ret_bool ?_, bl_alloc (Below.refl _ _) _⟩
      have hl := HL.out
      have h1 := HKA.out
      have h2 := HKB.out
      have h3 := HN0.out
      rw [← HV.out]
      unfold oneB
      simp [hl] at h1 h2 h3 ⊢
      try omega
  · have HF : Hid (v = false) := Lib.hid (by rw [← HV.out]; unfold oneB; simp [e1, e2, e3, e4, e5, e6, e7])
    have g1 : (dd == 1) = false := beq_eq_false_iff_ne.2 e1
    have g2 : (dd == 2) = false := beq_eq_false_iff_ne.2 e2
    have g3 : (dd == 3) = false := beq_eq_false_iff_ne.2 e3
    have g4 : (dd == 4) = false := beq_eq_false_iff_ne.2 e4
    have g5 : (dd == 5) = false := beq_eq_false_iff_ne.2 e5
    have g6 : (dd == 6) = false := beq_eq_false_iff_ne.2 e6
    have g7 : (dd == 7) = false := beq_eq_false_iff_ne.2 e7
    clear e1 e2 e3 e4 e5 e6 e7
    go_enter Try.func34, Try.ntmps34
    go_wp2
    go_ret
    exact ⟨ret_bool HF.out.symm, bl_alloc (Below.refl _ _) _⟩
end Go.Proofs.Ytilfkohckmknkaa.Code
