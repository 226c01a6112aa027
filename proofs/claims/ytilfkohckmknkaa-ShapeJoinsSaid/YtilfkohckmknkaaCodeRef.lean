/-
  WHAT THE DOCUMENT'S ANSWER FOR LAYER 8 RETURNS: reckons, one.
-/
import Derived.Test.YtilfkohckmknkaaCodePlain
import Derived.Test.YtilfkohckmknkaaTermRef5
namespace Go.Proofs.Ytilfkohckmknkaa.Code
open Go.ChangeShapes Go.WideShapes Go.ChangeAt Go.RowKit Mem

theorem refreckons (t : List Term.Op) (A : Option Addr) (n c : Nat) (w : World) (b : Bool) (hr : Rd w 2 A n (Term.ops t)) (hn : n ≤ 1000000) (hb : reckonsB t = b) :
    Calls Try.prog 37 #[.slice A n c] w (RetB w b) := by
  have HR := Lib.hid hr
  have HB := Lib.hid hb
  obtain ⟨ck, hck⟩ : ∃ x, Term.checkS t = x := ⟨_, rfl⟩
  have HC := Lib.hid hck
  obtain ⟨cz, hcz⟩ : ∃ x, Term.cellsS t = x := ⟨_, rfl⟩
  obtain ⟨cq, hcq⟩ : ∃ x, cz.length = x := ⟨_, rfl⟩
  have HZ := Lib.hid hcz
  have HQ := Lib.hid hcq
  have HF : Hid (b = (decide (ck = 0) && decide (cq = 0))) := Lib.hid (by rw [← hb]; unfold reckonsB; rw [hck, hcz, hcq])
  clear hr hb hcz hcq hck
  by_cases h0 : ck = 0
  · subst h0
    by_cases h1 : cq = 0
    all_goals
      have HF2 : Hid (b = decide (cq = 0)) := Lib.hid (by rw [HF.out]; rfl)
      have q1 : ((cq : Int) == 0) = decide (cq = 0) := by simp [h1]
      go_enter Try.func37, Try.ntmps37
      go_wp2_with fail
      refine (Term.refcheck t _ _ _ _ 0 HR.out hn HC.out).mono ?_
      rintro e w1 ⟨rfl, b1⟩
      go_wp2_with fail
      refine (Term.refcells t _ _ _ _ cz cq (HR.out.below b1) hn HZ.out HQ.out).mono ?_
      rintro e w2 ⟨B, d, rfl, _, b2⟩
      go_wp2
      go_ret
      exact ⟨ret_bool (by rw [HF2.out]; simp [h1]), bl_trans b1 b2⟩
  · have q1 : (ck == 0) = false := beq_eq_false_iff_ne.2 h0
    have HF2 : Hid (b = false) := Lib.hid (by rw [HF.out, decide_eq_false h0]; rfl)
    clear h0
    go_enter Try.func37, Try.ntmps37
    go_wp2_with fail
    refine (Term.refcheck t _ _ _ _ ck HR.out hn HC.out).mono ?_
    rintro e w1 ⟨rfl, b1⟩
    go_wp2
    go_ret
    exact ⟨ret_bool HF2.out.symm, b1⟩

set_option maxHeartbeats 1000000 in
set_option maxRecDepth 100000 in
theorem refone (r : Raw) (w : World) (v : Bool) (hr : Rd w 2 r.T r.n (Term.ops r.s.t)) (hn : r.n ≤ 1000000) (hv : oneB r.s = v) :
    Calls Try.prog 24 #[.agg #[.int .i64 r.s.d, .int .i64 r.s.a, .int .i64 r.s.b, .slice r.T r.n r.c]] w (RetB w v) := by
  obtain ⟨⟨dd, aa, bb, t⟩, T, n, c⟩ := r
  simp only at hr hn
  have HL := Lib.hid (Term.ops_len hr)
  have HR := Lib.hid hr
  have HV := Lib.hid hv
  obtain ⟨hs, hhs⟩ : ∃ x, reckonsB t = x := ⟨_, rfl⟩
  have HH := Lib.hid hhs
  have HK : Hid (Blk (w.alloc (.cells #[.int .i64 dd, .int .i64 aa, .int .i64 bb, .slice T n c] 58)) w.heap.size 58 #[.int .i64 dd, .int .i64 aa, .int .i64 bb, .slice T n c]) := Lib.hid (Blk.new _ _ _)
  clear hr hv hhs
  rcases (by omega : dd = 1 ∨ dd = 2 ∨ dd = 3 ∨ dd = 4 ∨ dd = 5 ∨ dd = 6 ∨ dd = 7 ∨ (dd ≠ 1 ∧ dd ≠ 2 ∧ dd ≠ 3 ∧ dd ≠ 4 ∧ dd ≠ 5 ∧ dd ≠ 6 ∧ dd ≠ 7)) with rfl | rfl | rfl | rfl | rfl | rfl | rfl | ⟨e1, e2, e3, e4, e5, e6, e7⟩
  rotate_right
  · have HF : Hid (v = false) := Lib.hid (by rw [← HV.out]; unfold oneB; simp [e1, e2, e3, e4, e5, e6, e7])
    have g1 : (dd == 1) = false := beq_eq_false_iff_ne.2 e1
    have g2 : (dd == 2) = false := beq_eq_false_iff_ne.2 e2
    have g3 : (dd == 3) = false := beq_eq_false_iff_ne.2 e3
    have g4 : (dd == 4) = false := beq_eq_false_iff_ne.2 e4
    have g5 : (dd == 5) = false := beq_eq_false_iff_ne.2 e5
    have g6 : (dd == 6) = false := beq_eq_false_iff_ne.2 e6
    have g7 : (dd == 7) = false := beq_eq_false_iff_ne.2 e7
    clear e1 e2 e3 e4 e5 e6 e7
    go_enter Try.func24, Try.ntmps24
    go_wp2_with fail
    refine (refreckons t _ _ _ _ _ (HR.out.alloc _) hn HH.out).mono ?_
    rintro e w1 ⟨rfl, b1⟩
    have HB := Lib.hid (bl_trans (bl_alloc (Below.refl _ _) _) b1)
    have k1 := HK.out.below b1
    have c0 := k1.cell 0 _ rfl
    have c1 := k1.cell 1 _ rfl
    have c2 := k1.cell 2 _ rfl
    have c3 := k1.cell 3 _ rfl
    clear k1 b1
    go_wp2
    all_goals
      go_ret
      exact ⟨ret_bool HF.out.symm, HB.out⟩
  all_goals cases hs
  all_goals
    go_enter Try.func24, Try.ntmps24
    go_wp2_with fail
    refine (refreckons t _ _ _ _ _ (HR.out.alloc _) hn HH.out).mono ?_
    rintro e w1 ⟨rfl, b1⟩
    have HB := Lib.hid (bl_trans (bl_alloc (Below.refl _ _) _) b1)
    have k1 := HK.out.below b1
    have c0 := k1.cell 0 _ rfl
    have c1 := k1.cell 1 _ rfl
    have c2 := k1.cell 2 _ rfl
    have c3 := k1.cell 3 _ rfl
    clear k1 b1
    go_wp2
    all_goals
      go_ret
      refine ⟨ret_bool ?_, HB.out⟩
      have hl := HL.out
      have hh := HH.out
      rw [← HV.out]
      unfold oneB
      rw [Bool.eq_iff_iff]
      simp [hl, hh]
      try omega
end Go.Proofs.Ytilfkohckmknkaa.Code
