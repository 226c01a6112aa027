/-
  THE WALK OF THE LAW HeapLive, over what the layer's functions are said to do.
-/
import Derived.Test.YtpejbfphejijeaaHeapLaw
namespace Go.Proofs.Ytpejbfphejijeaa.Heap
open Go.ChangeShapes Go.WideShapes Go.ChangeAt Go.RowKit Mem

set_option maxRecDepth 100000 in
theorem live_walk (S : Said) (A0 : Option Addr) (n0 c0 : Nat) (x0 : List Cell) (a1 : Int) (w : World)
    (m0 : n0 ≤ 9223372036854775807) (r0 : Rd w 2 A0 n0 (cs x0)) (h1 : -2147483648 ≤ a1 ∧ a1 ≤ 2147483647) :
    Calls Try.prog 7 #[.slice A0 n0 c0, .int .i32 a1] w (RetB w true) := by
  have HS := Lib.hid S
  have HL : Hid (x0.length = n0) := Lib.hid (by have := r0.1; rw [cs_len] at this; omega)
  clear S
  obtain ⟨p1, p2⟩ := h1
  have HV : Hid (vB a1 = true) := Lib.hid (by unfold vB; simp; omega)
  by_cases g : n0 ≤ 64
  · have d64 : decide ((64 : Int) < (n0 : Int)) = false := by simp; omega
    by_cases hr : rightB x0 = true
    · have HR := Lib.hid hr
      clear hr
      go_enter Try.func7, Try.ntmps7
      go_wp2_with fail
      refine (HS.out.right _ _ _ _ _ _ r0 (by omega) HR.out).mono ?_
      rintro e w1 ⟨rfl, b1⟩
      replace r0 := r0.below b1
      go_wp2_with fail
      generalize hm : (liveS x0).length = m
      have HM := Lib.hid hm
      clear hm
      refine (HS.out.live _ _ _ _ _ _ m r0 (by omega) rfl HM.out).mono ?_
      rintro e w2 ⟨B2, d2, rfl, s2, b2⟩
      replace r0 := r0.below b2
      replace b1 := bl_trans b1 b2
      clear b2
      have hmn : m ≤ n0 := by
        rw [← HM.out, live_all _ HR.out, ← HL.out]; exact cnt_le _ _
      go_wp2
      go_loopw [6, 29] (fun kk i wr => ∃ j : Nat, j ≤ n0 ∧ i = .int .i64 j ∧ kk = .int .i64 (cnt x0 j) ∧ Rd wr 2 A0 n0 (cs x0) ∧ Rd wr 1 B2 m (is (liveS x0)) ∧ Below w.heap.size w wr) (fun _ i _ => n0 - (intOf i).toNat)
      case atStart => exact ⟨0, Nat.zero_le _, rfl, rfl, r0, s2, b1⟩
      case round =>
        obtain ⟨j, hj, rfl, rfl, q0, q2, qb⟩ := hrel
        have hcj := cnt_le x0 j
        by_cases hlt : j < n0
        · obtain ⟨b, off, ⟨lv, vl⟩, rfl, hx, m1, m2⟩ := at_cell q0 j hlt
          have hla := live_at x0 j _ hx
          have hva := val_at x0 j _ hx
          simp only at hla hva
          have HCS := Lib.hid (cnt_succ x0 j)
          have HX := Lib.hid hx
          clear hx
          cases lv
          · have G : Hid (getS x0 (j : Int) = (0, 3)) := Lib.hid (by unfold getS; rw [HR.out, hla]; rfl)
            have P : Hid (putS x0 [⟨(j : Int), a1⟩] = (x0, 3)) := Lib.hid (by rw [put_one x0 HR.out _ _ HV.out, hla]; rfl)
            have C : Hid (cnt x0 (j + 1) = cnt x0 j) := Lib.hid (by rw [HCS.out, hla]; rfl)
            clear hla hva
            go_wp2_with fail
            refine (HS.out.get _ _ _ _ _ _ _ q0 (by omega) G.out).mono ?_
            rintro e w3 ⟨rfl, b3⟩
            replace q0 := q0.below b3
            replace q2 := q2.below b3
            replace qb := bl_trans qb b3
            clear b3 m1 m2
            go_wp2_with fail
            refine (HS.out.put x0 [⟨(j : Int), a1⟩] _ _ _ _ _ _ _ _ (q0.alloc _) (Rd.built w3 2 1 (ws [⟨(j : Int), a1⟩]) _ rfl) (by omega) (by omega) P.out).mono ?_
            rintro e w4 ⟨B4, d4, rfl, s4, b4⟩
            replace q0 := (q0.alloc _).below b4
            replace q2 := (q2.alloc _).below b4
            replace qb := bl_trans (bl_alloc qb _) b4
            clear b4 s4
            go_wp2
            go_roundw
            case rel => exact ⟨j + 1, by omega, by go_num, by rw [C.out], q0, q2, qb⟩
            case measure => simp [intOf]; omega
          · have G : Hid (getS x0 (j : Int) = (vl, 0)) := Lib.hid (by unfold getS; rw [HR.out, hla, hva]; rfl)
            have P : Hid (putS x0 [⟨(j : Int), a1⟩] = (setAt x0 j ⟨true, a1⟩, 0)) := Lib.hid (by rw [put_one x0 HR.out _ _ HV.out, hla]; rfl)
            have C : Hid (cnt x0 (j + 1) = cnt x0 j + 1) := Lib.hid (by rw [HCS.out, hla]; rfl)
            have N := Lib.hid (live_nth x0 HR.out j (by rw [HL.out]; exact hlt) hla)
            clear hla hva
            go_wp2_with fail
            refine (HS.out.get _ _ _ _ _ _ _ q0 (by omega) G.out).mono ?_
            rintro e w3 ⟨rfl, b3⟩
            replace q0 := q0.below b3
            replace q2 := q2.below b3
            replace qb := bl_trans qb b3
            clear b3 m1 m2
            go_wp2_with fail
            refine (HS.out.put x0 [⟨(j : Int), a1⟩] _ _ _ _ _ _ _ _ (q0.alloc _) (Rd.built w3 2 1 (ws [⟨(j : Int), a1⟩]) _ rfl) (by omega) (by omega) P.out).mono ?_
            rintro e w4 ⟨B4, d4, rfl, s4, b4⟩
            replace q0 := (q0.alloc _).below b4
            replace q2 := (q2.alloc _).below b4
            replace qb := bl_trans (bl_alloc qb _) b4
            clear b4 s4
            obtain ⟨b', off', x', hA, hx', m1, m2⟩ := at_cell q0 j hlt
            injection hA with hA
            injection hA with hA1 hA2
            subst hA1 hA2
            rw [HX.out] at hx'
            injection hx' with hx'
            subst hx'
            obtain ⟨hcm, lb, loff, rfl, lc⟩ := at_int q2 _ _ N.out
            generalize cnt x0 j = k at *
            go_wp2
            go_roundw
            case rel => exact ⟨j + 1, by omega, by go_num, by rw [C.out]; go_num, q0, q2, qb⟩
            case measure => simp [intOf]; omega
        · have hjn : j = n0 := by omega
          subst hjn
          have K : Hid (cnt x0 j = m) := Lib.hid (by rw [← HM.out, live_all _ HR.out, HL.out])
          rw [K.out]
          rcases alloc_cases x0 a1 HR.out HV.out with ⟨k, x, hk, hx, ha⟩ | ⟨hf, ha⟩
          · have hra : rightB (setAt x0 (k : Int) ⟨true, a1⟩) = true := set_right _ _ _ HR.out (by unfold cellB; simp [HV.out])
            have L2 : Hid ((liveS (setAt x0 (k : Int) ⟨true, a1⟩)).length = m + 1) := Lib.hid (by
              rw [live_all _ hra, cnt_count, live_more x0 a1 k x hk hx, ← cnt_count, ← live_all _ HR.out, HM.out])
            have AL := Lib.hid ha
            clear ha hk hx hra
            generalize setAt x0 (k : Int) ⟨true, a1⟩ = y at *
            go_wp2_with fail
            refine (HS.out.alloc _ _ _ _ _ _ _ q0 (by omega) AL.out).mono ?_
            rintro e w5 ⟨B5, d5, rfl, s5, b5⟩
            replace qb := bl_trans qb b5
            clear b5
            go_wp2_with fail
            refine (HS.out.live _ _ _ _ _ _ (m + 1) s5 (by omega) rfl L2.out).mono ?_
            rintro e w6 ⟨B6, d6, rfl, s6, b6⟩
            replace qb := bl_trans qb b6
            clear b6
            go_wp2_with fail
            refine (awake_any HS.out _).mono ?_
            rintro e w7 ⟨rfl, b7⟩
            replace qb := bl_trans qb b7
            clear b7
            go_wp2_with fail
            go_ret
            exact ⟨rfl, qb⟩
          · have L2 : Hid (m = j) := Lib.hid (by rw [← K.out, ← HL.out, cnt_count, full_all x0 hf])
            have AL := Lib.hid ha
            clear ha hf
            go_wp2_with fail
            refine (HS.out.alloc _ _ _ _ _ _ _ q0 (by omega) AL.out).mono ?_
            rintro e w5 ⟨B5, d5, rfl, s5, b5⟩
            replace qb := bl_trans qb b5
            clear b5
            go_wp2_with fail
            refine (HS.out.live _ _ _ _ _ _ m s5 (by omega) rfl HM.out).mono ?_
            rintro e w6 ⟨B6, d6, rfl, s6, b6⟩
            replace qb := bl_trans qb b6
            clear b6
            obtain rfl : m = j := L2.out
            go_wp2_with fail
            refine (awake_any HS.out _).mono ?_
            rintro e w7 ⟨rfl, b7⟩
            replace qb := bl_trans qb b7
            clear b7
            go_wp2_with fail
            go_ret
            exact ⟨rfl, qb⟩
    · have hr' : rightB x0 = false := by simpa using hr
      have HR := Lib.hid hr'
      clear hr hr'
      go_enter Try.func7, Try.ntmps7
      go_wp2_with fail
      refine (HS.out.right _ _ _ _ _ _ r0 (by omega) HR.out).mono ?_
      rintro e w1 ⟨rfl, b1⟩
      go_wp2_with (go_at_call 9; refine (awake_any HS.out _).mono ?_; rintro e w2 ⟨rfl, b2⟩)
      go_ret
      exact ⟨rfl, bl_trans b1 (by assumption)⟩
  · go_enter Try.func7, Try.ntmps7
    go_wp2_with (go_at_call 9; refine (awake_any HS.out _).mono ?_; rintro e w2 ⟨rfl, b2⟩)
    go_ret
    exact ⟨rfl, by assumption⟩
end Go.Proofs.Ytpejbfphejijeaa.Heap
