/-
  THE WALK OF THE LAW HeapAgain, over what the layer's functions are said to do.
-/
import Derived.Test.YtpejbfphejijeaaHeapLaw
import Derived.Test.YtpejbfphejijeaaHeapMore
namespace Go.Proofs.Ytpejbfphejijeaa.Heap
open Go.ChangeShapes Go.WideShapes Go.ChangeAt Go.RowKit Mem

theorem again_walk (S : Said) (A0 : Option Addr) (n0 c0 : Nat) (x0 : List Cell) (a1 a2 : Int) (w : World)
    (m0 : n0 ≤ 9223372036854775807) (r0 : Rd w 2 A0 n0 (cs x0)) (h2 : -2147483648 ≤ a2 ∧ a2 ≤ 2147483647) :
    Calls Try.prog 5 #[.slice A0 n0 c0, .int .i64 a1, .int .i32 a2] w (RetB w true) := by
  have HS := Lib.hid S
  have HL : Hid (x0.length = n0) := Lib.hid (by have := r0.1; rw [cs_len] at this; omega)
  clear S
  obtain ⟨p1, p2⟩ := h2
  have HV : Hid (vB a2 = true) := Lib.hid (by unfold vB; simp; omega)
  by_cases g : n0 ≤ 64
  · rcases free_cases x0 a1 with ⟨f1, f2⟩ | ⟨hr, hl, hf⟩
    · generalize ef : freeS x0 a1 = rf
      rw [ef] at f1 f2
      obtain ⟨hf, ff⟩ := rf
      simp only at f1 f2
      subst f1
      have EF := Lib.hid ef
      have t1 : (ff != 0) = true := by simpa using f2
      clear ef f2
      go_enter Try.func5, Try.ntmps5
      go_wp2_with fail
      refine (HS.out.free _ _ _ _ _ _ _ r0 (by omega) EF.out).mono ?_
      rintro e w1 ⟨B1, d1, rfl, s1, b1⟩
      replace r0 := r0.below b1
      go_wp2_with fail
      refine (same_b _ _ _ _ _ _ _ _ _ true s1 r0 (by omega) (by omega) (by simp)).mono ?_
      rintro e w2 ⟨rfl, b2⟩
      replace b1 := bl_trans b1 b2
      go_wp2_with fail
      refine (awake_any HS.out _).mono ?_
      rintro e w3 ⟨rfl, b3⟩
      replace b1 := bl_trans b1 b3
      go_wp2_with fail
      go_ret
      exact ⟨rfl, b1⟩
    · obtain ⟨c, k, rfl, hc, hkc, hg1, hal, hg2, hsame, hlow⟩ := again x0 a1 a2 hr hl HV.out
      have hc' : c < n0 := by rw [← HL.out]; exact hc
      have EF := Lib.hid hf
      have G1 := Lib.hid hg1
      have AL := Lib.hid hal
      have G2 := Lib.hid hg2
      have SM := Lib.hid hsame
      have LW := Lib.hid hlow
      clear hf hg1 hal hg2 hsame hlow hr hl hc
      have dck : decide (c < k) = false := by simp; omega
      have d64 : decide ((64 : Int) < (n0 : Int)) = false := by simp; omega
      generalize setAt (setAt x0 (c : Int) ⟨false, 0⟩) k ⟨true, a2⟩ = y at *
      generalize setAt x0 (c : Int) ⟨false, 0⟩ = z at *
      go_enter Try.func5, Try.ntmps5
      go_wp2_with fail
      refine (HS.out.free _ _ _ _ _ _ _ r0 (by omega) EF.out).mono ?_
      rintro e w1 ⟨B1, d1, rfl, s1, b1⟩
      replace r0 := r0.below b1
      go_wp2_with fail
      refine (HS.out.get _ _ _ _ _ _ _ s1 (by omega) G1.out).mono ?_
      rintro e w2 ⟨rfl, b2⟩
      replace r0 := r0.below b2
      replace s1 := s1.below b2
      replace b1 := bl_trans b1 b2
      clear b2
      go_wp2_with fail
      refine (HS.out.alloc _ _ _ _ _ _ _ s1 (by omega) AL.out).mono ?_
      rintro e w3 ⟨B3, d3, rfl, s3, b2⟩
      replace r0 := r0.below b2
      replace b1 := bl_trans b1 b2
      clear b2 s1
      go_wp2
      go_loopw [14, 69] (fun _ i wr => ∃ j : Nat, j ≤ n0 ∧ i = .int .i64 j ∧ Rd wr 2 A0 n0 (cs x0) ∧ Rd wr 2 B3 n0 (cs y) ∧ Below w.heap.size w wr) (fun _ i _ => n0 - (intOf i).toNat)
      case atStart => exact ⟨0, Nat.zero_le _, rfl, r0, s3, b1⟩
      case round =>
        obtain ⟨j, hj, rfl, q0, q3, qb⟩ := hrel
        by_cases hlt : j < n0
        · obtain ⟨b, off, ⟨lv, vl⟩, rfl, hx, m1, m2⟩ := at_cell q0 j hlt
          obtain ⟨b', off', ⟨lv', vl'⟩, rfl, hx', m1', m2'⟩ := at_cell q3 j hlt
          by_cases e1 : j = c
          · subst e1
            have t1 : decide (j < k) = false := by simp; omega
            clear hx hx'
            go_wp2
            go_quiet (fail)
            go_wp2
            go_roundw
            case rel => exact ⟨j + 1, by omega, by go_num, q0, q3, bl_drewN qb _⟩
            case measure => simp [intOf]; omega
          · by_cases e2 : j = k
            · subst e2
              have t0 : ((j : Int) != (c : Int)) = true := by simp; omega
              clear hx hx'
              go_wp2
              go_quiet (fail)
              go_wp2
              go_roundw
              case rel => exact ⟨j + 1, by omega, by go_num, q0, q3, bl_drewN qb _⟩
              case measure => simp [intOf]; omega
            · have hx2 := SM.out j _ e1 e2 hx
              rw [hx'] at hx2
              injection hx2 with hx2
              injection hx2 with hl1 hl2
              subst hl1 hl2
              have t0 : ((j : Int) != (c : Int)) = true := by simp; omega
              have t1 : ((j : Int) != (k : Int)) = true := by simp; omega
              by_cases e3 : j < k
              · have hlv := LW.out j _ e3 hx
                simp only at hlv
                subst hlv
                clear hx hx' e1 e2
                go_wp2
                go_quiet (fail)
                go_wp2
                go_roundw
                case rel => exact ⟨j + 1, by omega, by go_num, q0, q3, bl_drewN qb _⟩
                case measure => simp [intOf]; omega
              · have t2 : decide (j < k) = false := by simp; omega
                clear hx hx' e1 e2
                go_wp2
                go_quiet (fail)
                go_wp2
                go_roundw
                case rel => exact ⟨j + 1, by omega, by go_num, q0, q3, bl_drewN qb _⟩
                case measure => simp [intOf]; omega
        · have hjn : j = n0 := by omega
          subst hjn
          go_wp2_with fail
          refine (HS.out.get _ _ _ _ _ _ _ q3 (by omega) G2.out).mono ?_
          rintro e w5 ⟨rfl, b5⟩
          replace qb := bl_trans qb b5
          go_wp2_with fail
          refine (awake_any HS.out _).mono ?_
          rintro e w6 ⟨rfl, b6⟩
          replace qb := bl_trans qb b6
          go_wp2_with fail
          go_ret
          exact ⟨rfl, qb⟩
  · go_enter Try.func5, Try.ntmps5
    go_wp2_with (go_at_call 9; refine (awake_any HS.out _).mono ?_; rintro e w2 ⟨rfl, b2⟩)
    go_ret
    exact ⟨rfl, by assumption⟩
end Go.Proofs.Ytpejbfphejijeaa.Heap
