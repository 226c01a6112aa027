/-
  THE WALK OF THE LAW HeapPuts, over what the layer's functions are said to do.
-/
import Derived.Test.YtpejbfphejijeaaHeapLaw
namespace Go.Proofs.Ytpejbfphejijeaa.Heap
open Go.ChangeShapes Go.WideShapes Go.ChangeAt Go.RowKit Mem

theorem cs_one (l : List Cell) : ∀ u ∈ cs l, u.oneCell' = true := by
  intro u hu
  unfold cs at hu
  obtain ⟨x, _, hx⟩ := List.mem_flatMap.1 hu
  exact one_cons rfl (one_cons rfl one_nil) u hx

set_option maxRecDepth 100000 in
theorem puts_walk (S : Said) (A0 : Option Addr) (n0 c0 : Nat) (x0 : List Cell) (A1 : Option Addr) (n1 c1 : Nat) (x1 : List Write) (w : World)
    (m0 : n0 ≤ 9223372036854775807) (r0 : Rd w 2 A0 n0 (cs x0)) (m1 : n1 ≤ 9223372036854775807) (r1 : Rd w 2 A1 n1 (ws x1)) :
    Calls Try.prog 6 #[.slice A0 n0 c0, .slice A1 n1 c1] w (RetB w true) := by
  have HS := Lib.hid S
  have HL : Hid (x0.length = n0) := Lib.hid (by have := r0.1; rw [cs_len] at this; omega)
  have HL1 : Hid (x1.length = n1) := Lib.hid (by have := r1.1; rw [ws_len] at this; omega)
  clear S
  by_cases g : n0 ≤ 64 ∧ n1 ≤ 60
  · obtain ⟨g0, g1⟩ := g
    have d64 : decide ((64 : Int) < (n0 : Int)) = false := by simp; omega
    have d60 : decide ((60 : Int) < (n1 : Int)) = false := by simp; omega
    by_cases hr : rightB x0 = true
    · have HR := Lib.hid hr
      rcases put_cases x0 x1 hr with ⟨hv, hl, hp⟩ | ⟨e, he, hp, _⟩
      · have HV := Lib.hid hv
        have HLv := Lib.hid hl
        have HP := Lib.hid hp
        have HRP := Lib.hid (putAll_right x0 x1 hr hv)
        clear hr hv hl hp
        go_enter Try.func6, Try.ntmps6
        go_wp2_with fail
        refine (HS.out.right _ _ _ _ _ _ r0 (by omega) HR.out).mono ?_
        rintro e' w1 ⟨rfl, b1⟩
        replace r0 := r0.below b1
        replace r1 := r1.below b1
        go_wp2_with (at_builtin; refine append_rd rfl (.tmp 26) (.tmp 27) 22 rfl tCell w1 _ _ _ rfl (Own.empty w1 _ _) A0 n0 c0 (cs x0) rfl (r0.alloc _) (cs_one x0) (by omega) (by omega) ?_; intro v1 w2 o1 hg1)
        obtain ⟨B1, d1, rfl, q1⟩ := o1.form
        replace r0 := r0.below o1.2
        replace r1 := r1.below o1.2
        replace b1 := bl_trans b1 o1.2
        have q1' : Rd w2 2 B1 n0 (cs x0) := by rw [Nat.zero_add] at q1; exact q1
        clear q1 o1 hg1
        refine (HS.out.put _ _ _ _ _ _ _ _ _ _ r0 r1 (by omega) (by omega) HP.out).mono ?_
        rintro e' w3 ⟨B3, d3, rfl, s3, b3⟩
        replace r0 := r0.below b3
        replace r1 := r1.below b3
        replace q1' := q1'.below b3
        replace b1 := bl_trans b1 b3
        clear b3
        go_wp2_with fail
        refine (same_b _ _ _ _ _ _ _ _ _ true r0 q1' (by omega) (by omega) (by simp)).mono ?_
        rintro e' w4 ⟨rfl, b4⟩
        replace r0 := r0.below b4
        replace r1 := r1.below b4
        replace s3 := s3.below b4
        replace b1 := bl_trans b1 b4
        clear b4 q1'
        go_wp2
        go_loopw [58] (fun i wr => ∃ j : Nat, j ≤ n0 ∧ i = .int .i64 j ∧ Rd wr 2 A0 n0 (cs x0) ∧ Rd wr 2 A1 n1 (ws x1) ∧ Rd wr 2 B3 n0 (cs (putAll x0 x1)) ∧ Below w.heap.size w wr) (fun i _ => n0 - (intOf i).toNat)
        case atStart => exact ⟨0, Nat.zero_le _, rfl, r0, r1, s3, b1⟩
        case round =>
          obtain ⟨j, hj, rfl, q0, q1, q3, qb⟩ := hrel
          by_cases hlt : j < n0
          · obtain ⟨b, off, ⟨lv, vl⟩, rfl, hx, k1, k2⟩ := at_cell q0 j hlt
            have HPA := Lib.hid (putAll_at x0 x1 HLv.out j _ hx)
            clear hx
            go_wp2
            go_loopw [67] (fun i wq => ∃ t : Nat, t ≤ n1 ∧ i = .int .i64 t ∧ Blk wq wr.heap.size 48 #[.bool lv, .int .i64 (lastV j (x1.take t) vl)] ∧ Below wr.heap.size wr wq) (fun i _ => n1 - (intOf i).toNat)
            case atStart => exact ⟨0, Nat.zero_le _, rfl, Blk.new _ _ _, bl_alloc (Below.refl _ _) _⟩
            case round =>
              obtain ⟨t, ht, rfl, qB, qw⟩ := hrel
              rename_i wq _
              have hgl := qB.lt
              have f0 := qB.cell 0 _ rfl
              have f1 := qB.cell 1 _ rfl
              have fz := qB.frozen 1
              by_cases hlt2 : t < n1
              · obtain ⟨b', off', ⟨cl, v2⟩, rfl, hx2, k3, k4⟩ := at_write (q1.below qw) t hlt2
                have HT := Lib.hid (lastV_take j x1 vl t _ hx2)
                clear hx2
                by_cases hc : cl = (j : Int)
                · subst hc
                  have qB' := (qB.set_ 1 (.int .i64 v2)).alloc (.cells #[.int .i64 (j : Int), .int .i64 v2] 51)
                  have qw' := qw.setCell (p := ⟨_, 1, none⟩) (Nat.le_refl _) (.int .i64 v2)
                  go_wp2
                  go_roundw
                  case rel => exact ⟨t + 1, by omega, by go_num, by rw [HT.out, if_pos rfl]; exact qB', qw'.alloc qw'.size _⟩
                  case measure => simp [intOf]; omega
                · have hc' : (cl == (j : Int)) = false := beq_eq_false_iff_ne.2 hc
                  have HN := Lib.hid hc
                  clear hc
                  go_wp2
                  go_roundw
                  case rel => exact ⟨t + 1, by omega, by go_num, by rw [HT.out, if_neg HN.out]; exact qB.alloc _, qw.alloc qw.size _⟩
                  case measure => simp [intOf]; omega
              · have htn : t = n1 := by omega
                subst htn
                obtain ⟨b', off', x', rfl, hx', k3, k4⟩ := at_cell (q3.below qw) j hlt
                have e0 := HPA.out
                rw [hx'] at e0
                injection e0 with e0
                subst e0
                simp only at k3 k4
                rw [List.take_of_length_le (by rw [HL1.out]; exact Nat.le_refl _)] at f1
                clear hx'
                go_wp2
                go_quiet (fail)
                go_wp2
                go_roundw
                case rel => exact ⟨j + 1, by omega, by go_num, q0.below (bl_drewN qw _), q1.below (bl_drewN qw _), q3.below (bl_drewN qw _), bl_trans qb (bl_drewN qw _)⟩
                case measure => simp [intOf]; omega
          · have hjn : j = n0 := by omega
            subst hjn
            go_wp2_with fail
            refine (HS.out.right _ _ _ _ _ _ q3 (by omega) HRP.out).mono ?_
            rintro e' w8 ⟨rfl, b8⟩
            replace qb := bl_trans qb b8
            go_wp2_with fail
            refine (awake_any HS.out _).mono ?_
            rintro e' w9 ⟨rfl, b9⟩
            replace qb := bl_trans qb b9
            go_wp2_with fail
            go_ret
            exact ⟨rfl, qb⟩
      · have HP := Lib.hid hp
        have HRP := HR
        have he1 : (e == 0) = false := beq_eq_false_iff_ne.2 he
        have he2 : (e != 0) = true := by simpa using he
        clear hr hp he
        go_enter Try.func6, Try.ntmps6
        go_wp2_with fail
        refine (HS.out.right _ _ _ _ _ _ r0 (by omega) HR.out).mono ?_
        rintro e' w1 ⟨rfl, b1⟩
        replace r0 := r0.below b1
        replace r1 := r1.below b1
        go_wp2_with (at_builtin; refine append_rd rfl (.tmp 26) (.tmp 27) 22 rfl tCell w1 _ _ _ rfl (Own.empty w1 _ _) A0 n0 c0 (cs x0) rfl (r0.alloc _) (cs_one x0) (by omega) (by omega) ?_; intro v1 w2 o1 hg1)
        obtain ⟨B1, d1, rfl, q1⟩ := o1.form
        replace r0 := r0.below o1.2
        replace r1 := r1.below o1.2
        replace b1 := bl_trans b1 o1.2
        have q1' : Rd w2 2 B1 n0 (cs x0) := by rw [Nat.zero_add] at q1; exact q1
        clear q1 o1 hg1
        refine (HS.out.put _ _ _ _ _ _ _ _ _ _ r0 r1 (by omega) (by omega) HP.out).mono ?_
        rintro e' w3 ⟨B3, d3, rfl, s3, b3⟩
        replace r0 := r0.below b3
        replace r1 := r1.below b3
        replace q1' := q1'.below b3
        replace b1 := bl_trans b1 b3
        clear b3
        go_wp2_with fail
        refine (same_b _ _ _ _ _ _ _ _ _ true r0 q1' (by omega) (by omega) (by simp)).mono ?_
        rintro e' w4 ⟨rfl, b4⟩
        replace r0 := r0.below b4
        replace r1 := r1.below b4
        replace s3 := s3.below b4
        replace b1 := bl_trans b1 b4
        clear b4 q1'
        go_wp2_with fail
        refine (same_b _ _ _ _ _ _ _ _ _ true s3 r0 (by omega) (by omega) (by simp)).mono ?_
        rintro e' w5 ⟨rfl, b4⟩
        replace r0 := r0.below b4
        replace r1 := r1.below b4
        replace s3 := s3.below b4
        replace b1 := bl_trans b1 b4
        clear b4
        go_wp2
        go_loopw [58] (fun i wr => ∃ j : Nat, j ≤ n0 ∧ i = .int .i64 j ∧ Rd wr 2 A0 n0 (cs x0) ∧ Rd wr 2 A1 n1 (ws x1) ∧ Rd wr 2 B3 n0 (cs x0) ∧ Below w.heap.size w wr) (fun i _ => n0 - (intOf i).toNat)
        case atStart => exact ⟨0, Nat.zero_le _, rfl, r0, r1, s3, b1⟩
        case round =>
          obtain ⟨j, hj, rfl, q0, q1, q3, qb⟩ := hrel
          by_cases hlt : j < n0
          · obtain ⟨b, off, ⟨lv, vl⟩, rfl, hx, k1, k2⟩ := at_cell q0 j hlt
            have HPA := Lib.hid hx
            clear hx
            go_wp2
            go_loopw [67] (fun i wq => ∃ t : Nat, t ≤ n1 ∧ i = .int .i64 t ∧ Blk wq wr.heap.size 48 #[.bool lv, .int .i64 vl] ∧ Below wr.heap.size wr wq) (fun i _ => n1 - (intOf i).toNat)
            case atStart => exact ⟨0, Nat.zero_le _, rfl, Blk.new _ _ _, bl_alloc (Below.refl _ _) _⟩
            case round =>
              obtain ⟨t, ht, rfl, qB, qw⟩ := hrel
              rename_i wq _
              have hgl := qB.lt
              have f0 := qB.cell 0 _ rfl
              have f1 := qB.cell 1 _ rfl
              have fz := qB.frozen 1
              by_cases hlt2 : t < n1
              · obtain ⟨b', off', ⟨cl, v2⟩, rfl, hx2, k3, k4⟩ := at_write (q1.below qw) t hlt2
                clear hx2
                by_cases hc : cl = (j : Int)
                · subst hc
                  go_wp2
                  go_roundw
                  case rel => exact ⟨t + 1, by omega, by go_num, qB.alloc _, qw.alloc qw.size _⟩
                  case measure => simp [intOf]; omega
                · have hc' : (cl == (j : Int)) = false := beq_eq_false_iff_ne.2 hc
                  clear hc
                  go_wp2
                  go_roundw
                  case rel => exact ⟨t + 1, by omega, by go_num, qB.alloc _, qw.alloc qw.size _⟩
                  case measure => simp [intOf]; omega
              · have htn : t = n1 := by omega
                subst htn
                obtain ⟨b', off', x', rfl, hx', k3, k4⟩ := at_cell (q3.below qw) j hlt
                have e0 := HPA.out
                rw [hx'] at e0
                injection e0 with e0
                subst e0
                simp only at k3 k4
                clear hx'
                go_wp2
                go_quiet (fail)
                go_wp2
                go_roundw
                case rel => exact ⟨j + 1, by omega, by go_num, q0.below (bl_drewN qw _), q1.below (bl_drewN qw _), q3.below (bl_drewN qw _), bl_trans qb (bl_drewN qw _)⟩
                case measure => simp [intOf]; omega
          · have hjn : j = n0 := by omega
            subst hjn
            go_wp2_with fail
            refine (HS.out.right _ _ _ _ _ _ q3 (by omega) HRP.out).mono ?_
            rintro e' w8 ⟨rfl, b8⟩
            replace qb := bl_trans qb b8
            go_wp2_with fail
            refine (awake_any HS.out _).mono ?_
            rintro e' w9 ⟨rfl, b9⟩
            replace qb := bl_trans qb b9
            go_wp2_with fail
            go_ret
            exact ⟨rfl, qb⟩
    · have hr' : rightB x0 = false := by simpa using hr
      have HR := Lib.hid hr'
      clear hr hr'
      go_enter Try.func6, Try.ntmps6
      go_wp2_with fail
      refine (HS.out.right _ _ _ _ _ _ r0 (by omega) HR.out).mono ?_
      rintro e w1 ⟨rfl, b1⟩
      go_wp2_with (go_at_call 9; refine (awake_any HS.out _).mono ?_; rintro e w2 ⟨rfl, b2⟩)
      go_ret
      exact ⟨rfl, bl_trans b1 (by assumption)⟩
  · have g' : 64 < n0 ∨ 60 < n1 := by omega
    clear g
    go_enter Try.func6, Try.ntmps6
    go_wp2_with (go_at_call 9; refine (awake_any HS.out _).mono ?_; rintro e w2 ⟨rfl, b2⟩)
    all_goals
      go_ret
      exact ⟨rfl, by assumption⟩
end Go.Proofs.Ytpejbfphejijeaa.Heap
