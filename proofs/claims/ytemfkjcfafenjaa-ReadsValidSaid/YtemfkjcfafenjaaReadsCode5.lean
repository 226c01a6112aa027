/-
  WHAT EACH FUNCTION OF THE LAYER reads RETURNS, AS IT IS WRITTEN: Valid; and all of them together.
-/
import Derived.Test.YtemfkjcfafenjaaReadsCode4
namespace Go.Proofs.Ytemfkjcfafenjaa.Reads
open Go.ChangeShapes Go.WideShapes Go.ChangeAt Go.RowKit Mem

theorem who_c (n : Int) (w : World) :
    Calls Try.prog 33 #[.int .i64 n] w fun e w' => e = .returned (.bool (Stripe.whoB n)) ∧ w = w' := by
  by_cases h1 : 1 ≤ n
  all_goals by_cases h2 : n ≤ 8
  all_goals
    go_enter Try.func33, Try.ntmps33
    go_wp2
    go_ret
    exact ⟨ret_bool (by unfold Stripe.whoB; first | (simp; omega) | (symm; simp; omega) | (rw [Bool.eq_iff_iff]; simp; omega)), rfl⟩

theorem isas_any (rv ro cl vr vl who : Int) (w : World) (b : Bool) (hb : (rv == vr && (ro == 0 || ro == who)) = b) :
    Calls Try.prog 34 #[.agg #[.int .i64 rv, .int .i64 ro], .agg #[.int .i64 cl, .int .i64 vr, .int .i64 vl], .int .i64 who] w (RetBG w b) := by
  have HB := Lib.hid hb
  clear hb
  cases h1 : (rv == vr)
  all_goals cases h2 : (ro == 0)
  all_goals cases h3 : (ro == who)
  all_goals
    rw [h1, h2, h3] at HB
    go_enter Try.func34, Try.ntmps34
    go_wp2
    go_ret
    exact ⟨ret_bool (by rw [← HB.out]; rfl), ((Grew.refl w).alloc _).alloc _⟩

/-- The records of one cell: one place. -/
theorem of_one (t : List Stripe.Rec) (n : Nat) (hl : t.length = n) (hr : Stripe.rightB t = true) (c : Int) (hc : 0 ≤ c) (j : Nat) (hj : c % (n : Int) = (j : Int)) (hjn : j < n) : Stripe.ofS t [c] = [(j : Int)] := by
  unfold Stripe.ofS
  rw [if_pos (by rw [hr]; unfold Stripe.cellsB; simpa using hc), hl]
  have hp : ∀ k, Stripe.hit n [c] k = decide (j = k) := fun k => by
    unfold Stripe.hit
    simp only [List.any_cons, List.any_nil, Bool.or_false, hj]
    rw [Bool.eq_iff_iff]; simp; omega
  rw [pick_congr _ (fun k => decide (j = k)) n (fun k _ => hp k)]
  unfold pick
  have : (List.range n).filter (fun k => decide (j = k)) = [j] := by
    have h2 : ∀ m, (List.range m).filter (fun k => decide (j = k)) = if j < m then [j] else [] := by
      intro m
      induction m with
      | zero => rfl
      | succ m ih =>
        rw [List.range_succ, List.filter_append, ih]
        by_cases h1 : j < m
        · have : ¬ j = m := by omega
          rw [if_pos h1, if_pos (by omega)]; simp [this]
        · by_cases h3 : j = m
          · subst h3; simp
          · rw [if_neg h1, if_neg (by omega)]; simp [h3]
    rw [h2, if_pos hjn]
  rw [this]; rfl

set_option maxRecDepth 100000 in
set_option maxHeartbeats 4000000 in
theorem valid_c (l : List Read) (t : List Stripe.Rec) (A D : Option Addr) (n c m d : Nat) (who : Int) (w : World) (v : Int) (hr : Rd w 3 A n (ds l)) (hnc : n ≤ c) (ht : Rd w 2 D m (Stripe.rs t)) (hn : n ≤ 1000000) (hm : m ≤ 1000000)
    (hv : validS l t who = v) : Calls Try.prog 20 #[.slice A n c, .slice D m d, .int .i64 who] w (RetI w v) := by
  have HV := Lib.hid hv
  have HL := Lib.hid (ds_len hr)
  have HM := Lib.hid (Stripe.rs_len ht)
  have HR := Lib.hid hr
  have HT := Lib.hid ht
  clear hr ht hv
  cases h1 : rightB l
  · have H1 := Lib.hid h1
    have HF : Hid (v = 1) := Lib.hid (by rw [← HV.out]; unfold validS; rw [h1]; rfl)
    clear h1
    go_enter Try.func20, Try.ntmps20
    go_wp2_with fail
    refine (right_c l _ _ _ _ false HR.out hnc hn H1.out).mono ?_
    rintro e w1 ⟨rfl, b1⟩
    go_wp2
    go_ret
    exact ⟨ret_int HF.out.symm, b1⟩
  · have H1 := Lib.hid h1
    clear h1
    go_enter Try.func20, Try.ntmps20
    go_wp2_with fail
    refine (right_c l _ _ _ _ true HR.out hnc hn H1.out).mono ?_
    rintro e w1 ⟨rfl, b1⟩
    have HB1 := Lib.hid b1
    clear b1
    cases h2 : Stripe.rightB t
    · have H2 := Lib.hid h2
      have HF : Hid (v = 1) := Lib.hid (by rw [← HV.out]; unfold validS; rw [h2]; simp)
      clear h2
      go_wp2_with fail
      refine (Stripe.right_c t _ _ _ _ false (HT.out.below HB1.out) hm H2.out).mono ?_
      rintro e w2 ⟨rfl, b2⟩
      go_wp2
      go_ret
      exact ⟨ret_int HF.out.symm, bl_trans HB1.out b2⟩
    · have H2 := Lib.hid h2
      have hm0 : 0 < m := by rw [← HM.out]; exact rec_len t h2
      obtain ⟨db, dof, rfl, -⟩ := HT.out.2 hm0
      clear h2
      go_wp2_with fail
      refine (Stripe.right_c t _ _ _ _ true (HT.out.below HB1.out) hm H2.out).mono ?_
      rintro e w2 ⟨rfl, b2⟩
      have HB2 := Lib.hid (bl_trans HB1.out b2)
      clear b2
      cases h3 : Stripe.whoB who
      · have H3 := Lib.hid h3
        have HF : Hid (v = 1) := Lib.hid (by rw [← HV.out]; unfold validS; rw [h3]; simp)
        clear h3
        go_wp2_with fail
        refine (who_c _ _).mono ?_
        rw [H3.out]
        rintro e w' ⟨rfl, rfl⟩
        go_wp2
        go_ret
        exact ⟨ret_int HF.out.symm, HB2.out⟩
      · have H3 := Lib.hid h3
        have HOK : Hid ((rightB l && (Stripe.rightB t && Stripe.whoB who)) = true) := Lib.hid (by rw [H1.out, H2.out, h3]; rfl)
        clear h3
        go_wp2_with fail
        refine (who_c _ _).mono ?_
        rw [H3.out]
        rintro e w' ⟨rfl, rfl⟩
        go_wp2
        go_loopw [26] (fun i wr => ∃ k : Nat, k ≤ n ∧ i = .int .i64 k ∧ Hid (Below w.heap.size w wr) ∧ Hid ((l.take k).all (asB t who) = true)) (fun i _ => n - (intOf i).toNat)
        case atStart => exact ⟨0, Nat.zero_le _, rfl, HB2, Lib.hid rfl⟩
        case round =>
          obtain ⟨k, hk, rfl, HB, hall⟩ := hrel
          generalize wr = w3 at *
          by_cases hlt : k < n
          · obtain ⟨b, off, ⟨cl, vr, vl⟩, rfl, hx, c0, c1, c2⟩ := at_read (HR.out.below HB.out) k hlt
            have hc0 : 0 ≤ cl := one_cell _ (right_one l H1.out _ (List.mem_of_getElem? hx))
            obtain ⟨j, ⟨rv, ro⟩, hj, hjm, hy⟩ := place_of t m HM.out hm0 cl
            have HOF := Lib.hid (of_one t m HM.out H2.out cl hc0 j hj hjm)
            have hs := Lib.hid (take_all l (asB t who) k _ hx)
            have ha := Lib.hid (as_at t m HM.out who ⟨cl, vr, vl⟩ j _ hj hy)
            have HX := Lib.hid hx
            have HY := Lib.hid hy
            have HC : Hid (asB t who ⟨cl, vr, vl⟩ = false → v = 8) := Lib.hid (fun e1 => by
              rw [← HV.out]; unfold validS; rw [if_pos HOK.out, all_bad l (asB t who) k _ HX.out e1]; rfl)
            have HK0 : Hid (∀ o, Blk ((w3.alloc (.cells #[.int .i64 cl, .int .i64 vr, .int .i64 vl] 24)).alloc o) w3.heap.size 24 #[.int .i64 cl, .int .i64 vr, .int .i64 vl]) := Lib.hid (fun o => (Blk.new _ _ _).alloc o)
            clear hx hy hj
            go_wp2_with fail
            refine (Stripe.of_c t [cl] _ _ _ _ _ _ _ [(j : Int)] 1 (((HT.out.below HB.out).alloc _).alloc _) (Rd.builtAt _ 1 1 (zs [cl]) _ rfl (by simp)) hm (by decide) HOF.out rfl).mono ?_
            rintro e w4 ⟨B4, d4, rfl, s4, b4⟩
            have HB4 := Lib.hid (bl_trans (bl_alloc (bl_alloc HB.out _) _) b4)
            have HK4 := Lib.hid ((HK0.out _).below b4)
            have HS4 := Lib.hid s4
            clear b4 HK0 c0 c1 c2 s4
            go_wp2
            go_loopw [36] (fun i wq => ∃ z : Nat, z ≤ 1 ∧ i = .int .i64 z ∧ Hid (Below w4.heap.size w4 wq) ∧ Hid (z = 1 → asB t who ⟨cl, vr, vl⟩ = true)) (fun i _ => 1 - (intOf i).toNat)
            case atStart => exact ⟨0, by omega, rfl, Lib.hid (Below.refl _ _), Lib.hid (fun h => by omega)⟩
            case round =>
              obtain ⟨z, hz, rfl, HBq, hyes⟩ := hrel
              by_cases hz1 : z < 1
              · obtain rfl : z = 0 := by omega
                obtain ⟨b4, off4, x4, rfl, hx4, d4c⟩ := at_z (HS4.out.below HBq.out) 0 (by omega)
                obtain rfl : x4 = (j : Int) := by simpa using hx4.symm
                clear hx4
                rw [Nat.add_zero] at d4c
                obtain ⟨d0, d1⟩ := cells_rec (HT.out.below (bl_trans HB4.out HBq.out)) HY.out
                have q0 := (HK4.out.below HBq.out).cell 0 _ rfl
                have q1 := (HK4.out.below HBq.out).cell 1 _ rfl
                have q2 := (HK4.out.below HBq.out).cell 2 _ rfl
                cases hb : (rv == vr && (ro == 0 || ro == who)) with
                | true =>
                  have HBB := Lib.hid hb
                  clear hb
                  go_wp2_with fail
                  go_still_tail 6, (by kernel_rfl)
                  go_wp2_with fail
                  refine (isas_any _ _ _ _ _ _ _ true HBB.out).mono ?_
                  rintro e w5 ⟨rfl, g5⟩
                  have HB5 := Lib.hid (bl_trans HBq.out.drew g5.below)
                  clear g5
                  go_wp2
                  go_roundw
                  case rel => exact ⟨1, by omega, by go_num, HB5, Lib.hid (fun _ => by rw [ha.out]; exact HBB.out)⟩
                  case measure => simp [intOf]
                | false =>
                  have HBB := Lib.hid hb
                  have HF : Hid (v = 8) := Lib.hid (HC.out (by rw [ha.out]; exact hb))
                  clear hb
                  go_wp2_with fail
                  go_still_tail 6, (by kernel_rfl)
                  go_wp2_with fail
                  refine (isas_any _ _ _ _ _ _ _ false HBB.out).mono ?_
                  rintro e w5 ⟨rfl, g5⟩
                  have HB5 := Lib.hid (bl_trans HBq.out.drew g5.below)
                  clear g5
                  go_wp2
                  go_ret
                  exact ⟨ret_int HF.out.symm, bl_trans HB4.out HB5.out⟩
              · obtain rfl : z = 1 := by omega
                have HN : Hid (asB t who ⟨cl, vr, vl⟩ = true) := Lib.hid (hyes.out rfl)
                go_wp2
                go_roundw
                case rel => exact ⟨k + 1, by omega, by go_num, Lib.hid (bl_trans HB4.out HBq.out), Lib.hid (by rw [hs.out, hall.out, HN.out]; rfl)⟩
                case measure => simp [intOf]; omega
          · have HF : Hid (v = 0) := Lib.hid (by
              have := hall.out
              rw [List.take_of_length_le (by rw [HL.out]; omega)] at this
              rw [← HV.out]; unfold validS; rw [if_pos HOK.out, if_pos this])
            go_wp2
            go_ret
            exact ⟨ret_int HF.out.symm, HB.out⟩

theorem said : Said where
  right := right_c
  add := add_c
  find := findR_c
  cells := cells_c
  valid := valid_c
  same := same_c
end Go.Proofs.Ytemfkjcfafenjaa.Reads
