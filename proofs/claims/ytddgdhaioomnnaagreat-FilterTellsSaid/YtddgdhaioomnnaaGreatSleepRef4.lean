/-
  WHAT THE DOCUMENT'S ANSWER FOR LAYER 15 RETURNS: Of, One2, Same.
-/
import Derived.Test.YtddgdhaioomnnaaGreatSleepRef2
import Derived.Test.YtddgdhaioomnnaaGreatShapeSame
import Derived.Laws.StructEq
import Derived.StillTailTactics
namespace Go.Proofs.YtddgdhaioomnnaaGreat.Sleep
open Go.ChangeShapes Go.WideShapes Go.ChangeAt Go.RowKit Mem
open Heap (Write)

theorem rtake_filter_map (L : List Sl) (q : Sl → Bool) (k : Nat) (x : Sl) (hx : L[k]? = some x) : ((L.take (k + 1)).filter q).map Sl.who = ((L.take k).filter q).map Sl.who ++ (if q x = true then [x.who] else []) := by
  rw [List.take_add_one, hx, List.filter_append, List.map_append]
  by_cases h : q x = true
  · simp [h]
  · simp [h]

set_option maxRecDepth 100000 in
set_option maxHeartbeats 4000000 in
theorem one2_c (x y : RawS) (w : World) (v : Bool) (hx : Inner w x) (hxl : Lim1 x) (hy : Inner w y) (hyl : Lim1 y) (hv : decide (st x = st y) = v) :
    Calls Tryz.prog 32 #[.agg (cS x), .agg (cS y)] w (RetB w v) := by
  obtain ⟨xw, xm, xt, xA, xn, xc, xW, xB, xk, xd, xT⟩ := x
  obtain ⟨yw, ym, yt, yA, yn, yc, yW, yB, yk, yd, yT⟩ := y
  obtain ⟨t, ht⟩ : ∃ t, decide (xT = yT) = t := ⟨_, rfl⟩
  obtain ⟨w1, hw1⟩ : ∃ w1, w1 = (w.alloc (.cells #[.int .i64 xw, .int .i64 xm, .int .i64 xt, .slice xA xn xc, .slice xB xk xd] 44)).alloc (.cells #[.int .i64 yw, .int .i64 ym, .int .i64 yt, .slice yA yn yc, .slice yB yk yd] 44) := ⟨_, rfl⟩
  have K1 : Hid (Blk w1 w.heap.size 44 #[.int .i64 xw, .int .i64 xm, .int .i64 xt, .slice xA xn xc, .slice xB xk xd]) := Lib.hid (by rw [hw1]; exact (Blk.new w _ _).alloc _)
  have K2 : Hid (Blk w1 (w.heap.size + 1) 44 #[.int .i64 yw, .int .i64 ym, .int .i64 yt, .slice yA yn yc, .slice yB yk yd]) := Lib.hid (by
    rw [hw1]; have := Blk.new (w.alloc (.cells #[.int .i64 xw, .int .i64 xm, .int .i64 xt, .slice xA xn xc, .slice xB xk xd] 44)) 44 #[.int .i64 yw, .int .i64 ym, .int .i64 yt, .slice yA yn yc, .slice yB yk yd]; simpa only [World.size_alloc] using this)
  have B1 : Hid (Below w.heap.size w w1) := Lib.hid (by rw [hw1]; exact bl_alloc (bl_alloc (Below.refl _ _) _) _)
  have HXW : Hid (Rd w1 2 xA xn (Heap.ws xW)) := Lib.hid (hx.1.below B1.out)
  have HYW : Hid (Rd w1 2 yA yn (Heap.ws yW)) := Lib.hid (hy.1.below B1.out)
  have HLX : Hid (xW.length = xn) := Lib.hid hx.lenW
  have HLY : Hid (yW.length = yn) := Lib.hid hy.lenW
  have HS7 := Lib.hid (Shape.same7 xT yT xB yB xk yk xd yd w1 t (hx.2.below B1.out) (hy.2.below B1.out) hxl.2 hyl.2 ht)
  have hxn : xn ≤ 1000000 := hxl.1
  have HV : Hid (decide (xw = yw ∧ xm = ym ∧ xt = yt ∧ xW = yW ∧ xT = yT) = v) := Lib.hid (by
    rw [← hv]; unfold st; simp only [Sl.mk.injEq])
  have HTT := Lib.hid ht
  clear hx hxl hy hyl hv ht
  have q0 := K1.out.cell 0 _ rfl
  have q1 := K1.out.cell 1 _ rfl
  have q2 := K1.out.cell 2 _ rfl
  have q3 := K1.out.cell 3 _ rfl
  have q4 := K1.out.cell 4 _ rfl
  have p0 := K2.out.cell 0 _ rfl
  have p1 := K2.out.cell 1 _ rfl
  have p2 := K2.out.cell 2 _ rfl
  have p3 := K2.out.cell 3 _ rfl
  have p4 := K2.out.cell 4 _ rfl
  simp only [cS]
  rw [hw1] at q4 p4
  go_enter Tryz.func32, Tryz.ntmps32
  go_wp2_with fail
  rw [← hw1] at q4 p4 ⊢
  clear hw1
  refine HS7.out.mono ?_
  rintro e w2 ⟨rfl, z, rfl⟩
  have B2 := Lib.hid (bl_drewN B1.out z)
  replace q0 : (w1.drewN z).cell? ⟨w.heap.size, 0, none⟩ = some (.int .i64 xw) := q0
  replace q1 : (w1.drewN z).cell? ⟨w.heap.size, 1, none⟩ = some (.int .i64 xm) := q1
  replace q2 : (w1.drewN z).cell? ⟨w.heap.size, 2, none⟩ = some (.int .i64 xt) := q2
  replace q3 : (w1.drewN z).cell? ⟨w.heap.size, 3, none⟩ = some (.slice xA xn xc) := q3
  replace p0 : (w1.drewN z).cell? ⟨w.heap.size + 1, 0, none⟩ = some (.int .i64 yw) := p0
  replace p1 : (w1.drewN z).cell? ⟨w.heap.size + 1, 1, none⟩ = some (.int .i64 ym) := p1
  replace p2 : (w1.drewN z).cell? ⟨w.heap.size + 1, 2, none⟩ = some (.int .i64 yt) := p2
  replace p3 : (w1.drewN z).cell? ⟨w.heap.size + 1, 3, none⟩ = some (.slice yA yn yc) := p3
  have K1d : Hid (Blk (w1.drewN z) w.heap.size 44 #[.int .i64 xw, .int .i64 xm, .int .i64 xt, .slice xA xn xc, .slice xB xk xd]) := Lib.hid K1.out
  have K2d : Hid (Blk (w1.drewN z) (w.heap.size + 1) 44 #[.int .i64 yw, .int .i64 ym, .int .i64 yt, .slice yA yn yc, .slice yB yk yd]) := Lib.hid K2.out
  have HXd : Hid (Rd (w1.drewN z) 2 xA xn (Heap.ws xW)) := Lib.hid HXW.out
  have HYd : Hid (Rd (w1.drewN z) 2 yA yn (Heap.ws yW)) := Lib.hid HYW.out
  clear q4 p4 HS7 K1 K2 HXW HYW B1
  generalize w1.drewN z = w3 at *
  cases t
  · have HF : Hid (v = false) := Lib.hid (by rw [← HV.out]; refine decide_eq_false (fun h => ?_); have := HTT.out; rw [decide_eq_true h.2.2.2.2] at this; cases this)
    go_wp2
    go_ret
    exact ⟨ret_bool HF.out.symm, B2.out⟩
  · have HXY : Hid (xT = yT) := Lib.hid (of_decide_eq_true HTT.out)
    by_cases h1 : xw = yw
    · subst h1
      by_cases h2 : xm = ym
      · subst h2
        by_cases h3 : xt = yt
        · subst h3
          by_cases h4 : xn = yn
          · subst h4
            have HV2 : Hid (decide (xW = yW) = v) := Lib.hid (by rw [← HV.out]; simp [HXY.out])
            go_wp2
            go_loopw [6] (fun i wr => ∃ k : Nat, k ≤ xn ∧ i = .int .i64 k ∧ Hid (Below w3.heap.size w3 wr) ∧ Hid (xW.take k = yW.take k)) (fun i _ => xn - (intOf i).toNat)
            case atStart => exact ⟨0, Nat.zero_le _, rfl, Lib.hid (Below.refl _ _), Lib.hid rfl⟩
            case round =>
              obtain ⟨k, hk, rfl, HB, hall⟩ := hrel
              generalize wr = w4 at *
              have B4 := Lib.hid (bl_trans B2.out HB.out)
              have q3' := (K1d.out.below HB.out).cell 3 _ rfl
              have p3' := (K2d.out.below HB.out).cell 3 _ rfl
              clear q0 q1 q2 q3 p0 p1 p2 p3
              by_cases hlt : k < xn
              · obtain ⟨b5, off5, ⟨cx, vx⟩, rfl, hx, c0, c1⟩ := Heap.at_write (HXd.out.below HB.out) k hlt
                obtain ⟨b6, off6, ⟨cy, vy⟩, rfl, hy, d0, d1⟩ := Heap.at_write (HYd.out.below HB.out) k hlt
                have GX := Lib.hid hx
                have GY := Lib.hid hy
                clear hx hy
                by_cases heq : cx = cy ∧ vx = vy
                · obtain ⟨rfl, rfl⟩ := heq
                  have HS : Hid (xW.take (k + 1) = yW.take (k + 1)) := Lib.hid (take_eq xW yW k _ GX.out GY.out hall.out)
                  go_wp2_with fail
                  go_quiet (fail)
                  go_wp2
                  go_roundw
                  case rel => exact ⟨k + 1, by omega, by go_num, Lib.hid (bl_drewN HB.out _), HS⟩
                  case measure => simp [intOf]; omega
                · have HF : Hid (v = false) := Lib.hid (by rw [← HV2.out]; exact take_ne xW yW k _ _ GX.out GY.out (by intro e; injection e with e0 e1; exact heq ⟨e0, e1⟩))
                  by_cases h0 : cx = cy
                  · subst h0
                    have h1 : ¬ vx = vy := fun e => heq ⟨rfl, e⟩
                    clear heq
                    go_wp2_with fail
                    go_quiet (fail)
                    go_wp2
                    go_ret
                    exact ⟨ret_bool HF.out.symm, bl_drewN B4.out _⟩
                  · clear heq
                    go_wp2_with fail
                    go_quiet (fail)
                    go_wp2
                    go_ret
                    exact ⟨ret_bool HF.out.symm, bl_drewN B4.out _⟩
              · have HF : Hid (v = true) := Lib.hid (by
                  rw [← HV2.out]; have h5 := hall.out
                  rw [List.take_of_length_le (by rw [HLX.out]; omega), List.take_of_length_le (by rw [HLY.out]; omega)] at h5
                  simpa using h5)
                go_wp2
                go_ret
                exact ⟨ret_bool HF.out.symm, B4.out⟩
          · have HF : Hid (v = false) := Lib.hid (by rw [← HV.out]; refine decide_eq_false (fun h => h4 ?_); rw [← HLX.out, ← HLY.out, h.2.2.2.1])
            have t1 : ((xn : Int) != (yn : Int)) = true := by simp; omega
            clear h4
            go_wp2
            go_ret
            exact ⟨ret_bool HF.out.symm, B2.out⟩
        · have HF : Hid (v = false) := Lib.hid (by rw [← HV.out]; exact decide_eq_false (fun h => h3 h.2.2.1))
          have t1 : (xt != yt) = true := by simpa using h3
          clear h3
          go_wp2
          go_ret
          exact ⟨ret_bool HF.out.symm, B2.out⟩
      · have HF : Hid (v = false) := Lib.hid (by rw [← HV.out]; exact decide_eq_false (fun h => h2 h.2.1))
        have t1 : (xm != ym) = true := by simpa using h2
        clear h2
        go_wp2
        go_ret
        exact ⟨ret_bool HF.out.symm, B2.out⟩
    · have HF : Hid (v = false) := Lib.hid (by rw [← HV.out]; exact decide_eq_false (fun h => h1 h.1))
      have t1 : (xw != yw) = true := by simpa using h1
      clear h1
      go_wp2
      go_ret
      exact ⟨ret_bool HF.out.symm, B2.out⟩

set_option maxRecDepth 100000 in
set_option maxHeartbeats 4000000 in
theorem same_c (L M : List RawS) (A B : Option Addr) (n c m d : Nat) (w : World) (v : Bool) (hx : Sls w A n L) (hy : Sls w B m M) (hn : n ≤ 1000000) (hl : Lim L) (hm : Lim M) (hv : decide (cc L = cc M) = v) :
    Calls Tryz.prog 14 #[.slice A n c, .slice B m d] w (RetB w v) := by
  have HX := Lib.hid hx
  have HY := Lib.hid hy
  have HLX := Lib.hid hx.len
  have HLY := Lib.hid hy.len
  have HL := Lib.hid hl
  have HM := Lib.hid hm
  have HV := Lib.hid hv
  clear hx hy hl hm hv
  by_cases hnm : n = m
  · subst hnm
    go_enter Tryz.func14, Tryz.ntmps14
    go_wp2
    go_loopw [5] (fun i wr => ∃ k : Nat, k ≤ n ∧ i = .int .i64 k ∧ Hid (Below w.heap.size w wr) ∧ Hid ((cc L).take k = (cc M).take k)) (fun i _ => n - (intOf i).toNat)
    case atStart => exact ⟨0, Nat.zero_le _, rfl, Lib.hid (Below.refl _ _), Lib.hid rfl⟩
    case round =>
      obtain ⟨k, hk, rfl, HB, hall⟩ := hrel
      generalize wr = w1 at *
      by_cases hlt : k < n
      · obtain ⟨b5, off5, ⟨xw, xm, xt, xA, xn, xc, xW, xB, xk, xd, xT⟩, rfl, hx, c0, c1, c2, c3, c4, hix⟩ := (HX.out.below HB.out).at_ k hlt
        obtain ⟨b6, off6, ⟨yw, ym, yt, yA, yn, yc, yW, yB, yk, yd, yT⟩, rfl, hy, d0, d1, d2, d3, d4, hiy⟩ := (HY.out.below HB.out).at_ k hlt
        have GX := Lib.hid (cc_at L k _ hx)
        have GY := Lib.hid (cc_at M k _ hy)
        obtain ⟨f, hf⟩ : ∃ f, decide (st ⟨xw, xm, xt, xA, xn, xc, xW, xB, xk, xd, xT⟩ = st ⟨yw, ym, yt, yA, yn, yc, yW, yB, yk, yd, yT⟩) = f := ⟨_, rfl⟩
        have HF0 := Lib.hid hf
        have HO := Lib.hid (one2_c ⟨xw, xm, xt, xA, xn, xc, xW, xB, xk, xd, xT⟩ ⟨yw, ym, yt, yA, yn, yc, yW, yB, yk, yd, yT⟩ w1.drew f (hix.below (Below.refl _ _).drew) (HL.out.at_ k _ hx) (hiy.below (Below.refl _ _).drew) (HM.out.at_ k _ hy) hf)
        simp only [cS] at HO
        clear hx hy hix hiy hf
        cases f
        · have HF : Hid (v = false) := Lib.hid (by rw [← HV.out]; exact take_ne (cc L) (cc M) k _ _ GX.out GY.out (of_decide_eq_false HF0.out))
          go_wp2_with fail
          go_still_tail 8, (by kernel_rfl)
          go_wp2_with fail
          refine HO.out.mono ?_
          rintro e w2 ⟨rfl, b2⟩
          go_wp2
          go_ret
          exact ⟨ret_bool HF.out.symm, bl_trans HB.out.drew b2⟩
        · have HS : Hid ((cc L).take (k + 1) = (cc M).take (k + 1)) := Lib.hid (take_eq (cc L) (cc M) k _ GX.out (by rw [of_decide_eq_true HF0.out]; exact GY.out) hall.out)
          go_wp2_with fail
          go_still_tail 8, (by kernel_rfl)
          go_wp2_with fail
          refine HO.out.mono ?_
          rintro e w2 ⟨rfl, b2⟩
          have HB2 := Lib.hid (bl_trans HB.out.drew b2)
          clear b2
          go_wp2
          go_roundw
          case rel => exact ⟨k + 1, by omega, by go_num, HB2, HS⟩
          case measure => simp [intOf]; omega
      · have HF : Hid (v = true) := Lib.hid (by
          rw [← HV.out]; have h5 := hall.out
          rw [List.take_of_length_le (by rw [cc_len, HLX.out]; omega), List.take_of_length_le (by rw [cc_len, HLY.out]; omega)] at h5
          simpa using h5)
        go_wp2
        go_ret
        exact ⟨ret_bool HF.out.symm, HB.out⟩
  · have HF : Hid (v = false) := Lib.hid (by
      rw [← HV.out]; refine decide_eq_false (fun e => hnm ?_); have := congrArg List.length e; rw [cc_len, cc_len, HLX.out, HLY.out] at this; exact this)
    have t1 : ((n : Int) != (m : Int)) = true := by simp; omega
    clear hnm
    go_enter Tryz.func14, Tryz.ntmps14
    go_wp2
    go_ret
    exact ⟨ret_bool HF.out.symm, Below.refl _ _⟩
end Go.Proofs.YtddgdhaioomnnaaGreat.Sleep
