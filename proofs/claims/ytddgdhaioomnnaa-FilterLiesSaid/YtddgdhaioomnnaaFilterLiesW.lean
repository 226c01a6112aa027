/-
  THE WALK OF THE LAW FilterLies.
-/
import Derived.Test.YtddgdhaioomnnaaFilterKit
import Derived.Test.YtddgdhaioomnnaaSleepRef4
namespace Go.Proofs.Ytddgdhaioomnnaa.Filter
open Go.ChangeShapes Go.WideShapes Go.ChangeAt Go.RowKit Mem
open Heap (Write)
open Sleep

set_option maxRecDepth 100000 in
set_option maxHeartbeats 16000000 in
theorem lies_walk (A D : Option Addr) (n c m d : Nat) (L : List RawS) (x : RawS) (h : List Heap.Cell) (w : World) (mn : n ≤ 9223372036854775807) (mm : m ≤ 9223372036854775807) (hr : Sls w A n L) (hx : Inner w x) (hh : Rd w 2 D m (Heap.cs h)) :
    Calls Try.prog 7 #[.slice A n c, .agg (cS x), .slice D m d] w (RetB w true) := by
  have SL := Lib.hid hr
  have IX := Lib.hid hx
  have HH := Lib.hid hh
  have HLn := Lib.hid hr.len
  have bb := Lib.hid (Below.refl w.heap.size w)
  clear hr hx hh
  obtain ⟨xw, xm, xt, xA, xn, xc, xW, xB, xk, xd, xT⟩ := x
  obtain ⟨w1, hw1⟩ : ∃ w1, w1 = w.alloc (.cells #[.int .i64 xw, .int .i64 xm, .int .i64 xt, .slice xA xn xc, .slice xB xk xd] 36) := ⟨_, rfl⟩
  have KX : Hid (Blk w1 w.heap.size 36 #[.int .i64 xw, .int .i64 xm, .int .i64 xt, .slice xA xn xc, .slice xB xk xd]) := Lib.hid (by rw [hw1]; exact Blk.new _ _ _)
  have b_ : Below w.heap.size w w1 := by rw [hw1]; exact bl_alloc (Below.refl _ _) _
  replace SL := Lib.hid (SL.out.below b_)
  replace IX := Lib.hid (IX.out.below b_)
  replace HH := Lib.hid (HH.out.below b_)
  replace bb := Lib.hid (bl_trans bb.out b_)
  clear b_
  simp only [cS]
  have C0 := Lib.hid (small_c L A n c w1 (if smallB L = true then (n : Int) else -1) SL.out mn rfl)
  obtain ⟨s1_, h1⟩ : ∃ b, smallB L = b := ⟨_, rfl⟩
  cases s1_
  · rw [small_no L n h1] at C0
    go_enter Try.func7, Try.ntmps7
    go_wp2_with fail
    rw [← hw1]
    clear hw1
    refine C0.out.mono ?_
    rintro e w2 ⟨rfl, b_⟩
    replace bb := Lib.hid (bl_trans bb.out b_)
    clear b_ C0
    go_wp2_with fail
    refine (awake_any _).mono ?_
    rintro e wz ⟨rfl, bz⟩
    go_wp2
    go_ret
    exact ⟨rfl, bl_trans bb.out bz⟩
  · rw [small_yes L n h1] at C0
    obtain ⟨hl, hn20⟩ := small_lim L h1
    rw [HLn.out] at hn20
    have ML := Lib.hid hl
    have t0 : decide ((n : Int) < 0) = false := by simp
    clear hl h1
    go_enter Try.func7, Try.ntmps7
    go_wp2_with fail
    rw [← hw1]
    clear hw1
    refine C0.out.mono ?_
    rintro e w2 ⟨rfl, b_⟩
    replace SL := Lib.hid (SL.out.below b_)
    replace IX := Lib.hid (IX.out.below b_)
    replace HH := Lib.hid (HH.out.below b_)
    replace KX := Lib.hid (KX.out.below b_)
    replace bb := Lib.hid (bl_trans bb.out b_)
    clear b_ C0
    have q0 := KX.out.cell 0 _ rfl
    have q1 := KX.out.cell 1 _ rfl
    have q2 := KX.out.cell 2 _ rfl
    have q3 := KX.out.cell 3 _ rfl
    have q4 := KX.out.cell 4 _ rfl
    have C1 := Lib.hid (small_c [⟨xw, xm, xt, xA, xn, xc, xW, xB, xk, xd, xT⟩] (some ⟨w2.heap.size, 0, none⟩) 1 1 (w2.alloc (.cells (cS ⟨xw, xm, xt, xA, xn, xc, xW, xB, xk, xd, xT⟩) 36)) _ (sls_one w2 _ _ IX.out) (by decide) rfl)
    simp only [cS] at C1
    obtain ⟨s2_, h2⟩ : ∃ b, smallB [⟨xw, xm, xt, xA, xn, xc, xW, xB, xk, xd, xT⟩] = b := ⟨_, rfl⟩
    have b0 := bl_alloc (Below.refl w2.heap.size w2) (.cells #[.int .i64 xw, .int .i64 xm, .int .i64 xt, .slice xA xn xc, .slice xB xk xd] 36)
    cases s2_
    · rw [small_no _ 1 h2] at C1
      go_wp2_with fail
      clear q0 q1 q2 q3 q4
      refine C1.out.mono ?_
      rintro e w3 ⟨rfl, b_⟩
      replace bb := Lib.hid (bl_trans bb.out (bl_trans b0 b_))
      clear b_ C1 b0
      go_wp2_with fail
      refine (awake_any _).mono ?_
      rintro e wz ⟨rfl, bz⟩
      go_wp2
      go_ret
      exact ⟨rfl, bl_trans bb.out bz⟩
    · rw [small_yes _ 1 h2] at C1
      have LX := Lib.hid (small_one _ h2)
      clear h2
      by_cases h80 : 80 < m
      · go_wp2_with fail
        clear q0 q1 q2 q3 q4
        refine C1.out.mono ?_
        rintro e w3 ⟨rfl, b_⟩
        replace b_ := bl_trans b0 b_
        replace SL := Lib.hid (SL.out.below b_)
        replace IX := Lib.hid (IX.out.below b_)
        replace HH := Lib.hid (HH.out.below b_)
        replace KX := Lib.hid (KX.out.below b_)
        replace bb := Lib.hid (bl_trans bb.out b_)
        clear b_ C1 b0
        go_wp2_with fail
        refine (awake_any _).mono ?_
        rintro e wz ⟨rfl, bz⟩
        go_wp2
        go_ret
        exact ⟨rfl, bl_trans bb.out bz⟩
      have hm : m ≤ 80 := by omega
      clear h80
      go_wp2_with fail
      clear q0 q1 q2 q3 q4
      refine C1.out.mono ?_
      rintro e w3 ⟨rfl, b_⟩
      replace b_ := bl_trans b0 b_
      replace SL := Lib.hid (SL.out.below b_)
      replace IX := Lib.hid (IX.out.below b_)
      replace HH := Lib.hid (HH.out.below b_)
      replace KX := Lib.hid (KX.out.below b_)
      replace bb := Lib.hid (bl_trans bb.out b_)
      clear b_ C1 b0
      obtain ⟨⟨R, er⟩, hre⟩ : ∃ r, lieS (cc L) (st ⟨xw, xm, xt, xA, xn, xc, xW, xB, xk, xd, xT⟩) h = r := ⟨_, rfl⟩
      have HRE := Lib.hid hre
      have hlR : R.length ≤ 41 := by have h1 := lie_len (cc L) (st ⟨xw, xm, xt, xA, xn, xc, xW, xB, xk, xd, xT⟩) h; rw [hre, cc_len, HLn.out] at h1; show R.length ≤ 41; have : R.length ≤ n + n + 1 := h1; omega
      clear hre
      have q0 := KX.out.cell 0 _ rfl
      have q1 := KX.out.cell 1 _ rfl
      have q2 := KX.out.cell 2 _ rfl
      have q3 := KX.out.cell 3 _ rfl
      have q4 := KX.out.cell 4 _ rfl
      have C_ := Lib.hid (lie_c L ⟨xw, xm, xt, xA, xn, xc, xW, xB, xk, xd, xT⟩ h A D n c m d w3 (R, er) SL.out (by omega) ML.out IX.out LX.out HH.out (by omega) HRE.out)
      simp only [cS] at C_
      go_wp2_with fail
      clear q0 q1 q2 q3 q4
      refine C_.out.mono ?_
      rintro e w4 ⟨BA, na, da, LA, rfl, ta, e_, la, b_⟩
      replace SL := Lib.hid (SL.out.below b_)
      replace IX := Lib.hid (IX.out.below b_)
      replace HH := Lib.hid (HH.out.below b_)
      replace KX := Lib.hid (KX.out.below b_)
      replace bb := Lib.hid (bl_trans bb.out b_)
      have SA := Lib.hid ta
      have EA : Hid (cc LA = R) := Lib.hid e_
      have MA := Lib.hid la
      have hna : na ≤ 41 := by have h1 := sls_n ta e_; have : na = R.length := h1; omega
      clear ta e_ la
      clear b_ C_
      by_cases he : er = 0
      · subst he
        have HE : Hid ((lieS (cc L) (st ⟨xw, xm, xt, xA, xn, xc, xW, xB, xk, xd, xT⟩) h).2 = 0) := Lib.hid (by rw [HRE.out])
        have HAG := Lib.hid (lie_again (cc L) (st ⟨xw, xm, xt, xA, xn, xc, xW, xB, xk, xd, xT⟩) h HE.out)
        have HDR := Lib.hid (lie_drop (cc L) (st ⟨xw, xm, xt, xA, xn, xc, xW, xB, xk, xd, xT⟩) h HE.out)
        have HOK := Lib.hid (lie_ok (cc L) (st ⟨xw, xm, xt, xA, xn, xc, xW, xB, xk, xd, xT⟩) h HE.out).2.2.2
        rw [HRE.out] at HAG HDR
        obtain ⟨⟨R2, e2⟩, hre2⟩ : ∃ r, lieS R (st ⟨xw, xm, xt, xA, xn, xc, xW, xB, xk, xd, xT⟩) h = r := ⟨_, rfl⟩
        have HRE2 := Lib.hid hre2
        obtain rfl : e2 = 9 := by have h1 := HAG.out; rw [hre2] at h1; exact h1
        clear hre2
        have q0 := KX.out.cell 0 _ rfl
        have q1 := KX.out.cell 1 _ rfl
        have q2 := KX.out.cell 2 _ rfl
        have q3 := KX.out.cell 3 _ rfl
        have q4 := KX.out.cell 4 _ rfl
        have C_ := Lib.hid (lie_c LA ⟨xw, xm, xt, xA, xn, xc, xW, xB, xk, xd, xT⟩ h BA D na da m d w4 (R2, 9) SA.out (by omega) MA.out IX.out LX.out HH.out (by omega) (by rw [EA.out]; exact HRE2.out))
        simp only [cS] at C_
        go_wp2_with fail
        clear q0 q1 q2 q3 q4
        refine C_.out.mono ?_
        rintro e w5 ⟨BB, nb, db, LB, rfl, -, -, -, b_⟩
        replace SL := Lib.hid (SL.out.below b_)
        replace IX := Lib.hid (IX.out.below b_)
        replace HH := Lib.hid (HH.out.below b_)
        replace KX := Lib.hid (KX.out.below b_)
        replace SA := Lib.hid (SA.out.below b_)
        replace bb := Lib.hid (bl_trans bb.out b_)
        clear b_ C_
        have q0 := KX.out.cell 0 _ rfl
        have C_ := Lib.hid (drop_c LA [xw] BA (some ⟨w5.heap.size, 0, none⟩) na da 1 1 (w5.alloc (.cells #[.int .i64 xw] 3)) (cc L, 0) (SA.out.alloc _) (by omega) MA.out (Rd.built w5 1 1 (zs [xw]) _ rfl) (by decide) (by rw [EA.out]; exact HDR.out))
        go_wp2_with fail
        clear q0
        refine C_.out.mono ?_
        rintro e w6 ⟨BD, nd, dd, LD, rfl, td, e_, ld, b_⟩
        have a_ := bl_trans (bl_alloc (Below.refl w5.heap.size w5) (.cells #[.int .i64 xw] 3)) (b_)
        replace SL := Lib.hid (SL.out.below a_)
        replace IX := Lib.hid (IX.out.below a_)
        replace HH := Lib.hid (HH.out.below a_)
        replace KX := Lib.hid (KX.out.below a_)
        replace SA := Lib.hid (SA.out.below a_)
        replace bb := Lib.hid (bl_trans bb.out a_)
        have SD := Lib.hid td
        have ED : Hid (cc LD = cc L) := Lib.hid e_
        have MD := Lib.hid ld
        have hnd : nd ≤ 20 := by have h1 := sls_n td e_; have : nd = (cc L).length := h1; rw [cc_len, HLn.out] at this; omega
        clear td e_ ld
        clear b_ C_ a_
        have C_ := Lib.hid (refs_c LD BD nd dd w6 SD.out (by omega) MD.out)
        go_wp2_with fail
        refine C_.out.mono ?_
        rintro e w7 ⟨v_, Lp, rfl, o1, o2, o3, o4, -⟩
        replace SL := Lib.hid (SL.out.below o1.2)
        replace IX := Lib.hid (IX.out.below o1.2)
        replace HH := Lib.hid (HH.out.below o1.2)
        replace KX := Lib.hid (KX.out.below o1.2)
        replace SA := Lib.hid (SA.out.below o1.2)
        replace SD := Lib.hid (SD.out.below o1.2)
        replace bb := Lib.hid (bl_trans bb.out o1.2)
        obtain ⟨Bp, cp, rfl, r_⟩ := o1.form
        have Rp : Hid (Sls w7 Bp nd Lp) := Lib.hid ⟨r_, o3⟩
        have Ep := Lib.hid o2
        have Mp := Lib.hid o4
        clear o1 o2 o3 o4 r_ C_
        have C_ := Lib.hid (refs_c L A n c w7 SL.out (by omega) ML.out)
        go_wp2_with fail
        refine C_.out.mono ?_
        rintro e w8 ⟨v_, Lu, rfl, o1, o2, o3, o4, -⟩
        replace SL := Lib.hid (SL.out.below o1.2)
        replace IX := Lib.hid (IX.out.below o1.2)
        replace HH := Lib.hid (HH.out.below o1.2)
        replace KX := Lib.hid (KX.out.below o1.2)
        replace SA := Lib.hid (SA.out.below o1.2)
        replace SD := Lib.hid (SD.out.below o1.2)
        replace Rp := Lib.hid (Rp.out.below o1.2)
        replace bb := Lib.hid (bl_trans bb.out o1.2)
        obtain ⟨Bu, cu, rfl, r_⟩ := o1.form
        have Ru : Hid (Sls w8 Bu n Lu) := Lib.hid ⟨r_, o3⟩
        have Eu := Lib.hid o2
        have Mu := Lib.hid o4
        clear o1 o2 o3 o4 r_ C_
        have C_ := Lib.hid (same_c Lp Lu Bp Bu nd cp n cu w8 true Rp.out Ru.out (by omega) Mp.out Mu.out (decide_eq_true (by rw [Ep.out, Eu.out, ED.out])))
        go_wp2_with fail
        refine C_.out.mono ?_
        rintro e w9 ⟨rfl, b_⟩
        replace SL := Lib.hid (SL.out.below b_)
        replace IX := Lib.hid (IX.out.below b_)
        replace HH := Lib.hid (HH.out.below b_)
        replace KX := Lib.hid (KX.out.below b_)
        replace SA := Lib.hid (SA.out.below b_)
        replace SD := Lib.hid (SD.out.below b_)
        replace Rp := Lib.hid (Rp.out.below b_)
        replace Ru := Lib.hid (Ru.out.below b_)
        replace bb := Lib.hid (bl_trans bb.out b_)
        clear b_ C_
        have q0 := KX.out.cell 0 _ rfl
        have q1 := KX.out.cell 1 _ rfl
        have q2 := KX.out.cell 2 _ rfl
        have q3 := KX.out.cell 3 _ rfl
        have q4 := KX.out.cell 4 _ rfl
        by_cases m1 : xm = 1
        · subst m1
          go_wp2_with fail
          refine (awake_any _).mono ?_
          rintro e wz ⟨rfl, bz⟩
          go_wp2
          go_ret
          exact ⟨rfl, bl_trans bb.out bz⟩
        · have t1 : (xm == 1) = false := by simpa using m1
          have HM : Hid (mayS (st ⟨xw, xm, xt, xA, xn, xc, xW, xB, xk, xd, xT⟩) h = false) := Lib.hid (HOK.out.resolve_left m1)
          clear m1
          have C_ := Lib.hid (may_c ⟨xw, xm, xt, xA, xn, xc, xW, xB, xk, xd, xT⟩ h D m d w9 false IX.out LX.out HH.out (by omega) HM.out)
          simp only [cS] at C_
          go_wp2_with fail
          clear q0 q1 q2 q3 q4
          refine C_.out.mono ?_
          rintro e w10 ⟨rfl, b_⟩
          replace SL := Lib.hid (SL.out.below b_)
          replace IX := Lib.hid (IX.out.below b_)
          replace HH := Lib.hid (HH.out.below b_)
          replace KX := Lib.hid (KX.out.below b_)
          replace SA := Lib.hid (SA.out.below b_)
          replace SD := Lib.hid (SD.out.below b_)
          replace Rp := Lib.hid (Rp.out.below b_)
          replace Ru := Lib.hid (Ru.out.below b_)
          replace bb := Lib.hid (bl_trans bb.out b_)
          clear b_ C_
          go_wp2_with fail
          refine (awake_any _).mono ?_
          rintro e wz ⟨rfl, bz⟩
          go_wp2
          go_ret
          exact ⟨rfl, bl_trans bb.out bz⟩
      · have t1 : (er != 0) = true := by simpa using he
        have HR : Hid (R = cc L) := Lib.hid (by have h1 := lie_no (cc L) (st ⟨xw, xm, xt, xA, xn, xc, xW, xB, xk, xd, xT⟩) h (by rw [HRE.out]; exact he); rw [HRE.out] at h1; exact h1)
        clear he
        have C_ := Lib.hid (refs_c LA BA na da w4 SA.out (by omega) MA.out)
        go_wp2_with fail
        refine C_.out.mono ?_
        rintro e w5 ⟨v_, Lp, rfl, o1, o2, o3, o4, -⟩
        replace SL := Lib.hid (SL.out.below o1.2)
        replace IX := Lib.hid (IX.out.below o1.2)
        replace HH := Lib.hid (HH.out.below o1.2)
        replace KX := Lib.hid (KX.out.below o1.2)
        replace SA := Lib.hid (SA.out.below o1.2)
        replace bb := Lib.hid (bl_trans bb.out o1.2)
        obtain ⟨Bp, cp, rfl, r_⟩ := o1.form
        have Rp : Hid (Sls w5 Bp na Lp) := Lib.hid ⟨r_, o3⟩
        have Ep := Lib.hid o2
        have Mp := Lib.hid o4
        clear o1 o2 o3 o4 r_ C_
        have C_ := Lib.hid (refs_c L A n c w5 SL.out (by omega) ML.out)
        go_wp2_with fail
        refine C_.out.mono ?_
        rintro e w6 ⟨v_, Lu, rfl, o1, o2, o3, o4, -⟩
        replace SL := Lib.hid (SL.out.below o1.2)
        replace IX := Lib.hid (IX.out.below o1.2)
        replace HH := Lib.hid (HH.out.below o1.2)
        replace KX := Lib.hid (KX.out.below o1.2)
        replace SA := Lib.hid (SA.out.below o1.2)
        replace Rp := Lib.hid (Rp.out.below o1.2)
        replace bb := Lib.hid (bl_trans bb.out o1.2)
        obtain ⟨Bu, cu, rfl, r_⟩ := o1.form
        have Ru : Hid (Sls w6 Bu n Lu) := Lib.hid ⟨r_, o3⟩
        have Eu := Lib.hid o2
        have Mu := Lib.hid o4
        clear o1 o2 o3 o4 r_ C_
        have C_ := Lib.hid (same_c Lp Lu Bp Bu na cp n cu w6 true Rp.out Ru.out (by omega) Mp.out Mu.out (decide_eq_true (by rw [Ep.out, Eu.out, EA.out, HR.out])))
        go_wp2_with fail
        refine C_.out.mono ?_
        rintro e w7 ⟨rfl, b_⟩
        replace SL := Lib.hid (SL.out.below b_)
        replace IX := Lib.hid (IX.out.below b_)
        replace HH := Lib.hid (HH.out.below b_)
        replace KX := Lib.hid (KX.out.below b_)
        replace SA := Lib.hid (SA.out.below b_)
        replace Rp := Lib.hid (Rp.out.below b_)
        replace Ru := Lib.hid (Ru.out.below b_)
        replace bb := Lib.hid (bl_trans bb.out b_)
        clear b_ C_
        go_wp2_with fail
        refine (awake_any _).mono ?_
        rintro e wz ⟨rfl, bz⟩
        go_wp2
        go_ret
        exact ⟨rfl, bl_trans bb.out bz⟩
end Go.Proofs.Ytddgdhaioomnnaa.Filter
