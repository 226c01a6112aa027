/-
  THE WALK OF THE LAW SleepTwice.
-/
import Derived.Test.YtakdeagaldnelaaSleepAwake
import Derived.Test.YtakdeagaldnelaaSleepRef4
import Derived.Test.YtakdeagaldnelaaSleepRef3
import Derived.Test.YtakdeagaldnelaaStep2
import Derived.Deep.RegionHeld3
namespace Go.Proofs.Ytakdeagaldnelaa.Sleep
open Go.ChangeShapes Go.WideShapes Go.ChangeAt Go.RowKit Mem
open Heap (Write)

theorem add_no (L : List Sl) (s : Sl) (h : (addS L s).2 ≠ 0) : (addS L s).1 = L := by
  unfold addS at h ⊢
  split
  · rename_i h1
    rw [if_pos h1] at h
    split
    · rfl
    · rename_i h2; rw [if_neg h2] at h; exact absurd rfl h
  · rfl
theorem tw_find (L : List Sl) (s : Sl) (hr : rightB (insS L s) = true) (h : hasB L s.who = false) : findS (insS L s) s.who = (s, 0) := by
  unfold findS; rw [if_pos hr, ins_find L s h]
theorem tw_add (L : List Sl) (s : Sl) (hr : rightB (insS L s) = true) (hs : oneB s = true) : addS (insS L s) s = (insS L s, 9) := by
  unfold addS; rw [hr, hs, if_pos (by rfl), if_pos (by rw [ins_has]; simp)]
theorem tw_drop (L : List Sl) (s : Sl) (hr : rightB (insS L s) = true) (hl : rightB L = true) (h : hasB L s.who = false) : dropS (insS L s) [s.who] = (L, 0) := by
  unfold dropS
  rw [if_pos hr, dropG_yes _ _ _ (by rw [ins_has]; simp), ins_del L s hl h]
  rfl
theorem tw_drop2 (L : List Sl) (s : Sl) (hr : rightB (insS L s) = true) (hl : rightB L = true) (h : hasB L s.who = false) : dropS (insS L s) [s.who, s.who] = (insS L s, 3) := by
  unfold dropS
  rw [if_pos hr, dropG_yes _ _ _ (by rw [ins_has]; simp), ins_del L s hl h, dropG_no _ _ _ h]
theorem small_no (L : List RawS) (n : Nat) (h : smallB L = false) : (if smallB L = true then (n : Int) else -1) = -1 := by rw [if_neg (by rw [h]; decide)]
theorem small_yes (L : List RawS) (n : Nat) (h : smallB L = true) : (if smallB L = true then (n : Int) else -1) = n := by rw [if_pos h]
theorem small_one (x : RawS) (h : smallB [x] = true) : Lim1 x := (small_lim [x] h).1 x (List.mem_singleton_self x)
theorem sls_one (w : World) (x : RawS) (e : Nat) (hi : Inner w x) : Sls (w.alloc (.cells (cS x) e)) (some ⟨w.heap.size, 0, none⟩) 1 [x] := ⟨Rd.built w 5 1 (ss [x]) e rfl, Inners.one (hi.alloc _)⟩
set_option maxRecDepth 100000 in
set_option maxHeartbeats 16000000 in
theorem twice_walk (A : Option Addr) (n c : Nat) (L : List RawS) (x : RawS) (w : World) (mn : n ≤ 9223372036854775807) (hr : Sls w A n L) (hx : Inner w x) :
    Calls Try.prog 5 #[.slice A n c, .agg (cS x)] w (RetB w true) := by
  have HR := Lib.hid hr
  have HXI := Lib.hid hx
  clear hr hx
  obtain ⟨w1, hw1⟩ : ∃ w1, w1 = w.alloc (.cells (cS x) 26) := ⟨_, rfl⟩
  have K1 : Hid (Blk w1 w.heap.size 26 (cS x)) := Lib.hid (by rw [hw1]; exact Blk.new _ _ _)
  have B1 : Hid (Below w.heap.size w w1) := Lib.hid (by rw [hw1]; exact bl_alloc (Below.refl _ _) _)
  obtain ⟨b1, h1⟩ : ∃ b, smallB L = b := ⟨_, rfl⟩
  have H1 := Lib.hid h1
  have HC0 := Lib.hid (small_c L A n c w1 (if smallB L = true then (n : Int) else -1) (HR.out.below B1.out) mn rfl)
  have KEEP0 : Hid (∀ V, Below w1.heap.size w1 V → ∀ i, i < 5 → V.cell? ⟨w.heap.size, i, none⟩ = (cS x)[i]?) := Lib.hid (fun V h i hi => by
    have h2 : i < (cS x).size := hi
    rw [Array.getElem?_eq_getElem h2]; exact (K1.out.below h).cell i _ (Array.getElem?_eq_getElem h2))
  cases b1
  · have hv : (if smallB L = true then (n : Int) else -1) = -1 := small_no L n h1
    rw [hv] at HC0
    clear h1 hv
    go_enter Try.func5, Try.ntmps5
    go_wp2_with fail
    rw [← hw1]
    clear hw1
    refine HC0.out.mono ?_
    rintro e w2 ⟨rfl, b2⟩
    have B2 := Lib.hid (bl_trans B1.out b2)
    clear b2 HC0
    go_wp2_with fail
    refine (awake_any _).mono ?_
    rintro e w3 ⟨rfl, b3⟩
    go_wp2
    go_ret
    exact ⟨rfl, bl_trans B2.out b3⟩
  · obtain ⟨hl, hn20⟩ := small_lim L h1
    rw [HR.out.len] at hn20
    have HLim := Lib.hid hl
    have hv : (if smallB L = true then (n : Int) else -1) = n := small_yes L n h1
    rw [hv] at HC0
    have t0 : decide ((n : Int) < 0) = false := by simp
    clear hv hl h1
    obtain ⟨b2, h2⟩ : ∃ b, smallB [x] = b := ⟨_, rfl⟩
    have H2 := Lib.hid h2
    obtain ⟨xw, xm, xt, xA, xn, xc, xW, xB, xk, xd, xT⟩ := x
    have e0 := KEEP0.out
    simp only [cS] at hw1 ⊢
    go_enter Try.func5, Try.ntmps5
    go_wp2_with fail
    rw [← hw1]
    clear hw1 e0
    refine HC0.out.mono ?_
    rintro e w2 ⟨rfl, b2⟩
    have HB12 := Lib.hid b2
    have B2 := Lib.hid (bl_trans B1.out b2)
    have q0 : w2.cell? ⟨w.heap.size, 0, none⟩ = some (.int .i64 xw) := KEEP0.out w2 b2 0 (by decide)
    have q1 : w2.cell? ⟨w.heap.size, 1, none⟩ = some (.int .i64 xm) := KEEP0.out w2 b2 1 (by decide)
    have q2 : w2.cell? ⟨w.heap.size, 2, none⟩ = some (.int .i64 xt) := KEEP0.out w2 b2 2 (by decide)
    have q3 : w2.cell? ⟨w.heap.size, 3, none⟩ = some (.slice xA xn xc) := KEEP0.out w2 b2 3 (by decide)
    have q4 : w2.cell? ⟨w.heap.size, 4, none⟩ = some (.slice xB xk xd) := KEEP0.out w2 b2 4 (by decide)
    clear b2 HC0
    have HC1 := Lib.hid (small_c [⟨xw, xm, xt, xA, xn, xc, xW, xB, xk, xd, xT⟩] (some ⟨w2.heap.size, 0, none⟩) 1 1 (w2.alloc (.cells (cS ⟨xw, xm, xt, xA, xn, xc, xW, xB, xk, xd, xT⟩) 26)) _ (sls_one w2 _ _ (HXI.out.below B2.out)) (by decide) rfl)
    simp only [cS] at HC1
    cases b2
    · rw [small_no _ 1 H2.out] at HC1
      clear h2
      go_wp2_with fail
      refine HC1.out.mono ?_
      rintro e w3 ⟨rfl, b3⟩
      have B3 := Lib.hid (bl_trans (bl_alloc B2.out _) b3)
      clear b3 HC1 q0 q1 q2 q3 q4
      go_wp2_with fail
      refine (awake_any _).mono ?_
      rintro e w4 ⟨rfl, b4⟩
      go_wp2
      go_ret
      exact ⟨rfl, bl_trans B3.out b4⟩
    · rw [small_yes _ 1 H2.out] at HC1
      have HXL := Lib.hid (small_one _ H2.out)
      clear h2
      go_wp2_with fail
      refine HC1.out.mono ?_
      rintro e w3 ⟨rfl, b3⟩
      have HB13 := Lib.hid (bl_trans HB12.out (bl_trans (bl_alloc (Below.refl w2.heap.size w2) _) b3))
      have B3 := Lib.hid (bl_trans (bl_alloc B2.out _) b3)
      clear b3 HC1 q0 q1 q2 q3 q4
      have q0 : w3.cell? ⟨w.heap.size, 0, none⟩ = some (.int .i64 xw) := KEEP0.out w3 HB13.out 0 (by decide)
      have q1 : w3.cell? ⟨w.heap.size, 1, none⟩ = some (.int .i64 xm) := KEEP0.out w3 HB13.out 1 (by decide)
      have q2 : w3.cell? ⟨w.heap.size, 2, none⟩ = some (.int .i64 xt) := KEEP0.out w3 HB13.out 2 (by decide)
      have q3 : w3.cell? ⟨w.heap.size, 3, none⟩ = some (.slice xA xn xc) := KEEP0.out w3 HB13.out 3 (by decide)
      have q4 : w3.cell? ⟨w.heap.size, 4, none⟩ = some (.slice xB xk xd) := KEEP0.out w3 HB13.out 4 (by decide)
      obtain ⟨s, hs⟩ : ∃ s, st ⟨xw, xm, xt, xA, xn, xc, xW, xB, xk, xd, xT⟩ = s := ⟨_, rfl⟩
      have HS := Lib.hid hs
      have HSW : Hid (s.who = xw) := Lib.hid (by rw [← hs]; rfl)
      obtain ⟨⟨R, er⟩, hre⟩ : ∃ r, addS (cc L) s = r := ⟨_, rfl⟩
      have HRE := Lib.hid hre
      have HA := Lib.hid (add_c L ⟨xw, xm, xt, xA, xn, xc, xW, xB, xk, xd, xT⟩ A n c w3 (R, er) (HR.out.below B3.out) (by omega) HLim.out (HXI.out.below B3.out) HXL.out (by rw [hs]; exact hre))
      simp only [cS] at HA
      clear hs hre
      go_wp2_with fail
      clear q0 q1 q2 q3 q4
      refine HA.out.mono ?_
      rintro e w4 ⟨BA, na, da, LA, rfl, ta, ea, la, b4⟩
      have HB14 := Lib.hid (bl_trans HB13.out b4)
      have B4 := Lib.hid (bl_trans B3.out b4)
      have TA := Lib.hid ta
      have EA : Hid (cc LA = R) := Lib.hid ea
      have MA := Lib.hid la
      clear ta ea la b4 HA
      by_cases he : er = 0
      · subst he
        obtain ⟨g1, g2, g3, g4, g5⟩ := add_ok (cc L) s (by rw [HRE.out])
        have HRI : Hid (R = insS (cc L) s) := Lib.hid (by rw [HRE.out] at g4; exact congrArg Prod.fst g4)
        have HG1 := Lib.hid g1
        have HG3 := Lib.hid g3
        have HG5 := Lib.hid g5
        have HFIND := Lib.hid (tw_find (cc L) s g5 g3)
        have HADD := Lib.hid (tw_add (cc L) s g5 g2)
        have HDR := Lib.hid (tw_drop (cc L) s g5 g1 g3)
        have HDR2 := Lib.hid (tw_drop2 (cc L) s g5 g1 g3)
        have hna : na ≤ 41 := by
          have h1 := ins_len (cc L) s
          have h2 := TA.out.len
          rw [← cc_len, EA.out, HRI.out] at h2
          rw [cc_len, HR.out.len] at h1
          omega
        rw [HRI.out] at EA
        clear g1 g2 g3 g4 g5 HRI HRE
        have q0 : w4.cell? ⟨w.heap.size, 0, none⟩ = some (.int .i64 xw) := KEEP0.out w4 HB14.out 0 (by decide)
        have F1 := Lib.hid (findS_c LA BA na da xw w4 (s, 0) TA.out (by omega) MA.out (by rw [EA.out, ← HSW.out]; exact HFIND.out))
        go_wp2_with fail
        clear q0
        refine F1.out.mono ?_
        rintro e w5 ⟨⟨uw, um, ut, uA, un, uc, uW, uB, uk, ud, uT⟩, rfl, hst, hin, hul, b5⟩
        have HST : Hid (st ⟨uw, um, ut, uA, un, uc, uW, uB, uk, ud, uT⟩ = s) := Lib.hid hst
        have HUL := Lib.hid hul
        obtain ⟨w6, hw6⟩ : ∃ w6, w6 = w5.alloc (.cells #[.int .i64 uw, .int .i64 um, .int .i64 ut, .slice uA un uc, .slice uB uk ud] 26) := ⟨_, rfl⟩
        have KU : Hid (Blk w6 w5.heap.size 26 #[.int .i64 uw, .int .i64 um, .int .i64 ut, .slice uA un uc, .slice uB uk ud]) := Lib.hid (by rw [hw6]; exact Blk.new _ _ _)
        have HUI : Hid (Inner w6 ⟨uw, um, ut, uA, un, uc, uW, uB, uk, ud, uT⟩) := Lib.hid (by rw [hw6]; exact hin.alloc _)
        have HB46 : Hid (Below w4.heap.size w4 w6) := Lib.hid (by rw [hw6]; exact bl_alloc b5 _)
        clear hst hin hul b5 F1
        have HB16 := Lib.hid (bl_trans HB14.out HB46.out)
        have q0 : w6.cell? ⟨w.heap.size, 0, none⟩ = some (.int .i64 xw) := KEEP0.out w6 HB16.out 0 (by decide)
        have q1 : w6.cell? ⟨w.heap.size, 1, none⟩ = some (.int .i64 xm) := KEEP0.out w6 HB16.out 1 (by decide)
        have q2 : w6.cell? ⟨w.heap.size, 2, none⟩ = some (.int .i64 xt) := KEEP0.out w6 HB16.out 2 (by decide)
        have q3 : w6.cell? ⟨w.heap.size, 3, none⟩ = some (.slice xA xn xc) := KEEP0.out w6 HB16.out 3 (by decide)
        have q4 : w6.cell? ⟨w.heap.size, 4, none⟩ = some (.slice xB xk xd) := KEEP0.out w6 HB16.out 4 (by decide)
        have B6 := Lib.hid (bl_trans B4.out HB46.out)
        have F2 := Lib.hid (add_c LA ⟨xw, xm, xt, xA, xn, xc, xW, xB, xk, xd, xT⟩ BA na da w6 (insS (cc L) s, 9) (TA.out.below HB46.out) (by omega) MA.out (HXI.out.below B6.out) HXL.out (by rw [HS.out, EA.out]; exact HADD.out))
        simp only [cS] at F2 ⊢
        rw [hw6] at q0 q1 q2 q3 q4
        go_wp2_with fail
        rw [← hw6]
        clear q0 q1 q2 q3 q4 hw6
        refine F2.out.mono ?_
        rintro e w7 ⟨B7, n7, d7, L7, rfl, -, -, -, b7⟩
        have HB67 := Lib.hid b7
        have HB17 := Lib.hid (bl_trans HB16.out b7)
        have HB47 := Lib.hid (bl_trans HB46.out b7)
        clear b7 F2
        have q0 : w7.cell? ⟨w.heap.size, 0, none⟩ = some (.int .i64 xw) := KEEP0.out w7 HB17.out 0 (by decide)
        have F3 := Lib.hid (drop_c LA [xw] BA (some ⟨w7.heap.size, 0, none⟩) na da 1 1 (w7.alloc (.cells #[.int .i64 xw] 3)) (cc L, 0) ((TA.out.below HB47.out).alloc _) (by omega) MA.out (Rd.built w7 1 1 (zs [xw]) _ rfl) (by decide) (by rw [EA.out, ← HSW.out]; exact HDR.out))
        go_wp2_with fail
        clear q0
        refine F3.out.mono ?_
        rintro e w8 ⟨B8, n8, d8, L8, rfl, t8, e8, l8, b8⟩
        have HB78 := Lib.hid (bl_trans (bl_alloc (Below.refl w7.heap.size w7) (.cells #[.int .i64 xw] 3)) b8)
        have HB68 := Lib.hid (bl_trans HB67.out HB78.out)
        have HB18 := Lib.hid (bl_trans HB17.out HB78.out)
        have HB48 := Lib.hid (bl_trans HB47.out HB78.out)
        have T8 := Lib.hid t8
        have E8 : Hid (cc L8 = cc L) := Lib.hid e8
        have M8 := Lib.hid l8
        clear b8 t8 e8 l8 F3
        have q0 : w8.cell? ⟨w.heap.size, 0, none⟩ = some (.int .i64 xw) := KEEP0.out w8 HB18.out 0 (by decide)
        have F4 := Lib.hid (drop_c LA [xw, xw] BA (some ⟨w8.heap.size, 0, none⟩) na da 2 2 (w8.alloc (.cells #[.int .i64 xw, .int .i64 xw] 3)) (insS (cc L) s, 3) ((TA.out.below HB48.out).alloc _) (by omega) MA.out (Rd.built w8 1 2 (zs [xw, xw]) _ rfl) (by decide) (by rw [EA.out, ← HSW.out]; exact HDR2.out))
        go_wp2_with fail
        clear q0
        refine F4.out.mono ?_
        rintro e w9 ⟨B9, n9, d9, L9, rfl, -, -, -, b9⟩
        have HB89 := Lib.hid (bl_trans (bl_alloc (Below.refl w8.heap.size w8) (.cells #[.int .i64 xw, .int .i64 xw] 3)) b9)
        have HB69 := Lib.hid (bl_trans HB68.out HB89.out)
        have HB19 := Lib.hid (bl_trans HB18.out HB89.out)
        have HB49 := Lib.hid (bl_trans HB48.out HB89.out)
        clear b9 F4
        have B9' := Lib.hid (bl_trans B1.out HB19.out)
        -- the last test: what each call wants, in this world
        have TA9 := Lib.hid (TA.out.below HB49.out)
        have T89 := Lib.hid (T8.out.below HB89.out)
        have HR9 := Lib.hid (HR.out.below B9'.out)
        have HX9 := Lib.hid (HXI.out.below B9'.out)
        have HU9 := Lib.hid (HUI.out.below HB69.out)
        have KX9 := Lib.hid (K1.out.below HB19.out)
        have KU9 := Lib.hid (KU.out.below HB69.out)
        have hn8 : n8 ≤ 20 := by have h1 := T8.out.len; rw [← cc_len, E8.out, cc_len, HR.out.len] at h1; omega
        have HSAME : Hid (∀ (D E : Option Addr) (d e : Nat), decide (st ⟨uw, um, ut, uA, un, uc, uW, D, uk, d, uT⟩ = st ⟨xw, xm, xt, xA, xn, xc, xW, E, xk, e, xT⟩) = true) := Lib.hid (fun D E d e => decide_eq_true (by
          have h1 := HST.out; have h2 := HS.out; rw [← h2] at h1; exact h1))
        have HRT : Hid (rightB (cc LA) = true) := Lib.hid (by rw [EA.out]; exact HG5.out)
        have bq : Hid (Below w9.heap.size w9 w9.drew) := Lib.hid (Below.refl _ _).drew
        clear KEEP0 HFIND HADD HDR HDR2 HB12 HB13 HB14 HB16 HB17 HB18 HB19 HB46 HB47 HB48 HB49 HB67 HB68 HB69 HB78 HB89 K1 KU TA T8 HXI HUI
        go_wp2_with fail
-- LAST
        obtain ⟨SB, hSB⟩ : ∃ SB : World → Prop, ∀ V, SB V ↔ (Blk V w.heap.size 26 #[.int .i64 xw, .int .i64 xm, .int .i64 xt, .slice xA xn xc, .slice xB xk xd] ∧ Blk V w5.heap.size 26 #[.int .i64 uw, .int .i64 um, .int .i64 ut, .slice uA un uc, .slice uB uk ud]) := ⟨_, fun _ => Iff.rfl⟩
        have HSB := Lib.hid hSB
        clear hSB
        have f0 : SB w9.drew := ((HSB.out _).2 ⟨KX9.out.below bq.out, KU9.out.below bq.out⟩)
        refine wp_region_held_drew (S := SB) (by kernel_rfl) f0 (fun hH0 => ?_)
        clear f0
        generalize w9.drew = wa at *
        refine wpAnyH_take (i := 0) (v := .int .i64 0) rfl (by kernel_rfl) (by kernel_rfl) (by kernel_rfl) (fun _ _ _ h => h) (Or.inl ⟨by kernel_rfl, fun W hS => by go_simp⟩) hH0 ?_
        try simp only [Act.put, List.getElem_toArray, List.getElem_cons_succ, List.getElem_cons_zero]
        try simp only [List.setIfInBounds_toArray]
        try simp only [List.set_cons_succ]
        try simp only [List.set_cons_zero]
        refine wpAnyH_take (i := 1) (v := .bool true) rfl (by kernel_rfl) (by kernel_rfl) (by kernel_rfl) (fun _ _ _ h => h) (Or.inl ⟨by kernel_rfl, fun W hS => by go_simp⟩) hH0 ?_
        try simp only [Act.put, List.getElem_toArray, List.getElem_cons_succ, List.getElem_cons_zero]
        try simp only [List.setIfInBounds_toArray]
        try simp only [List.set_cons_succ]
        try simp only [List.set_cons_zero]
        refine wpAnyH_take (i := 2) (v := .bool true) rfl (by kernel_rfl) (by kernel_rfl) (by kernel_rfl) (fun _ _ _ h => h) (Or.inl ⟨by kernel_rfl, fun W hS => by go_simp⟩) hH0 ?_
        try simp only [Act.put, List.getElem_toArray, List.getElem_cons_succ, List.getElem_cons_zero]
        try simp only [List.setIfInBounds_toArray]
        try simp only [List.set_cons_succ]
        try simp only [List.set_cons_zero]
        refine wpAnyH_take (i := 3) (v := .agg #[.int .i64 uw, .int .i64 um, .int .i64 ut, .slice uA un uc, .slice uB uk ud]) rfl (by kernel_rfl) (by kernel_rfl) (by kernel_rfl) (fun _ _ _ h => h) (Or.inl ⟨by kernel_rfl, fun W hS => by have hSS := (HSB.out W).1 hS; have q0 := hSS.1.cell 0 _ rfl; have p0 := hSS.2.cell 0 _ rfl; have q1 := hSS.1.cell 1 _ rfl; have p1 := hSS.2.cell 1 _ rfl; have q2 := hSS.1.cell 2 _ rfl; have p2 := hSS.2.cell 2 _ rfl; have q3 := hSS.1.cell 3 _ rfl; have p3 := hSS.2.cell 3 _ rfl; have q4 := hSS.1.cell 4 _ rfl; have p4 := hSS.2.cell 4 _ rfl; go_simp⟩) hH0 ?_
        try simp only [Act.put, List.getElem_toArray, List.getElem_cons_succ, List.getElem_cons_zero]
        try simp only [List.setIfInBounds_toArray]
        try simp only [List.set_cons_succ]
        try simp only [List.set_cons_zero]
        refine wpAnyH_take (i := 5) (v := .agg #[.int .i64 xw, .int .i64 xm, .int .i64 xt, .slice xA xn xc, .slice xB xk xd]) rfl (by kernel_rfl) (by kernel_rfl) (by kernel_rfl) (fun _ _ _ h => h) (Or.inl ⟨by kernel_rfl, fun W hS => by have hSS := (HSB.out W).1 hS; have q0 := hSS.1.cell 0 _ rfl; have p0 := hSS.2.cell 0 _ rfl; have q1 := hSS.1.cell 1 _ rfl; have p1 := hSS.2.cell 1 _ rfl; have q2 := hSS.1.cell 2 _ rfl; have p2 := hSS.2.cell 2 _ rfl; have q3 := hSS.1.cell 3 _ rfl; have p3 := hSS.2.cell 3 _ rfl; have q4 := hSS.1.cell 4 _ rfl; have p4 := hSS.2.cell 4 _ rfl; go_simp⟩) hH0 ?_
        try simp only [Act.put, List.getElem_toArray, List.getElem_cons_succ, List.getElem_cons_zero]
        try simp only [List.setIfInBounds_toArray]
        try simp only [List.set_cons_succ]
        try simp only [List.set_cons_zero]
        refine wpAnyH_ready (rs := [4]) (by kernel_rfl) (by simp) ?_
        refine AllReadyH.cons rfl (fun KK0 hK => ?_) AllReadyH.nil
        rw [if_pos (by kernel_rfl)]
        refine Step2.calls_wp _ _ _ (ref1_c ⟨uw, um, ut, uA, un, uc, uW, uB, uk, ud, uT⟩ _ (HU9.out.below bq.out) HUL.out) (Step2.run_call _ _ _ rfl rfl Try.func14 (by kernel_rfl) (by kernel_rfl) _ (by kernel_rfl)) ?_
        rintro e wb hq
        obtain ⟨DU, dU, he, hU, -, b5⟩ := hq
        subst he
        refine ⟨_, rfl, ?_⟩
        replace bq := Lib.hid (bl_trans bq.out b5)
        try replace VV := Lib.hid (VV.out.below b5)
        have UU : Hid (Inner wb ⟨uw, um, ut, uA, un, uc, uW, DU, uk, dU, uT⟩) := Lib.hid ⟨HU9.out.1.below bq.out, hU⟩
        clear hU b5
        refine hK.out _ _ ((HSB.out _).2 ⟨KX9.out.below bq.out, KU9.out.below bq.out⟩) (fun hH1 => ?_)
        clear hK KK0
        try simp only [Act.put, List.getElem_toArray, List.getElem_cons_succ, List.getElem_cons_zero]
        try simp only [List.setIfInBounds_toArray]
        try simp only [List.set_cons_succ]
        try simp only [List.set_cons_zero]
        refine wpAnyH_ready (rs := [6]) (by kernel_rfl) (by simp) ?_
        refine AllReadyH.cons rfl (fun KK0 hK => ?_) AllReadyH.nil
        rw [if_pos (by kernel_rfl)]
        refine Step2.calls_wp _ _ _ (ref1_c ⟨xw, xm, xt, xA, xn, xc, xW, xB, xk, xd, xT⟩ _ (HX9.out.below bq.out) HXL.out) (Step2.run_call _ _ _ rfl rfl Try.func14 (by kernel_rfl) (by kernel_rfl) _ (by kernel_rfl)) ?_
        rintro e wb hq
        obtain ⟨DX, dX, he, hX, -, b5⟩ := hq
        subst he
        refine ⟨_, rfl, ?_⟩
        replace bq := Lib.hid (bl_trans bq.out b5)
        try replace UU := Lib.hid (UU.out.below b5)
        have VV : Hid (Inner wb ⟨xw, xm, xt, xA, xn, xc, xW, DX, xk, dX, xT⟩) := Lib.hid ⟨HX9.out.1.below bq.out, hX⟩
        clear hX b5
        refine hK.out _ _ ((HSB.out _).2 ⟨KX9.out.below bq.out, KU9.out.below bq.out⟩) (fun hH2 => ?_)
        clear hK KK0
        try simp only [Act.put, List.getElem_toArray, List.getElem_cons_succ, List.getElem_cons_zero]
        try simp only [List.setIfInBounds_toArray]
        try simp only [List.set_cons_succ]
        try simp only [List.set_cons_zero]
        refine wpAnyH_ready (rs := [7]) (by kernel_rfl) (by simp) ?_
        refine AllReadyH.cons rfl (fun KK0 hK => ?_) AllReadyH.nil
        rw [if_pos (by kernel_rfl)]
        refine Step2.calls_wp _ _ _ (one2_c ⟨uw, um, ut, uA, un, uc, uW, DU, uk, dU, uT⟩ ⟨xw, xm, xt, xA, xn, xc, xW, DX, xk, dX, xT⟩ _ true UU.out HUL.out VV.out HXL.out (HSAME.out _ _ _ _)) (Step2.run_call _ _ _ rfl rfl Try.func20 (by kernel_rfl) (by kernel_rfl) _ (by kernel_rfl)) ?_
        rintro e wb hq
        obtain ⟨rfl, b5⟩ := hq
        refine ⟨_, rfl, ?_⟩
        replace bq := Lib.hid (bl_trans bq.out b5)
        clear b5
        refine hK.out _ _ ((HSB.out _).2 ⟨KX9.out.below bq.out, KU9.out.below bq.out⟩) (fun hH3 => ?_)
        clear hK KK0
        try simp only [Act.put, List.getElem_toArray, List.getElem_cons_succ, List.getElem_cons_zero]
        try simp only [List.setIfInBounds_toArray]
        try simp only [List.set_cons_succ]
        try simp only [List.set_cons_zero]
        refine wpAnyH_take (i := 8) (v := .bool true) rfl (by kernel_rfl) (by kernel_rfl) (by kernel_rfl) (fun _ _ _ h => h) (Or.inl ⟨by kernel_rfl, fun W hS => by go_simp⟩) hH3 ?_
        try simp only [Act.put, List.getElem_toArray, List.getElem_cons_succ, List.getElem_cons_zero]
        try simp only [List.setIfInBounds_toArray]
        try simp only [List.set_cons_succ]
        try simp only [List.set_cons_zero]
        refine wpAnyH_take (i := 9) (v := .bool true) rfl (by kernel_rfl) (by kernel_rfl) (by kernel_rfl) (fun _ _ _ h => h) (Or.inl ⟨by kernel_rfl, fun W hS => by go_simp⟩) hH3 ?_
        try simp only [Act.put, List.getElem_toArray, List.getElem_cons_succ, List.getElem_cons_zero]
        try simp only [List.setIfInBounds_toArray]
        try simp only [List.set_cons_succ]
        try simp only [List.set_cons_zero]
        refine wpAnyH_take (i := 10) (v := .int .i64 9) rfl (by kernel_rfl) (by kernel_rfl) (by kernel_rfl) (fun _ _ _ h => h) (Or.inl ⟨by kernel_rfl, fun W hS => by go_simp⟩) hH3 ?_
        try simp only [Act.put, List.getElem_toArray, List.getElem_cons_succ, List.getElem_cons_zero]
        try simp only [List.setIfInBounds_toArray]
        try simp only [List.set_cons_succ]
        try simp only [List.set_cons_zero]
        refine wpAnyH_take (i := 11) (v := .bool true) rfl (by kernel_rfl) (by kernel_rfl) (by kernel_rfl) (fun _ _ _ h => h) (Or.inl ⟨by kernel_rfl, fun W hS => by go_simp⟩) hH3 ?_
        try simp only [Act.put, List.getElem_toArray, List.getElem_cons_succ, List.getElem_cons_zero]
        try simp only [List.setIfInBounds_toArray]
        try simp only [List.set_cons_succ]
        try simp only [List.set_cons_zero]
        refine wpAnyH_take (i := 12) (v := .bool true) rfl (by kernel_rfl) (by kernel_rfl) (by kernel_rfl) (fun _ _ _ h => h) (Or.inl ⟨by kernel_rfl, fun W hS => by go_simp⟩) hH3 ?_
        try simp only [Act.put, List.getElem_toArray, List.getElem_cons_succ, List.getElem_cons_zero]
        try simp only [List.setIfInBounds_toArray]
        try simp only [List.set_cons_succ]
        try simp only [List.set_cons_zero]
        refine wpAnyH_take (i := 13) (v := .bool true) rfl (by kernel_rfl) (by kernel_rfl) (by kernel_rfl) (fun _ _ _ h => h) (Or.inl ⟨by kernel_rfl, fun W hS => by go_simp⟩) hH3 ?_
        try simp only [Act.put, List.getElem_toArray, List.getElem_cons_succ, List.getElem_cons_zero]
        try simp only [List.setIfInBounds_toArray]
        try simp only [List.set_cons_succ]
        try simp only [List.set_cons_zero]
        refine wpAnyH_take (i := 14) (v := .int .i64 0) rfl (by kernel_rfl) (by kernel_rfl) (by kernel_rfl) (fun _ _ _ h => h) (Or.inl ⟨by kernel_rfl, fun W hS => by go_simp⟩) hH3 ?_
        try simp only [Act.put, List.getElem_toArray, List.getElem_cons_succ, List.getElem_cons_zero]
        try simp only [List.setIfInBounds_toArray]
        try simp only [List.set_cons_succ]
        try simp only [List.set_cons_zero]
        refine wpAnyH_take (i := 15) (v := .bool true) rfl (by kernel_rfl) (by kernel_rfl) (by kernel_rfl) (fun _ _ _ h => h) (Or.inl ⟨by kernel_rfl, fun W hS => by go_simp⟩) hH3 ?_
        try simp only [Act.put, List.getElem_toArray, List.getElem_cons_succ, List.getElem_cons_zero]
        try simp only [List.setIfInBounds_toArray]
        try simp only [List.set_cons_succ]
        try simp only [List.set_cons_zero]
        refine wpAnyH_take (i := 16) (v := .bool true) rfl (by kernel_rfl) (by kernel_rfl) (by kernel_rfl) (fun _ _ _ h => h) (Or.inl ⟨by kernel_rfl, fun W hS => by go_simp⟩) hH3 ?_
        try simp only [Act.put, List.getElem_toArray, List.getElem_cons_succ, List.getElem_cons_zero]
        try simp only [List.setIfInBounds_toArray]
        try simp only [List.set_cons_succ]
        try simp only [List.set_cons_zero]
        refine wpAnyH_take (i := 17) (v := .bool true) rfl (by kernel_rfl) (by kernel_rfl) (by kernel_rfl) (fun _ _ _ h => h) (Or.inl ⟨by kernel_rfl, fun W hS => by go_simp⟩) hH3 ?_
        try simp only [Act.put, List.getElem_toArray, List.getElem_cons_succ, List.getElem_cons_zero]
        try simp only [List.setIfInBounds_toArray]
        try simp only [List.set_cons_succ]
        try simp only [List.set_cons_zero]
        refine wpAnyH_take (i := 18) (v := .slice B8 n8 d8) rfl (by kernel_rfl) (by kernel_rfl) (by kernel_rfl) (fun _ _ _ h => h) (Or.inl ⟨by kernel_rfl, fun W hS => by go_simp⟩) hH3 ?_
        try simp only [Act.put, List.getElem_toArray, List.getElem_cons_succ, List.getElem_cons_zero]
        try simp only [List.setIfInBounds_toArray]
        try simp only [List.set_cons_succ]
        try simp only [List.set_cons_zero]
        refine wpAnyH_take (i := 20) (v := .slice A n c) rfl (by kernel_rfl) (by kernel_rfl) (by kernel_rfl) (fun _ _ _ h => h) (Or.inl ⟨by kernel_rfl, fun W hS => by go_simp⟩) hH3 ?_
        try simp only [Act.put, List.getElem_toArray, List.getElem_cons_succ, List.getElem_cons_zero]
        try simp only [List.setIfInBounds_toArray]
        try simp only [List.set_cons_succ]
        try simp only [List.set_cons_zero]
        refine wpAnyH_ready (rs := [19]) (by kernel_rfl) (by simp) ?_
        refine AllReadyH.cons rfl (fun KK0 hK => ?_) AllReadyH.nil
        rw [if_pos (by kernel_rfl)]
        refine Step2.calls_wp _ _ _ (refs_c L8 B8 n8 d8 _ (T89.out.below bq.out) (by omega) M8.out) (Step2.run_call _ _ _ rfl rfl Try.func11 (by kernel_rfl) (by kernel_rfl) _ (by kernel_rfl)) ?_
        rintro e wb hq
        obtain ⟨v_, Ldd, he, o1, o2, o3, o4, -⟩ := hq
        subst he
        refine ⟨_, rfl, ?_⟩
        replace bq := Lib.hid (bl_trans bq.out o1.2)
        try replace SL := Lib.hid (SL.out.below o1.2)
        obtain ⟨Bd, cdd, rfl, r_⟩ := o1.form
        have SD : Hid (Sls wb Bd n8 Ldd) := Lib.hid ⟨r_, o3⟩
        have ED := Lib.hid o2
        have MD := Lib.hid o4
        clear o1 o2 o3 o4 r_
        refine hK.out _ _ ((HSB.out _).2 ⟨KX9.out.below bq.out, KU9.out.below bq.out⟩) (fun hH4 => ?_)
        clear hK KK0
        try simp only [Act.put, List.getElem_toArray, List.getElem_cons_succ, List.getElem_cons_zero]
        try simp only [List.setIfInBounds_toArray]
        try simp only [List.set_cons_succ]
        try simp only [List.set_cons_zero]
        refine wpAnyH_ready (rs := [21]) (by kernel_rfl) (by simp) ?_
        refine AllReadyH.cons rfl (fun KK0 hK => ?_) AllReadyH.nil
        rw [if_pos (by kernel_rfl)]
        refine Step2.calls_wp _ _ _ (refs_c L A n c _ (HR9.out.below bq.out) (by omega) HLim.out) (Step2.run_call _ _ _ rfl rfl Try.func11 (by kernel_rfl) (by kernel_rfl) _ (by kernel_rfl)) ?_
        rintro e wb hq
        obtain ⟨v_, Lll, he, o1, o2, o3, o4, -⟩ := hq
        subst he
        refine ⟨_, rfl, ?_⟩
        replace bq := Lib.hid (bl_trans bq.out o1.2)
        try replace SD := Lib.hid (SD.out.below o1.2)
        obtain ⟨Bl, cll, rfl, r_⟩ := o1.form
        have SL : Hid (Sls wb Bl n Lll) := Lib.hid ⟨r_, o3⟩
        have EL := Lib.hid o2
        have ML := Lib.hid o4
        clear o1 o2 o3 o4 r_
        refine hK.out _ _ ((HSB.out _).2 ⟨KX9.out.below bq.out, KU9.out.below bq.out⟩) (fun hH5 => ?_)
        clear hK KK0
        try simp only [Act.put, List.getElem_toArray, List.getElem_cons_succ, List.getElem_cons_zero]
        try simp only [List.setIfInBounds_toArray]
        try simp only [List.set_cons_succ]
        try simp only [List.set_cons_zero]
        refine wpAnyH_ready (rs := [22]) (by kernel_rfl) (by simp) ?_
        refine AllReadyH.cons rfl (fun KK0 hK => ?_) AllReadyH.nil
        rw [if_pos (by kernel_rfl)]
        refine Step2.calls_wp _ _ _ (same_c Ldd Lll Bd Bl n8 cdd n cll _ true SD.out SL.out (by omega) MD.out ML.out (decide_eq_true (by rw [ED.out, EL.out]; exact E8.out))) (Step2.run_call _ _ _ rfl rfl Try.func22 (by kernel_rfl) (by kernel_rfl) _ (by kernel_rfl)) ?_
        rintro e wb hq
        obtain ⟨rfl, b5⟩ := hq
        refine ⟨_, rfl, ?_⟩
        replace bq := Lib.hid (bl_trans bq.out b5)
        clear b5
        refine hK.out _ _ ((HSB.out _).2 ⟨KX9.out.below bq.out, KU9.out.below bq.out⟩) (fun hH6 => ?_)
        clear hK KK0
        try simp only [Act.put, List.getElem_toArray, List.getElem_cons_succ, List.getElem_cons_zero]
        try simp only [List.setIfInBounds_toArray]
        try simp only [List.set_cons_succ]
        try simp only [List.set_cons_zero]
        refine wpAnyH_take (i := 23) (v := .bool true) rfl (by kernel_rfl) (by kernel_rfl) (by kernel_rfl) (fun _ _ _ h => h) (Or.inl ⟨by kernel_rfl, fun W hS => by go_simp⟩) hH6 ?_
        try simp only [Act.put, List.getElem_toArray, List.getElem_cons_succ, List.getElem_cons_zero]
        try simp only [List.setIfInBounds_toArray]
        try simp only [List.set_cons_succ]
        try simp only [List.set_cons_zero]
        refine wpAnyH_take (i := 24) (v := .bool true) rfl (by kernel_rfl) (by kernel_rfl) (by kernel_rfl) (fun _ _ _ h => h) (Or.inl ⟨by kernel_rfl, fun W hS => by go_simp⟩) hH6 ?_
        try simp only [Act.put, List.getElem_toArray, List.getElem_cons_succ, List.getElem_cons_zero]
        try simp only [List.setIfInBounds_toArray]
        try simp only [List.set_cons_succ]
        try simp only [List.set_cons_zero]
        refine wpAnyH_take (i := 25) (v := .int .i64 3) rfl (by kernel_rfl) (by kernel_rfl) (by kernel_rfl) (fun _ _ _ h => h) (Or.inl ⟨by kernel_rfl, fun W hS => by go_simp⟩) hH6 ?_
        try simp only [Act.put, List.getElem_toArray, List.getElem_cons_succ, List.getElem_cons_zero]
        try simp only [List.setIfInBounds_toArray]
        try simp only [List.set_cons_succ]
        try simp only [List.set_cons_zero]
        refine wpAnyH_take (i := 26) (v := .bool true) rfl (by kernel_rfl) (by kernel_rfl) (by kernel_rfl) (fun _ _ _ h => h) (Or.inl ⟨by kernel_rfl, fun W hS => by go_simp⟩) hH6 ?_
        try simp only [Act.put, List.getElem_toArray, List.getElem_cons_succ, List.getElem_cons_zero]
        try simp only [List.setIfInBounds_toArray]
        try simp only [List.set_cons_succ]
        try simp only [List.set_cons_zero]
        refine wpAnyH_take (i := 27) (v := .bool true) rfl (by kernel_rfl) (by kernel_rfl) (by kernel_rfl) (fun _ _ _ h => h) (Or.inl ⟨by kernel_rfl, fun W hS => by go_simp⟩) hH6 ?_
        try simp only [Act.put, List.getElem_toArray, List.getElem_cons_succ, List.getElem_cons_zero]
        try simp only [List.setIfInBounds_toArray]
        try simp only [List.set_cons_succ]
        try simp only [List.set_cons_zero]
        refine wpAnyH_take (i := 28) (v := .bool true) rfl (by kernel_rfl) (by kernel_rfl) (by kernel_rfl) (fun _ _ _ h => h) (Or.inl ⟨by kernel_rfl, fun W hS => by go_simp⟩) hH6 ?_
        try simp only [Act.put, List.getElem_toArray, List.getElem_cons_succ, List.getElem_cons_zero]
        try simp only [List.setIfInBounds_toArray]
        try simp only [List.set_cons_succ]
        try simp only [List.set_cons_zero]
        refine wpAnyH_take (i := 29) (v := .slice BA na da) rfl (by kernel_rfl) (by kernel_rfl) (by kernel_rfl) (fun _ _ _ h => h) (Or.inl ⟨by kernel_rfl, fun W hS => by go_simp⟩) hH6 ?_
        try simp only [Act.put, List.getElem_toArray, List.getElem_cons_succ, List.getElem_cons_zero]
        try simp only [List.setIfInBounds_toArray]
        try simp only [List.set_cons_succ]
        try simp only [List.set_cons_zero]
        refine wpAnyH_ready (rs := [30]) (by kernel_rfl) (by simp) ?_
        refine AllReadyH.cons rfl (fun KK0 hK => ?_) AllReadyH.nil
        rw [if_pos (by kernel_rfl)]
        refine Step2.calls_wp _ _ _ (right_c LA BA na da _ true (TA9.out.below bq.out) (by omega) MA.out HRT.out) (Step2.run_call _ _ _ rfl rfl Try.func21 (by kernel_rfl) (by kernel_rfl) _ (by kernel_rfl)) ?_
        rintro e wb hq
        obtain ⟨rfl, b5⟩ := hq
        refine ⟨_, rfl, ?_⟩
        replace bq := Lib.hid (bl_trans bq.out b5)
        clear b5
        refine hK.out _ _ ((HSB.out _).2 ⟨KX9.out.below bq.out, KU9.out.below bq.out⟩) (fun hH7 => ?_)
        clear hK KK0
        try simp only [Act.put, List.getElem_toArray, List.getElem_cons_succ, List.getElem_cons_zero]
        try simp only [List.setIfInBounds_toArray]
        try simp only [List.set_cons_succ]
        try simp only [List.set_cons_zero]
        refine wpAnyH_take (i := 31) (v := .bool true) rfl (by kernel_rfl) (by kernel_rfl) (by kernel_rfl) (fun _ _ _ h => h) (Or.inl ⟨by kernel_rfl, fun W hS => by go_simp⟩) hH7 ?_
        try simp only [Act.put, List.getElem_toArray, List.getElem_cons_succ, List.getElem_cons_zero]
        try simp only [List.setIfInBounds_toArray]
        try simp only [List.set_cons_succ]
        try simp only [List.set_cons_zero]
        refine wpAnyH_take (i := 32) (v := .bool true) rfl (by kernel_rfl) (by kernel_rfl) (by kernel_rfl) (fun _ _ _ h => h) (Or.inl ⟨by kernel_rfl, fun W hS => by go_simp⟩) hH7 ?_
        try simp only [Act.put, List.getElem_toArray, List.getElem_cons_succ, List.getElem_cons_zero]
        try simp only [List.setIfInBounds_toArray]
        try simp only [List.set_cons_succ]
        try simp only [List.set_cons_zero]
        refine wpAnyH_ready (rs := [33]) (by kernel_rfl) (by simp) ?_
        refine AllReadyH.cons rfl (fun KK0 hK => ?_) AllReadyH.nil
        rw [if_pos (by kernel_rfl)]
        refine Step2.calls_wp _ _ _ (awake_any _) (Step2.run_call _ _ _ rfl rfl Try.func10 (by kernel_rfl) (by kernel_rfl) _ (by kernel_rfl)) ?_
        rintro e wb hq
        obtain ⟨rfl, b5⟩ := hq
        refine ⟨_, rfl, ?_⟩
        replace bq := Lib.hid (bl_trans bq.out b5)
        clear b5
        refine hK.out _ _ ((HSB.out _).2 ⟨KX9.out.below bq.out, KU9.out.below bq.out⟩) (fun hH8 => ?_)
        clear hK KK0
        try simp only [Act.put, List.getElem_toArray, List.getElem_cons_succ, List.getElem_cons_zero]
        try simp only [List.setIfInBounds_toArray]
        try simp only [List.set_cons_succ]
        try simp only [List.set_cons_zero]
        refine wpAnyH_take (i := 34) (v := .bool true) rfl (by kernel_rfl) (by kernel_rfl) (by kernel_rfl) (fun _ _ _ h => h) (Or.inl ⟨by kernel_rfl, fun W hS => by go_simp⟩) hH8 ?_
        try simp only [Act.put, List.getElem_toArray, List.getElem_cons_succ, List.getElem_cons_zero]
        try simp only [List.setIfInBounds_toArray]
        try simp only [List.set_cons_succ]
        try simp only [List.set_cons_zero]
        refine wpAnyH_ready (rs := [35]) (by kernel_rfl) (by simp) ?_
        refine AllReadyH.cons rfl (fun KK0 hK => ?_) AllReadyH.nil
        go_simp
        refine hK.out _ _ hH8 (fun _ => ?_)
        clear hK KK0
        refine wpAnyH_done (by kernel_rfl) ?_ _
        try simp only [Act.put, List.getElem_toArray, List.getElem_cons_succ, List.getElem_cons_zero]
        try simp only [List.setIfInBounds_toArray]
        try simp only [List.set_cons_succ]
        try simp only [List.set_cons_zero]
        go_wp2
        go_ret
        exact ⟨rfl, bl_trans B9'.out bq.out⟩
-- END
      · have he2 : (er != 0) = true := by simpa using he
        have HRL : Hid (R = cc L) := Lib.hid (by have := add_no (cc L) s (by rw [HRE.out]; exact he); rw [HRE.out] at this; exact this)
        have hna : na ≤ 20 := by
          have h2 := TA.out.len
          rw [← cc_len, EA.out, HRL.out, cc_len, HR.out.len] at h2
          omega
        have G1 := Lib.hid (refs_c LA BA na da w4 TA.out (by omega) MA.out)
        go_wp2_with fail
        refine G1.out.mono ?_
        rintro e w5 ⟨v5, M5, rfl, o1, o2, o3, o4, -⟩
        obtain ⟨B5, d5, rfl, r5⟩ := o1.form
        have S5 : Hid (Sls w5 B5 na M5) := Lib.hid ⟨r5, o3⟩
        have E5 := Lib.hid o2
        have X5 := Lib.hid o4
        have B5' := Lib.hid (bl_trans B4.out o1.2)
        clear o1 o2 o3 o4 r5 G1
        have G2 := Lib.hid (refs_c L A n c w5 (HR.out.below B5'.out) (by omega) HLim.out)
        go_wp2_with fail
        refine G2.out.mono ?_
        rintro e w6 ⟨v6, M6, rfl, o1, o2, o3, o4, -⟩
        obtain ⟨B6, d6, rfl, r6⟩ := o1.form
        have G3 := Lib.hid (same_c M5 M6 B5 B6 na d5 n d6 w6 true (S5.out.below o1.2) ⟨r6, o3⟩ (by omega) X5.out o4 (decide_eq_true (by rw [E5.out, EA.out, HRL.out, o2])))
        have B6' := Lib.hid (bl_trans B5'.out o1.2)
        clear o1 o2 o3 o4 r6 G2
        go_wp2_with fail
        refine G3.out.mono ?_
        rintro e w7 ⟨rfl, b7⟩
        have B7' := Lib.hid (bl_trans B6'.out b7)
        clear b7 G3
        go_wp2_with fail
        refine (awake_any _).mono ?_
        rintro e w8 ⟨rfl, b8⟩
        go_wp2
        go_ret
        exact ⟨rfl, bl_trans B7'.out b8⟩
end Go.Proofs.Ytakdeagaldnelaa.Sleep
