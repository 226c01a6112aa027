/-
  THE WALK OF THE LAW SleepTells.
-/
import Derived.Test.YtakdeagaldnelaaSleepAwake
import Derived.Test.YtakdeagaldnelaaSleepRef4
import Derived.Test.YtakdeagaldnelaaSleepRef3
import Derived.Test.YtakdeagaldnelaaSleepTwiceW
import Derived.Test.YtakdeagaldnelaaStep2
import Derived.RegionTactic
import Derived.Deep.Cut
import Derived.Deep.CutRange
import Derived.Test.YtakdeagaldnelaaMemA
namespace Go.Proofs.Ytakdeagaldnelaa.Sleep
open Go.ChangeShapes Go.WideShapes Go.ChangeAt Go.RowKit Mem
open Heap (Write)

theorem add_len_ (L : List Sl) (s : Sl) : (addS L s).1.length ≤ L.length + L.length + 1 := by
  unfold addS
  split
  · split
    · show L.length ≤ _; omega
    · exact ins_len L s
  · show L.length ≤ _; omega
theorem dropG_len : (ws : List Int) → (L R : List Sl) → dropG L ws = some R → R.length ≤ L.length
  | [], L, R, h => by injection h with h; rw [h]; exact Nat.le_refl _
  | w :: t, L, R, h => by
    cases hh : hasB L w
    · rw [dropG_no L w t hh] at h; cases h
    · rw [dropG_yes L w t hh] at h
      exact Nat.le_trans (dropG_len t _ R h) (List.length_filter_le _ _)
theorem drop_len_ (L : List Sl) (ws : List Int) : (dropS L ws).1.length ≤ L.length := by
  unfold dropS
  split
  · split
    · rename_i R h; exact dropG_len ws L R h
    · exact Nat.le_refl _
  · exact Nat.le_refl _
theorem of_len_ (L : List Sl) (cs : List Int) : (ofS L cs).length ≤ L.length := by
  unfold ofS
  split
  · rw [List.length_map]; exact List.length_filter_le _ _
  · simp
theorem sls_len_ {w : World} {A : Option Addr} {n : Nat} {L : List RawS} {S : List Sl} (h : Sls w A n L) (e : cc L = S) : n = S.length := by rw [← h.len, ← cc_len L, e]
set_option maxRecDepth 100000 in
set_option maxHeartbeats 16000000 in
theorem tells_walk (A D E : Option Addr) (n c m d k f : Nat) (L : List RawS) (x : RawS) (ws cs : List Int) (w : World) (mn : n ≤ 9223372036854775807) (mm : m ≤ 9223372036854775807) (mk : k ≤ 9223372036854775807) (hr : Sls w A n L) (hx : Inner w x) (hw : Rd w 1 D m (zs ws)) (hc : Rd w 1 E k (zs cs)) :
    Calls Try.prog 3 #[.slice A n c, .agg (cS x), .slice D m d, .slice E k f] w (RetB w true) := by
  have SL := Lib.hid hr
  have IX := Lib.hid hx
  have RW := Lib.hid hw
  have RC := Lib.hid hc
  have HLn := Lib.hid hr.len
  have HWL := Lib.hid (zs_len hw)
  have bb := Lib.hid (Below.refl w.heap.size w)
  clear hr hx hw hc
  obtain ⟨xw, xm, xt, xA, xn, xc, xW, xB, xk, xd, xT⟩ := x
  obtain ⟨w1, hw1⟩ : ∃ w1, w1 = w.alloc (.cells #[.int .i64 xw, .int .i64 xm, .int .i64 xt, .slice xA xn xc, .slice xB xk xd] 26) := ⟨_, rfl⟩
  have KX : Hid (Blk w1 w.heap.size 26 #[.int .i64 xw, .int .i64 xm, .int .i64 xt, .slice xA xn xc, .slice xB xk xd]) := Lib.hid (by rw [hw1]; exact Blk.new _ _ _)
  have b_ : Below w.heap.size w w1 := by rw [hw1]; exact bl_alloc (Below.refl _ _) _
  replace SL := Lib.hid (SL.out.below b_)
  replace IX := Lib.hid (IX.out.below b_)
  replace RW := Lib.hid (RW.out.below b_)
  replace RC := Lib.hid (RC.out.below b_)
  replace bb := Lib.hid (bl_trans bb.out b_)
  clear b_
  simp only [cS]
  have C0 := Lib.hid (small_c L A n c w1 (if smallB L = true then (n : Int) else -1) SL.out mn rfl)
  obtain ⟨s1_, h1⟩ : ∃ b, smallB L = b := ⟨_, rfl⟩
  cases s1_
  · rw [small_no L n h1] at C0
    go_enter Try.func3, Try.ntmps3
    go_wp2_with fail
    rw [← hw1]
    clear hw1
    refine C0.out.mono ?_
    rintro e w2 ⟨rfl, b_⟩
    replace bb := Lib.hid (bl_trans bb.out b_)
    clear b_ C0
    go_wp2_with fail
    refine (awake_any _).mono ?_
    rintro e wz ⟨rfl, bz⟩
    go_wp2
    go_ret
    exact ⟨rfl, bl_trans bb.out bz⟩
  · rw [small_yes L n h1] at C0
    obtain ⟨hl, hn20⟩ := small_lim L h1
    rw [HLn.out] at hn20
    have ML := Lib.hid hl
    have t0 : decide ((n : Int) < 0) = false := by simp
    clear hl h1
    go_enter Try.func3, Try.ntmps3
    go_wp2_with fail
    rw [← hw1]
    clear hw1
    refine C0.out.mono ?_
    rintro e w2 ⟨rfl, b_⟩
    replace SL := Lib.hid (SL.out.below b_)
    replace IX := Lib.hid (IX.out.below b_)
    replace RW := Lib.hid (RW.out.below b_)
    replace RC := Lib.hid (RC.out.below b_)
    replace KX := Lib.hid (KX.out.below b_)
    replace bb := Lib.hid (bl_trans bb.out b_)
    clear b_ C0
    have q0 := KX.out.cell 0 _ rfl
    have q1 := KX.out.cell 1 _ rfl
    have q2 := KX.out.cell 2 _ rfl
    have q3 := KX.out.cell 3 _ rfl
    have q4 := KX.out.cell 4 _ rfl
    have C1 := Lib.hid (small_c [⟨xw, xm, xt, xA, xn, xc, xW, xB, xk, xd, xT⟩] (some ⟨w2.heap.size, 0, none⟩) 1 1 (w2.alloc (.cells (cS ⟨xw, xm, xt, xA, xn, xc, xW, xB, xk, xd, xT⟩) 26)) _ (sls_one w2 _ _ IX.out) (by decide) rfl)
    simp only [cS] at C1
    obtain ⟨s2_, h2⟩ : ∃ b, smallB [⟨xw, xm, xt, xA, xn, xc, xW, xB, xk, xd, xT⟩] = b := ⟨_, rfl⟩
    have b0 := bl_alloc (Below.refl w2.heap.size w2) (.cells #[.int .i64 xw, .int .i64 xm, .int .i64 xt, .slice xA xn xc, .slice xB xk xd] 26)
    cases s2_
    · rw [small_no _ 1 h2] at C1
      go_wp2_with fail
      clear q0 q1 q2 q3 q4
      refine C1.out.mono ?_
      rintro e w3 ⟨rfl, b_⟩
      replace bb := Lib.hid (bl_trans bb.out (bl_trans b0 b_))
      clear b_ C1 b0
      go_wp2_with fail
      refine (awake_any _).mono ?_
      rintro e wz ⟨rfl, bz⟩
      go_wp2
      go_ret
      exact ⟨rfl, bl_trans bb.out bz⟩
    · rw [small_yes _ 1 h2] at C1
      have LX := Lib.hid (small_one _ h2)
      clear h2
      by_cases h3 : 20 < m
      · go_wp2_with fail
        clear q0 q1 q2 q3 q4
        refine C1.out.mono ?_
        rintro e w3 ⟨rfl, b_⟩
        replace b_ := bl_trans b0 b_
        replace SL := Lib.hid (SL.out.below b_)
        replace IX := Lib.hid (IX.out.below b_)
        replace RW := Lib.hid (RW.out.below b_)
        replace RC := Lib.hid (RC.out.below b_)
        replace KX := Lib.hid (KX.out.below b_)
        replace bb := Lib.hid (bl_trans bb.out b_)
        clear b_ C1 b0
        go_wp2_with fail
        refine (awake_any _).mono ?_
        rintro e wz ⟨rfl, bz⟩
        go_wp2
        go_ret
        exact ⟨rfl, bl_trans bb.out bz⟩
      by_cases h4 : 20 < k
      · go_wp2_with fail
        clear q0 q1 q2 q3 q4
        refine C1.out.mono ?_
        rintro e w3 ⟨rfl, b_⟩
        replace b_ := bl_trans b0 b_
        replace SL := Lib.hid (SL.out.below b_)
        replace IX := Lib.hid (IX.out.below b_)
        replace RW := Lib.hid (RW.out.below b_)
        replace RC := Lib.hid (RC.out.below b_)
        replace KX := Lib.hid (KX.out.below b_)
        replace bb := Lib.hid (bl_trans bb.out b_)
        clear b_ C1 b0
        go_wp2_with fail
        refine (awake_any _).mono ?_
        rintro e wz ⟨rfl, bz⟩
        go_wp2
        go_ret
        exact ⟨rfl, bl_trans bb.out bz⟩
      have hm : m ≤ 20 := by omega
      have hk : k ≤ 20 := by omega
      go_wp2_with fail
      clear q0 q1 q2 q3 q4
      refine C1.out.mono ?_
      rintro e w3 ⟨rfl, b_⟩
      replace b_ := bl_trans b0 b_
      replace SL := Lib.hid (SL.out.below b_)
      replace IX := Lib.hid (IX.out.below b_)
      replace RW := Lib.hid (RW.out.below b_)
      replace RC := Lib.hid (RC.out.below b_)
      replace KX := Lib.hid (KX.out.below b_)
      replace bb := Lib.hid (bl_trans bb.out b_)
      clear b_ C1 b0
      have C_ := Lib.hid (refs_c L A n c w3 SL.out (by omega) ML.out)
      go_wp2_with fail
      refine C_.out.mono ?_
      rintro e w4 ⟨v4, LX_, rfl, o1, o2, o3, o4, -⟩
      replace SL := Lib.hid (SL.out.below o1.2)
      replace IX := Lib.hid (IX.out.below o1.2)
      replace RW := Lib.hid (RW.out.below o1.2)
      replace RC := Lib.hid (RC.out.below o1.2)
      replace KX := Lib.hid (KX.out.below o1.2)
      replace bb := Lib.hid (bl_trans bb.out o1.2)
      obtain ⟨BX, cX, rfl, hcap, r4⟩ := own_room o1
      have SX : Hid (Sls w4 BX n LX_) := Lib.hid ⟨r4, o3⟩
      have EX := Lib.hid o2
      have MX := Lib.hid o4
      clear o1 o2 o3 o4 r4
      clear C_
      obtain ⟨⟨RA, ea⟩, hra⟩ : ∃ r, addS (cc L) (st ⟨xw, xm, xt, xA, xn, xc, xW, xB, xk, xd, xT⟩) = r := ⟨_, rfl⟩
      have HRA := Lib.hid hra
      have hlA : RA.length ≤ 41 := by have h1 := add_len_ (cc L) (st ⟨xw, xm, xt, xA, xn, xc, xW, xB, xk, xd, xT⟩); rw [hra, cc_len, HLn.out] at h1; show RA.length ≤ 41; have : RA.length ≤ n + n + 1 := h1; omega
      clear hra
      have q0 := KX.out.cell 0 _ rfl
      have q1 := KX.out.cell 1 _ rfl
      have q2 := KX.out.cell 2 _ rfl
      have q3 := KX.out.cell 3 _ rfl
      have q4 := KX.out.cell 4 _ rfl
      have C_ := Lib.hid (add_c L ⟨xw, xm, xt, xA, xn, xc, xW, xB, xk, xd, xT⟩ A n c w4 (RA, ea) SL.out (by omega) ML.out IX.out LX.out HRA.out)
      simp only [cS] at C_
      go_wp2_with fail
      clear q0 q1 q2 q3 q4
      refine C_.out.mono ?_
      rintro e w5 ⟨BA, na, da, LA, rfl, ta, e_, la, b_⟩
      replace SL := Lib.hid (SL.out.below b_)
      replace IX := Lib.hid (IX.out.below b_)
      replace RW := Lib.hid (RW.out.below b_)
      replace RC := Lib.hid (RC.out.below b_)
      replace KX := Lib.hid (KX.out.below b_)
      replace SX := Lib.hid (SX.out.below b_)
      replace bb := Lib.hid (bl_trans bb.out b_)
      have SA := Lib.hid ta
      have EA : Hid (cc LA = RA) := Lib.hid e_
      have MA := Lib.hid la
      have hna : na ≤ 41 := by rw [sls_len_ ta e_]; exact hlA
      clear ta e_ la
      clear b_ C_
      have q0 := KX.out.cell 0 _ rfl
      have q1 := KX.out.cell 1 _ rfl
      have q2 := KX.out.cell 2 _ rfl
      have q3 := KX.out.cell 3 _ rfl
      have q4 := KX.out.cell 4 _ rfl
      have C_ := Lib.hid (ref1_c ⟨xw, xm, xt, xA, xn, xc, xW, xB, xk, xd, xT⟩ w5 IX.out LX.out)
      simp only [cS] at C_
      go_wp2_with fail
      clear q0 q1 q2 q3 q4
      refine C_.out.mono ?_
      rintro e w6 ⟨DX, dX, rfl, hX, -, b_⟩
      replace SL := Lib.hid (SL.out.below b_)
      replace IX := Lib.hid (IX.out.below b_)
      replace RW := Lib.hid (RW.out.below b_)
      replace RC := Lib.hid (RC.out.below b_)
      replace KX := Lib.hid (KX.out.below b_)
      replace SX := Lib.hid (SX.out.below b_)
      replace SA := Lib.hid (SA.out.below b_)
      replace bb := Lib.hid (bl_trans bb.out b_)
      have IY : Hid (Inner w6 ⟨xw, xm, xt, xA, xn, xc, xW, DX, xk, dX, xT⟩) := Lib.hid ⟨IX.out.1, hX⟩
      clear hX
      clear b_ C_
      have C_ := Lib.hid (refadd LX_ ⟨xw, xm, xt, xA, xn, xc, xW, DX, xk, dX, xT⟩ BX n cX w6 (RA, ea) SX.out (by omega) MX.out IY.out LX.out (by rw [EX.out]; exact HRA.out))
      simp only [cS] at C_ ⊢
      go_wp2_with fail
      refine C_.out.mono ?_
      rintro e w7 ⟨BB, nb, db, LB, rfl, tb, e_, lb, b_⟩
      replace SL := Lib.hid (SL.out.below b_)
      replace IX := Lib.hid (IX.out.below b_)
      replace RW := Lib.hid (RW.out.below b_)
      replace RC := Lib.hid (RC.out.below b_)
      replace KX := Lib.hid (KX.out.below b_)
      replace SX := Lib.hid (SX.out.below b_)
      replace SA := Lib.hid (SA.out.below b_)
      replace IY := Lib.hid (IY.out.below b_)
      replace bb := Lib.hid (bl_trans bb.out b_)
      have SB_ := Lib.hid tb
      have EB : Hid (cc LB = RA) := Lib.hid e_
      have MB := Lib.hid lb
      clear tb e_ lb
      clear b_ C_
      obtain ⟨⟨RD, ed⟩, hrd⟩ : ∃ r, dropS (cc L) ws = r := ⟨_, rfl⟩
      have HRD := Lib.hid hrd
      have hlD : RD.length ≤ 20 := by have h1 := drop_len_ (cc L) ws; rw [hrd, cc_len, HLn.out] at h1; have : RD.length ≤ n := h1; omega
      clear hrd
      have C_ := Lib.hid (drop_c L ws A D n c m d w7 (RD, ed) SL.out (by omega) ML.out RW.out (by omega) HRD.out)
      go_wp2_with fail
      refine C_.out.mono ?_
      rintro e w8 ⟨BC, nc, dc, LC, rfl, tc, e_, lc, b_⟩
      replace SL := Lib.hid (SL.out.below b_)
      replace IX := Lib.hid (IX.out.below b_)
      replace RW := Lib.hid (RW.out.below b_)
      replace RC := Lib.hid (RC.out.below b_)
      replace KX := Lib.hid (KX.out.below b_)
      replace SX := Lib.hid (SX.out.below b_)
      replace SA := Lib.hid (SA.out.below b_)
      replace SB_ := Lib.hid (SB_.out.below b_)
      replace bb := Lib.hid (bl_trans bb.out b_)
      have SC := Lib.hid tc
      have EC : Hid (cc LC = RD) := Lib.hid e_
      have MC := Lib.hid lc
      have hnc : nc ≤ 20 := by rw [sls_len_ tc e_]; exact hlD
      clear tc e_ lc
      clear b_ C_
      have C_ := Lib.hid (refdrop LX_ ws BX D n cX m d w8 (RD, ed) SX.out hcap (by omega) MX.out RW.out (by omega) (by rw [EX.out]; exact HRD.out))
      go_wp2_with fail
      refine C_.out.mono ?_
      rintro e w9 ⟨BD, nd, dd, LD, rfl, td, e_, ld, b_⟩
      replace SL := Lib.hid (SL.out.below b_)
      replace IX := Lib.hid (IX.out.below b_)
      replace RW := Lib.hid (RW.out.below b_)
      replace RC := Lib.hid (RC.out.below b_)
      replace KX := Lib.hid (KX.out.below b_)
      replace SX := Lib.hid (SX.out.below b_)
      replace SA := Lib.hid (SA.out.below b_)
      replace SB_ := Lib.hid (SB_.out.below b_)
      replace SC := Lib.hid (SC.out.below b_)
      replace bb := Lib.hid (bl_trans bb.out b_)
      have SD := Lib.hid td
      have ED : Hid (cc LD = RD) := Lib.hid e_
      have MD := Lib.hid ld
      clear td e_ ld
      clear b_ C_
      obtain ⟨br, hbr⟩ : ∃ b, rightB (cc L) = b := ⟨_, rfl⟩
      have HBR := Lib.hid hbr
      clear hbr
      have C_ := Lib.hid (refright LX_ BX n cX w9 br SX.out (by omega) MX.out (by rw [EX.out]; exact HBR.out))
      go_wp2_with fail
      refine C_.out.mono ?_
      rintro e w10 ⟨rfl, b_⟩
      replace SL := Lib.hid (SL.out.below b_)
      replace IX := Lib.hid (IX.out.below b_)
      replace RW := Lib.hid (RW.out.below b_)
      replace RC := Lib.hid (RC.out.below b_)
      replace KX := Lib.hid (KX.out.below b_)
      replace SX := Lib.hid (SX.out.below b_)
      replace SA := Lib.hid (SA.out.below b_)
      replace SB_ := Lib.hid (SB_.out.below b_)
      replace SC := Lib.hid (SC.out.below b_)
      replace SD := Lib.hid (SD.out.below b_)
      replace bb := Lib.hid (bl_trans bb.out b_)
      clear b_ C_
      have q0 := KX.out.cell 0 _ rfl
      have hld : ∀ o, (w10.drew.alloc o).cell? ⟨w.heap.size, 0, none⟩ = some (.int .i64 xw) := fun o => ((bl_alloc (Below.refl w10.drew.heap.size w10.drew) o).cell (cell_lt q0)).trans q0
      have q0d : (w10.drew).cell? ⟨w.heap.size, 0, none⟩ = some (.int .i64 xw) := q0
      have hl1 := hld (.cells #[] 3)
      have hl2 := hld (.cells #[.int .i64 xw] 3)
      have hl3 : (w10.alloc (.cells #[] 3)).cell? ⟨w.heap.size, 0, none⟩ = some (.int .i64 xw) := hl1
      have hl4 : (w10.alloc (.cells #[.int .i64 xw] 3)).cell? ⟨w.heap.size, 0, none⟩ = some (.int .i64 xw) := hl2
      have hb1 : (0 + m) * 8 ≤ 140737488355328 := by omega
      have hb2 : 0 + m ≤ 9223372036854775807 := by omega
      have hb3 : (0 + m + 1) * 8 ≤ 140737488355328 := by omega
      have hb4 : 0 + m + 1 ≤ 9223372036854775807 := by omega
      have OEa : Hid (Own w10.drew (w10.drew.alloc (.cells #[] 3)) 3 1 (.slice (some ⟨w10.heap.size, 0, none⟩) 0 0) 0 []) := Lib.hid (Own.empty w10.drew _ _)
      have OEc : Hid (Own w10.drew ((w10.drew.alloc (.cells #[] 3)).alloc (.cells #[.int .i64 xw] 3)) 3 1 (.slice (some ⟨w10.heap.size, 0, none⟩) 0 0) 0 []) := Lib.hid (OEa.out.alloc _)
      have OEb : Hid (Own (w10.drew.alloc (.cells #[.int .i64 xw] 3)) ((w10.drew.alloc (.cells #[.int .i64 xw] 3)).alloc (.cells #[] 3)) 3 1 (.slice (some ⟨w10.heap.size + 1, 0, none⟩) 0 0) 0 []) := Lib.hid (by have := Own.empty (w10.drew.alloc (.cells #[.int .i64 xw] 3)) 3 1; rw [World.size_alloc] at this; exact this)
      have RWa : Hid (Rd (w10.drew.alloc (.cells #[] 3)) 1 D m (zs ws)) := Lib.hid (RW.out.drew.alloc _)
      have RWc : Hid (Rd ((w10.drew.alloc (.cells #[] 3)).alloc (.cells #[.int .i64 xw] 3)) 1 D m (zs ws)) := Lib.hid (RWa.out.alloc _)
      have RWb : Hid (Rd ((w10.drew.alloc (.cells #[.int .i64 xw] 3)).alloc (.cells #[] 3)) 1 D m (zs ws)) := Lib.hid ((RW.out.drew.alloc _).alloc _)
      go_upto_region 9 with fail
      go_cut [81, 82, 83] from 75 to 83 (fun q81 q82 q83 wx => ∃ (B : Option Addr) (d9 : Nat), q81 = .slice B (m + 1) d9 ∧ q82 = .int .i64 ((m : Int) + 1) ∧ q83 = .int .i64 0 ∧ Hid (Rd wx 1 B (m + 1) (zs (ws ++ [xw]))) ∧ Hid (Below w10.heap.size w10 wx))
      case first =>
        go_region_law (first
          | (refine append_step (by rfl) _ _ 27 (by rfl) Mem.tInt (w10.drew) (.slice (some ⟨w10.heap.size, 0, none⟩) 0 0) 0 [] (by rfl) OEa.out D m d (zs ws) (by rfl) RWa.out (zs_one _) hb1 hb2 ?_
             intro v11 w11 o11 g11 a11
             have q0' : w11.cell? ⟨w.heap.size, 0, none⟩ = some (.int .i64 xw) := by first | exact (o11.2.cell (cell_lt (hld _))).trans (hld _) | exact (o11.2.cell (cell_lt (show w10.drew.cell? _ = _ from q0))).trans q0
             have HO11 := Lib.hid o11
             have HG11 := Lib.hid g11
             clear o11 g11 a11)
          | (refine append_step (by rfl) _ _ 27 (by rfl) Mem.tInt (w10.drew) (.slice (some ⟨w10.heap.size, 0, none⟩) 0 0) 0 [] (by rfl) OEc.out D m d (zs ws) (by rfl) RWc.out (zs_one _) hb1 hb2 ?_
             intro v11 w11 o11 g11 a11
             have q0' : w11.cell? ⟨w.heap.size, 0, none⟩ = some (.int .i64 xw) := by first | exact (o11.2.cell (cell_lt (hld _))).trans (hld _) | exact (o11.2.cell (cell_lt (show w10.drew.cell? _ = _ from q0))).trans q0
             have HO11 := Lib.hid o11
             have HG11 := Lib.hid g11
             clear o11 g11 a11)
          | (refine append_step (by rfl) _ _ 27 (by rfl) Mem.tInt (w10.drew.alloc (.cells #[.int .i64 xw] 3)) (.slice (some ⟨w10.heap.size + 1, 0, none⟩) 0 0) 0 [] (by rfl) OEb.out D m d (zs ws) (by rfl) RWb.out (zs_one _) hb1 hb2 ?_
             intro v11 w11 o11 g11 a11
             have q0' : w11.cell? ⟨w.heap.size, 0, none⟩ = some (.int .i64 xw) := by first | exact (o11.2.cell (cell_lt (hld _))).trans (hld _) | exact (o11.2.cell (cell_lt (show w10.drew.cell? _ = _ from q0))).trans q0
             have HO11 := Lib.hid o11
             have HG11 := Lib.hid g11
             clear o11 g11 a11)
          | (refine append_step (by rfl) _ _ 27 (by rfl) Mem.tInt _ _ (0 + m) _ (by rfl) (by first | exact HO11.out | exact HO11.out.alloc _) _ 1 1 [.int .i64 xw] (by rfl) (by first | exact (Rd.built w10.drew 1 1 [.int .i64 xw] _ rfl).below HO11.out.2 | exact rd_grown (Rd.builtAt (w10.drew.alloc _) 1 1 [.int .i64 xw] _ rfl (by simp)) HG11.out (fun b off e _ e2 => by simp [Value.ownBlock] at e e2; omega) | exact Rd.built w11 1 1 [.int .i64 xw] _ rfl) (one_cons rfl one_nil) hb3 hb4 ?_
             intro v12 w12 o12 g12 a12
             obtain ⟨B12, d12, rfl, r12⟩ := o12.form
             have HO12 := Lib.hid o12
             have HR12 := Lib.hid r12
             clear o12 g12 a12 r12))
        all_goals
          replace HR12 : Hid (Rd w12 1 B12 (m + 1) (zs (ws ++ [xw]))) := Lib.hid (by rw [zs_app]; have h9 := HR12.out; rw [Nat.zero_add] at h9; exact h9)
          have HB12 : Hid (Below w10.heap.size w10 w12) := Lib.hid (by first | exact bl_trans (Below.refl w10.heap.size w10).drew HO12.out.2 | exact bl_trans (bl_alloc (Below.refl w10.heap.size w10).drew _) HO12.out.2)
          go_wp2_with fail
          go_meet
          case rel => exact ⟨B12, d12, by simp, by simp, rfl, HR12, HB12⟩
      case rest =>
        obtain ⟨B12, d12, rfl, rfl, rfl, HR12, HB12⟩ := hcut
        have b_ := HB12.out
        replace SL := Lib.hid (SL.out.below b_)
        replace IX := Lib.hid (IX.out.below b_)
        replace RW := Lib.hid (RW.out.below b_)
        replace RC := Lib.hid (RC.out.below b_)
        replace KX := Lib.hid (KX.out.below b_)
        replace SX := Lib.hid (SX.out.below b_)
        replace SA := Lib.hid (SA.out.below b_)
        replace SB_ := Lib.hid (SB_.out.below b_)
        replace SC := Lib.hid (SC.out.below b_)
        replace SD := Lib.hid (SD.out.below b_)
        replace bb := Lib.hid (bl_trans bb.out b_)
        clear b_ HB12 q0 q0d hl1 hl2 hl3 hl4 hld hb1 hb2 hb3 hb4 OEa OEb OEc RWa RWb RWc
        have HWX : Hid ((ws ++ [xw]).length = m + 1) := Lib.hid (by rw [List.length_append, HWL.out]; rfl)
        go_wp2_with fail
        go_loopw [83] (fun i wr => ∃ j : Nat, j ≤ m + 1 ∧ i = .int .i64 j ∧ Hid (Below wc.heap.size wc wr)) (fun i _ => m + 1 - (intOf i).toNat)
        case atStart => exact ⟨0, Nat.zero_le _, rfl, Lib.hid (Below.refl _ _)⟩
        case round =>
          obtain ⟨j, hj, rfl, HB⟩ := hrel
          generalize wr = v0 at *
          have T1 := Lib.hid (SL.out.below HB.out)
          have T2 := Lib.hid (SX.out.below HB.out)
          by_cases hlt : j < m + 1
          · obtain ⟨b1, off, z, rfl, hz, c0⟩ := at_z (HR12.out.below HB.out) j hlt
            clear hz
            obtain ⟨⟨s, e1⟩, hfs⟩ : ∃ r, findS (cc L) z = r := ⟨_, rfl⟩
            have HFS := Lib.hid hfs
            clear hfs
            have C_ := Lib.hid (findS_c L A n c z v0 (s, e1) T1.out (by omega) ML.out HFS.out)
            go_wp2_with fail
            refine C_.out.mono ?_
            rintro e v1 ⟨⟨uw, um, ut, uA, un, uc, uW, uB, uk, ud, uT⟩, rfl, hst, hin, hul, b_⟩
            have HST : Hid (st ⟨uw, um, ut, uA, un, uc, uW, uB, uk, ud, uT⟩ = s) := Lib.hid hst
            have HUL := Lib.hid hul
            obtain ⟨v2, hv2⟩ : ∃ v2, v2 = v1.alloc (.cells #[.int .i64 uw, .int .i64 um, .int .i64 ut, .slice uA un uc, .slice uB uk ud] 26) := ⟨_, rfl⟩
            have KU : Hid (Blk v2 v1.heap.size 26 #[.int .i64 uw, .int .i64 um, .int .i64 ut, .slice uA un uc, .slice uB uk ud]) := Lib.hid (by rw [hv2]; exact Blk.new _ _ _)
            have IU : Hid (Inner v2 ⟨uw, um, ut, uA, un, uc, uW, uB, uk, ud, uT⟩) := Lib.hid (by rw [hv2]; exact hin.alloc _)
            have HB2 : Hid (Below wc.heap.size wc v2) := Lib.hid (by rw [hv2]; exact bl_alloc (bl_trans HB.out b_) _)
            replace T2 : Hid (Sls v2 BX n LX_) := Lib.hid (by rw [hv2]; exact (T2.out.below b_).alloc _)
            clear hst hin hul b_ C_ c0
            have C_ := Lib.hid (reffind LX_ BX n cX z v2 T2.out (by omega))
            simp only [cS]
            go_wp2_with fail
            rw [← hv2]
            clear hv2
            refine C_.out.mono ?_
            rintro e _ ⟨p, rfl, hp, rfl⟩
            have HP := Lib.hid hp
            clear hp C_
            cases br
            · rcases HP.out with ⟨rfl, hno⟩ | ⟨t, y, rfl, hy, hyw, hfg⟩
              · have hp1 : decide ((0 : Int) ≤ -1) = false := by decide
                have h9 : (s, e1) = (zero, 1) := by rw [← HFS.out]; unfold findS; rw [HBR.out]; rfl
                injection h9 with h91 h92
                subst h91 h92
                clear HP hno
                go_wp2_with fail
                obtain ⟨v3, hv3⟩ : ∃ v3, v3 = v2.alloc (.cells #[.int .i64 0, .int .i64 0, .int .i64 0, .slice none 0 0, .slice none 0 0] 39) := ⟨_, rfl⟩
                rw [← hv3]
                have KG : Hid (Blk v3 v2.heap.size 39 #[.int .i64 0, .int .i64 0, .int .i64 0, .slice none 0 0, .slice none 0 0]) := Lib.hid (by rw [hv3]; exact Blk.new _ _ _)
                have IG : Hid (Inner v3 ⟨0, 0, 0, none, 0, 0, [], none, 0, 0, []⟩) := Lib.hid (by rw [hv3]; exact inner_zero _)
                have LG : Hid (Lim1 ⟨0, 0, 0, none, 0, 0, [], none, 0, 0, []⟩) := Lib.hid ⟨by decide, by decide⟩
                replace KU : Hid (Blk v3 v1.heap.size 26 #[.int .i64 uw, .int .i64 um, .int .i64 ut, .slice uA un uc, .slice uB uk ud]) := Lib.hid (by rw [hv3]; exact KU.out.alloc _)
                replace IU : Hid (Inner v3 ⟨uw, um, ut, uA, un, uc, uW, uB, uk, ud, uT⟩) := Lib.hid (by rw [hv3]; exact IU.out.alloc _)
                have HB3 : Hid (Below wc.heap.size wc v3) := Lib.hid (by rw [hv3]; exact bl_alloc HB2.out _)
                have HSAME : Hid (∀ (D : Option Addr) (d : Nat), decide (st ⟨uw, um, ut, uA, un, uc, uW, D, uk, d, uT⟩ = st ⟨0, 0, 0, none, 0, 0, [], none, 0, 0, []⟩) = true) := Lib.hid (fun D d => decide_eq_true (HST.out))
                have bq : Hid (Below v3.heap.size v3 v3.drew) := Lib.hid (Below.refl _ _).drew
                clear hv3
                obtain ⟨SB, hSB⟩ : ∃ SB : World → Prop, ∀ V, SB V ↔ (Blk V v1.heap.size 26 #[.int .i64 uw, .int .i64 um, .int .i64 ut, .slice uA un uc, .slice uB uk ud] ∧ Blk V v2.heap.size 39 #[.int .i64 0, .int .i64 0, .int .i64 0, .slice none 0 0, .slice none 0 0]) := ⟨_, fun _ => Iff.rfl⟩
                have HSB := Lib.hid hSB
                clear hSB
                have f0 : SB v3.drew := (HSB.out _).2 ⟨KU.out.below bq.out, KG.out.below bq.out⟩
                refine wp_region_held_drew (S := SB) (by kernel_rfl) f0 (fun hH0 => ?_)
                clear f0
                generalize v3.drew = va at *
                refine wpAnyH_take (i := 0) (v := .agg #[.int .i64 uw, .int .i64 um, .int .i64 ut, .slice uA un uc, .slice uB uk ud]) rfl (by kernel_rfl) (by kernel_rfl) (by kernel_rfl) (fun _ _ _ h => h) (Or.inl ⟨by kernel_rfl, fun W hS => by have hSS := (HSB.out W).1 hS; have q0 := hSS.1.cell 0 _ rfl; have p0 := hSS.2.cell 0 _ rfl; have q1 := hSS.1.cell 1 _ rfl; have p1 := hSS.2.cell 1 _ rfl; have q2 := hSS.1.cell 2 _ rfl; have p2 := hSS.2.cell 2 _ rfl; have q3 := hSS.1.cell 3 _ rfl; have p3 := hSS.2.cell 3 _ rfl; have q4 := hSS.1.cell 4 _ rfl; have p4 := hSS.2.cell 4 _ rfl; go_simp⟩) hH0 ?_
                try simp only [Act.put, List.getElem_toArray, List.getElem_cons_succ, List.getElem_cons_zero]
                try simp only [List.setIfInBounds_toArray]
                try simp only [List.set_cons_succ]
                try simp only [List.set_cons_zero]
                refine wpAnyH_take (i := 2) (v := .agg #[.int .i64 0, .int .i64 0, .int .i64 0, .slice none 0 0, .slice none 0 0]) rfl (by kernel_rfl) (by kernel_rfl) (by kernel_rfl) (fun _ _ _ h => h) (Or.inl ⟨by kernel_rfl, fun W hS => by have hSS := (HSB.out W).1 hS; have q0 := hSS.1.cell 0 _ rfl; have p0 := hSS.2.cell 0 _ rfl; have q1 := hSS.1.cell 1 _ rfl; have p1 := hSS.2.cell 1 _ rfl; have q2 := hSS.1.cell 2 _ rfl; have p2 := hSS.2.cell 2 _ rfl; have q3 := hSS.1.cell 3 _ rfl; have p3 := hSS.2.cell 3 _ rfl; have q4 := hSS.1.cell 4 _ rfl; have p4 := hSS.2.cell 4 _ rfl; go_simp⟩) hH0 ?_
                try simp only [Act.put, List.getElem_toArray, List.getElem_cons_succ, List.getElem_cons_zero]
                try simp only [List.setIfInBounds_toArray]
                try simp only [List.set_cons_succ]
                try simp only [List.set_cons_zero]
                refine wpAnyH_ready (rs := [1]) (by kernel_rfl) (by simp) ?_
                refine AllReadyH.cons rfl (fun KK0 hK => ?_) AllReadyH.nil
                rw [if_pos (by kernel_rfl)]
                refine Step2.calls_wp _ _ _ (ref1_c ⟨uw, um, ut, uA, un, uc, uW, uB, uk, ud, uT⟩ _ (IU.out.below bq.out) HUL.out) (Step2.run_call _ _ _ rfl rfl Try.func14 (by kernel_rfl) (by kernel_rfl) _ (by kernel_rfl)) ?_
                rintro e wb hq
                obtain ⟨DU, dU, he, hU, -, b5⟩ := hq
                subst he
                refine ⟨_, rfl, ?_⟩
                replace bq := Lib.hid (bl_trans bq.out b5)
                have UU : Hid (Inner wb ⟨uw, um, ut, uA, un, uc, uW, DU, uk, dU, uT⟩) := Lib.hid ⟨IU.out.1.below bq.out, hU⟩
                clear hU b5
                refine hK.out _ _ ((HSB.out _).2 ⟨KU.out.below bq.out, KG.out.below bq.out⟩) (fun hH1 => ?_)
                clear hK KK0
                try simp only [Act.put, List.getElem_toArray, List.getElem_cons_succ, List.getElem_cons_zero]
                try simp only [List.setIfInBounds_toArray]
                try simp only [List.set_cons_succ]
                try simp only [List.set_cons_zero]
                refine wpAnyH_ready (rs := [3]) (by kernel_rfl) (by simp) ?_
                refine AllReadyH.cons rfl (fun KK0 hK => ?_) AllReadyH.nil
                rw [if_pos (by kernel_rfl)]
                refine Step2.calls_wp _ _ _ (one2_c ⟨uw, um, ut, uA, un, uc, uW, DU, uk, dU, uT⟩ ⟨0, 0, 0, none, 0, 0, [], none, 0, 0, []⟩ _ true UU.out HUL.out (IG.out.below bq.out) LG.out (HSAME.out _ _)) (Step2.run_call _ _ _ rfl rfl Try.func20 (by kernel_rfl) (by kernel_rfl) _ (by kernel_rfl)) ?_
                rintro e wb hq
                obtain ⟨rfl, b5⟩ := hq
                refine ⟨_, rfl, ?_⟩
                replace bq := Lib.hid (bl_trans bq.out b5)
                clear b5
                refine hK.out _ _ ((HSB.out _).2 ⟨KU.out.below bq.out, KG.out.below bq.out⟩) (fun hH2 => ?_)
                clear hK KK0
                try simp only [Act.put, List.getElem_toArray, List.getElem_cons_succ, List.getElem_cons_zero]
                try simp only [List.setIfInBounds_toArray]
                try simp only [List.set_cons_succ]
                try simp only [List.set_cons_zero]
                refine wpAnyH_take (i := 4) (v := .bool false) rfl (by kernel_rfl) (by kernel_rfl) (by kernel_rfl) (fun _ _ _ h => h) (Or.inl ⟨by kernel_rfl, fun W hS => by go_simp⟩) hH2 ?_
                try simp only [Act.put, List.getElem_toArray, List.getElem_cons_succ, List.getElem_cons_zero]
                try simp only [List.setIfInBounds_toArray]
                try simp only [List.set_cons_succ]
                try simp only [List.set_cons_zero]
                refine wpAnyH_take (i := 5) (v := .bool false) rfl (by kernel_rfl) (by kernel_rfl) (by kernel_rfl) (fun _ _ _ h => h) (Or.inl ⟨by kernel_rfl, fun W hS => by go_simp⟩) hH2 ?_
                try simp only [Act.put, List.getElem_toArray, List.getElem_cons_succ, List.getElem_cons_zero]
                try simp only [List.setIfInBounds_toArray]
                try simp only [List.set_cons_succ]
                try simp only [List.set_cons_zero]
                refine wpAnyH_take (i := 6) (v := .int .i64 1) rfl (by kernel_rfl) (by kernel_rfl) (by kernel_rfl) (fun _ _ _ h => h) (Or.inl ⟨by kernel_rfl, fun W hS => by go_simp⟩) hH2 ?_
                try simp only [Act.put, List.getElem_toArray, List.getElem_cons_succ, List.getElem_cons_zero]
                try simp only [List.setIfInBounds_toArray]
                try simp only [List.set_cons_succ]
                try simp only [List.set_cons_zero]
                refine wpAnyH_take (i := 7) (v := .int .i64 1) rfl (by kernel_rfl) (by kernel_rfl) (by kernel_rfl) (fun _ _ _ h => h) (Or.inl ⟨by kernel_rfl, fun W hS => by go_simp⟩) hH2 ?_
                try simp only [Act.put, List.getElem_toArray, List.getElem_cons_succ, List.getElem_cons_zero]
                try simp only [List.setIfInBounds_toArray]
                try simp only [List.set_cons_succ]
                try simp only [List.set_cons_zero]
                refine wpAnyH_take (i := 8) (v := .bool false) rfl (by kernel_rfl) (by kernel_rfl) (by kernel_rfl) (fun _ _ _ h => h) (Or.inl ⟨by kernel_rfl, fun W hS => by go_simp⟩) hH2 ?_
                try simp only [Act.put, List.getElem_toArray, List.getElem_cons_succ, List.getElem_cons_zero]
                try simp only [List.setIfInBounds_toArray]
                try simp only [List.set_cons_succ]
                try simp only [List.set_cons_zero]
                refine wpAnyH_ready (rs := [9]) (by kernel_rfl) (by simp) ?_
                refine AllReadyH.cons rfl (fun KK0 hK => ?_) AllReadyH.nil
                go_simp
                refine hK.out _ _ hH2 (fun _ => ?_)
                clear hK KK0
                refine wpAnyH_done (by kernel_rfl) ?_ _
                try simp only [Act.put, List.getElem_toArray, List.getElem_cons_succ, List.getElem_cons_zero]
                try simp only [List.setIfInBounds_toArray]
                try simp only [List.set_cons_succ]
                try simp only [List.set_cons_zero]
                have HBN := Lib.hid (bl_trans HB3.out bq.out)
                go_wp2
                go_roundw
                case rel => exact ⟨j + 1, by omega, by go_num, HBN⟩
                case measure => simp [intOf]; omega
              · have htn : t < n := by have := (List.getElem?_eq_some_iff.1 hy).1; rw [T2.out.len] at this; exact this
                obtain ⟨b8, off8, y8, rfl, hy8, c0, c1, c2, c3, c4, hin8⟩ := T2.out.at_ t htn
                have hyy : y8 = y := by rw [hy8] at hy; injection hy
                subst hyy
                have IYY := Lib.hid hin8
                have MY := Lib.hid (MX.out.at_ t y8 hy8)
                have h9 : (s, e1) = (zero, 1) := by rw [← HFS.out]; unfold findS; rw [HBR.out]; rfl
                injection h9 with h91 h92
                subst h91 h92
                obtain ⟨yw, ym, yt, yA, yn, yc, yW, yB, yk, yd, yT⟩ := y8
                clear HP hy hy8 hyw hfg hin8
                have y0 := ((bl_alloc (Below.refl v2.heap.size v2) (.cells #[.int .i64 0, .int .i64 0, .int .i64 0, .slice none 0 0, .slice none 0 0] 39)).cell (cell_lt c0)).trans c0
                have y1 := ((bl_alloc (Below.refl v2.heap.size v2) (.cells #[.int .i64 0, .int .i64 0, .int .i64 0, .slice none 0 0, .slice none 0 0] 39)).cell (cell_lt c1)).trans c1
                have y2 := ((bl_alloc (Below.refl v2.heap.size v2) (.cells #[.int .i64 0, .int .i64 0, .int .i64 0, .slice none 0 0, .slice none 0 0] 39)).cell (cell_lt c2)).trans c2
                have y3 := ((bl_alloc (Below.refl v2.heap.size v2) (.cells #[.int .i64 0, .int .i64 0, .int .i64 0, .slice none 0 0, .slice none 0 0] 39)).cell (cell_lt c3)).trans c3
                have y4 := ((bl_alloc (Below.refl v2.heap.size v2) (.cells #[.int .i64 0, .int .i64 0, .int .i64 0, .slice none 0 0, .slice none 0 0] 39)).cell (cell_lt c4)).trans c4
                have KZ := Blk.new v2 39 #[.int .i64 0, .int .i64 0, .int .i64 0, .slice none 0 0, .slice none 0 0]
                have z0 := KZ.cell 0 _ rfl
                have z1 := KZ.cell 1 _ rfl
                have z2 := KZ.cell 2 _ rfl
                have z3 := KZ.cell 3 _ rfl
                have z4 := KZ.cell 4 _ rfl
                have zf := KZ.frozen
                clear KZ c0 c1 c2 c3 c4
                go_wp2_with fail
                clear y0 y1 y2 y3 y4 z0 z1 z2 z3 z4 zf
                obtain ⟨v3, hv3⟩ : ∃ v3, v3 = v2.alloc (.cells #[.int .i64 0, .int .i64 0, .int .i64 0, .slice none 0 0, .slice none 0 0] 39) := ⟨_, rfl⟩
                rw [← hv3]
                have KG : Hid (Blk v3 v2.heap.size 39 #[.int .i64 0, .int .i64 0, .int .i64 0, .slice none 0 0, .slice none 0 0]) := Lib.hid (by rw [hv3]; exact Blk.new _ _ _)
                have IG : Hid (Inner v3 ⟨0, 0, 0, none, 0, 0, [], none, 0, 0, []⟩) := Lib.hid (by rw [hv3]; exact inner_zero _)
                have LG : Hid (Lim1 ⟨0, 0, 0, none, 0, 0, [], none, 0, 0, []⟩) := Lib.hid ⟨by decide, by decide⟩
                replace KU : Hid (Blk v3 v1.heap.size 26 #[.int .i64 uw, .int .i64 um, .int .i64 ut, .slice uA un uc, .slice uB uk ud]) := Lib.hid (by rw [hv3]; exact KU.out.alloc _)
                replace IU : Hid (Inner v3 ⟨uw, um, ut, uA, un, uc, uW, uB, uk, ud, uT⟩) := Lib.hid (by rw [hv3]; exact IU.out.alloc _)
                have HB3 : Hid (Below wc.heap.size wc v3) := Lib.hid (by rw [hv3]; exact bl_alloc HB2.out _)
                have HSAME : Hid (∀ (D : Option Addr) (d : Nat), decide (st ⟨uw, um, ut, uA, un, uc, uW, D, uk, d, uT⟩ = st ⟨0, 0, 0, none, 0, 0, [], none, 0, 0, []⟩) = true) := Lib.hid (fun D d => decide_eq_true (HST.out))
                have bq : Hid (Below v3.heap.size v3 v3.drew) := Lib.hid (Below.refl _ _).drew
                clear hv3
                obtain ⟨SB, hSB⟩ : ∃ SB : World → Prop, ∀ V, SB V ↔ (Blk V v1.heap.size 26 #[.int .i64 uw, .int .i64 um, .int .i64 ut, .slice uA un uc, .slice uB uk ud] ∧ Blk V v2.heap.size 39 #[.int .i64 0, .int .i64 0, .int .i64 0, .slice none 0 0, .slice none 0 0]) := ⟨_, fun _ => Iff.rfl⟩
                have HSB := Lib.hid hSB
                clear hSB
                have f0 : SB v3.drew := (HSB.out _).2 ⟨KU.out.below bq.out, KG.out.below bq.out⟩
                refine wp_region_held_drew (S := SB) (by kernel_rfl) f0 (fun hH0 => ?_)
                clear f0
                generalize v3.drew = va at *
                refine wpAnyH_take (i := 0) (v := .agg #[.int .i64 uw, .int .i64 um, .int .i64 ut, .slice uA un uc, .slice uB uk ud]) rfl (by kernel_rfl) (by kernel_rfl) (by kernel_rfl) (fun _ _ _ h => h) (Or.inl ⟨by kernel_rfl, fun W hS => by have hSS := (HSB.out W).1 hS; have q0 := hSS.1.cell 0 _ rfl; have p0 := hSS.2.cell 0 _ rfl; have q1 := hSS.1.cell 1 _ rfl; have p1 := hSS.2.cell 1 _ rfl; have q2 := hSS.1.cell 2 _ rfl; have p2 := hSS.2.cell 2 _ rfl; have q3 := hSS.1.cell 3 _ rfl; have p3 := hSS.2.cell 3 _ rfl; have q4 := hSS.1.cell 4 _ rfl; have p4 := hSS.2.cell 4 _ rfl; go_simp⟩) hH0 ?_
                try simp only [Act.put, List.getElem_toArray, List.getElem_cons_succ, List.getElem_cons_zero]
                try simp only [List.setIfInBounds_toArray]
                try simp only [List.set_cons_succ]
                try simp only [List.set_cons_zero]
                refine wpAnyH_take (i := 2) (v := .agg #[.int .i64 0, .int .i64 0, .int .i64 0, .slice none 0 0, .slice none 0 0]) rfl (by kernel_rfl) (by kernel_rfl) (by kernel_rfl) (fun _ _ _ h => h) (Or.inl ⟨by kernel_rfl, fun W hS => by have hSS := (HSB.out W).1 hS; have q0 := hSS.1.cell 0 _ rfl; have p0 := hSS.2.cell 0 _ rfl; have q1 := hSS.1.cell 1 _ rfl; have p1 := hSS.2.cell 1 _ rfl; have q2 := hSS.1.cell 2 _ rfl; have p2 := hSS.2.cell 2 _ rfl; have q3 := hSS.1.cell 3 _ rfl; have p3 := hSS.2.cell 3 _ rfl; have q4 := hSS.1.cell 4 _ rfl; have p4 := hSS.2.cell 4 _ rfl; go_simp⟩) hH0 ?_
                try simp only [Act.put, List.getElem_toArray, List.getElem_cons_succ, List.getElem_cons_zero]
                try simp only [List.setIfInBounds_toArray]
                try simp only [List.set_cons_succ]
                try simp only [List.set_cons_zero]
                refine wpAnyH_ready (rs := [1]) (by kernel_rfl) (by simp) ?_
                refine AllReadyH.cons rfl (fun KK0 hK => ?_) AllReadyH.nil
                rw [if_pos (by kernel_rfl)]
                refine Step2.calls_wp _ _ _ (ref1_c ⟨uw, um, ut, uA, un, uc, uW, uB, uk, ud, uT⟩ _ (IU.out.below bq.out) HUL.out) (Step2.run_call _ _ _ rfl rfl Try.func14 (by kernel_rfl) (by kernel_rfl) _ (by kernel_rfl)) ?_
                rintro e wb hq
                obtain ⟨DU, dU, he, hU, -, b5⟩ := hq
                subst he
                refine ⟨_, rfl, ?_⟩
                replace bq := Lib.hid (bl_trans bq.out b5)
                have UU : Hid (Inner wb ⟨uw, um, ut, uA, un, uc, uW, DU, uk, dU, uT⟩) := Lib.hid ⟨IU.out.1.below bq.out, hU⟩
                clear hU b5
                refine hK.out _ _ ((HSB.out _).2 ⟨KU.out.below bq.out, KG.out.below bq.out⟩) (fun hH1 => ?_)
                clear hK KK0
                try simp only [Act.put, List.getElem_toArray, List.getElem_cons_succ, List.getElem_cons_zero]
                try simp only [List.setIfInBounds_toArray]
                try simp only [List.set_cons_succ]
                try simp only [List.set_cons_zero]
                refine wpAnyH_ready (rs := [3]) (by kernel_rfl) (by simp) ?_
                refine AllReadyH.cons rfl (fun KK0 hK => ?_) AllReadyH.nil
                rw [if_pos (by kernel_rfl)]
                refine Step2.calls_wp _ _ _ (one2_c ⟨uw, um, ut, uA, un, uc, uW, DU, uk, dU, uT⟩ ⟨0, 0, 0, none, 0, 0, [], none, 0, 0, []⟩ _ true UU.out HUL.out (IG.out.below bq.out) LG.out (HSAME.out _ _)) (Step2.run_call _ _ _ rfl rfl Try.func20 (by kernel_rfl) (by kernel_rfl) _ (by kernel_rfl)) ?_
                rintro e wb hq
                obtain ⟨rfl, b5⟩ := hq
                refine ⟨_, rfl, ?_⟩
                replace bq := Lib.hid (bl_trans bq.out b5)
                clear b5
                refine hK.out _ _ ((HSB.out _).2 ⟨KU.out.below bq.out, KG.out.below bq.out⟩) (fun hH2 => ?_)
                clear hK KK0
                try simp only [Act.put, List.getElem_toArray, List.getElem_cons_succ, List.getElem_cons_zero]
                try simp only [List.setIfInBounds_toArray]
                try simp only [List.set_cons_succ]
                try simp only [List.set_cons_zero]
                refine wpAnyH_take (i := 4) (v := .bool false) rfl (by kernel_rfl) (by kernel_rfl) (by kernel_rfl) (fun _ _ _ h => h) (Or.inl ⟨by kernel_rfl, fun W hS => by go_simp⟩) hH2 ?_
                try simp only [Act.put, List.getElem_toArray, List.getElem_cons_succ, List.getElem_cons_zero]
                try simp only [List.setIfInBounds_toArray]
                try simp only [List.set_cons_succ]
                try simp only [List.set_cons_zero]
                refine wpAnyH_take (i := 5) (v := .bool false) rfl (by kernel_rfl) (by kernel_rfl) (by kernel_rfl) (fun _ _ _ h => h) (Or.inl ⟨by kernel_rfl, fun W hS => by go_simp⟩) hH2 ?_
                try simp only [Act.put, List.getElem_toArray, List.getElem_cons_succ, List.getElem_cons_zero]
                try simp only [List.setIfInBounds_toArray]
                try simp only [List.set_cons_succ]
                try simp only [List.set_cons_zero]
                refine wpAnyH_take (i := 6) (v := .int .i64 1) rfl (by kernel_rfl) (by kernel_rfl) (by kernel_rfl) (fun _ _ _ h => h) (Or.inl ⟨by kernel_rfl, fun W hS => by go_simp⟩) hH2 ?_
                try simp only [Act.put, List.getElem_toArray, List.getElem_cons_succ, List.getElem_cons_zero]
                try simp only [List.setIfInBounds_toArray]
                try simp only [List.set_cons_succ]
                try simp only [List.set_cons_zero]
                refine wpAnyH_take (i := 7) (v := .int .i64 1) rfl (by kernel_rfl) (by kernel_rfl) (by kernel_rfl) (fun _ _ _ h => h) (Or.inl ⟨by kernel_rfl, fun W hS => by go_simp⟩) hH2 ?_
                try simp only [Act.put, List.getElem_toArray, List.getElem_cons_succ, List.getElem_cons_zero]
                try simp only [List.setIfInBounds_toArray]
                try simp only [List.set_cons_succ]
                try simp only [List.set_cons_zero]
                refine wpAnyH_take (i := 8) (v := .bool false) rfl (by kernel_rfl) (by kernel_rfl) (by kernel_rfl) (fun _ _ _ h => h) (Or.inl ⟨by kernel_rfl, fun W hS => by go_simp⟩) hH2 ?_
                try simp only [Act.put, List.getElem_toArray, List.getElem_cons_succ, List.getElem_cons_zero]
                try simp only [List.setIfInBounds_toArray]
                try simp only [List.set_cons_succ]
                try simp only [List.set_cons_zero]
                refine wpAnyH_ready (rs := [9]) (by kernel_rfl) (by simp) ?_
                refine AllReadyH.cons rfl (fun KK0 hK => ?_) AllReadyH.nil
                go_simp
                refine hK.out _ _ hH2 (fun _ => ?_)
                clear hK KK0
                refine wpAnyH_done (by kernel_rfl) ?_ _
                try simp only [Act.put, List.getElem_toArray, List.getElem_cons_succ, List.getElem_cons_zero]
                try simp only [List.setIfInBounds_toArray]
                try simp only [List.set_cons_succ]
                try simp only [List.set_cons_zero]
                have HBN := Lib.hid (bl_trans HB3.out bq.out)
                go_wp2
                go_roundw
                case rel => exact ⟨j + 1, by omega, by go_num, HBN⟩
                case measure => simp [intOf]; omega
            · rcases HP.out with ⟨rfl, hno⟩ | ⟨t, y, rfl, hy, hyw, hfg⟩
              · have hp1 : decide ((0 : Int) ≤ -1) = false := by decide
                have h9 : (s, e1) = (zero, 3) := by rw [← HFS.out]; unfold findS; rw [if_pos HBR.out, find_none _ _ (by rw [← EX.out]; exact hno)]
                injection h9 with h91 h92
                subst h91 h92
                clear HP hno
                go_wp2_with fail
                obtain ⟨v3, hv3⟩ : ∃ v3, v3 = v2.alloc (.cells #[.int .i64 0, .int .i64 0, .int .i64 0, .slice none 0 0, .slice none 0 0] 39) := ⟨_, rfl⟩
                rw [← hv3]
                have KG : Hid (Blk v3 v2.heap.size 39 #[.int .i64 0, .int .i64 0, .int .i64 0, .slice none 0 0, .slice none 0 0]) := Lib.hid (by rw [hv3]; exact Blk.new _ _ _)
                have IG : Hid (Inner v3 ⟨0, 0, 0, none, 0, 0, [], none, 0, 0, []⟩) := Lib.hid (by rw [hv3]; exact inner_zero _)
                have LG : Hid (Lim1 ⟨0, 0, 0, none, 0, 0, [], none, 0, 0, []⟩) := Lib.hid ⟨by decide, by decide⟩
                replace KU : Hid (Blk v3 v1.heap.size 26 #[.int .i64 uw, .int .i64 um, .int .i64 ut, .slice uA un uc, .slice uB uk ud]) := Lib.hid (by rw [hv3]; exact KU.out.alloc _)
                replace IU : Hid (Inner v3 ⟨uw, um, ut, uA, un, uc, uW, uB, uk, ud, uT⟩) := Lib.hid (by rw [hv3]; exact IU.out.alloc _)
                have HB3 : Hid (Below wc.heap.size wc v3) := Lib.hid (by rw [hv3]; exact bl_alloc HB2.out _)
                have HSAME : Hid (∀ (D : Option Addr) (d : Nat), decide (st ⟨uw, um, ut, uA, un, uc, uW, D, uk, d, uT⟩ = st ⟨0, 0, 0, none, 0, 0, [], none, 0, 0, []⟩) = true) := Lib.hid (fun D d => decide_eq_true (HST.out))
                have bq : Hid (Below v3.heap.size v3 v3.drew) := Lib.hid (Below.refl _ _).drew
                clear hv3
                obtain ⟨SB, hSB⟩ : ∃ SB : World → Prop, ∀ V, SB V ↔ (Blk V v1.heap.size 26 #[.int .i64 uw, .int .i64 um, .int .i64 ut, .slice uA un uc, .slice uB uk ud] ∧ Blk V v2.heap.size 39 #[.int .i64 0, .int .i64 0, .int .i64 0, .slice none 0 0, .slice none 0 0]) := ⟨_, fun _ => Iff.rfl⟩
                have HSB := Lib.hid hSB
                clear hSB
                have f0 : SB v3.drew := (HSB.out _).2 ⟨KU.out.below bq.out, KG.out.below bq.out⟩
                refine wp_region_held_drew (S := SB) (by kernel_rfl) f0 (fun hH0 => ?_)
                clear f0
                generalize v3.drew = va at *
                refine wpAnyH_take (i := 0) (v := .agg #[.int .i64 uw, .int .i64 um, .int .i64 ut, .slice uA un uc, .slice uB uk ud]) rfl (by kernel_rfl) (by kernel_rfl) (by kernel_rfl) (fun _ _ _ h => h) (Or.inl ⟨by kernel_rfl, fun W hS => by have hSS := (HSB.out W).1 hS; have q0 := hSS.1.cell 0 _ rfl; have p0 := hSS.2.cell 0 _ rfl; have q1 := hSS.1.cell 1 _ rfl; have p1 := hSS.2.cell 1 _ rfl; have q2 := hSS.1.cell 2 _ rfl; have p2 := hSS.2.cell 2 _ rfl; have q3 := hSS.1.cell 3 _ rfl; have p3 := hSS.2.cell 3 _ rfl; have q4 := hSS.1.cell 4 _ rfl; have p4 := hSS.2.cell 4 _ rfl; go_simp⟩) hH0 ?_
                try simp only [Act.put, List.getElem_toArray, List.getElem_cons_succ, List.getElem_cons_zero]
                try simp only [List.setIfInBounds_toArray]
                try simp only [List.set_cons_succ]
                try simp only [List.set_cons_zero]
                refine wpAnyH_take (i := 2) (v := .agg #[.int .i64 0, .int .i64 0, .int .i64 0, .slice none 0 0, .slice none 0 0]) rfl (by kernel_rfl) (by kernel_rfl) (by kernel_rfl) (fun _ _ _ h => h) (Or.inl ⟨by kernel_rfl, fun W hS => by have hSS := (HSB.out W).1 hS; have q0 := hSS.1.cell 0 _ rfl; have p0 := hSS.2.cell 0 _ rfl; have q1 := hSS.1.cell 1 _ rfl; have p1 := hSS.2.cell 1 _ rfl; have q2 := hSS.1.cell 2 _ rfl; have p2 := hSS.2.cell 2 _ rfl; have q3 := hSS.1.cell 3 _ rfl; have p3 := hSS.2.cell 3 _ rfl; have q4 := hSS.1.cell 4 _ rfl; have p4 := hSS.2.cell 4 _ rfl; go_simp⟩) hH0 ?_
                try simp only [Act.put, List.getElem_toArray, List.getElem_cons_succ, List.getElem_cons_zero]
                try simp only [List.setIfInBounds_toArray]
                try simp only [List.set_cons_succ]
                try simp only [List.set_cons_zero]
                refine wpAnyH_ready (rs := [1]) (by kernel_rfl) (by simp) ?_
                refine AllReadyH.cons rfl (fun KK0 hK => ?_) AllReadyH.nil
                rw [if_pos (by kernel_rfl)]
                refine Step2.calls_wp _ _ _ (ref1_c ⟨uw, um, ut, uA, un, uc, uW, uB, uk, ud, uT⟩ _ (IU.out.below bq.out) HUL.out) (Step2.run_call _ _ _ rfl rfl Try.func14 (by kernel_rfl) (by kernel_rfl) _ (by kernel_rfl)) ?_
                rintro e wb hq
                obtain ⟨DU, dU, he, hU, -, b5⟩ := hq
                subst he
                refine ⟨_, rfl, ?_⟩
                replace bq := Lib.hid (bl_trans bq.out b5)
                have UU : Hid (Inner wb ⟨uw, um, ut, uA, un, uc, uW, DU, uk, dU, uT⟩) := Lib.hid ⟨IU.out.1.below bq.out, hU⟩
                clear hU b5
                refine hK.out _ _ ((HSB.out _).2 ⟨KU.out.below bq.out, KG.out.below bq.out⟩) (fun hH1 => ?_)
                clear hK KK0
                try simp only [Act.put, List.getElem_toArray, List.getElem_cons_succ, List.getElem_cons_zero]
                try simp only [List.setIfInBounds_toArray]
                try simp only [List.set_cons_succ]
                try simp only [List.set_cons_zero]
                refine wpAnyH_ready (rs := [3]) (by kernel_rfl) (by simp) ?_
                refine AllReadyH.cons rfl (fun KK0 hK => ?_) AllReadyH.nil
                rw [if_pos (by kernel_rfl)]
                refine Step2.calls_wp _ _ _ (one2_c ⟨uw, um, ut, uA, un, uc, uW, DU, uk, dU, uT⟩ ⟨0, 0, 0, none, 0, 0, [], none, 0, 0, []⟩ _ true UU.out HUL.out (IG.out.below bq.out) LG.out (HSAME.out _ _)) (Step2.run_call _ _ _ rfl rfl Try.func20 (by kernel_rfl) (by kernel_rfl) _ (by kernel_rfl)) ?_
                rintro e wb hq
                obtain ⟨rfl, b5⟩ := hq
                refine ⟨_, rfl, ?_⟩
                replace bq := Lib.hid (bl_trans bq.out b5)
                clear b5
                refine hK.out _ _ ((HSB.out _).2 ⟨KU.out.below bq.out, KG.out.below bq.out⟩) (fun hH2 => ?_)
                clear hK KK0
                try simp only [Act.put, List.getElem_toArray, List.getElem_cons_succ, List.getElem_cons_zero]
                try simp only [List.setIfInBounds_toArray]
                try simp only [List.set_cons_succ]
                try simp only [List.set_cons_zero]
                refine wpAnyH_take (i := 4) (v := .bool false) rfl (by kernel_rfl) (by kernel_rfl) (by kernel_rfl) (fun _ _ _ h => h) (Or.inl ⟨by kernel_rfl, fun W hS => by go_simp⟩) hH2 ?_
                try simp only [Act.put, List.getElem_toArray, List.getElem_cons_succ, List.getElem_cons_zero]
                try simp only [List.setIfInBounds_toArray]
                try simp only [List.set_cons_succ]
                try simp only [List.set_cons_zero]
                refine wpAnyH_take (i := 5) (v := .bool false) rfl (by kernel_rfl) (by kernel_rfl) (by kernel_rfl) (fun _ _ _ h => h) (Or.inl ⟨by kernel_rfl, fun W hS => by go_simp⟩) hH2 ?_
                try simp only [Act.put, List.getElem_toArray, List.getElem_cons_succ, List.getElem_cons_zero]
                try simp only [List.setIfInBounds_toArray]
                try simp only [List.set_cons_succ]
                try simp only [List.set_cons_zero]
                refine wpAnyH_take (i := 6) (v := .int .i64 3) rfl (by kernel_rfl) (by kernel_rfl) (by kernel_rfl) (fun _ _ _ h => h) (Or.inl ⟨by kernel_rfl, fun W hS => by go_simp⟩) hH2 ?_
                try simp only [Act.put, List.getElem_toArray, List.getElem_cons_succ, List.getElem_cons_zero]
                try simp only [List.setIfInBounds_toArray]
                try simp only [List.set_cons_succ]
                try simp only [List.set_cons_zero]
                refine wpAnyH_take (i := 7) (v := .int .i64 3) rfl (by kernel_rfl) (by kernel_rfl) (by kernel_rfl) (fun _ _ _ h => h) (Or.inl ⟨by kernel_rfl, fun W hS => by go_simp⟩) hH2 ?_
                try simp only [Act.put, List.getElem_toArray, List.getElem_cons_succ, List.getElem_cons_zero]
                try simp only [List.setIfInBounds_toArray]
                try simp only [List.set_cons_succ]
                try simp only [List.set_cons_zero]
                refine wpAnyH_take (i := 8) (v := .bool false) rfl (by kernel_rfl) (by kernel_rfl) (by kernel_rfl) (fun _ _ _ h => h) (Or.inl ⟨by kernel_rfl, fun W hS => by go_simp⟩) hH2 ?_
                try simp only [Act.put, List.getElem_toArray, List.getElem_cons_succ, List.getElem_cons_zero]
                try simp only [List.setIfInBounds_toArray]
                try simp only [List.set_cons_succ]
                try simp only [List.set_cons_zero]
                refine wpAnyH_ready (rs := [9]) (by kernel_rfl) (by simp) ?_
                refine AllReadyH.cons rfl (fun KK0 hK => ?_) AllReadyH.nil
                go_simp
                refine hK.out _ _ hH2 (fun _ => ?_)
                clear hK KK0
                refine wpAnyH_done (by kernel_rfl) ?_ _
                try simp only [Act.put, List.getElem_toArray, List.getElem_cons_succ, List.getElem_cons_zero]
                try simp only [List.setIfInBounds_toArray]
                try simp only [List.set_cons_succ]
                try simp only [List.set_cons_zero]
                have HBN := Lib.hid (bl_trans HB3.out bq.out)
                go_wp2
                go_roundw
                case rel => exact ⟨j + 1, by omega, by go_num, HBN⟩
                case measure => simp [intOf]; omega
              · have htn : t < n := by have := (List.getElem?_eq_some_iff.1 hy).1; rw [T2.out.len] at this; exact this
                obtain ⟨b8, off8, y8, rfl, hy8, c0, c1, c2, c3, c4, hin8⟩ := T2.out.at_ t htn
                have hyy : y8 = y := by rw [hy8] at hy; injection hy
                subst hyy
                have IYY := Lib.hid hin8
                have MY := Lib.hid (MX.out.at_ t y8 hy8)
                have h9 : (s, e1) = (st y8, 0) := by rw [← HFS.out]; unfold findS; rw [if_pos HBR.out, ← EX.out, hfg]
                injection h9 with h91 h92
                subst h91 h92
                obtain ⟨yw, ym, yt, yA, yn, yc, yW, yB, yk, yd, yT⟩ := y8
                clear HP hy hy8 hyw hfg hin8
                have y0 := ((bl_alloc (Below.refl v2.heap.size v2) (.cells #[.int .i64 0, .int .i64 0, .int .i64 0, .slice none 0 0, .slice none 0 0] 39)).cell (cell_lt c0)).trans c0
                have y1 := ((bl_alloc (Below.refl v2.heap.size v2) (.cells #[.int .i64 0, .int .i64 0, .int .i64 0, .slice none 0 0, .slice none 0 0] 39)).cell (cell_lt c1)).trans c1
                have y2 := ((bl_alloc (Below.refl v2.heap.size v2) (.cells #[.int .i64 0, .int .i64 0, .int .i64 0, .slice none 0 0, .slice none 0 0] 39)).cell (cell_lt c2)).trans c2
                have y3 := ((bl_alloc (Below.refl v2.heap.size v2) (.cells #[.int .i64 0, .int .i64 0, .int .i64 0, .slice none 0 0, .slice none 0 0] 39)).cell (cell_lt c3)).trans c3
                have y4 := ((bl_alloc (Below.refl v2.heap.size v2) (.cells #[.int .i64 0, .int .i64 0, .int .i64 0, .slice none 0 0, .slice none 0 0] 39)).cell (cell_lt c4)).trans c4
                have KZ := Blk.new v2 39 #[.int .i64 0, .int .i64 0, .int .i64 0, .slice none 0 0, .slice none 0 0]
                have z0 := KZ.cell 0 _ rfl
                have z1 := KZ.cell 1 _ rfl
                have z2 := KZ.cell 2 _ rfl
                have z3 := KZ.cell 3 _ rfl
                have z4 := KZ.cell 4 _ rfl
                have zf := KZ.frozen
                clear KZ c0 c1 c2 c3 c4
                go_wp2_with fail
                clear y0 y1 y2 y3 y4 z0 z1 z2 z3 z4 zf
                obtain ⟨v3, hv3⟩ : ∃ v3, v3 = v2.alloc (.cells #[.int .i64 yw, .int .i64 ym, .int .i64 yt, .slice yA yn yc, .slice yB yk yd] 39) := ⟨_, rfl⟩
                rw [← hv3]
                have KG : Hid (Blk v3 v2.heap.size 39 #[.int .i64 yw, .int .i64 ym, .int .i64 yt, .slice yA yn yc, .slice yB yk yd]) := Lib.hid (by rw [hv3]; exact Blk.new _ _ _)
                have IG : Hid (Inner v3 ⟨yw, ym, yt, yA, yn, yc, yW, yB, yk, yd, yT⟩) := Lib.hid (by rw [hv3]; exact IYY.out.alloc _)
                have LG : Hid (Lim1 ⟨yw, ym, yt, yA, yn, yc, yW, yB, yk, yd, yT⟩) := Lib.hid MY.out
                replace KU : Hid (Blk v3 v1.heap.size 26 #[.int .i64 uw, .int .i64 um, .int .i64 ut, .slice uA un uc, .slice uB uk ud]) := Lib.hid (by rw [hv3]; exact KU.out.alloc _)
                replace IU : Hid (Inner v3 ⟨uw, um, ut, uA, un, uc, uW, uB, uk, ud, uT⟩) := Lib.hid (by rw [hv3]; exact IU.out.alloc _)
                have HB3 : Hid (Below wc.heap.size wc v3) := Lib.hid (by rw [hv3]; exact bl_alloc HB2.out _)
                have HSAME : Hid (∀ (D : Option Addr) (d : Nat), decide (st ⟨uw, um, ut, uA, un, uc, uW, D, uk, d, uT⟩ = st ⟨yw, ym, yt, yA, yn, yc, yW, yB, yk, yd, yT⟩) = true) := Lib.hid (fun D d => decide_eq_true (HST.out))
                have bq : Hid (Below v3.heap.size v3 v3.drew) := Lib.hid (Below.refl _ _).drew
                clear hv3
                obtain ⟨SB, hSB⟩ : ∃ SB : World → Prop, ∀ V, SB V ↔ (Blk V v1.heap.size 26 #[.int .i64 uw, .int .i64 um, .int .i64 ut, .slice uA un uc, .slice uB uk ud] ∧ Blk V v2.heap.size 39 #[.int .i64 yw, .int .i64 ym, .int .i64 yt, .slice yA yn yc, .slice yB yk yd]) := ⟨_, fun _ => Iff.rfl⟩
                have HSB := Lib.hid hSB
                clear hSB
                have f0 : SB v3.drew := (HSB.out _).2 ⟨KU.out.below bq.out, KG.out.below bq.out⟩
                refine wp_region_held_drew (S := SB) (by kernel_rfl) f0 (fun hH0 => ?_)
                clear f0
                generalize v3.drew = va at *
                refine wpAnyH_take (i := 0) (v := .agg #[.int .i64 uw, .int .i64 um, .int .i64 ut, .slice uA un uc, .slice uB uk ud]) rfl (by kernel_rfl) (by kernel_rfl) (by kernel_rfl) (fun _ _ _ h => h) (Or.inl ⟨by kernel_rfl, fun W hS => by have hSS := (HSB.out W).1 hS; have q0 := hSS.1.cell 0 _ rfl; have p0 := hSS.2.cell 0 _ rfl; have q1 := hSS.1.cell 1 _ rfl; have p1 := hSS.2.cell 1 _ rfl; have q2 := hSS.1.cell 2 _ rfl; have p2 := hSS.2.cell 2 _ rfl; have q3 := hSS.1.cell 3 _ rfl; have p3 := hSS.2.cell 3 _ rfl; have q4 := hSS.1.cell 4 _ rfl; have p4 := hSS.2.cell 4 _ rfl; go_simp⟩) hH0 ?_
                try simp only [Act.put, List.getElem_toArray, List.getElem_cons_succ, List.getElem_cons_zero]
                try simp only [List.setIfInBounds_toArray]
                try simp only [List.set_cons_succ]
                try simp only [List.set_cons_zero]
                refine wpAnyH_take (i := 2) (v := .agg #[.int .i64 yw, .int .i64 ym, .int .i64 yt, .slice yA yn yc, .slice yB yk yd]) rfl (by kernel_rfl) (by kernel_rfl) (by kernel_rfl) (fun _ _ _ h => h) (Or.inl ⟨by kernel_rfl, fun W hS => by have hSS := (HSB.out W).1 hS; have q0 := hSS.1.cell 0 _ rfl; have p0 := hSS.2.cell 0 _ rfl; have q1 := hSS.1.cell 1 _ rfl; have p1 := hSS.2.cell 1 _ rfl; have q2 := hSS.1.cell 2 _ rfl; have p2 := hSS.2.cell 2 _ rfl; have q3 := hSS.1.cell 3 _ rfl; have p3 := hSS.2.cell 3 _ rfl; have q4 := hSS.1.cell 4 _ rfl; have p4 := hSS.2.cell 4 _ rfl; go_simp⟩) hH0 ?_
                try simp only [Act.put, List.getElem_toArray, List.getElem_cons_succ, List.getElem_cons_zero]
                try simp only [List.setIfInBounds_toArray]
                try simp only [List.set_cons_succ]
                try simp only [List.set_cons_zero]
                refine wpAnyH_ready (rs := [1]) (by kernel_rfl) (by simp) ?_
                refine AllReadyH.cons rfl (fun KK0 hK => ?_) AllReadyH.nil
                rw [if_pos (by kernel_rfl)]
                refine Step2.calls_wp _ _ _ (ref1_c ⟨uw, um, ut, uA, un, uc, uW, uB, uk, ud, uT⟩ _ (IU.out.below bq.out) HUL.out) (Step2.run_call _ _ _ rfl rfl Try.func14 (by kernel_rfl) (by kernel_rfl) _ (by kernel_rfl)) ?_
                rintro e wb hq
                obtain ⟨DU, dU, he, hU, -, b5⟩ := hq
                subst he
                refine ⟨_, rfl, ?_⟩
                replace bq := Lib.hid (bl_trans bq.out b5)
                have UU : Hid (Inner wb ⟨uw, um, ut, uA, un, uc, uW, DU, uk, dU, uT⟩) := Lib.hid ⟨IU.out.1.below bq.out, hU⟩
                clear hU b5
                refine hK.out _ _ ((HSB.out _).2 ⟨KU.out.below bq.out, KG.out.below bq.out⟩) (fun hH1 => ?_)
                clear hK KK0
                try simp only [Act.put, List.getElem_toArray, List.getElem_cons_succ, List.getElem_cons_zero]
                try simp only [List.setIfInBounds_toArray]
                try simp only [List.set_cons_succ]
                try simp only [List.set_cons_zero]
                refine wpAnyH_ready (rs := [3]) (by kernel_rfl) (by simp) ?_
                refine AllReadyH.cons rfl (fun KK0 hK => ?_) AllReadyH.nil
                rw [if_pos (by kernel_rfl)]
                refine Step2.calls_wp _ _ _ (one2_c ⟨uw, um, ut, uA, un, uc, uW, DU, uk, dU, uT⟩ ⟨yw, ym, yt, yA, yn, yc, yW, yB, yk, yd, yT⟩ _ true UU.out HUL.out (IG.out.below bq.out) LG.out (HSAME.out _ _)) (Step2.run_call _ _ _ rfl rfl Try.func20 (by kernel_rfl) (by kernel_rfl) _ (by kernel_rfl)) ?_
                rintro e wb hq
                obtain ⟨rfl, b5⟩ := hq
                refine ⟨_, rfl, ?_⟩
                replace bq := Lib.hid (bl_trans bq.out b5)
                clear b5
                refine hK.out _ _ ((HSB.out _).2 ⟨KU.out.below bq.out, KG.out.below bq.out⟩) (fun hH2 => ?_)
                clear hK KK0
                try simp only [Act.put, List.getElem_toArray, List.getElem_cons_succ, List.getElem_cons_zero]
                try simp only [List.setIfInBounds_toArray]
                try simp only [List.set_cons_succ]
                try simp only [List.set_cons_zero]
                refine wpAnyH_take (i := 4) (v := .bool false) rfl (by kernel_rfl) (by kernel_rfl) (by kernel_rfl) (fun _ _ _ h => h) (Or.inl ⟨by kernel_rfl, fun W hS => by go_simp⟩) hH2 ?_
                try simp only [Act.put, List.getElem_toArray, List.getElem_cons_succ, List.getElem_cons_zero]
                try simp only [List.setIfInBounds_toArray]
                try simp only [List.set_cons_succ]
                try simp only [List.set_cons_zero]
                refine wpAnyH_take (i := 5) (v := .bool false) rfl (by kernel_rfl) (by kernel_rfl) (by kernel_rfl) (fun _ _ _ h => h) (Or.inl ⟨by kernel_rfl, fun W hS => by go_simp⟩) hH2 ?_
                try simp only [Act.put, List.getElem_toArray, List.getElem_cons_succ, List.getElem_cons_zero]
                try simp only [List.setIfInBounds_toArray]
                try simp only [List.set_cons_succ]
                try simp only [List.set_cons_zero]
                refine wpAnyH_take (i := 6) (v := .int .i64 0) rfl (by kernel_rfl) (by kernel_rfl) (by kernel_rfl) (fun _ _ _ h => h) (Or.inl ⟨by kernel_rfl, fun W hS => by go_simp⟩) hH2 ?_
                try simp only [Act.put, List.getElem_toArray, List.getElem_cons_succ, List.getElem_cons_zero]
                try simp only [List.setIfInBounds_toArray]
                try simp only [List.set_cons_succ]
                try simp only [List.set_cons_zero]
                refine wpAnyH_take (i := 7) (v := .int .i64 0) rfl (by kernel_rfl) (by kernel_rfl) (by kernel_rfl) (fun _ _ _ h => h) (Or.inl ⟨by kernel_rfl, fun W hS => by go_simp⟩) hH2 ?_
                try simp only [Act.put, List.getElem_toArray, List.getElem_cons_succ, List.getElem_cons_zero]
                try simp only [List.setIfInBounds_toArray]
                try simp only [List.set_cons_succ]
                try simp only [List.set_cons_zero]
                refine wpAnyH_take (i := 8) (v := .bool false) rfl (by kernel_rfl) (by kernel_rfl) (by kernel_rfl) (fun _ _ _ h => h) (Or.inl ⟨by kernel_rfl, fun W hS => by go_simp⟩) hH2 ?_
                try simp only [Act.put, List.getElem_toArray, List.getElem_cons_succ, List.getElem_cons_zero]
                try simp only [List.setIfInBounds_toArray]
                try simp only [List.set_cons_succ]
                try simp only [List.set_cons_zero]
                refine wpAnyH_ready (rs := [9]) (by kernel_rfl) (by simp) ?_
                refine AllReadyH.cons rfl (fun KK0 hK => ?_) AllReadyH.nil
                go_simp
                refine hK.out _ _ hH2 (fun _ => ?_)
                clear hK KK0
                refine wpAnyH_done (by kernel_rfl) ?_ _
                try simp only [Act.put, List.getElem_toArray, List.getElem_cons_succ, List.getElem_cons_zero]
                try simp only [List.setIfInBounds_toArray]
                try simp only [List.set_cons_succ]
                try simp only [List.set_cons_zero]
                have HBN := Lib.hid (bl_trans HB3.out bq.out)
                go_wp2
                go_roundw
                case rel => exact ⟨j + 1, by omega, by go_num, HBN⟩
                case measure => simp [intOf]; omega
          · have b_ := HB.out
            replace SL := Lib.hid (SL.out.below b_)
            replace IX := Lib.hid (IX.out.below b_)
            replace RW := Lib.hid (RW.out.below b_)
            replace RC := Lib.hid (RC.out.below b_)
            replace KX := Lib.hid (KX.out.below b_)
            replace SX := Lib.hid (SX.out.below b_)
            replace SA := Lib.hid (SA.out.below b_)
            replace SB_ := Lib.hid (SB_.out.below b_)
            replace SC := Lib.hid (SC.out.below b_)
            replace SD := Lib.hid (SD.out.below b_)
            replace bb := Lib.hid (bl_trans bb.out b_)
            obtain rfl : j = m + 1 := by omega
            clear b_ T1 T2 hlt
            have tbr : (br == br) = true := by simp
            have C_ := Lib.hid (right_c L A n c v0 br SL.out (by omega) ML.out HBR.out)
            go_wp2_with fail
            refine C_.out.mono ?_
            rintro e y1 ⟨rfl, b_⟩
            replace SL := Lib.hid (SL.out.below b_)
            replace IX := Lib.hid (IX.out.below b_)
            replace RW := Lib.hid (RW.out.below b_)
            replace RC := Lib.hid (RC.out.below b_)
            replace KX := Lib.hid (KX.out.below b_)
            replace SX := Lib.hid (SX.out.below b_)
            replace SA := Lib.hid (SA.out.below b_)
            replace SB_ := Lib.hid (SB_.out.below b_)
            replace SC := Lib.hid (SC.out.below b_)
            replace SD := Lib.hid (SD.out.below b_)
            replace bb := Lib.hid (bl_trans bb.out b_)
            clear b_ C_
            have C_ := Lib.hid (refs_c LA BA na da y1 SA.out (by omega) MA.out)
            go_wp2_with fail
            refine C_.out.mono ?_
            rintro e y2 ⟨v4, Lra, rfl, o1, o2, o3, o4, -⟩
            replace SL := Lib.hid (SL.out.below o1.2)
            replace IX := Lib.hid (IX.out.below o1.2)
            replace RW := Lib.hid (RW.out.below o1.2)
            replace RC := Lib.hid (RC.out.below o1.2)
            replace KX := Lib.hid (KX.out.below o1.2)
            replace SX := Lib.hid (SX.out.below o1.2)
            replace SA := Lib.hid (SA.out.below o1.2)
            replace SB_ := Lib.hid (SB_.out.below o1.2)
            replace SC := Lib.hid (SC.out.below o1.2)
            replace SD := Lib.hid (SD.out.below o1.2)
            replace bb := Lib.hid (bl_trans bb.out o1.2)
            obtain ⟨Bra, cra, rfl, r4⟩ := o1.form
            have RAs : Hid (Sls y2 Bra na Lra) := Lib.hid ⟨r4, o3⟩
            have REa := Lib.hid o2
            have RMa := Lib.hid o4
            clear o1 o2 o3 o4 r4
            clear C_
            have C_ := Lib.hid (same_c Lra LB Bra BB na cra nb db y2 true RAs.out SB_.out (by omega) RMa.out MB.out (decide_eq_true (by rw [REa.out, EA.out, EB.out])))
            go_wp2_with fail
            refine C_.out.mono ?_
            rintro e y3 ⟨rfl, b_⟩
            replace SL := Lib.hid (SL.out.below b_)
            replace IX := Lib.hid (IX.out.below b_)
            replace RW := Lib.hid (RW.out.below b_)
            replace RC := Lib.hid (RC.out.below b_)
            replace KX := Lib.hid (KX.out.below b_)
            replace SX := Lib.hid (SX.out.below b_)
            replace SA := Lib.hid (SA.out.below b_)
            replace SB_ := Lib.hid (SB_.out.below b_)
            replace SC := Lib.hid (SC.out.below b_)
            replace SD := Lib.hid (SD.out.below b_)
            replace RAs := Lib.hid (RAs.out.below b_)
            replace bb := Lib.hid (bl_trans bb.out b_)
            clear b_ C_
            clear RAs REa RMa
            have C_ := Lib.hid (refs_c LC BC nc dc y3 SC.out (by omega) MC.out)
            go_wp2_with fail
            refine C_.out.mono ?_
            rintro e y4 ⟨v4, Lrc, rfl, o1, o2, o3, o4, -⟩
            replace SL := Lib.hid (SL.out.below o1.2)
            replace IX := Lib.hid (IX.out.below o1.2)
            replace RW := Lib.hid (RW.out.below o1.2)
            replace RC := Lib.hid (RC.out.below o1.2)
            replace KX := Lib.hid (KX.out.below o1.2)
            replace SX := Lib.hid (SX.out.below o1.2)
            replace SA := Lib.hid (SA.out.below o1.2)
            replace SB_ := Lib.hid (SB_.out.below o1.2)
            replace SC := Lib.hid (SC.out.below o1.2)
            replace SD := Lib.hid (SD.out.below o1.2)
            replace bb := Lib.hid (bl_trans bb.out o1.2)
            obtain ⟨Brc, crc, rfl, r4⟩ := o1.form
            have RCs : Hid (Sls y4 Brc nc Lrc) := Lib.hid ⟨r4, o3⟩
            have REc := Lib.hid o2
            have RMc := Lib.hid o4
            clear o1 o2 o3 o4 r4
            clear C_
            have C_ := Lib.hid (same_c Lrc LD Brc BD nc crc nd dd y4 true RCs.out SD.out (by omega) RMc.out MD.out (decide_eq_true (by rw [REc.out, EC.out, ED.out])))
            go_wp2_with fail
            refine C_.out.mono ?_
            rintro e y5 ⟨rfl, b_⟩
            replace SL := Lib.hid (SL.out.below b_)
            replace IX := Lib.hid (IX.out.below b_)
            replace RW := Lib.hid (RW.out.below b_)
            replace RC := Lib.hid (RC.out.below b_)
            replace KX := Lib.hid (KX.out.below b_)
            replace SX := Lib.hid (SX.out.below b_)
            replace SA := Lib.hid (SA.out.below b_)
            replace SB_ := Lib.hid (SB_.out.below b_)
            replace SC := Lib.hid (SC.out.below b_)
            replace SD := Lib.hid (SD.out.below b_)
            replace RCs := Lib.hid (RCs.out.below b_)
            replace bb := Lib.hid (bl_trans bb.out b_)
            clear b_ C_
            clear RCs REc RMc
            obtain ⟨ro, hro⟩ : ∃ r, ofS (cc L) cs = r := ⟨_, rfl⟩
            have HRO := Lib.hid hro
            have hlO : ro.length ≤ 20 := by have h1 := of_len_ (cc L) cs; rw [hro, cc_len, HLn.out] at h1; omega
            clear hro
            have C_ := Lib.hid (of_c L cs A E n c k f y5 ro ro.length SL.out (by omega) ML.out RC.out (by omega) HRO.out rfl)
            go_wp2_with fail
            refine C_.out.mono ?_
            rintro e y6 ⟨v6, rfl, o6⟩
            replace SL := Lib.hid (SL.out.below o6.2)
            replace IX := Lib.hid (IX.out.below o6.2)
            replace RW := Lib.hid (RW.out.below o6.2)
            replace RC := Lib.hid (RC.out.below o6.2)
            replace KX := Lib.hid (KX.out.below o6.2)
            replace SX := Lib.hid (SX.out.below o6.2)
            replace SA := Lib.hid (SA.out.below o6.2)
            replace SB_ := Lib.hid (SB_.out.below o6.2)
            replace SC := Lib.hid (SC.out.below o6.2)
            replace SD := Lib.hid (SD.out.below o6.2)
            replace bb := Lib.hid (bl_trans bb.out o6.2)
            obtain ⟨Bo1, co1, rfl, r6⟩ := o6.form
            have RO1 := Lib.hid r6
            clear o6 r6
            clear C_
            have C_ := Lib.hid (refof LX_ cs BX E n cX k f y6 ro ro.length SX.out (by omega) MX.out RC.out (by omega) (by rw [EX.out]; exact HRO.out) rfl)
            go_wp2_with fail
            refine C_.out.mono ?_
            rintro e y7 ⟨v7, rfl, o7⟩
            replace SL := Lib.hid (SL.out.below o7.2)
            replace IX := Lib.hid (IX.out.below o7.2)
            replace RW := Lib.hid (RW.out.below o7.2)
            replace RC := Lib.hid (RC.out.below o7.2)
            replace KX := Lib.hid (KX.out.below o7.2)
            replace SX := Lib.hid (SX.out.below o7.2)
            replace SA := Lib.hid (SA.out.below o7.2)
            replace SB_ := Lib.hid (SB_.out.below o7.2)
            replace SC := Lib.hid (SC.out.below o7.2)
            replace SD := Lib.hid (SD.out.below o7.2)
            replace RO1 := Lib.hid (RO1.out.below o7.2)
            replace bb := Lib.hid (bl_trans bb.out o7.2)
            obtain ⟨Bo2, co2, rfl, r7⟩ := o7.form
            have RO2 := Lib.hid r7
            clear o7 r7
            clear C_
            have C_ := Lib.hid (numbers_b ro ro Bo1 Bo2 ro.length ro.length co1 co2 y7 true RO1.out RO2.out (by omega) (by omega) (by simp))
            go_wp2_with fail
            refine C_.out.mono ?_
            rintro e y8 ⟨rfl, b_⟩
            replace SL := Lib.hid (SL.out.below b_)
            replace IX := Lib.hid (IX.out.below b_)
            replace RW := Lib.hid (RW.out.below b_)
            replace RC := Lib.hid (RC.out.below b_)
            replace KX := Lib.hid (KX.out.below b_)
            replace SX := Lib.hid (SX.out.below b_)
            replace SA := Lib.hid (SA.out.below b_)
            replace SB_ := Lib.hid (SB_.out.below b_)
            replace SC := Lib.hid (SC.out.below b_)
            replace SD := Lib.hid (SD.out.below b_)
            replace RO1 := Lib.hid (RO1.out.below b_)
            replace RO2 := Lib.hid (RO2.out.below b_)
            replace bb := Lib.hid (bl_trans bb.out b_)
            clear b_ C_
            go_wp2_with fail
            refine (awake_any _).mono ?_
            rintro e wz ⟨rfl, bz⟩
            go_wp2
            go_ret
            exact ⟨rfl, bl_trans bb.out bz⟩
end Go.Proofs.Ytakdeagaldnelaa.Sleep
