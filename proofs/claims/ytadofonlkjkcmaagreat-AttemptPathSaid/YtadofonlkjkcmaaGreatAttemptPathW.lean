/-
  THE WALK OF THE LAW AttemptPath.
-/
import Derived.Test.YtadofonlkjkcmaaGreatAttemptSmall
namespace Go.Proofs.YtadofonlkjkcmaaGreat.Attempt
open Go.ChangeShapes Go.WideShapes Go.ChangeAt Go.RowKit Mem Go.Proofs.YtadofonlkjkcmaaGreat.Code

set_option maxRecDepth 100000 in
set_option maxHeartbeats 3000000 in
theorem path_walk (A AW : Option Addr) (n c m d : Nat) (who snap : Int) (l : List Raw) (lw : List WRaw) (w : World) (hnc : n ≤ c) (mn : n ≤ 9223372036854775807) (hat : At w A n l) (mm : m ≤ 9223372036854775807) (hw : Rd w 2 AW m (wcs lw)) (hwl : lw.length = m) (hg : ∀ x ∈ lw, WGood w x) :
    Calls Tryz.prog 8 #[.slice A n c, .int .i64 who, .int .i64 snap, .slice AW m d] w (RetB w true) := by
  have HL := Lib.hid hat.len
  have HA0 := Lib.hid hat
  have HW0 := Lib.hid hw
  have HWL := Lib.hid hwl
  have HG0 := Lib.hid hg
  have HWM : Hid (∀ x ∈ lw, x.hn ≤ 9223372036854775807 ∧ x.rn ≤ 9223372036854775807) := Lib.hid (fun x hx => ⟨(hg x hx).1.2.2.1, (hg x hx).2.2.2⟩)
  clear hat hw hwl hg
  have bb : Hid (Below w.heap.size w w) := Lib.hid (Below.refl _ _)
  cases hs : smallB l with
  | false =>
    have HSM := Lib.hid (small_neg l hs)
    clear hs
    go_enter Tryz.func8, Tryz.ntmps8
    go_wp2_with fail
    refine (small_c l _ _ _ _ (-1) (HA0.out.below bb.out) mn HSM.out).mono ?_
    rintro e w1 ⟨rfl, b_⟩
    replace bb := Lib.hid (bl_trans bb.out b_)
    clear b_
    go_wp2_with fail
    refine (awake_any _).mono ?_
    rintro e wz ⟨rfl, b_⟩
    replace bb := Lib.hid (bl_trans bb.out b_)
    clear b_
    go_wp2
    go_ret
    exact ⟨rfl, bb.out⟩
  | true =>
    obtain ⟨hlim, h40⟩ := small_lim l hs
    have HSM := Lib.hid (small_val l n HL.out hs)
    have HLM := Lib.hid hlim
    have hn40 : n ≤ 40 := by rw [← HL.out]; exact h40
    clear hs hlim h40
    cases hsw : smallW lw with
    | false =>
      have HSW := Lib.hid hsw
      clear hsw
      go_enter Tryz.func8, Tryz.ntmps8
      go_wp2_with fail
      refine (small_c l _ _ _ _ (n : Int) (HA0.out.below bb.out) mn HSM.out).mono ?_
      rintro e w1 ⟨rfl, b_⟩
      replace bb := Lib.hid (bl_trans bb.out b_)
      clear b_
      go_wp2_with fail
      refine (smallw_c lw _ _ _ _ false (HW0.out.below bb.out) HWL.out mm HWM.out HSW.out).mono ?_
      rintro e w1 ⟨rfl, b_⟩
      replace bb := Lib.hid (bl_trans bb.out b_)
      clear b_
      go_wp2_with fail
      refine (awake_any _).mono ?_
      rintro e wz ⟨rfl, b_⟩
      replace bb := Lib.hid (bl_trans bb.out b_)
      clear b_
      go_wp2
      go_ret
      exact ⟨rfl, bb.out⟩
    | true =>
      have HSW := Lib.hid hsw
      have hm60 : m ≤ 60 := by rw [← HWL.out]; exact smallW_len hsw
      clear hsw
      have HBG : Hid (∀ (W : World) (t0 : Try) (ok : Bool), Below w.heap.size w W → beginS (ss l) who snap = (t0, ok) → Calls Tryz.prog 12 #[.slice A n c, .int .i64 who, .int .i64 snap] W fun e w' => ∃ y : TL, e = .returned (.tuple #[.agg #[.int .i64 t0.who, .int .i64 t0.snap, .int .i64 t0.pc, .slice y.R t0.regs.length y.rc, .slice y.P t0.path.length y.pc, .slice y.D t0.reads.length y.dc, .slice y.L t0.log.list.length y.lc, .slice y.M t0.log.marks.length y.mc, .slice y.F y.fl.length y.fc, .int .i64 t0.kind, .int .i64 t0.why], .int .i64 (if ok = true then 0 else 1)]) ∧ TOwn W w' t0 y ∧ y.fl.length ≤ 1000000 ∧ Below W.heap.size W w') := Lib.hid (fun W t0 ok hW hB => begin_c l A n c who snap W t0 ok (HA0.out.below hW) hnc HLM.out (by omega) hB)
      have HST : Hid (∀ (W : World) (xw : WRaw) (t9 : Try) (x9 : TL) (T9 : Try) (ok : Bool), Below w.heap.size w W → xw ∈ lw → TRd W t9 x9 → Inv (ss l) t9 → stepS (ss l) xw.h xw.r t9 = (T9, ok) → Calls Tryz.prog 17 #[.agg #[.int .i64 t9.who, .int .i64 t9.snap, .int .i64 t9.pc, .slice x9.R t9.regs.length x9.rc, .slice x9.P t9.path.length x9.pc, .slice x9.D t9.reads.length x9.dc, .slice x9.L t9.log.list.length x9.lc, .slice x9.M t9.log.marks.length x9.mc, .slice x9.F x9.fl.length x9.fc, .int .i64 t9.kind, .int .i64 t9.why], .slice A n c, .slice xw.H xw.hn xw.hc, .slice xw.R xw.rn xw.rc] W fun e w' => ∃ y : TL, e = .returned (.tuple #[.agg #[.int .i64 T9.who, .int .i64 T9.snap, .int .i64 T9.pc, .slice y.R T9.regs.length y.rc, .slice y.P T9.path.length y.pc, .slice y.D T9.reads.length y.dc, .slice y.L T9.log.list.length y.lc, .slice y.M T9.log.marks.length y.mc, .slice y.F y.fl.length y.fc, .int .i64 T9.kind, .int .i64 T9.why], .int .i64 (if ok = true then 0 else 1)]) ∧ TOwn W w' T9 y ∧ y.fl.length ≤ 1000000 ∧ Below W.heap.size W w') := Lib.hid (fun W xw t9 x9 T9 ok hW hm hr hi hS => step_c l A n c xw.h xw.H xw.hn xw.hc xw.r xw.R xw.rn xw.rc t9 x9 W (SPre.mk_ (HA0.out.below hW) hnc HLM.out (by omega) ((HG0.out xw hm).1.1.below hW) (by have := (smallW_all HSW.out xw hm).1; omega) ((HG0.out xw hm).2.1.below hW) (by have := (smallW_all HSW.out xw hm).2; omega) hr hi) T9 ok hS)
      go_enter Tryz.func8, Tryz.ntmps8
      go_wp2_with fail
      refine (small_c l _ _ _ _ (n : Int) (HA0.out.below bb.out) mn HSM.out).mono ?_
      rintro e w1 ⟨rfl, b_⟩
      replace bb := Lib.hid (bl_trans bb.out b_)
      clear b_
      go_wp2_with fail
      refine (smallw_c lw _ _ _ _ true (HW0.out.below bb.out) HWL.out mm HWM.out HSW.out).mono ?_
      rintro e w1 ⟨rfl, b_⟩
      replace bb := Lib.hid (bl_trans bb.out b_)
      clear b_
      go_wp2_with fail
      go_loopw [9, 30] (fun q i wr => ∃ k e : Nat, k ≤ n ∧ i = .int .i64 k ∧ q = .int .i64 e ∧ e ≤ k ∧ Hid (e = eithers ((ss l).take k)) ∧ Hid (Below w.heap.size w wr)) (fun _ i _ => n - (intOf i).toNat)
      case atStart => exact ⟨0, 0, Nat.zero_le _, rfl, rfl, Nat.le_refl _, Lib.hid rfl, bb⟩
      case round =>
        obtain ⟨k, e, hk, rfl, rfl, hek, HE, bb⟩ := hrel
        generalize wr = wa at *
        by_cases hlt : k < n
        · obtain ⟨b, off, ⟨⟨sd, sa, sb, st⟩, Tt, tn, tc⟩, hAA, hx, c0, c1, c2, c3, _, _⟩ := (HA0.out.below bb.out).at_ k hlt
          subst hAA
          simp only at c0 c1 c2 c3
          have hs := Lib.hid (eith_take (ss l) k _ (ss_at l k _ hx))
          have HB2 := Lib.hid (bl_alloc bb.out (.cells #[.int .i64 sd, .int .i64 sa, .int .i64 sb, .slice Tt tn tc] 82))
          clear hx
          by_cases h7 : sd = 7
          · have h7b : (sd == 7) = true := by simp [h7]
            have HE2 : Hid (e + 1 = eithers ((ss l).take (k + 1))) := Lib.hid (by rw [hs.out, HE.out, if_pos h7])
            clear h7
            go_wp2
            go_roundw
            case rel => exact ⟨k + 1, e + 1, by omega, by go_num, by go_num, by omega, HE2, HB2⟩
            case measure => simp [intOf]; omega
          · have h7b : (sd == 7) = false := by simpa using h7
            have HE2 : Hid (e = eithers ((ss l).take (k + 1))) := Lib.hid (by rw [hs.out, HE.out]; show _ = _ + (if sd = 7 then 1 else 0); rw [if_neg h7]; rfl)
            go_wp2
            go_roundw
            case rel => exact ⟨k + 1, e, by omega, by go_num, rfl, by omega, HE2, HB2⟩
            case measure => simp [intOf]; omega
        · have HEE : Hid (e = (eithers (ss l))) := Lib.hid (by have h1 := HE.out; rwa [List.take_of_length_le (by rw [ss_len, HL.out]; omega)] at h1)
          clear HE
          have HWA : Hid (w.heap.size ≤ wa.heap.size) := Lib.hid bb.out.size
          have HBA := bb
          obtain ⟨t0, ok, hB⟩ : ∃ t0 ok, beginS (ss l) who snap = (t0, ok) := ⟨_, _, rfl⟩
          have HBB := Lib.hid hB
          have HBC := Lib.hid (HBG.out wa t0 ok bb.out hB)
          clear hB
          cases ok with
          | false =>
            go_wp2_with fail
            refine HBC.out.mono ?_
            rintro e5 v0 ⟨y0, rfl, ho0, hf0, b_⟩
            have HO0 := Lib.hid (ho0.below (bl_alloc (Below.refl _ _) (.cells #[.int .i64 t0.who, .int .i64 t0.snap, .int .i64 t0.pc, .slice y0.R t0.regs.length y0.rc, .slice y0.P t0.path.length y0.pc, .slice y0.D t0.reads.length y0.dc, .slice y0.L t0.log.list.length y0.lc, .slice y0.M t0.log.marks.length y0.mc, .slice y0.F y0.fl.length y0.fc, .int .i64 t0.kind, .int .i64 t0.why] 34)))
            have HF0 := Lib.hid hf0
            replace bb := Lib.hid (bl_trans bb.out (bl_alloc b_ (.cells #[.int .i64 t0.who, .int .i64 t0.snap, .int .i64 t0.pc, .slice y0.R t0.regs.length y0.rc, .slice y0.P t0.path.length y0.pc, .slice y0.D t0.reads.length y0.dc, .slice y0.L t0.log.list.length y0.lc, .slice y0.M t0.log.marks.length y0.mc, .slice y0.F y0.fl.length y0.fc, .int .i64 t0.kind, .int .i64 t0.why] 34)))
            have HKT : Hid (Blk (v0.alloc (.cells #[.int .i64 t0.who, .int .i64 t0.snap, .int .i64 t0.pc, .slice y0.R t0.regs.length y0.rc, .slice y0.P t0.path.length y0.pc, .slice y0.D t0.reads.length y0.dc, .slice y0.L t0.log.list.length y0.lc, .slice y0.M t0.log.marks.length y0.mc, .slice y0.F y0.fl.length y0.fc, .int .i64 t0.kind, .int .i64 t0.why] 34)) v0.heap.size 34 #[.int .i64 t0.who, .int .i64 t0.snap, .int .i64 t0.pc, .slice y0.R t0.regs.length y0.rc, .slice y0.P t0.path.length y0.pc, .slice y0.D t0.reads.length y0.dc, .slice y0.L t0.log.list.length y0.lc, .slice y0.M t0.log.marks.length y0.mc, .slice y0.F y0.fl.length y0.fc, .int .i64 t0.kind, .int .i64 t0.why]) := Lib.hid (Blk.new _ _ _)
            have HGT : Hid (w.heap.size ≤ v0.heap.size) := Lib.hid (by have h1 := HWA.out; have h2 := b_.size; omega)
            clear ho0 hf0 b_
            go_wp2_with fail
            go_loopw [49] (fun i wr => ∃ k : Nat, k ≤ m ∧ i = .int .i64 k ∧ Hid (Below w.heap.size w wr)) (fun i _ => m - (intOf i).toNat)
            case atStart => exact ⟨0, Nat.zero_le _, rfl, bb⟩
            case round =>
              obtain ⟨k2, hk2, rfl, bb⟩ := hrel
              generalize wr = wb at *
              by_cases hlt2 : k2 < m
              · obtain ⟨b2, off2, xw, hWW, hx2, q0, q1⟩ := at_world (HW0.out.below bb.out) k2 hlt2
                subst hWW
                clear hx2
                replace bb := Lib.hid (bl_alloc bb.out (.cells #[.slice xw.H xw.hn xw.hc, .slice xw.R xw.rn xw.rc] 51))
                go_wp2_with fail
                refine (awake_any _).mono ?_
                rintro e wz ⟨rfl, b_⟩
                replace bb := Lib.hid (bl_trans bb.out b_)
                clear b_
                go_wp2
                go_ret
                exact ⟨rfl, bb.out⟩
              · go_wp2_with fail
                refine (awake_any _).mono ?_
                rintro e wz ⟨rfl, b_⟩
                replace bb := Lib.hid (bl_trans bb.out b_)
                clear b_
                go_wp2
                go_ret
                exact ⟨rfl, bb.out⟩
          | true =>
            go_wp2_with fail
            refine HBC.out.mono ?_
            rintro e5 v0 ⟨y0, rfl, ho0, hf0, b_⟩
            have HO0 := Lib.hid (ho0.below (bl_alloc (Below.refl _ _) (.cells #[.int .i64 t0.who, .int .i64 t0.snap, .int .i64 t0.pc, .slice y0.R t0.regs.length y0.rc, .slice y0.P t0.path.length y0.pc, .slice y0.D t0.reads.length y0.dc, .slice y0.L t0.log.list.length y0.lc, .slice y0.M t0.log.marks.length y0.mc, .slice y0.F y0.fl.length y0.fc, .int .i64 t0.kind, .int .i64 t0.why] 34)))
            have HF0 := Lib.hid hf0
            replace bb := Lib.hid (bl_trans bb.out (bl_alloc b_ (.cells #[.int .i64 t0.who, .int .i64 t0.snap, .int .i64 t0.pc, .slice y0.R t0.regs.length y0.rc, .slice y0.P t0.path.length y0.pc, .slice y0.D t0.reads.length y0.dc, .slice y0.L t0.log.list.length y0.lc, .slice y0.M t0.log.marks.length y0.mc, .slice y0.F y0.fl.length y0.fc, .int .i64 t0.kind, .int .i64 t0.why] 34)))
            have HKT : Hid (Blk (v0.alloc (.cells #[.int .i64 t0.who, .int .i64 t0.snap, .int .i64 t0.pc, .slice y0.R t0.regs.length y0.rc, .slice y0.P t0.path.length y0.pc, .slice y0.D t0.reads.length y0.dc, .slice y0.L t0.log.list.length y0.lc, .slice y0.M t0.log.marks.length y0.mc, .slice y0.F y0.fl.length y0.fc, .int .i64 t0.kind, .int .i64 t0.why] 34)) v0.heap.size 34 #[.int .i64 t0.who, .int .i64 t0.snap, .int .i64 t0.pc, .slice y0.R t0.regs.length y0.rc, .slice y0.P t0.path.length y0.pc, .slice y0.D t0.reads.length y0.dc, .slice y0.L t0.log.list.length y0.lc, .slice y0.M t0.log.marks.length y0.mc, .slice y0.F y0.fl.length y0.fc, .int .i64 t0.kind, .int .i64 t0.why]) := Lib.hid (Blk.new _ _ _)
            have HGT : Hid (w.heap.size ≤ v0.heap.size) := Lib.hid (by have h1 := HWA.out; have h2 := b_.size; omega)
            clear ho0 hf0 b_
            go_wp2_with fail
            go_loopw [49] (fun i wr => ∃ (k : Nat) (t9 : Try) (x9 : TL), k ≤ m ∧ i = .int .i64 k ∧ Hid (Blk wr v0.heap.size 34 #[.int .i64 t9.who, .int .i64 t9.snap, .int .i64 t9.pc, .slice x9.R t9.regs.length x9.rc, .slice x9.P t9.path.length x9.pc, .slice x9.D t9.reads.length x9.dc, .slice x9.L t9.log.list.length x9.lc, .slice x9.M t9.log.marks.length x9.mc, .slice x9.F x9.fl.length x9.fc, .int .i64 t9.kind, .int .i64 t9.why]) ∧ Hid (TOwn w wr t9 x9) ∧ Hid (Inv (ss l) t9) ∧ Hid (Below w.heap.size w wr)) (fun i _ => m - (intOf i).toNat)
            case atStart => exact ⟨0, t0, y0, Nat.zero_le _, rfl, HKT, Lib.hid (TOwn.wide HO0.out HBA.out), Lib.hid (begin_inv HBB.out), bb⟩
            case round =>
              obtain ⟨k2, t9, x9, hk2, rfl, HK9, HO9, HI9, bb⟩ := hrel
              generalize wr = wb at *
              by_cases hlt2 : k2 < m
              · obtain ⟨b2, off2, xw, hWW, hx2, q0, q1⟩ := at_world (HW0.out.below bb.out) k2 hlt2
                subst hWW
                have HXM := Lib.hid (List.mem_of_getElem? hx2)
                clear hx2
                have HB2 := Lib.hid (bl_alloc bb.out (.cells #[.slice xw.H xw.hn xw.hc, .slice xw.R xw.rn xw.rc] 51))
                have HK2 := Lib.hid (HK9.out.alloc (.cells #[.slice xw.H xw.hn xw.hc, .slice xw.R xw.rn xw.rc] 51))
                have HX2 : Hid (Blk (wb.alloc (.cells #[.slice xw.H xw.hn xw.hc, .slice xw.R xw.rn xw.rc] 51)) wb.heap.size 51 #[.slice xw.H xw.hn xw.hc, .slice xw.R xw.rn xw.rc]) := Lib.hid (Blk.new _ _ _)
                obtain ⟨T9, ok, hS⟩ : ∃ T9 ok, stepS (ss l) xw.h xw.r t9 = (T9, ok) := ⟨_, _, rfl⟩
                have HI2 := Lib.hid (step_inv HI9.out hS)
                have HCC := Lib.hid (HST.out _ xw t9 x9 T9 ok HB2.out HXM.out (HO9.out.rd.below (bl_alloc (Below.refl _ _) (.cells #[.slice xw.H xw.hn xw.hc, .slice xw.R xw.rn xw.rc] 51))) HI9.out hS)
                clear hS
                obtain ⟨F, hF⟩ : ∃ F : Int, (if ok = true then 0 else 1) = F := ⟨_, rfl⟩
                rw [hF] at HCC
                clear hF
                have c0 := HK2.out.cell 0 _ rfl
                have c1 := HK2.out.cell 1 _ rfl
                have c2 := HK2.out.cell 2 _ rfl
                have c3 := HK2.out.cell 3 _ rfl
                have c4 := HK2.out.cell 4 _ rfl
                have c5 := HK2.out.cell 5 _ rfl
                have c6 := HK2.out.cell 6 _ rfl
                have c7 := HK2.out.cell 7 _ rfl
                have c8 := HK2.out.cell 8 _ rfl
                have c9 := HK2.out.cell 9 _ rfl
                have c10 := HK2.out.cell 10 _ rfl
                go_wp2_with fail
                refine HCC.out.mono ?_
                rintro e6 v1 ⟨y, rfl, ho1, hf1, b_⟩
                have HO1 := Lib.hid ho1
                have HB3 := Lib.hid (bl_trans HB2.out b_)
                have HK3 := Lib.hid (HK2.out.below b_)
                have hsz : v0.heap.size < (wb.alloc (.cells #[.slice xw.H xw.hn xw.hc, .slice xw.R xw.rn xw.rc] 51)).heap.size := HK2.out.lt
                have HNY : Hid (∀ o ∈ y.os T9, o.v.ownBlock ≠ some v0.heap.size) := Lib.hid (fun o ho e => by have := Own.base (ho1.own.1 o ho) _ e; omega)
                have HOW := Lib.hid (Owns.wide_ ho1.own HB2.out)
                clear ho1 hf1 b_ hsz c0 c1 c2 c3 c4 c5 c6 c7 c8 c9 c10
                have e0 := HK3.out.cell 0 _ rfl
                have e1 := HK3.out.cell 1 _ rfl
                have e2 := HK3.out.cell 2 _ rfl
                have e3 := HK3.out.cell 3 _ rfl
                have e4 := HK3.out.cell 4 _ rfl
                have e5 := HK3.out.cell 5 _ rfl
                have e6 := HK3.out.cell 6 _ rfl
                have e7 := HK3.out.cell 7 _ rfl
                have e8 := HK3.out.cell 8 _ rfl
                have e9 := HK3.out.cell 9 _ rfl
                have e10 := HK3.out.cell 10 _ rfl
                have ef0 := HK3.out.frozen 0
                have ef1 := HK3.out.frozen 1
                have ef2 := HK3.out.frozen 2
                have ef3 := HK3.out.frozen 3
                have ef4 := HK3.out.frozen 4
                have ef5 := HK3.out.frozen 5
                have ef6 := HK3.out.frozen 6
                have ef7 := HK3.out.frozen 7
                have ef8 := HK3.out.frozen 8
                have ef9 := HK3.out.frozen 9
                have ef10 := HK3.out.frozen 10
                go_wp2_with fail
                have HE3 : Hid (Blk (((((((((((v1.setCell ⟨v0.heap.size, 0, none⟩ (.int .i64 T9.who)).setCell ⟨v0.heap.size, 1, none⟩ (.int .i64 T9.snap)).setCell ⟨v0.heap.size, 2, none⟩ (.int .i64 T9.pc)).setCell ⟨v0.heap.size, 3, none⟩ (.slice y.R T9.regs.length y.rc)).setCell ⟨v0.heap.size, 4, none⟩ (.slice y.P T9.path.length y.pc)).setCell ⟨v0.heap.size, 5, none⟩ (.slice y.D T9.reads.length y.dc)).setCell ⟨v0.heap.size, 6, none⟩ (.slice y.L T9.log.list.length y.lc)).setCell ⟨v0.heap.size, 7, none⟩ (.slice y.M T9.log.marks.length y.mc)).setCell ⟨v0.heap.size, 8, none⟩ (.slice y.F y.fl.length y.fc)).setCell ⟨v0.heap.size, 9, none⟩ (.int .i64 T9.kind)).setCell ⟨v0.heap.size, 10, none⟩ (.int .i64 T9.why)) v0.heap.size 34 #[.int .i64 T9.who, .int .i64 T9.snap, .int .i64 T9.pc, .slice y.R T9.regs.length y.rc, .slice y.P T9.path.length y.pc, .slice y.D T9.reads.length y.dc, .slice y.L T9.log.list.length y.lc, .slice y.M T9.log.marks.length y.mc, .slice y.F y.fl.length y.fc, .int .i64 T9.kind, .int .i64 T9.why]) := Lib.hid (fill_blk HK3.out)
                have HOn : Hid (Only (fun k => k = v0.heap.size) v1 (((((((((((v1.setCell ⟨v0.heap.size, 0, none⟩ (.int .i64 T9.who)).setCell ⟨v0.heap.size, 1, none⟩ (.int .i64 T9.snap)).setCell ⟨v0.heap.size, 2, none⟩ (.int .i64 T9.pc)).setCell ⟨v0.heap.size, 3, none⟩ (.slice y.R T9.regs.length y.rc)).setCell ⟨v0.heap.size, 4, none⟩ (.slice y.P T9.path.length y.pc)).setCell ⟨v0.heap.size, 5, none⟩ (.slice y.D T9.reads.length y.dc)).setCell ⟨v0.heap.size, 6, none⟩ (.slice y.L T9.log.list.length y.lc)).setCell ⟨v0.heap.size, 7, none⟩ (.slice y.M T9.log.marks.length y.mc)).setCell ⟨v0.heap.size, 8, none⟩ (.slice y.F y.fl.length y.fc)).setCell ⟨v0.heap.size, 9, none⟩ (.int .i64 T9.kind)).setCell ⟨v0.heap.size, 10, none⟩ (.int .i64 T9.why))) := Lib.hid (fill_only v1 v0.heap.size _ _ _ _ _ _ _ _ _ _ _)
                clear e0 ef0 e1 ef1 e2 ef2 e3 ef3 e4 ef4 e5 ef5 e6 ef6 e7 ef7 e8 ef8 e9 ef9 e10 ef10
                generalize (((((((((((v1.setCell ⟨v0.heap.size, 0, none⟩ (.int .i64 T9.who)).setCell ⟨v0.heap.size, 1, none⟩ (.int .i64 T9.snap)).setCell ⟨v0.heap.size, 2, none⟩ (.int .i64 T9.pc)).setCell ⟨v0.heap.size, 3, none⟩ (.slice y.R T9.regs.length y.rc)).setCell ⟨v0.heap.size, 4, none⟩ (.slice y.P T9.path.length y.pc)).setCell ⟨v0.heap.size, 5, none⟩ (.slice y.D T9.reads.length y.dc)).setCell ⟨v0.heap.size, 6, none⟩ (.slice y.L T9.log.list.length y.lc)).setCell ⟨v0.heap.size, 7, none⟩ (.slice y.M T9.log.marks.length y.mc)).setCell ⟨v0.heap.size, 8, none⟩ (.slice y.F y.fl.length y.fc)).setCell ⟨v0.heap.size, 9, none⟩ (.int .i64 T9.kind)).setCell ⟨v0.heap.size, 10, none⟩ (.int .i64 T9.why)) = wF at *
                have hgt := HGT.out
                have HO3 : Hid (TOwn w wF T9 y) := Lib.hid ⟨Owns.only HOW.out HOn.out (fun o ho k hk e => HNY.out o ho (by rw [hk, e])) (fun k e => by omega), HO1.out.raw⟩
                have HB4 : Hid (Below w.heap.size w wF) := Lib.hid (HB3.out.trans (HOn.out.below HB3.out.size (fun k hk e => by omega)))
                obtain ⟨np, hnp⟩ : ∃ np, T9.path.length = np := ⟨_, rfl⟩
                have HNP := Lib.hid hnp
                have hnp24 : np ≤ 24 := by have h2 := HI2.out.eith; have h3 := eithers_le (ss l); have h4 := HI2.out.len; omega
                have HPR : Hid (Rd wF 1 y.P np (zs T9.path)) := Lib.hid (by rw [← hnp]; exact HO3.out.rd.path)
                have HE4 : Hid (Blk wF v0.heap.size 34 #[.int .i64 T9.who, .int .i64 T9.snap, .int .i64 T9.pc, .slice y.R T9.regs.length y.rc, .slice y.P np y.pc, .slice y.D T9.reads.length y.dc, .slice y.L T9.log.list.length y.lc, .slice y.M T9.log.marks.length y.mc, .slice y.F y.fl.length y.fc, .int .i64 T9.kind, .int .i64 T9.why]) := Lib.hid (by rw [← hnp]; exact HE3.out)
                rw [hnp]
                clear hnp HE3
                obtain ⟨PA, hPA⟩ : ∃ PA, y.P = PA := ⟨_, rfl⟩
                have HPA := Lib.hid hPA
                rw [hPA] at HPR HE4 ⊢
                clear hPA
                go_loopw [16, 68] (fun q i wr => ∃ j : Nat, j ≤ np ∧ i = .int .i64 j ∧ q = .int .i64 (cnt1 (T9.path.take j) : Nat) ∧ Hid (Below wF.heap.size wF wr)) (fun _ i _ => np - (intOf i).toNat)
                case atStart => exact ⟨0, Nat.zero_le _, rfl, rfl, Lib.hid (Below.refl _ _)⟩
                case round =>
                  obtain ⟨j, hj, rfl, rfl, bc⟩ := hrel
                  generalize wr = wc at *
                  by_cases hlj : j < np
                  · obtain ⟨pb, po, z, hPP, hz, z0⟩ := at_z (HPR.out.below bc.out) j hlj
                    subst hPP
                    have hs := Lib.hid (cnt1_take T9.path j z hz)
                    have h12 : z = 1 ∨ z = 2 := HI2.out.two z (List.mem_of_getElem? hz)
                    clear hz
                    have hsm : cnt1 (T9.path.take j) ≤ 64 := by have h1 : cnt1 (T9.path.take j) ≤ (T9.path.take j).length := List.length_filter_le _ _; have h2 := HI2.out.eith; have h3 := eithers_le (ss l); have h4 := HI2.out.len; rw [List.length_take] at h1; omega
                    rcases h12 with rfl | rfl
                    · have hs2 := hs.out
                      rw [if_pos rfl] at hs2
                      go_wp2
                      go_roundw
                      case rel => exact ⟨j + 1, by omega, by go_num, by rw [hs2]; go_num, bc⟩
                      case measure => simp [intOf]; omega
                    · have hs2 := hs.out
                      rw [if_neg (by decide)] at hs2
                      go_wp2
                      go_roundw
                      case rel => exact ⟨j + 1, by omega, by go_num, by rw [hs2]; rfl, bc⟩
                      case measure => simp [intOf]; omega
                  · obtain rfl : j = np := by omega
                    have HKz := Lib.hid (HE4.out.below bc.out)
                    have g3 := HKz.out.cell 3 _ rfl
                    have g4 := HKz.out.cell 4 _ rfl
                    have g7 := HKz.out.cell 7 _ rfl
                    have g8 := HKz.out.cell 8 _ rfl
                    have u1 : j ≤ e := by have h1 := HI2.out.eith; have h2 := HEE.out; have h3 := HNP.out; omega
                    have u2 : y.fl.length = T9.log.marks.length := by have h1 := congrArg List.length HO3.out.raw; rw [List.length_map, List.length_reverse] at h1; have h2 := HI2.out.marks; omega
                    have u3 : y.fl.length ≤ cnt1 (T9.path.take j) := by have h1 := congrArg List.length HO3.out.raw; rw [List.length_map, List.length_reverse] at h1; have h2 := HI2.out.ones_; rw [← HNP.out, List.take_length]; omega
                    have u4 : T9.regs.length = 8 := HI2.out.regs
                    rw [u4] at g3
                    rw [← u2] at g7
                    have HKq : Hid (Blk wc v0.heap.size 34 #[.int .i64 T9.who, .int .i64 T9.snap, .int .i64 T9.pc, .slice y.R T9.regs.length y.rc, .slice y.P T9.path.length y.pc, .slice y.D T9.reads.length y.dc, .slice y.L T9.log.list.length y.lc, .slice y.M T9.log.marks.length y.mc, .slice y.F y.fl.length y.fc, .int .i64 T9.kind, .int .i64 T9.why]) := Lib.hid (by have h1 := HKz.out; rw [← HNP.out, ← HPA.out] at h1; exact h1)
                    have HBq := Lib.hid (bl_trans HB4.out bc.out)
                    have HOq := Lib.hid (HO3.out.below bc.out)
                    go_wp2
                    go_roundw
                    case rel => exact ⟨k2 + 1, T9, y, by omega, by go_num, HKq, HOq, HI2, HBq⟩
                    case measure => simp [intOf]; omega
              · go_wp2_with fail
                refine (awake_any _).mono ?_
                rintro e wz ⟨rfl, b_⟩
                replace bb := Lib.hid (bl_trans bb.out b_)
                clear b_
                go_wp2
                go_ret
                exact ⟨rfl, bb.out⟩
end Go.Proofs.YtadofonlkjkcmaaGreat.Attempt
