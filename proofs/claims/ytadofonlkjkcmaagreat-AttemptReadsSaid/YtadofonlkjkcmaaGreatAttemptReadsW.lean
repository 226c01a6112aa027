/-
  THE WALK OF THE LAW AttemptReads.
-/
import Derived.Test.YtadofonlkjkcmaaGreatAttemptReading
import Derived.Test.YtadofonlkjkcmaaGreatAttemptSmall
import Derived.Test.YtadofonlkjkcmaaGreatReadsB
import Derived.Laws.StructEq
import Derived.BigQuiet
namespace Go.Proofs.YtadofonlkjkcmaaGreat.Attempt
open Go.ChangeShapes Go.WideShapes Go.ChangeAt Go.RowKit Mem Go.Proofs.YtadofonlkjkcmaaGreat.Code

set_option maxRecDepth 100000 in
set_option maxHeartbeats 4000000 in
theorem reads_walk (A AW : Option Addr) (n c m d : Nat) (who snap : Int) (l : List Raw) (lw : List WRaw) (w : World) (hnc : n ≤ c) (mn : n ≤ 9223372036854775807) (hat : At w A n l) (mm : m ≤ 9223372036854775807) (hw : Rd w 2 AW m (wcs lw)) (hwl : lw.length = m) (hg : ∀ x ∈ lw, WGood w x) :
    Calls Tryz.prog 5 #[.slice A n c, .int .i64 who, .int .i64 snap, .slice AW m d] w (RetB w true) := by
  have HL := Lib.hid hat.len
  have HA0 := Lib.hid hat
  have HW0 := Lib.hid hw
  have HWL := Lib.hid hwl
  have HG0 := Lib.hid hg
  have HWM : Hid (∀ x ∈ lw, x.hn ≤ 9223372036854775807 ∧ x.rn ≤ 9223372036854775807) := Lib.hid (fun x hx => ⟨(hg x hx).1.2.2.1, (hg x hx).2.2.2⟩)
  clear hat hw hwl hg
  have bb : Hid (Below w.heap.size w w) := Lib.hid (Below.refl _ _)
  cases hs : smallB l with
  | false =>
    have HSM := Lib.hid (small_neg l hs)
    clear hs
    go_enter Tryz.func5, Tryz.ntmps5
    go_wp2_with fail
    refine (small_c l _ _ _ _ (-1) (HA0.out.below bb.out) mn HSM.out).mono ?_
    rintro e w1 ⟨rfl, b_⟩
    replace bb := Lib.hid (bl_trans bb.out b_)
    clear b_
    go_wp2_with fail
    refine (awake_any _).mono ?_
    rintro e wz ⟨rfl, b_⟩
    replace bb := Lib.hid (bl_trans bb.out b_)
    clear b_
    go_wp2
    go_ret
    exact ⟨rfl, bb.out⟩
  | true =>
    obtain ⟨hlim, h40⟩ := small_lim l hs
    have HSM := Lib.hid (small_val l n HL.out hs)
    have HLM := Lib.hid hlim
    have hn40 : n ≤ 40 := by rw [← HL.out]; exact h40
    clear hs hlim h40
    cases hsw : smallW lw with
    | false =>
      have HSW := Lib.hid hsw
      clear hsw
      go_enter Tryz.func5, Tryz.ntmps5
      go_wp2_with fail
      refine (small_c l _ _ _ _ (n : Int) (HA0.out.below bb.out) mn HSM.out).mono ?_
      rintro e w1 ⟨rfl, b_⟩
      replace bb := Lib.hid (bl_trans bb.out b_)
      clear b_
      go_wp2_with fail
      refine (smallw_c lw _ _ _ _ false (HW0.out.below bb.out) HWL.out mm HWM.out HSW.out).mono ?_
      rintro e w1 ⟨rfl, b_⟩
      replace bb := Lib.hid (bl_trans bb.out b_)
      clear b_
      go_wp2_with fail
      refine (awake_any _).mono ?_
      rintro e wz ⟨rfl, b_⟩
      replace bb := Lib.hid (bl_trans bb.out b_)
      clear b_
      go_wp2
      go_ret
      exact ⟨rfl, bb.out⟩
    | true =>
      have HSW := Lib.hid hsw
      have hm60 : m ≤ 60 := by rw [← HWL.out]; exact smallW_len hsw
      clear hsw
      have HBG : Hid (∀ (W : World) (t0 : Try) (ok : Bool), Below w.heap.size w W → beginS (ss l) who snap = (t0, ok) → Calls Tryz.prog 12 #[.slice A n c, .int .i64 who, .int .i64 snap] W fun e w' => ∃ y : TL, e = .returned (.tuple #[.agg #[.int .i64 t0.who, .int .i64 t0.snap, .int .i64 t0.pc, .slice y.R t0.regs.length y.rc, .slice y.P t0.path.length y.pc, .slice y.D t0.reads.length y.dc, .slice y.L t0.log.list.length y.lc, .slice y.M t0.log.marks.length y.mc, .slice y.F y.fl.length y.fc, .int .i64 t0.kind, .int .i64 t0.why], .int .i64 (if ok = true then 0 else 1)]) ∧ TOwn W w' t0 y ∧ y.fl.length ≤ 1000000 ∧ Below W.heap.size W w') := Lib.hid (fun W t0 ok hW hB => begin_c l A n c who snap W t0 ok (HA0.out.below hW) hnc HLM.out (by omega) hB)
      have HST : Hid (∀ (W : World) (xw : WRaw) (t9 : Try) (x9 : TL) (T9 : Try) (ok : Bool), Below w.heap.size w W → xw ∈ lw → TRd W t9 x9 → Inv (ss l) t9 → stepS (ss l) xw.h xw.r t9 = (T9, ok) → Calls Tryz.prog 17 #[.agg #[.int .i64 t9.who, .int .i64 t9.snap, .int .i64 t9.pc, .slice x9.R t9.regs.length x9.rc, .slice x9.P t9.path.length x9.pc, .slice x9.D t9.reads.length x9.dc, .slice x9.L t9.log.list.length x9.lc, .slice x9.M t9.log.marks.length x9.mc, .slice x9.F x9.fl.length x9.fc, .int .i64 t9.kind, .int .i64 t9.why], .slice A n c, .slice xw.H xw.hn xw.hc, .slice xw.R xw.rn xw.rc] W fun e w' => ∃ y : TL, e = .returned (.tuple #[.agg #[.int .i64 T9.who, .int .i64 T9.snap, .int .i64 T9.pc, .slice y.R T9.regs.length y.rc, .slice y.P T9.path.length y.pc, .slice y.D T9.reads.length y.dc, .slice y.L T9.log.list.length y.lc, .slice y.M T9.log.marks.length y.mc, .slice y.F y.fl.length y.fc, .int .i64 T9.kind, .int .i64 T9.why], .int .i64 (if ok = true then 0 else 1)]) ∧ TOwn W w' T9 y ∧ y.fl.length ≤ 1000000 ∧ Below W.heap.size W w') := Lib.hid (fun W xw t9 x9 T9 ok hW hm hr hi hS => step_c l A n c xw.h xw.H xw.hn xw.hc xw.r xw.R xw.rn xw.rc t9 x9 W (SPre.mk_ (HA0.out.below hW) hnc HLM.out (by omega) ((HG0.out xw hm).1.1.below hW) (by have := (smallW_all HSW.out xw hm).1; omega) ((HG0.out xw hm).2.1.below hW) (by have := (smallW_all HSW.out xw hm).2; omega) hr hi) T9 ok hS)
      go_enter Tryz.func5, Tryz.ntmps5
      go_wp2_with fail
      refine (small_c l _ _ _ _ (n : Int) (HA0.out.below bb.out) mn HSM.out).mono ?_
      rintro e w1 ⟨rfl, b_⟩
      replace bb := Lib.hid (bl_trans bb.out b_)
      clear b_
      go_wp2_with fail
      refine (smallw_c lw _ _ _ _ true (HW0.out.below bb.out) HWL.out mm HWM.out HSW.out).mono ?_
      rintro e w1 ⟨rfl, b_⟩
      replace bb := Lib.hid (bl_trans bb.out b_)
      clear b_
      obtain ⟨t0, ok, hB⟩ : ∃ t0 ok, beginS (ss l) who snap = (t0, ok) := ⟨_, _, rfl⟩
      have HBB := Lib.hid hB
      have HBC := Lib.hid (HBG.out _ t0 ok bb.out hB)
      have HWA := Lib.hid bb.out.size
      have HBA := bb
      clear hB
      cases ok with
      | false =>
        go_wp2_with fail
        refine HBC.out.mono ?_
        rintro e5 v0 ⟨y0, rfl, ho0, hf0, b_⟩
        have HO0 := Lib.hid (ho0.below (bl_alloc (Below.refl _ _) (.cells #[.int .i64 t0.who, .int .i64 t0.snap, .int .i64 t0.pc, .slice y0.R t0.regs.length y0.rc, .slice y0.P t0.path.length y0.pc, .slice y0.D t0.reads.length y0.dc, .slice y0.L t0.log.list.length y0.lc, .slice y0.M t0.log.marks.length y0.mc, .slice y0.F y0.fl.length y0.fc, .int .i64 t0.kind, .int .i64 t0.why] 34)))
        replace bb := Lib.hid (bl_trans bb.out (bl_alloc b_ (.cells #[.int .i64 t0.who, .int .i64 t0.snap, .int .i64 t0.pc, .slice y0.R t0.regs.length y0.rc, .slice y0.P t0.path.length y0.pc, .slice y0.D t0.reads.length y0.dc, .slice y0.L t0.log.list.length y0.lc, .slice y0.M t0.log.marks.length y0.mc, .slice y0.F y0.fl.length y0.fc, .int .i64 t0.kind, .int .i64 t0.why] 34)))
        have HKT : Hid (Blk (v0.alloc (.cells #[.int .i64 t0.who, .int .i64 t0.snap, .int .i64 t0.pc, .slice y0.R t0.regs.length y0.rc, .slice y0.P t0.path.length y0.pc, .slice y0.D t0.reads.length y0.dc, .slice y0.L t0.log.list.length y0.lc, .slice y0.M t0.log.marks.length y0.mc, .slice y0.F y0.fl.length y0.fc, .int .i64 t0.kind, .int .i64 t0.why] 34)) v0.heap.size 34 #[.int .i64 t0.who, .int .i64 t0.snap, .int .i64 t0.pc, .slice y0.R t0.regs.length y0.rc, .slice y0.P t0.path.length y0.pc, .slice y0.D t0.reads.length y0.dc, .slice y0.L t0.log.list.length y0.lc, .slice y0.M t0.log.marks.length y0.mc, .slice y0.F y0.fl.length y0.fc, .int .i64 t0.kind, .int .i64 t0.why]) := Lib.hid (Blk.new _ _ _)
        have HGT : Hid (w.heap.size ≤ v0.heap.size) := Lib.hid (by have h1 := HWA.out; have h2 := b_.size; omega)
        clear ho0 hf0 b_
        go_wp2_with fail
        go_loopw [11, 37] (fun q i wr => ∃ k : Nat, k ≤ m ∧ i = .int .i64 k ∧ q = .int .i64 0 ∧ Hid (Below w.heap.size w wr)) (fun _ i _ => m - (intOf i).toNat)
        case atStart => exact ⟨0, Nat.zero_le _, rfl, rfl, bb⟩
        case round =>
          obtain ⟨k2, hk2, rfl, rfl, bb⟩ := hrel
          generalize wr = wb at *
          have hz0 : (0 : Int) ≤ (n : Int) := by omega
          by_cases hlt2 : k2 < m
          · obtain ⟨b2, off2, xw, hWW, hx2, q0, q1⟩ := at_world (HW0.out.below bb.out) k2 hlt2
            subst hWW
            clear hx2
            replace bb := Lib.hid (bl_alloc bb.out (.cells #[.slice xw.H xw.hn xw.hc, .slice xw.R xw.rn xw.rc] 51))
            go_wp2_with fail
            refine (awake_any _).mono ?_
            rintro e wz ⟨rfl, b_⟩
            replace bb := Lib.hid (bl_trans bb.out b_)
            clear b_
            go_wp2
            go_ret
            exact ⟨rfl, bb.out⟩
          · go_wp2_with fail
            refine (awake_any _).mono ?_
            rintro e wz ⟨rfl, b_⟩
            replace bb := Lib.hid (bl_trans bb.out b_)
            clear b_
            go_wp2
            go_ret
            exact ⟨rfl, bb.out⟩
      | true =>
        go_wp2_with fail
        refine HBC.out.mono ?_
        rintro e5 v0 ⟨y0, rfl, ho0, hf0, b_⟩
        have HO0 := Lib.hid (ho0.below (bl_alloc (Below.refl _ _) (.cells #[.int .i64 t0.who, .int .i64 t0.snap, .int .i64 t0.pc, .slice y0.R t0.regs.length y0.rc, .slice y0.P t0.path.length y0.pc, .slice y0.D t0.reads.length y0.dc, .slice y0.L t0.log.list.length y0.lc, .slice y0.M t0.log.marks.length y0.mc, .slice y0.F y0.fl.length y0.fc, .int .i64 t0.kind, .int .i64 t0.why] 34)))
        replace bb := Lib.hid (bl_trans bb.out (bl_alloc b_ (.cells #[.int .i64 t0.who, .int .i64 t0.snap, .int .i64 t0.pc, .slice y0.R t0.regs.length y0.rc, .slice y0.P t0.path.length y0.pc, .slice y0.D t0.reads.length y0.dc, .slice y0.L t0.log.list.length y0.lc, .slice y0.M t0.log.marks.length y0.mc, .slice y0.F y0.fl.length y0.fc, .int .i64 t0.kind, .int .i64 t0.why] 34)))
        have HKT : Hid (Blk (v0.alloc (.cells #[.int .i64 t0.who, .int .i64 t0.snap, .int .i64 t0.pc, .slice y0.R t0.regs.length y0.rc, .slice y0.P t0.path.length y0.pc, .slice y0.D t0.reads.length y0.dc, .slice y0.L t0.log.list.length y0.lc, .slice y0.M t0.log.marks.length y0.mc, .slice y0.F y0.fl.length y0.fc, .int .i64 t0.kind, .int .i64 t0.why] 34)) v0.heap.size 34 #[.int .i64 t0.who, .int .i64 t0.snap, .int .i64 t0.pc, .slice y0.R t0.regs.length y0.rc, .slice y0.P t0.path.length y0.pc, .slice y0.D t0.reads.length y0.dc, .slice y0.L t0.log.list.length y0.lc, .slice y0.M t0.log.marks.length y0.mc, .slice y0.F y0.fl.length y0.fc, .int .i64 t0.kind, .int .i64 t0.why]) := Lib.hid (Blk.new _ _ _)
        have HGT : Hid (w.heap.size ≤ v0.heap.size) := Lib.hid (by have h1 := HWA.out; have h2 := b_.size; omega)
        clear ho0 hf0 b_
        go_wp2_with fail
        go_loopw [11, 37] (fun q i wr => ∃ (k s : Nat) (t9 : Try) (x9 : TL), k ≤ m ∧ i = .int .i64 k ∧ q = .int .i64 s ∧ s ≤ n ∧ Hid (Blk wr v0.heap.size 34 #[.int .i64 t9.who, .int .i64 t9.snap, .int .i64 t9.pc, .slice x9.R t9.regs.length x9.rc, .slice x9.P t9.path.length x9.pc, .slice x9.D t9.reads.length x9.dc, .slice x9.L t9.log.list.length x9.lc, .slice x9.M t9.log.marks.length x9.mc, .slice x9.F x9.fl.length x9.fc, .int .i64 t9.kind, .int .i64 t9.why]) ∧ Hid (TOwn w wr t9 x9) ∧ Hid (Inv (ss l) t9) ∧ Hid (t9.snap = snap) ∧ Hid (t9.kind = 0 → s ≤ t9.pc) ∧ Hid (Below w.heap.size w wr)) (fun _ i _ => m - (intOf i).toNat)
        case atStart => exact ⟨0, 0, t0, y0, Nat.zero_le _, rfl, rfl, Nat.zero_le _, HKT, Lib.hid (TOwn.wide HO0.out HBA.out), Lib.hid (begin_inv HBB.out), Lib.hid (begin_snap HBB.out), Lib.hid (fun _ => Nat.zero_le _), bb⟩
        case round =>
          obtain ⟨k2, s, t9, x9, hk2, rfl, rfl, hsn, HK9, HO9, HI9, HSN, HS0, bb⟩ := hrel
          generalize wr = wb at *
          have hsi : (s : Int) ≤ (n : Int) := by omega
          by_cases hlt2 : k2 < m
          · obtain ⟨b2, off2, xw, hWW, hx2, q0, q1⟩ := at_world (HW0.out.below bb.out) k2 hlt2
            subst hWW
            have HXM := Lib.hid (List.mem_of_getElem? hx2)
            clear hx2
            have HB2 := Lib.hid (bl_alloc bb.out (.cells #[.slice xw.H xw.hn xw.hc, .slice xw.R xw.rn xw.rc] 51))
            have HK2 := Lib.hid (HK9.out.alloc (.cells #[.slice xw.H xw.hn xw.hc, .slice xw.R xw.rn xw.rc] 51))
            have HX2 : Hid (Blk (wb.alloc (.cells #[.slice xw.H xw.hn xw.hc, .slice xw.R xw.rn xw.rc] 51)) wb.heap.size 51 #[.slice xw.H xw.hn xw.hc, .slice xw.R xw.rn xw.rc]) := Lib.hid (Blk.new _ _ _)
            by_cases hk0 : t9.kind = 0
            · have hkb : (t9.kind == 0) = true := by simp [hk0]
              have hkn : (t9.kind != 0) = false := by simp [hk0]
              obtain ⟨T9, ok, hS⟩ : ∃ T9 ok, stepS (ss l) xw.h xw.r t9 = (T9, ok) := ⟨_, _, rfl⟩
              have HSS := Lib.hid hS
              have HCC := Lib.hid (HST.out _ xw t9 x9 T9 ok HB2.out HXM.out (HO9.out.rd.below (bl_alloc (Below.refl _ _) (.cells #[.slice xw.H xw.hn xw.hc, .slice xw.R xw.rn xw.rc] 51))) HI9.out hS)
              have HPC : Hid (t9.pc < n) := Lib.hid (by have h1 := HI9.out.pc_lt hk0; rw [ss_len, HL.out] at h1; exact h1)
              have HKZ := Lib.hid hk0
              clear hS hk0
              have c0 := HK2.out.cell 0 _ rfl
              have c1 := HK2.out.cell 1 _ rfl
              have c2 := HK2.out.cell 2 _ rfl
              have c3 := HK2.out.cell 3 _ rfl
              have c4 := HK2.out.cell 4 _ rfl
              have c5 := HK2.out.cell 5 _ rfl
              have c6 := HK2.out.cell 6 _ rfl
              have c7 := HK2.out.cell 7 _ rfl
              have c8 := HK2.out.cell 8 _ rfl
              have c9 := HK2.out.cell 9 _ rfl
              have c10 := HK2.out.cell 10 _ rfl
              cases ok with
              | true =>
                go_wp2_with fail
                refine HCC.out.mono ?_
                rintro e6 v1 ⟨y, rfl, ho1, hf1, b_⟩
                have HO1 := Lib.hid (ho1.below (bl_alloc (Below.refl _ _) (.cells #[.int .i64 T9.who, .int .i64 T9.snap, .int .i64 T9.pc, .slice y.R T9.regs.length y.rc, .slice y.P T9.path.length y.pc, .slice y.D T9.reads.length y.dc, .slice y.L T9.log.list.length y.lc, .slice y.M T9.log.marks.length y.mc, .slice y.F y.fl.length y.fc, .int .i64 T9.kind, .int .i64 T9.why] 34)))
                have HOW := Lib.hid (TOwn.wide (ho1.below (bl_alloc (Below.refl _ _) (.cells #[.int .i64 T9.who, .int .i64 T9.snap, .int .i64 T9.pc, .slice y.R T9.regs.length y.rc, .slice y.P T9.path.length y.pc, .slice y.D T9.reads.length y.dc, .slice y.L T9.log.list.length y.lc, .slice y.M T9.log.marks.length y.mc, .slice y.F y.fl.length y.fc, .int .i64 T9.kind, .int .i64 T9.why] 34))) HB2.out)
                have HB3 := Lib.hid (bl_trans HB2.out (bl_alloc b_ (.cells #[.int .i64 T9.who, .int .i64 T9.snap, .int .i64 T9.pc, .slice y.R T9.regs.length y.rc, .slice y.P T9.path.length y.pc, .slice y.D T9.reads.length y.dc, .slice y.L T9.log.list.length y.lc, .slice y.M T9.log.marks.length y.mc, .slice y.F y.fl.length y.fc, .int .i64 T9.kind, .int .i64 T9.why] 34)))
                have HK3 := Lib.hid ((HK2.out.below b_).alloc (.cells #[.int .i64 T9.who, .int .i64 T9.snap, .int .i64 T9.pc, .slice y.R T9.regs.length y.rc, .slice y.P T9.path.length y.pc, .slice y.D T9.reads.length y.dc, .slice y.L T9.log.list.length y.lc, .slice y.M T9.log.marks.length y.mc, .slice y.F y.fl.length y.fc, .int .i64 T9.kind, .int .i64 T9.why] 34))
                have HX3 := Lib.hid ((HX2.out.below b_).alloc (.cells #[.int .i64 T9.who, .int .i64 T9.snap, .int .i64 T9.pc, .slice y.R T9.regs.length y.rc, .slice y.P T9.path.length y.pc, .slice y.D T9.reads.length y.dc, .slice y.L T9.log.list.length y.lc, .slice y.M T9.log.marks.length y.mc, .slice y.F y.fl.length y.fc, .int .i64 T9.kind, .int .i64 T9.why] 34))
                have HU3 : Hid (Blk (v1.alloc (.cells #[.int .i64 T9.who, .int .i64 T9.snap, .int .i64 T9.pc, .slice y.R T9.regs.length y.rc, .slice y.P T9.path.length y.pc, .slice y.D T9.reads.length y.dc, .slice y.L T9.log.list.length y.lc, .slice y.M T9.log.marks.length y.mc, .slice y.F y.fl.length y.fc, .int .i64 T9.kind, .int .i64 T9.why] 34)) v1.heap.size 34 #[.int .i64 T9.who, .int .i64 T9.snap, .int .i64 T9.pc, .slice y.R T9.regs.length y.rc, .slice y.P T9.path.length y.pc, .slice y.D T9.reads.length y.dc, .slice y.L T9.log.list.length y.lc, .slice y.M T9.log.marks.length y.mc, .slice y.F y.fl.length y.fc, .int .i64 T9.kind, .int .i64 T9.why]) := Lib.hid (Blk.new _ _ _)
                have HO3 := Lib.hid (HO9.out.below (bl_trans (bl_alloc (Below.refl _ _) (.cells #[.slice xw.H xw.hn xw.hc, .slice xw.R xw.rn xw.rc] 51)) (bl_alloc b_ (.cells #[.int .i64 T9.who, .int .i64 T9.snap, .int .i64 T9.pc, .slice y.R T9.regs.length y.rc, .slice y.P T9.path.length y.pc, .slice y.D T9.reads.length y.dc, .slice y.L T9.log.list.length y.lc, .slice y.M T9.log.marks.length y.mc, .slice y.F y.fl.length y.fc, .int .i64 T9.kind, .int .i64 T9.why] 34))))
                have hsz : v0.heap.size < (wb.alloc (.cells #[.slice xw.H xw.hn xw.hc, .slice xw.R xw.rn xw.rc] 51)).heap.size := HK2.out.lt
                have HNY : Hid (∀ o ∈ y.os T9, o.v.ownBlock ≠ some v0.heap.size) := Lib.hid (fun o ho e => by have := Own.base (ho1.own.1 o ho) _ e; omega)
                have HI2 := Lib.hid (step_inv HI9.out HSS.out)
                have HRG := Lib.hid (step_reading HSS.out)
                obtain ⟨r1, r2, r3, r4⟩ := HRG.out.plain
                have nu24 : T9.reads.length ≤ 24 := by have h1 := HI2.out.rlen; have h2 := HI2.out.top; have h3 := HI2.out.len; omega
                have R3 := Lib.hid r3
                have R4 := Lib.hid r4
                clear ho1 hf1 b_ hsz r3 r4 c0 c1 c2 c3 c4 c5 c6 c7 c8 c9 c10
                have i5 := HU3.out.cell 5 _ rfl
                have j5 := HK3.out.cell 5 _ rfl
                have hr1 : ¬ T9.reads.length < t9.reads.length := by omega
                have hr2 : ¬ t9.reads.length + 1 < T9.reads.length := by omega
                go_wp2_with fail
                refine (Reads.right_c T9.reads y.D _ y.dc _ true HO1.out.rd.reads HO1.out.rd.dn (by omega) HI2.out.right).mono ?_
                rintro e7 w7 ⟨rfl, b_⟩
                replace HB3 := Lib.hid (bl_trans HB3.out b_)
                have HK7 := Lib.hid (HK3.out.below b_)
                replace HX3 := Lib.hid (HX3.out.below b_)
                have HU7 := Lib.hid (HU3.out.below b_)
                replace HO1 := Lib.hid (TOwn.below HOW.out b_)
                replace HO3 := Lib.hid (HO3.out.below b_)
                clear b_ i5 j5 HK3 HU3 HOW hr1 hr2
                have i5 := HU7.out.cell 5 _ rfl
                go_wp2_with fail
                clear i5
                obtain ⟨nt, hnt⟩ : ∃ nt, t9.reads.length = nt := ⟨_, rfl⟩
                obtain ⟨nu, hnu⟩ : ∃ nu, T9.reads.length = nu := ⟨_, rfl⟩
                obtain ⟨PA, hPA⟩ : ∃ PA, y.D = PA := ⟨_, rfl⟩
                obtain ⟨PB, hPB⟩ : ∃ PB, x9.D = PB := ⟨_, rfl⟩
                rw [hnt, hnu] at r1 r2
                rw [hnt] at R3
                rw [hnt, hnu] at R4
                rw [hnu] at nu24
                have HRA : Hid (Rd w7 3 PA nu (Reads.ds T9.reads)) := Lib.hid (by rw [← hPA, ← hnu]; exact HO1.out.rd.reads)
                have HRB : Hid (Rd w7 3 PB nt (Reads.ds t9.reads)) := Lib.hid (by rw [← hPB, ← hnt]; exact HO3.out.rd.reads)
                have HU4 : Hid (Blk w7 v1.heap.size 34 #[.int .i64 T9.who, .int .i64 T9.snap, .int .i64 T9.pc, .slice y.R T9.regs.length y.rc, .slice y.P T9.path.length y.pc, .slice PA nu y.dc, .slice y.L T9.log.list.length y.lc, .slice y.M T9.log.marks.length y.mc, .slice y.F y.fl.length y.fc, .int .i64 T9.kind, .int .i64 T9.why]) := Lib.hid (by rw [← hPA, ← hnu]; exact HU7.out)
                have HK4 : Hid (Blk w7 v0.heap.size 34 #[.int .i64 t9.who, .int .i64 t9.snap, .int .i64 t9.pc, .slice x9.R t9.regs.length x9.rc, .slice x9.P t9.path.length x9.pc, .slice PB nt x9.dc, .slice x9.L t9.log.list.length x9.lc, .slice x9.M t9.log.marks.length x9.mc, .slice x9.F x9.fl.length x9.fc, .int .i64 t9.kind, .int .i64 t9.why]) := Lib.hid (by rw [← hPB, ← hnt]; exact HK7.out)
                rw [hnu, hPA]
                clear hnt hnu hPA hPB HO3
                go_loopw [88] (fun i wr => ∃ j : Nat, j ≤ nu ∧ i = .int .i64 j ∧ Hid (Below w7.heap.size w7 wr)) (fun i _ => nu - (intOf i).toNat)
                case atStart => exact ⟨0, Nat.zero_le _, rfl, Lib.hid (Below.refl _ _)⟩
                case round =>
                  obtain ⟨j, hj, rfl, bc⟩ := hrel
                  generalize wr = wc at *
                  by_cases hlj : j < nu
                  · obtain ⟨pb, po, ⟨xc, xv, xz⟩, hPP, hx, z0, z1, z2⟩ := Reads.at_read (HRA.out.below bc.out) j hlj
                    subst hPP
                    simp only at z0 z1 z2
                    have hv : ¬ snap < xv := by have h1 := HI2.out.snap _ (List.mem_of_getElem? hx); have h2 := HRG.out.1; have h3 := HSN.out; simp only at h1; omega
                    have b2' := bl_alloc bc.out (.cells #[.int .i64 xc, .int .i64 xv, .int .i64 xz] 74)
                    have a5 := (HK4.out.below b2').cell 5 _ rfl
                    have HB5 := Lib.hid b2'
                    have HZ5 : Hid (Blk (wc.alloc (.cells #[.int .i64 xc, .int .i64 xv, .int .i64 xz] 74)) wc.heap.size 74 #[.int .i64 xc, .int .i64 xv, .int .i64 xz]) := Lib.hid (Blk.new _ _ _)
                    by_cases hjt : j < nt
                    · have hx3 := hx
                      rw [R3.out j hjt] at hx3
                      obtain ⟨qb, qo, x2, hQQ, hxx, y0', y1', y2'⟩ := Reads.at_read (HRB.out.below b2') j hjt
                      subst hQQ
                      rw [hx3] at hxx
                      injection hxx with hxx
                      subst hxx
                      simp only at y0' y1' y2'
                      clear hx hx3 b2'
                      go_wp2_with fail
                      go_quiet (fail)
                      go_wp2
                      go_roundw
                      case rel => exact ⟨j + 1, by omega, by go_num, Lib.hid (bl_drewN HB5.out nq)⟩
                      case measure => simp [intOf]; omega
                    · clear hx b2'
                      have hjd : decide ((j : Int) < (nt : Int)) = false := decide_eq_false (by omega)
                      have hvd : decide (snap < xv) = false := decide_eq_false hv
                      go_wp2_with fail
                      go_quiet (fail)
                      go_wp2
                      go_roundw
                      case rel => exact ⟨j + 1, by omega, by go_num, Lib.hid (bl_drewN HB5.out nq)⟩
                      case measure => simp [intOf]; omega
                  · have hju : j = nu := by omega
                    subst hju
                    have HBz := Lib.hid (bl_trans HB3.out bc.out)
                    have HKz := Lib.hid (HK4.out.below bc.out)
                    have HUz := Lib.hid (HU4.out.below bc.out)
                    have HXz := Lib.hid (HX3.out.below bc.out)
                    have a5 := HKz.out.cell 5 _ rfl
                    have i5 := HUz.out.cell 5 _ rfl
                    by_cases hgt : nt < j
                    · obtain ⟨⟨xc, xv, xz⟩, hx, hl, hv, hr⟩ := R4.out hgt
                      simp only at hl hv hr
                      obtain ⟨pb, po, x2, hPP, hx2, z0, z1, z2⟩ := Reads.at_read (HRA.out.below bc.out) nt hgt
                      subst hPP
                      skip
                      rw [hx] at hx2
                      injection hx2 with hx2
                      subst hx2
                      simp only at z0 z1 z2
                      obtain ⟨h0, h1, cell, hc1, hc2⟩ := Heap.live_in _ _ hl
                      obtain ⟨ci, rfl⟩ := Int.eq_ofNat_of_zero_le h0
                      have gg := HG0.out xw HXM.out
                      have hhn : xw.h.length = xw.hn := gg.1.2.1
                      rw [Int.toNat_natCast] at h1 hc1
                      have hci : ci < xw.hn := by omega
                      obtain ⟨HA', hHA⟩ : ∃ A', xw.H = A' := ⟨_, rfl⟩
                      obtain ⟨RA', hRA⟩ : ∃ A', xw.R = A' := ⟨_, rfl⟩
                      have rdh : Rd wc 2 HA' xw.hn (Heap.cs xw.h) := by rw [← hHA]; exact gg.1.1.below HBz.out
                      have rdr : Rd wc 2 RA' xw.rn (Stripe.rs xw.r) := by rw [← hRA]; exact gg.2.1.below HBz.out
                      obtain ⟨hb, hoff, cx, hHH, hcx, k0, k1⟩ := Heap.at_cell rdh ci hci
                      subst hHH
                      rw [hc1] at hcx
                      injection hcx with hcx
                      subst hcx
                      have hvv : xz = cell.value := by rw [hv]; exact Heap.val_at _ _ _ hc1
                      have hrl : xw.r.length = xw.rn := Stripe.rs_len rdr
                      have hstep := HSS.out
                      have htb : Stripe.rightB xw.r = true := by unfold stepS at hstep; split at hstep; rotate_left; (injection hstep with _ e; cases e); split at hstep; rotate_left; (injection hstep with _ e; cases e); rename_i hm; unfold mayB at hm; rw [Bool.and_eq_true, Bool.and_eq_true] at hm; exact hm.2.1
                      have hr0 := Reads.rec_len xw.r htb
                      obtain ⟨j2, rx, hj2, hjn, hrx⟩ := Reads.place_of xw.r xw.rn hrl (by omega) (ci : Int)
                      obtain ⟨rb, roff, rx2, hRR, hrx2, m0, m1⟩ := Stripe.at_rec rdr j2 hjn
                      subst hRR
                      rw [hrx] at hrx2
                      injection hrx2 with hrx2
                      subst hrx2
                      have hre : recAt xw.r (ci : Int) = rx := by unfold recAt; rw [hrl, hj2, Int.toNat_natCast, hrx]; rfl
                      rw [hre] at hr
                      subst hr
                      simp only at m0 m1
                      have hdn : ((xw.rn : Int) == 0) = false := beq_eq_false_iff_ne.2 (by omega)
                      have w0 := HXz.out.cell 0 _ rfl
                      have w1 := HXz.out.cell 1 _ rfl
                      rw [hHA] at w0
                      rw [hRA] at w1
                      have hrn30 := (smallW_all HSW.out xw HXM.out).2
                      have hhn80 := (smallW_all HSW.out xw HXM.out).1
                      subst hvv
                      have hci0 : (0 : Int) ≤ (ci : Int) := by omega
                      clear hx hl hv h0 h1 hc1 hc2 gg rdh rdr hHA hRA hstep hre hrx hrl hhn htb
                      go_wp2_with fail
                      go_quiet (fail)
                      have HBn : Hid (Below wc.heap.size wc (wc.drewN nq)) := Lib.hid (bl_drewN (Below.refl _ _) nq)
                      generalize wc.drewN nq = Wz at *
                      clear a5 i5 z0 z1 z2 k0 k1 m0 m1 w0 w1 hdn hj2
                      have HK8 := Lib.hid ((HK7.out.below bc.out).below HBn.out)
                      have HU8 := Lib.hid ((HU7.out.below bc.out).below HBn.out)
                      have d0 := HU8.out.cell 0 _ rfl
                      have d1 := HU8.out.cell 1 _ rfl
                      have d2 := HU8.out.cell 2 _ rfl
                      have d3 := HU8.out.cell 3 _ rfl
                      have d4 := HU8.out.cell 4 _ rfl
                      have d5 := HU8.out.cell 5 _ rfl
                      have d6 := HU8.out.cell 6 _ rfl
                      have d7 := HU8.out.cell 7 _ rfl
                      have d8 := HU8.out.cell 8 _ rfl
                      have d9 := HU8.out.cell 9 _ rfl
                      have d10 := HU8.out.cell 10 _ rfl
                      have e0 := HK8.out.cell 0 _ rfl
                      have e1 := HK8.out.cell 1 _ rfl
                      have e2 := HK8.out.cell 2 _ rfl
                      have e3 := HK8.out.cell 3 _ rfl
                      have e4 := HK8.out.cell 4 _ rfl
                      have e5 := HK8.out.cell 5 _ rfl
                      have e6 := HK8.out.cell 6 _ rfl
                      have e7 := HK8.out.cell 7 _ rfl
                      have e8 := HK8.out.cell 8 _ rfl
                      have e9 := HK8.out.cell 9 _ rfl
                      have e10 := HK8.out.cell 10 _ rfl
                      have ef0 := HK8.out.frozen 0
                      have ef1 := HK8.out.frozen 1
                      have ef2 := HK8.out.frozen 2
                      have ef3 := HK8.out.frozen 3
                      have ef4 := HK8.out.frozen 4
                      have ef5 := HK8.out.frozen 5
                      have ef6 := HK8.out.frozen 6
                      have ef7 := HK8.out.frozen 7
                      have ef8 := HK8.out.frozen 8
                      have ef9 := HK8.out.frozen 9
                      have ef10 := HK8.out.frozen 10
                      go_wp2
                      have HE3 : Hid (Blk (((((((((((Wz.setCell ⟨v0.heap.size, 0, none⟩ (.int .i64 T9.who)).setCell ⟨v0.heap.size, 1, none⟩ (.int .i64 T9.snap)).setCell ⟨v0.heap.size, 2, none⟩ (.int .i64 T9.pc)).setCell ⟨v0.heap.size, 3, none⟩ (.slice y.R T9.regs.length y.rc)).setCell ⟨v0.heap.size, 4, none⟩ (.slice y.P T9.path.length y.pc)).setCell ⟨v0.heap.size, 5, none⟩ (.slice y.D T9.reads.length y.dc)).setCell ⟨v0.heap.size, 6, none⟩ (.slice y.L T9.log.list.length y.lc)).setCell ⟨v0.heap.size, 7, none⟩ (.slice y.M T9.log.marks.length y.mc)).setCell ⟨v0.heap.size, 8, none⟩ (.slice y.F y.fl.length y.fc)).setCell ⟨v0.heap.size, 9, none⟩ (.int .i64 T9.kind)).setCell ⟨v0.heap.size, 10, none⟩ (.int .i64 T9.why)) v0.heap.size 34 #[.int .i64 T9.who, .int .i64 T9.snap, .int .i64 T9.pc, .slice y.R T9.regs.length y.rc, .slice y.P T9.path.length y.pc, .slice y.D T9.reads.length y.dc, .slice y.L T9.log.list.length y.lc, .slice y.M T9.log.marks.length y.mc, .slice y.F y.fl.length y.fc, .int .i64 T9.kind, .int .i64 T9.why]) := Lib.hid (fill_blk HK8.out)
                      have HOn : Hid (Only (fun k => k = v0.heap.size) Wz (((((((((((Wz.setCell ⟨v0.heap.size, 0, none⟩ (.int .i64 T9.who)).setCell ⟨v0.heap.size, 1, none⟩ (.int .i64 T9.snap)).setCell ⟨v0.heap.size, 2, none⟩ (.int .i64 T9.pc)).setCell ⟨v0.heap.size, 3, none⟩ (.slice y.R T9.regs.length y.rc)).setCell ⟨v0.heap.size, 4, none⟩ (.slice y.P T9.path.length y.pc)).setCell ⟨v0.heap.size, 5, none⟩ (.slice y.D T9.reads.length y.dc)).setCell ⟨v0.heap.size, 6, none⟩ (.slice y.L T9.log.list.length y.lc)).setCell ⟨v0.heap.size, 7, none⟩ (.slice y.M T9.log.marks.length y.mc)).setCell ⟨v0.heap.size, 8, none⟩ (.slice y.F y.fl.length y.fc)).setCell ⟨v0.heap.size, 9, none⟩ (.int .i64 T9.kind)).setCell ⟨v0.heap.size, 10, none⟩ (.int .i64 T9.why))) := Lib.hid (fill_only Wz v0.heap.size _ _ _ _ _ _ _ _ _ _ _)
                      clear d0 e0 ef0 d1 e1 ef1 d2 e2 ef2 d3 e3 ef3 d4 e4 ef4 d5 e5 ef5 d6 e6 ef6 d7 e7 ef7 d8 e8 ef8 d9 e9 ef9 d10 e10 ef10
                      generalize (((((((((((Wz.setCell ⟨v0.heap.size, 0, none⟩ (.int .i64 T9.who)).setCell ⟨v0.heap.size, 1, none⟩ (.int .i64 T9.snap)).setCell ⟨v0.heap.size, 2, none⟩ (.int .i64 T9.pc)).setCell ⟨v0.heap.size, 3, none⟩ (.slice y.R T9.regs.length y.rc)).setCell ⟨v0.heap.size, 4, none⟩ (.slice y.P T9.path.length y.pc)).setCell ⟨v0.heap.size, 5, none⟩ (.slice y.D T9.reads.length y.dc)).setCell ⟨v0.heap.size, 6, none⟩ (.slice y.L T9.log.list.length y.lc)).setCell ⟨v0.heap.size, 7, none⟩ (.slice y.M T9.log.marks.length y.mc)).setCell ⟨v0.heap.size, 8, none⟩ (.slice y.F y.fl.length y.fc)).setCell ⟨v0.heap.size, 9, none⟩ (.int .i64 T9.kind)).setCell ⟨v0.heap.size, 10, none⟩ (.int .i64 T9.why)) = wF at *
                      have hgt2 := HGT.out
                      have HOF : Hid (TOwn w wF T9 y) := Lib.hid ⟨Owns.only (HO1.out.below (bl_trans bc.out HBn.out)).own HOn.out (fun o ho k hk e => HNY.out o ho (by rw [hk, e])) (fun k e => by omega), HO1.out.raw⟩
                      have HBF : Hid (Below w.heap.size w wF) := Lib.hid ((bl_trans HBz.out HBn.out).trans (HOn.out.below (bl_trans HBz.out HBn.out).size (fun k hk e => by omega)))
                      obtain ⟨p1, p2⟩ := step_pc HI9.out HSS.out
                      have hpcn := HPC.out
                      have hs0 := HS0.out HKZ.out
                      have HS2 : Hid (T9.kind = 0 → s + 1 ≤ T9.pc) := Lib.hid (fun h0 => by have h1 := p2 h0; omega)
                      clear p1 p2
                      go_roundw
                      case rel => exact ⟨k2 + 1, s + 1, T9, y, by omega, by go_num, by go_num, by omega, HE3, HOF, HI2, Lib.hid (HRG.out.1.trans HSN.out), HS2, HBF⟩
                      case measure => simp [intOf]; omega
                    · have hjd : decide ((nt : Int) < (j : Int)) = false := decide_eq_false (by omega)
                      go_wp2_with fail
                      go_quiet (fail)
                      have HBn : Hid (Below wc.heap.size wc (wc.drewN nq)) := Lib.hid (bl_drewN (Below.refl _ _) nq)
                      generalize wc.drewN nq = Wz at *
                      clear a5 i5
                      have HK8 := Lib.hid ((HK7.out.below bc.out).below HBn.out)
                      have HU8 := Lib.hid ((HU7.out.below bc.out).below HBn.out)
                      have d0 := HU8.out.cell 0 _ rfl
                      have d1 := HU8.out.cell 1 _ rfl
                      have d2 := HU8.out.cell 2 _ rfl
                      have d3 := HU8.out.cell 3 _ rfl
                      have d4 := HU8.out.cell 4 _ rfl
                      have d5 := HU8.out.cell 5 _ rfl
                      have d6 := HU8.out.cell 6 _ rfl
                      have d7 := HU8.out.cell 7 _ rfl
                      have d8 := HU8.out.cell 8 _ rfl
                      have d9 := HU8.out.cell 9 _ rfl
                      have d10 := HU8.out.cell 10 _ rfl
                      have e0 := HK8.out.cell 0 _ rfl
                      have e1 := HK8.out.cell 1 _ rfl
                      have e2 := HK8.out.cell 2 _ rfl
                      have e3 := HK8.out.cell 3 _ rfl
                      have e4 := HK8.out.cell 4 _ rfl
                      have e5 := HK8.out.cell 5 _ rfl
                      have e6 := HK8.out.cell 6 _ rfl
                      have e7 := HK8.out.cell 7 _ rfl
                      have e8 := HK8.out.cell 8 _ rfl
                      have e9 := HK8.out.cell 9 _ rfl
                      have e10 := HK8.out.cell 10 _ rfl
                      have ef0 := HK8.out.frozen 0
                      have ef1 := HK8.out.frozen 1
                      have ef2 := HK8.out.frozen 2
                      have ef3 := HK8.out.frozen 3
                      have ef4 := HK8.out.frozen 4
                      have ef5 := HK8.out.frozen 5
                      have ef6 := HK8.out.frozen 6
                      have ef7 := HK8.out.frozen 7
                      have ef8 := HK8.out.frozen 8
                      have ef9 := HK8.out.frozen 9
                      have ef10 := HK8.out.frozen 10
                      go_wp2
                      have HE3 : Hid (Blk (((((((((((Wz.setCell ⟨v0.heap.size, 0, none⟩ (.int .i64 T9.who)).setCell ⟨v0.heap.size, 1, none⟩ (.int .i64 T9.snap)).setCell ⟨v0.heap.size, 2, none⟩ (.int .i64 T9.pc)).setCell ⟨v0.heap.size, 3, none⟩ (.slice y.R T9.regs.length y.rc)).setCell ⟨v0.heap.size, 4, none⟩ (.slice y.P T9.path.length y.pc)).setCell ⟨v0.heap.size, 5, none⟩ (.slice y.D T9.reads.length y.dc)).setCell ⟨v0.heap.size, 6, none⟩ (.slice y.L T9.log.list.length y.lc)).setCell ⟨v0.heap.size, 7, none⟩ (.slice y.M T9.log.marks.length y.mc)).setCell ⟨v0.heap.size, 8, none⟩ (.slice y.F y.fl.length y.fc)).setCell ⟨v0.heap.size, 9, none⟩ (.int .i64 T9.kind)).setCell ⟨v0.heap.size, 10, none⟩ (.int .i64 T9.why)) v0.heap.size 34 #[.int .i64 T9.who, .int .i64 T9.snap, .int .i64 T9.pc, .slice y.R T9.regs.length y.rc, .slice y.P T9.path.length y.pc, .slice y.D T9.reads.length y.dc, .slice y.L T9.log.list.length y.lc, .slice y.M T9.log.marks.length y.mc, .slice y.F y.fl.length y.fc, .int .i64 T9.kind, .int .i64 T9.why]) := Lib.hid (fill_blk HK8.out)
                      have HOn : Hid (Only (fun k => k = v0.heap.size) Wz (((((((((((Wz.setCell ⟨v0.heap.size, 0, none⟩ (.int .i64 T9.who)).setCell ⟨v0.heap.size, 1, none⟩ (.int .i64 T9.snap)).setCell ⟨v0.heap.size, 2, none⟩ (.int .i64 T9.pc)).setCell ⟨v0.heap.size, 3, none⟩ (.slice y.R T9.regs.length y.rc)).setCell ⟨v0.heap.size, 4, none⟩ (.slice y.P T9.path.length y.pc)).setCell ⟨v0.heap.size, 5, none⟩ (.slice y.D T9.reads.length y.dc)).setCell ⟨v0.heap.size, 6, none⟩ (.slice y.L T9.log.list.length y.lc)).setCell ⟨v0.heap.size, 7, none⟩ (.slice y.M T9.log.marks.length y.mc)).setCell ⟨v0.heap.size, 8, none⟩ (.slice y.F y.fl.length y.fc)).setCell ⟨v0.heap.size, 9, none⟩ (.int .i64 T9.kind)).setCell ⟨v0.heap.size, 10, none⟩ (.int .i64 T9.why))) := Lib.hid (fill_only Wz v0.heap.size _ _ _ _ _ _ _ _ _ _ _)
                      clear d0 e0 ef0 d1 e1 ef1 d2 e2 ef2 d3 e3 ef3 d4 e4 ef4 d5 e5 ef5 d6 e6 ef6 d7 e7 ef7 d8 e8 ef8 d9 e9 ef9 d10 e10 ef10
                      generalize (((((((((((Wz.setCell ⟨v0.heap.size, 0, none⟩ (.int .i64 T9.who)).setCell ⟨v0.heap.size, 1, none⟩ (.int .i64 T9.snap)).setCell ⟨v0.heap.size, 2, none⟩ (.int .i64 T9.pc)).setCell ⟨v0.heap.size, 3, none⟩ (.slice y.R T9.regs.length y.rc)).setCell ⟨v0.heap.size, 4, none⟩ (.slice y.P T9.path.length y.pc)).setCell ⟨v0.heap.size, 5, none⟩ (.slice y.D T9.reads.length y.dc)).setCell ⟨v0.heap.size, 6, none⟩ (.slice y.L T9.log.list.length y.lc)).setCell ⟨v0.heap.size, 7, none⟩ (.slice y.M T9.log.marks.length y.mc)).setCell ⟨v0.heap.size, 8, none⟩ (.slice y.F y.fl.length y.fc)).setCell ⟨v0.heap.size, 9, none⟩ (.int .i64 T9.kind)).setCell ⟨v0.heap.size, 10, none⟩ (.int .i64 T9.why)) = wF at *
                      have hgt2 := HGT.out
                      have HOF : Hid (TOwn w wF T9 y) := Lib.hid ⟨Owns.only (HO1.out.below (bl_trans bc.out HBn.out)).own HOn.out (fun o ho k hk e => HNY.out o ho (by rw [hk, e])) (fun k e => by omega), HO1.out.raw⟩
                      have HBF : Hid (Below w.heap.size w wF) := Lib.hid ((bl_trans HBz.out HBn.out).trans (HOn.out.below (bl_trans HBz.out HBn.out).size (fun k hk e => by omega)))
                      obtain ⟨p1, p2⟩ := step_pc HI9.out HSS.out
                      have hpcn := HPC.out
                      have hs0 := HS0.out HKZ.out
                      have HS2 : Hid (T9.kind = 0 → s + 1 ≤ T9.pc) := Lib.hid (fun h0 => by have h1 := p2 h0; omega)
                      clear p1 p2
                      go_roundw
                      case rel => exact ⟨k2 + 1, s + 1, T9, y, by omega, by go_num, by go_num, by omega, HE3, HOF, HI2, Lib.hid (HRG.out.1.trans HSN.out), HS2, HBF⟩
                      case measure => simp [intOf]; omega
              | false =>
                go_wp2_with fail
                refine HCC.out.mono ?_
                rintro e6 v1 ⟨y, rfl, ho1, hf1, b_⟩
                have HB3 := Lib.hid (bl_trans HB2.out (bl_alloc b_ (.cells #[.int .i64 T9.who, .int .i64 T9.snap, .int .i64 T9.pc, .slice y.R T9.regs.length y.rc, .slice y.P T9.path.length y.pc, .slice y.D T9.reads.length y.dc, .slice y.L T9.log.list.length y.lc, .slice y.M T9.log.marks.length y.mc, .slice y.F y.fl.length y.fc, .int .i64 T9.kind, .int .i64 T9.why] 34)))
                have HK3 := Lib.hid ((HK2.out.below b_).alloc (.cells #[.int .i64 T9.who, .int .i64 T9.snap, .int .i64 T9.pc, .slice y.R T9.regs.length y.rc, .slice y.P T9.path.length y.pc, .slice y.D T9.reads.length y.dc, .slice y.L T9.log.list.length y.lc, .slice y.M T9.log.marks.length y.mc, .slice y.F y.fl.length y.fc, .int .i64 T9.kind, .int .i64 T9.why] 34))
                have HO3 := Lib.hid (HO9.out.below (bl_trans (bl_alloc (Below.refl _ _) (.cells #[.slice xw.H xw.hn xw.hc, .slice xw.R xw.rn xw.rc] 51)) (bl_alloc b_ (.cells #[.int .i64 T9.who, .int .i64 T9.snap, .int .i64 T9.pc, .slice y.R T9.regs.length y.rc, .slice y.P T9.path.length y.pc, .slice y.D T9.reads.length y.dc, .slice y.L T9.log.list.length y.lc, .slice y.M T9.log.marks.length y.mc, .slice y.F y.fl.length y.fc, .int .i64 T9.kind, .int .i64 T9.why] 34))))
                clear ho1 hf1 b_
                go_wp2
                go_roundw
                case rel => exact ⟨k2 + 1, s, t9, x9, by omega, by go_num, rfl, hsn, HK3, HO3, HI9, HSN, HS0, HB3⟩
                case measure => simp [intOf]; omega
            · have c9 := HK2.out.cell 9 _ rfl
              have hkb : (t9.kind == 0) = false := by simpa using hk0
              have hkn : (t9.kind != 0) = true := by simp [hk0]
              replace bb := HB2
              go_wp2_with fail
              refine (awake_any _).mono ?_
              rintro e wz ⟨rfl, b_⟩
              replace bb := Lib.hid (bl_trans bb.out b_)
              clear b_
              go_wp2
              go_ret
              exact ⟨rfl, bb.out⟩
          · go_wp2_with fail
            refine (awake_any _).mono ?_
            rintro e wz ⟨rfl, b_⟩
            replace bb := Lib.hid (bl_trans bb.out b_)
            clear b_
            go_wp2
            go_ret
            exact ⟨rfl, bb.out⟩
end Go.Proofs.YtadofonlkjkcmaaGreat.Attempt
