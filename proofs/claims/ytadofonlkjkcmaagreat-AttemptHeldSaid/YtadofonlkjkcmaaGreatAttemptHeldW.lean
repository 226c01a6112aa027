/-
  THE WALK OF THE LAW AttemptHeld.
-/
import Derived.Test.YtadofonlkjkcmaaGreatAttemptEnds
import Derived.Test.YtadofonlkjkcmaaGreatAttemptSmall
import Derived.Test.YtadofonlkjkcmaaGreatModC
import Derived.Test.YtadofonlkjkcmaaGreatStripeA
namespace Go.Proofs.YtadofonlkjkcmaaGreat.Attempt
open Go.ChangeShapes Go.WideShapes Go.ChangeAt Go.RowKit Mem Go.Proofs.YtadofonlkjkcmaaGreat.Code

set_option maxRecDepth 100000 in
set_option maxHeartbeats 4000000 in
theorem held_walk (A HA : Option Addr) (n c hn hc : Nat) (wn on rn : Int) (hwn : 0 ≤ wn ∧ wn ≤ 255) (hon : 0 ≤ on ∧ on ≤ 255) (hrn : 0 ≤ rn ∧ rn ≤ 255) (l : List Raw) (h : List Heap.Cell) (w : World) (hnc : n ≤ c) (mn : n ≤ 9223372036854775807) (cm : c ≤ 9223372036854775807) (hat : At w A n l) (hmn : hn ≤ 9223372036854775807) (hh : Rd w 2 HA hn (Heap.cs h)) :
    Calls Tryz.prog 7 #[.slice A n c, .int .u8 wn, .int .u8 on, .int .u8 rn, .slice HA hn hc] w (RetB w true) := by
  have HL := Lib.hid hat.len
  have HA0 := Lib.hid hat
  have HH0 := Lib.hid hh
  have HHL : Hid (h.length = hn) := Lib.hid (by have h1 := hh.1; rw [Heap.cs_len] at h1; omega)
  clear hat hh
  have bb : Hid (Below w.heap.size w w) := Lib.hid (Below.refl _ _)
  obtain ⟨wk, hwk⟩ : ∃ k : Nat, wn % 8 = (k : Int) := ⟨(wn % 8).toNat, by omega⟩
  obtain ⟨ok_, hok⟩ : ∃ k : Nat, on % 8 = (k : Int) := ⟨(on % 8).toNat, by omega⟩
  obtain ⟨rk, hrk⟩ : ∃ k : Nat, rn % 16 = (k : Int) := ⟨(rn % 16).toNat, by omega⟩
  have wk7 : wk ≤ 7 := by omega
  have ok7 : ok_ ≤ 7 := by omega
  have rk15 : rk ≤ 15 := by omega
  cases hs : smallB l with
  | false =>
    have HSM := Lib.hid (small_neg l hs)
    clear hs
    go_enter Tryz.func7, Tryz.ntmps7
    go_wp2_with fail
    refine (small_c l _ _ _ _ (-1) (HA0.out.below bb.out) mn HSM.out).mono ?_
    rintro e w1 ⟨rfl, b_⟩
    replace bb := Lib.hid (bl_trans bb.out b_)
    clear b_
    go_wp2_with fail
    refine (awake_any _).mono ?_
    rintro e wz ⟨rfl, b_⟩
    replace bb := Lib.hid (bl_trans bb.out b_)
    clear b_
    go_wp2
    go_ret
    exact ⟨rfl, bb.out⟩
  | true =>
    obtain ⟨hlim, h40⟩ := small_lim l hs
    have HSM := Lib.hid (small_val l n HL.out hs)
    have HLM := Lib.hid hlim
    have hn40 : n ≤ 40 := by rw [← HL.out]; exact h40
    clear hs hlim h40
    by_cases h64 : 64 < hn
    · have h64i : (64 : Int) < (hn : Int) := by omega
      go_enter Tryz.func7, Tryz.ntmps7
      go_wp2_with fail
      refine (small_c l _ _ _ _ (n : Int) (HA0.out.below bb.out) mn HSM.out).mono ?_
      rintro e w1 ⟨rfl, b_⟩
      replace bb := Lib.hid (bl_trans bb.out b_)
      clear b_
      go_wp2_with fail
      refine (awake_any _).mono ?_
      rintro e wz ⟨rfl, b_⟩
      replace bb := Lib.hid (bl_trans bb.out b_)
      clear b_
      go_wp2
      go_ret
      exact ⟨rfl, bb.out⟩
    · have HBG : Hid (∀ (W : World) (t0 : Try) (ok : Bool), Below w.heap.size w W → beginS (ss l) (1 + (wk : Int)) 5 = (t0, ok) → Calls Tryz.prog 12 #[.slice A n c, .int .i64 (1 + (wk : Int)), .int .i64 5] W fun e w' => ∃ y : TL, e = .returned (.tuple #[.agg #[.int .i64 t0.who, .int .i64 t0.snap, .int .i64 t0.pc, .slice y.R t0.regs.length y.rc, .slice y.P t0.path.length y.pc, .slice y.D t0.reads.length y.dc, .slice y.L t0.log.list.length y.lc, .slice y.M t0.log.marks.length y.mc, .slice y.F y.fl.length y.fc, .int .i64 t0.kind, .int .i64 t0.why], .int .i64 (if ok = true then 0 else 1)]) ∧ TOwn W w' t0 y ∧ Below W.heap.size W w') := Lib.hid (fun W t0 ok hW hB => (begin_c l A n c (1 + (wk : Int)) 5 W t0 ok (HA0.out.below hW) hnc HLM.out (by omega) hB).mono (fun e w' ⟨y, h1, h2, _, h4⟩ => ⟨y, h1, h2, h4⟩))
      have HRN : Hid (∀ (W : World) (rl : List Stripe.Rec) (RA : Option Addr) (rn rc : Nat) (t0 T9 : Try) (x0 : TL) (k : Nat) (ok : Bool), Below w.heap.size w W → TRd W t0 x0 → Inv (ss l) t0 → Rd W 2 RA rn (Stripe.rs rl) → rn ≤ 1000 → runS (ss l) h rl t0 = (T9, k, ok) → Calls Tryz.prog 23 #[.agg #[.int .i64 t0.who, .int .i64 t0.snap, .int .i64 t0.pc, .slice x0.R t0.regs.length x0.rc, .slice x0.P t0.path.length x0.pc, .slice x0.D t0.reads.length x0.dc, .slice x0.L t0.log.list.length x0.lc, .slice x0.M t0.log.marks.length x0.mc, .slice x0.F x0.fl.length x0.fc, .int .i64 t0.kind, .int .i64 t0.why], .slice A n c, .slice HA hn hc, .slice RA rn rc] W fun e w' => ∃ y : TL, e = .returned (.tuple #[.agg #[.int .i64 T9.who, .int .i64 T9.snap, .int .i64 T9.pc, .slice y.R T9.regs.length y.rc, .slice y.P T9.path.length y.pc, .slice y.D T9.reads.length y.dc, .slice y.L T9.log.list.length y.lc, .slice y.M T9.log.marks.length y.mc, .slice y.F y.fl.length y.fc, .int .i64 T9.kind, .int .i64 T9.why], .int .i64 k, .int .i64 (if ok = true then 0 else 1)]) ∧ TOwn W w' T9 y ∧ Below W.heap.size W w') := Lib.hid (fun W rl RA rn rc t0 T9 x0 k ok hW hr hi ht h6 hR => (run_c l A n c h HA hn hc rl RA rn rc t0 x0 W (SPre.mk_ (HA0.out.below hW) hnc HLM.out (by omega) (HH0.out.below hW) (by omega) ht (by omega) hr hi) (T9, k, ok) hR).mono (fun e w' ⟨y, h1, h2, _, h4⟩ => ⟨y, h1, h2, h4⟩))
      have HREC : Hid (∀ b, (recAt (List.replicate (1 + rk) ⟨0, 1 + (ok_ : Int)⟩) b).owner ≠ 0) := Lib.hid (fun b => by rw [held_rec _ (by omega)]; show 1 + (ok_ : Int) ≠ 0; omega)
      go_enter Tryz.func7, Tryz.ntmps7
      go_wp2_with fail
      refine (small_c l _ _ _ _ (n : Int) (HA0.out.below bb.out) mn HSM.out).mono ?_
      rintro e w1 ⟨rfl, b_⟩
      replace bb := Lib.hid (bl_trans bb.out b_)
      clear b_
      go_wp2_with fail
      rw [hrk]
      go_loopw [11, 32] (fun v i wr => ∃ k : Nat, k ≤ 1 + rk ∧ i = .int .u8 k ∧ Own w wr 65 2 v k (Stripe.rs (List.replicate k ⟨0, 1 + (ok_ : Int)⟩))) (fun _ i _ => 1 + rk - (intOf i).toNat)
      case atStart => exact ⟨0, Nat.zero_le _, rfl, Own.nil_ bb.out⟩
      case round =>
        obtain ⟨k, hk, rfl, hown⟩ := hrel
        generalize wr = wa at *
        by_cases hlt : k < 1 + rk
        · have HT : Hid (Stripe.rs (List.replicate k ⟨0, 1 + (ok_ : Int)⟩) ++ [.int .i64 0, .int .i64 (1 + (ok_ : Int))] = Stripe.rs (List.replicate (k + 1) ⟨0, 1 + (ok_ : Int)⟩)) := Lib.hid (by rw [List.replicate_succ']; unfold Stripe.rs; rw [List.flatMap_append]; rfl)
          have hlti : (k : Int) < 1 + (rk : Int) := by omega
          go_wp2_with (at_builtin; refine append_rd rfl _ _ 49 rfl Stripe.tRec w _ _ _ rfl (hown.alloc _) _ 1 1 [.int .i64 0, .int .i64 (1 + (ok_ : Int))] rfl (Rd.built _ 2 1 [.int .i64 0, .int .i64 (1 + (ok_ : Int))] _ rfl) (one_cons rfl (one_cons rfl one_nil)) (by omega) (by omega) ?_; intro v' w' hown' hg; clear hg)
          go_roundw
          case rel => exact ⟨k + 1, by omega, by go_num, by rw [← HT.out]; exact hown'⟩
          case measure => simp [intOf]; omega
        · have hlti : ¬ (k : Int) < 1 + (rk : Int) := by omega
          have hkq : k = 1 + rk := by omega
          rw [hkq] at hown
          obtain ⟨RA, rc, rfl, hcap, rd⟩ := own_room hown
          have HR0 := Lib.hid rd
          have bb := Lib.hid hown.2
          clear hown rd hcap
          obtain ⟨t0, ok, hB⟩ : ∃ t0 ok, beginS (ss l) (1 + (wk : Int)) 5 = (t0, ok) := ⟨_, _, rfl⟩
          have HBB := Lib.hid hB
          have HBC := Lib.hid (HBG.out _ t0 ok bb.out hB)
          clear hB
          cases ok with
          | false =>
            go_wp2_with fail
            refine HBC.out.mono ?_
            rintro e5 v0 ⟨y0, rfl, ho0, b_⟩
            have HO0 := Lib.hid (ho0.rd.below (bl_alloc (Below.refl _ _) (.cells #[.int .i64 t0.who, .int .i64 t0.snap, .int .i64 t0.pc, .slice y0.R t0.regs.length y0.rc, .slice y0.P t0.path.length y0.pc, .slice y0.D t0.reads.length y0.dc, .slice y0.L t0.log.list.length y0.lc, .slice y0.M t0.log.marks.length y0.mc, .slice y0.F y0.fl.length y0.fc, .int .i64 t0.kind, .int .i64 t0.why] 34)))
            have HKT : Hid (Blk (v0.alloc (.cells #[.int .i64 t0.who, .int .i64 t0.snap, .int .i64 t0.pc, .slice y0.R t0.regs.length y0.rc, .slice y0.P t0.path.length y0.pc, .slice y0.D t0.reads.length y0.dc, .slice y0.L t0.log.list.length y0.lc, .slice y0.M t0.log.marks.length y0.mc, .slice y0.F y0.fl.length y0.fc, .int .i64 t0.kind, .int .i64 t0.why] 34)) v0.heap.size 34 #[.int .i64 t0.who, .int .i64 t0.snap, .int .i64 t0.pc, .slice y0.R t0.regs.length y0.rc, .slice y0.P t0.path.length y0.pc, .slice y0.D t0.reads.length y0.dc, .slice y0.L t0.log.list.length y0.lc, .slice y0.M t0.log.marks.length y0.mc, .slice y0.F y0.fl.length y0.fc, .int .i64 t0.kind, .int .i64 t0.why]) := Lib.hid (Blk.new _ _ _)
            replace HR0 := Lib.hid (HR0.out.below (bl_alloc b_ (.cells #[.int .i64 t0.who, .int .i64 t0.snap, .int .i64 t0.pc, .slice y0.R t0.regs.length y0.rc, .slice y0.P t0.path.length y0.pc, .slice y0.D t0.reads.length y0.dc, .slice y0.L t0.log.list.length y0.lc, .slice y0.M t0.log.marks.length y0.mc, .slice y0.F y0.fl.length y0.fc, .int .i64 t0.kind, .int .i64 t0.why] 34)))
            replace bb := Lib.hid (bl_trans bb.out (bl_alloc b_ (.cells #[.int .i64 t0.who, .int .i64 t0.snap, .int .i64 t0.pc, .slice y0.R t0.regs.length y0.rc, .slice y0.P t0.path.length y0.pc, .slice y0.D t0.reads.length y0.dc, .slice y0.L t0.log.list.length y0.lc, .slice y0.M t0.log.marks.length y0.mc, .slice y0.F y0.fl.length y0.fc, .int .i64 t0.kind, .int .i64 t0.why] 34)))
            clear ho0 b_
            go_wp2_with fail
            refine (awake_any _).mono ?_
            rintro e wz ⟨rfl, b_⟩
            replace bb := Lib.hid (bl_trans bb.out b_)
            clear b_
            go_wp2
            go_ret
            exact ⟨rfl, bb.out⟩
          | true =>
            go_wp2_with fail
            refine HBC.out.mono ?_
            rintro e5 v0 ⟨y0, rfl, ho0, b_⟩
            have HO0 := Lib.hid (ho0.rd.below (bl_alloc (Below.refl _ _) (.cells #[.int .i64 t0.who, .int .i64 t0.snap, .int .i64 t0.pc, .slice y0.R t0.regs.length y0.rc, .slice y0.P t0.path.length y0.pc, .slice y0.D t0.reads.length y0.dc, .slice y0.L t0.log.list.length y0.lc, .slice y0.M t0.log.marks.length y0.mc, .slice y0.F y0.fl.length y0.fc, .int .i64 t0.kind, .int .i64 t0.why] 34)))
            have HKT : Hid (Blk (v0.alloc (.cells #[.int .i64 t0.who, .int .i64 t0.snap, .int .i64 t0.pc, .slice y0.R t0.regs.length y0.rc, .slice y0.P t0.path.length y0.pc, .slice y0.D t0.reads.length y0.dc, .slice y0.L t0.log.list.length y0.lc, .slice y0.M t0.log.marks.length y0.mc, .slice y0.F y0.fl.length y0.fc, .int .i64 t0.kind, .int .i64 t0.why] 34)) v0.heap.size 34 #[.int .i64 t0.who, .int .i64 t0.snap, .int .i64 t0.pc, .slice y0.R t0.regs.length y0.rc, .slice y0.P t0.path.length y0.pc, .slice y0.D t0.reads.length y0.dc, .slice y0.L t0.log.list.length y0.lc, .slice y0.M t0.log.marks.length y0.mc, .slice y0.F y0.fl.length y0.fc, .int .i64 t0.kind, .int .i64 t0.why]) := Lib.hid (Blk.new _ _ _)
            replace HR0 := Lib.hid (HR0.out.below (bl_alloc b_ (.cells #[.int .i64 t0.who, .int .i64 t0.snap, .int .i64 t0.pc, .slice y0.R t0.regs.length y0.rc, .slice y0.P t0.path.length y0.pc, .slice y0.D t0.reads.length y0.dc, .slice y0.L t0.log.list.length y0.lc, .slice y0.M t0.log.marks.length y0.mc, .slice y0.F y0.fl.length y0.fc, .int .i64 t0.kind, .int .i64 t0.why] 34)))
            replace bb := Lib.hid (bl_trans bb.out (bl_alloc b_ (.cells #[.int .i64 t0.who, .int .i64 t0.snap, .int .i64 t0.pc, .slice y0.R t0.regs.length y0.rc, .slice y0.P t0.path.length y0.pc, .slice y0.D t0.reads.length y0.dc, .slice y0.L t0.log.list.length y0.lc, .slice y0.M t0.log.marks.length y0.mc, .slice y0.F y0.fl.length y0.fc, .int .i64 t0.kind, .int .i64 t0.why] 34)))
            clear ho0 b_
            obtain ⟨T9, kk, ok2, hR⟩ : ∃ T9 kk ok2, runS (ss l) h (List.replicate (1 + rk) ⟨0, 1 + (ok_ : Int)⟩) t0 = (T9, kk, ok2) := ⟨_, _, _, rfl⟩
            have HRR := Lib.hid hR
            have HRC := Lib.hid (HRN.out _ _ RA (1 + rk) rc t0 T9 y0 kk ok2 bb.out HO0.out (begin_inv HBB.out) HR0.out (by omega) hR)
            clear hR
            obtain ⟨o, g, ok3, r1, r2, r3, r4, gn, hM, e1, e2, e3, e4, e5_, l1, l2, l3, l4, l5⟩ := Model.run_names (ss l) h
            have HMM := Lib.hid hM
            rw [HHL.out] at l5
            have HEE : Hid (o.regs.length = r1 ∧ o.path.length = r2 ∧ o.seen.length = r3 ∧ o.writes.length = r4) := Lib.hid ⟨e1, e2, e3, e4⟩
            have HGN := Lib.hid e5_
            obtain ⟨f3, hf3⟩ : ∃ f3, Model.errOf ok3 = f3 := ⟨_, rfl⟩
            have HF3 := Lib.hid hf3
            obtain ⟨f2, hf2⟩ : ∃ f2 : Int, (if ok2 = true then 0 else 1) = f2 := ⟨_, rfl⟩
            have HF2 := Lib.hid hf2
            rw [hf2] at HRC
            clear hM e1 e2 e3 e4 e5_ hf2 hf3
            have c0 := HKT.out.cell 0 _ rfl
            have c1 := HKT.out.cell 1 _ rfl
            have c2 := HKT.out.cell 2 _ rfl
            have c3 := HKT.out.cell 3 _ rfl
            have c4 := HKT.out.cell 4 _ rfl
            have c5 := HKT.out.cell 5 _ rfl
            have c6 := HKT.out.cell 6 _ rfl
            have c7 := HKT.out.cell 7 _ rfl
            have c8 := HKT.out.cell 8 _ rfl
            have c9 := HKT.out.cell 9 _ rfl
            have c10 := HKT.out.cell 10 _ rfl
            go_wp2_with fail
            refine HRC.out.mono ?_
            rintro e6 v1 ⟨y, rfl, ho1, b_⟩
            have HO1 := Lib.hid (ho1.rd.below (bl_alloc (Below.refl _ _) (.cells #[.int .i64 T9.who, .int .i64 T9.snap, .int .i64 T9.pc, .slice y.R T9.regs.length y.rc, .slice y.P T9.path.length y.pc, .slice y.D T9.reads.length y.dc, .slice y.L T9.log.list.length y.lc, .slice y.M T9.log.marks.length y.mc, .slice y.F y.fl.length y.fc, .int .i64 T9.kind, .int .i64 T9.why] 34)))
            have HK9 : Hid (Blk (v1.alloc (.cells #[.int .i64 T9.who, .int .i64 T9.snap, .int .i64 T9.pc, .slice y.R T9.regs.length y.rc, .slice y.P T9.path.length y.pc, .slice y.D T9.reads.length y.dc, .slice y.L T9.log.list.length y.lc, .slice y.M T9.log.marks.length y.mc, .slice y.F y.fl.length y.fc, .int .i64 T9.kind, .int .i64 T9.why] 34)) v1.heap.size 34 #[.int .i64 T9.who, .int .i64 T9.snap, .int .i64 T9.pc, .slice y.R T9.regs.length y.rc, .slice y.P T9.path.length y.pc, .slice y.D T9.reads.length y.dc, .slice y.L T9.log.list.length y.lc, .slice y.M T9.log.marks.length y.mc, .slice y.F y.fl.length y.fc, .int .i64 T9.kind, .int .i64 T9.why]) := Lib.hid (Blk.new _ _ _)
            replace bb := Lib.hid (bl_trans bb.out (bl_alloc b_ (.cells #[.int .i64 T9.who, .int .i64 T9.snap, .int .i64 T9.pc, .slice y.R T9.regs.length y.rc, .slice y.P T9.path.length y.pc, .slice y.D T9.reads.length y.dc, .slice y.L T9.log.list.length y.lc, .slice y.M T9.log.marks.length y.mc, .slice y.F y.fl.length y.fc, .int .i64 T9.kind, .int .i64 T9.why] 34)))
            clear ho1 b_ c0 c1 c2 c3 c4 c5 c6 c7 c8 c9 c10
            go_wp2_with fail
            refine (Model.said.run l h _ _ n c hn hc _ o g ok3 r1 r2 r3 r4 gn f3 (HA0.out.below bb.out) hnc cm HLM.out (by omega) (HH0.out.below bb.out) (by omega) HMM.out HEE.out.1 HEE.out.2.1 HEE.out.2.2.1 HEE.out.2.2.2 HGN.out HF3.out).mono ?_
            rintro e7 v2 ⟨Aa1, ca1, Aa2, ca2, Aa3, ca3, Aa4, ca4, Ga, gca, rfl, ho, hg, b_⟩
            have OA := Lib.hid (ho.below (bl_alloc (Below.refl _ _) (.cells #[.int .i64 o.kind, .int .i64 o.why, .slice Aa1 r1 ca1, .slice Aa2 r2 ca2, .slice Aa3 r3 ca3, .slice Aa4 r4 ca4] 58)))
            have KO : Hid (Blk (v2.alloc (.cells #[.int .i64 o.kind, .int .i64 o.why, .slice Aa1 r1 ca1, .slice Aa2 r2 ca2, .slice Aa3 r3 ca3, .slice Aa4 r4 ca4] 58)) v2.heap.size 58 #[.int .i64 o.kind, .int .i64 o.why, .slice Aa1 r1 ca1, .slice Aa2 r2 ca2, .slice Aa3 r3 ca3, .slice Aa4 r4 ca4]) := Lib.hid (Blk.new _ _ _)
            replace HK9 := Lib.hid (HK9.out.below (bl_alloc b_ (.cells #[.int .i64 o.kind, .int .i64 o.why, .slice Aa1 r1 ca1, .slice Aa2 r2 ca2, .slice Aa3 r3 ca3, .slice Aa4 r4 ca4] 58)))
            replace HO1 := Lib.hid (HO1.out.below (bl_alloc b_ (.cells #[.int .i64 o.kind, .int .i64 o.why, .slice Aa1 r1 ca1, .slice Aa2 r2 ca2, .slice Aa3 r3 ca3, .slice Aa4 r4 ca4] 58)))
            replace bb := Lib.hid (bl_trans bb.out (bl_alloc b_ (.cells #[.int .i64 o.kind, .int .i64 o.why, .slice Aa1 r1 ca1, .slice Aa2 r2 ca2, .slice Aa3 r3 ca3, .slice Aa4 r4 ca4] 58)))
            clear ho hg b_
            cases ok2 with
            | false =>
              have hf2 : f2 = 1 := by rw [← HF2.out]; rfl
              subst hf2
              go_wp2_with fail
              refine (awake_any _).mono ?_
              rintro e wz ⟨rfl, b_⟩
              replace bb := Lib.hid (bl_trans bb.out b_)
              clear b_
              go_wp2
              go_ret
              exact ⟨rfl, bb.out⟩
            | true =>
              have hf2 : f2 = 0 := by rw [← HF2.out]; rfl
              subst hf2
              cases ok3 with
              | false =>
                have hf3 : f3 = 1 := by rw [← HF3.out]; rfl
                subst hf3
                go_wp2_with fail
                refine (awake_any _).mono ?_
                rintro e wz ⟨rfl, b_⟩
                replace bb := Lib.hid (bl_trans bb.out b_)
                clear b_
                go_wp2
                go_ret
                exact ⟨rfl, bb.out⟩
              | true =>
                have hf3 : f3 = 0 := by rw [← HF3.out]; rfl
                subst hf3
                obtain ⟨q1, q2, q3⟩ := held_end HBB.out HREC.out HRR.out HMM.out
                have hrl : T9.reads.length = 0 := by rw [q1]; rfl
                by_cases h5 : T9.kind = 5
                · have hs0 : (0 : Int) < (r3 : Int) := by have h1 := q2 h5; have h2 := HEE.out.2.2.1; omega
                  have h5b : (T9.kind == 5) = true := by simp [h5]
                  have d9 := HK9.out.cell 9 _ rfl
                  have d5 := HK9.out.cell 5 _ rfl
                  rw [hrl] at d5
                  have o4 := KO.out.cell 4 _ rfl
                  clear q1 q2 q3 h5
                  go_wp2_with fail
                  refine (awake_any _).mono ?_
                  rintro e wz ⟨rfl, b_⟩
                  replace bb := Lib.hid (bl_trans bb.out b_)
                  clear b_
                  go_wp2
                  go_ret
                  exact ⟨rfl, bb.out⟩
                · obtain ⟨z1, z2⟩ := q3 h5
                  have hr3 : r3 = 0 := by rw [← HEE.out.2.2.1, z2]; rfl
                  subst hr3
                  have HEQ := Lib.hid z1
                  have h5b : (T9.kind == 5) = false := by simpa using h5
                  clear q1 q2 q3 z1 z2 h5
                  have HI9 : Hid (Inv (ss l) T9) := Lib.hid (run_inv (begin_inv HBB.out) HRR.out).1
                  have HOC : Hid (∀ W : World, Below (v2.alloc (.cells #[.int .i64 o.kind, .int .i64 o.why, .slice Aa1 r1 ca1, .slice Aa2 r2 ca2, .slice Aa3 0 ca3, .slice Aa4 r4 ca4] 58)).heap.size (v2.alloc (.cells #[.int .i64 o.kind, .int .i64 o.why, .slice Aa1 r1 ca1, .slice Aa2 r2 ca2, .slice Aa3 0 ca3, .slice Aa4 r4 ca4] 58)) W → Calls Tryz.prog 21 #[.agg #[.int .i64 T9.who, .int .i64 T9.snap, .int .i64 T9.pc, .slice y.R T9.regs.length y.rc, .slice y.P T9.path.length y.pc, .slice y.D 0 y.dc, .slice y.L T9.log.list.length y.lc, .slice y.M T9.log.marks.length y.mc, .slice y.F y.fl.length y.fc, .int .i64 T9.kind, .int .i64 T9.why]] W (RetOut W o r1 r2 0 r4)) := Lib.hid (fun W hW => by have h1 := out_c T9 y W o r1 r2 0 r4 (HO1.out.below hW) (HI9.out.small (HO1.out.below hW)) HEQ.out HEE.out.1 HEE.out.2.1 HEE.out.2.2.1 HEE.out.2.2.2; have h2 : Calls Tryz.prog 21 #[.agg #[.int .i64 T9.who, .int .i64 T9.snap, .int .i64 T9.pc, .slice y.R T9.regs.length y.rc, .slice y.P T9.path.length y.pc, .slice y.D T9.reads.length y.dc, .slice y.L T9.log.list.length y.lc, .slice y.M T9.log.marks.length y.mc, .slice y.F y.fl.length y.fc, .int .i64 T9.kind, .int .i64 T9.why]] W (RetOut W o r1 r2 0 r4) := h1; rw [hrl] at h2; exact h2)
                  have KEEP : Hid (∀ W, Below (v2.alloc (.cells #[.int .i64 o.kind, .int .i64 o.why, .slice Aa1 r1 ca1, .slice Aa2 r2 ca2, .slice Aa3 0 ca3, .slice Aa4 r4 ca4] 58)).heap.size (v2.alloc (.cells #[.int .i64 o.kind, .int .i64 o.why, .slice Aa1 r1 ca1, .slice Aa2 r2 ca2, .slice Aa3 0 ca3, .slice Aa4 r4 ca4] 58)) W → W.cell? ⟨v1.heap.size, 0, none⟩ = some (.int .i64 T9.who) ∧ W.cell? ⟨v1.heap.size, 1, none⟩ = some (.int .i64 T9.snap) ∧ W.cell? ⟨v1.heap.size, 2, none⟩ = some (.int .i64 T9.pc) ∧ W.cell? ⟨v1.heap.size, 3, none⟩ = some (.slice y.R T9.regs.length y.rc) ∧ W.cell? ⟨v1.heap.size, 4, none⟩ = some (.slice y.P T9.path.length y.pc) ∧ W.cell? ⟨v1.heap.size, 5, none⟩ = some (.slice y.D 0 y.dc) ∧ W.cell? ⟨v1.heap.size, 6, none⟩ = some (.slice y.L T9.log.list.length y.lc) ∧ W.cell? ⟨v1.heap.size, 7, none⟩ = some (.slice y.M T9.log.marks.length y.mc) ∧ W.cell? ⟨v1.heap.size, 8, none⟩ = some (.slice y.F y.fl.length y.fc) ∧ W.cell? ⟨v1.heap.size, 9, none⟩ = some (.int .i64 T9.kind) ∧ W.cell? ⟨v1.heap.size, 10, none⟩ = some (.int .i64 T9.why) ∧ W.cell? ⟨v2.heap.size, 0, none⟩ = some (.int .i64 o.kind) ∧ W.cell? ⟨v2.heap.size, 1, none⟩ = some (.int .i64 o.why) ∧ W.cell? ⟨v2.heap.size, 2, none⟩ = some (.slice Aa1 r1 ca1) ∧ W.cell? ⟨v2.heap.size, 3, none⟩ = some (.slice Aa2 r2 ca2) ∧ W.cell? ⟨v2.heap.size, 4, none⟩ = some (.slice Aa3 0 ca3) ∧ W.cell? ⟨v2.heap.size, 5, none⟩ = some (.slice Aa4 r4 ca4)) := Lib.hid (fun W hW => by have k1 := HK9.out.below hW; rw [hrl] at k1; have k2 := KO.out.below hW; exact ⟨k1.cell 0 _ rfl, k1.cell 1 _ rfl, k1.cell 2 _ rfl, k1.cell 3 _ rfl, k1.cell 4 _ rfl, k1.cell 5 _ rfl, k1.cell 6 _ rfl, k1.cell 7 _ rfl, k1.cell 8 _ rfl, k1.cell 9 _ rfl, k1.cell 10 _ rfl, k2.cell 0 _ rfl, k2.cell 1 _ rfl, k2.cell 2 _ rfl, k2.cell 3 _ rfl, k2.cell 4 _ rfl, k2.cell 5 _ rfl⟩)
                  have d9 := HK9.out.cell 9 _ rfl
                  have bq : Hid (Below (v2.alloc (.cells #[.int .i64 o.kind, .int .i64 o.why, .slice Aa1 r1 ca1, .slice Aa2 r2 ca2, .slice Aa3 0 ca3, .slice Aa4 r4 ca4] 58)).heap.size (v2.alloc (.cells #[.int .i64 o.kind, .int .i64 o.why, .slice Aa1 r1 ca1, .slice Aa2 r2 ca2, .slice Aa3 0 ca3, .slice Aa4 r4 ca4] 58)) (v2.alloc (.cells #[.int .i64 o.kind, .int .i64 o.why, .slice Aa1 r1 ca1, .slice Aa2 r2 ca2, .slice Aa3 0 ca3, .slice Aa4 r4 ca4] 58)).drew) := Lib.hid (Below.refl _ _).drew
                  go_wp2_with fail
                  try simp only [List.append_eq, List.cons_append, List.nil_append]
                  refine wp_region_held_drew (S := fun (W : World) => W.cell? ⟨v1.heap.size, 0, none⟩ = some (.int .i64 T9.who) ∧ W.cell? ⟨v1.heap.size, 1, none⟩ = some (.int .i64 T9.snap) ∧ W.cell? ⟨v1.heap.size, 2, none⟩ = some (.int .i64 T9.pc) ∧ W.cell? ⟨v1.heap.size, 3, none⟩ = some (.slice y.R T9.regs.length y.rc) ∧ W.cell? ⟨v1.heap.size, 4, none⟩ = some (.slice y.P T9.path.length y.pc) ∧ W.cell? ⟨v1.heap.size, 5, none⟩ = some (.slice y.D 0 y.dc) ∧ W.cell? ⟨v1.heap.size, 6, none⟩ = some (.slice y.L T9.log.list.length y.lc) ∧ W.cell? ⟨v1.heap.size, 7, none⟩ = some (.slice y.M T9.log.marks.length y.mc) ∧ W.cell? ⟨v1.heap.size, 8, none⟩ = some (.slice y.F y.fl.length y.fc) ∧ W.cell? ⟨v1.heap.size, 9, none⟩ = some (.int .i64 T9.kind) ∧ W.cell? ⟨v1.heap.size, 10, none⟩ = some (.int .i64 T9.why) ∧ W.cell? ⟨v2.heap.size, 0, none⟩ = some (.int .i64 o.kind) ∧ W.cell? ⟨v2.heap.size, 1, none⟩ = some (.int .i64 o.why) ∧ W.cell? ⟨v2.heap.size, 2, none⟩ = some (.slice Aa1 r1 ca1) ∧ W.cell? ⟨v2.heap.size, 3, none⟩ = some (.slice Aa2 r2 ca2) ∧ W.cell? ⟨v2.heap.size, 4, none⟩ = some (.slice Aa3 0 ca3) ∧ W.cell? ⟨v2.heap.size, 5, none⟩ = some (.slice Aa4 r4 ca4)) (by kernel_rfl) (KEEP.out _ bq.out) (fun hHeld0 => ?_)
                  refine wpAnyH_take (i := 0) (v := .pointer (some ⟨v1.heap.size, 5, none⟩)) rfl (by kernel_rfl) (by kernel_rfl) (by kernel_rfl) (fun _ _ _ h => h) (Or.inl ⟨by kernel_rfl, fun W hS => by go_simp⟩) hHeld0 ?_
                  try simp only [Act.put]
                  try simp only [List.setIfInBounds_toArray]
                  try simp only [List.set_cons_succ]
                  try simp only [List.set_cons_zero]
                  refine wpAnyH_take (i := 1) (v := .slice y.D 0 y.dc) rfl (by kernel_rfl) (by kernel_rfl) (by kernel_rfl) (fun _ _ _ h => h) (Or.inl ⟨by kernel_rfl, fun W hS => by obtain ⟨k_0, k_1, k_2, k_3, k_4, k_5, k_6, k_7, k_8, k_9, k_10, k_11, k_12, k_13, k_14, k_15, k_16⟩ := hS; go_simp⟩) hHeld0 ?_
                  try simp only [Act.put]
                  try simp only [List.setIfInBounds_toArray]
                  try simp only [List.set_cons_succ]
                  try simp only [List.set_cons_zero]
                  refine wpAnyH_take (i := 2) (v := .int .i64 0) rfl (by kernel_rfl) (by kernel_rfl) (by kernel_rfl) (fun _ _ _ h => h) (Or.inl ⟨by kernel_rfl, fun W hS => by go_simp⟩) hHeld0 ?_
                  try simp only [Act.put]
                  try simp only [List.setIfInBounds_toArray]
                  try simp only [List.set_cons_succ]
                  try simp only [List.set_cons_zero]
                  refine wpAnyH_take (i := 3) (v := .pointer (some ⟨v2.heap.size, 4, none⟩)) rfl (by kernel_rfl) (by kernel_rfl) (by kernel_rfl) (fun _ _ _ h => h) (Or.inl ⟨by kernel_rfl, fun W hS => by go_simp⟩) hHeld0 ?_
                  try simp only [Act.put]
                  try simp only [List.setIfInBounds_toArray]
                  try simp only [List.set_cons_succ]
                  try simp only [List.set_cons_zero]
                  refine wpAnyH_take (i := 4) (v := .slice Aa3 0 ca3) rfl (by kernel_rfl) (by kernel_rfl) (by kernel_rfl) (fun _ _ _ h => h) (Or.inl ⟨by kernel_rfl, fun W hS => by obtain ⟨k_0, k_1, k_2, k_3, k_4, k_5, k_6, k_7, k_8, k_9, k_10, k_11, k_12, k_13, k_14, k_15, k_16⟩ := hS; go_simp⟩) hHeld0 ?_
                  try simp only [Act.put]
                  try simp only [List.setIfInBounds_toArray]
                  try simp only [List.set_cons_succ]
                  try simp only [List.set_cons_zero]
                  refine wpAnyH_take (i := 5) (v := .int .i64 0) rfl (by kernel_rfl) (by kernel_rfl) (by kernel_rfl) (fun _ _ _ h => h) (Or.inl ⟨by kernel_rfl, fun W hS => by go_simp⟩) hHeld0 ?_
                  try simp only [Act.put]
                  try simp only [List.setIfInBounds_toArray]
                  try simp only [List.set_cons_succ]
                  try simp only [List.set_cons_zero]
                  refine wpAnyH_take (i := 6) (v := .int .i64 0) rfl (by kernel_rfl) (by kernel_rfl) (by kernel_rfl) (fun _ _ _ h => h) (Or.inl ⟨by kernel_rfl, fun W hS => by go_simp; first | rfl | decide⟩) hHeld0 ?_
                  try simp only [Act.put]
                  try simp only [List.setIfInBounds_toArray]
                  try simp only [List.set_cons_succ]
                  try simp only [List.set_cons_zero]
                  refine wpAnyH_take (i := 7) (v := .bool true) rfl (by kernel_rfl) (by kernel_rfl) (by kernel_rfl) (fun _ _ _ h => h) (Or.inl ⟨by kernel_rfl, fun W hS => by go_simp⟩) hHeld0 ?_
                  try simp only [Act.put]
                  try simp only [List.setIfInBounds_toArray]
                  try simp only [List.set_cons_succ]
                  try simp only [List.set_cons_zero]
                  refine wpAnyH_take (i := 8) (v := .bool true) rfl (by kernel_rfl) (by kernel_rfl) (by kernel_rfl) (fun _ _ _ h => h) (Or.inl ⟨by kernel_rfl, fun W hS => by go_simp⟩) hHeld0 ?_
                  try simp only [Act.put]
                  try simp only [List.setIfInBounds_toArray]
                  try simp only [List.set_cons_succ]
                  try simp only [List.set_cons_zero]
                  refine wpAnyH_take (i := 9) (v := .agg #[.int .i64 T9.who, .int .i64 T9.snap, .int .i64 T9.pc, .slice y.R T9.regs.length y.rc, .slice y.P T9.path.length y.pc, .slice y.D 0 y.dc, .slice y.L T9.log.list.length y.lc, .slice y.M T9.log.marks.length y.mc, .slice y.F y.fl.length y.fc, .int .i64 T9.kind, .int .i64 T9.why]) rfl (by kernel_rfl) (by kernel_rfl) (by kernel_rfl) (fun _ _ _ h => h) (Or.inl ⟨by kernel_rfl, fun W hS => by obtain ⟨k_0, k_1, k_2, k_3, k_4, k_5, k_6, k_7, k_8, k_9, k_10, k_11, k_12, k_13, k_14, k_15, k_16⟩ := hS; go_simp⟩) hHeld0 ?_
                  try simp only [Act.put]
                  try simp only [List.setIfInBounds_toArray]
                  try simp only [List.set_cons_succ]
                  try simp only [List.set_cons_zero]
                  refine wpAnyH_take (i := 12) (v := .agg #[.int .i64 o.kind, .int .i64 o.why, .slice Aa1 r1 ca1, .slice Aa2 r2 ca2, .slice Aa3 0 ca3, .slice Aa4 r4 ca4]) rfl (by kernel_rfl) (by kernel_rfl) (by kernel_rfl) (fun _ _ _ h => h) (Or.inl ⟨by kernel_rfl, fun W hS => by obtain ⟨k_0, k_1, k_2, k_3, k_4, k_5, k_6, k_7, k_8, k_9, k_10, k_11, k_12, k_13, k_14, k_15, k_16⟩ := hS; go_simp⟩) hHeld0 ?_
                  try simp only [Act.put]
                  try simp only [List.setIfInBounds_toArray]
                  try simp only [List.set_cons_succ]
                  try simp only [List.set_cons_zero]
                  refine wpAnyH_ready (rs := [10]) (by kernel_rfl) (by simp) ?_
                  refine AllReadyH.cons rfl (fun KK0 hK => ?_) AllReadyH.nil
                  rw [if_pos (by kernel_rfl)]
                  refine Model.calls_wp 21 #[.agg #[.int .i64 T9.who, .int .i64 T9.snap, .int .i64 T9.pc, .slice y.R T9.regs.length y.rc, .slice y.P T9.path.length y.pc, .slice y.D 0 y.dc, .slice y.L T9.log.list.length y.lc, .slice y.M T9.log.marks.length y.mc, .slice y.F y.fl.length y.fc, .int .i64 T9.kind, .int .i64 T9.why]] _ (HOC.out _ bq.out) (Model.run_call _ _ _ rfl rfl Tryz.func21 (by kernel_rfl) (by kernel_rfl) _ (by kernel_rfl)) ?_
                  rintro e wq ⟨Ab1, cb1, Ab2, cb2, Ab3, cb3, Ab4, cb4, rfl, ob, b_⟩
                  refine ⟨_, rfl, ?_⟩
                  have OB := Lib.hid ob
                  have bz : Hid (Below wq.heap.size wq wq) := Lib.hid (Below.refl _ _)
                  clear ob
                  replace bq := Lib.hid (bl_trans bq.out b_)
                  clear b_
                  refine hK.out _ _ (KEEP.out _ bq.out) (fun hHeld1 => ?_)
                  clear hHeld0 hK KK0
                  try simp only [Act.put]
                  try simp only [List.setIfInBounds_toArray]
                  try simp only [List.set_cons_succ]
                  try simp only [List.set_cons_zero]
                  refine wpAnyH_ready (rs := [11]) (by kernel_rfl) (by simp) ?_
                  refine AllReadyH.cons rfl (fun KK0 hK => ?_) AllReadyH.nil
                  rw [if_pos (by kernel_rfl)]
                  refine Model.calls_wp 20 #[.agg #[.int .i64 o.kind, .int .i64 o.why, .slice Ab1 r1 cb1, .slice Ab2 r2 cb2, .slice Ab3 0 cb3, .slice Ab4 r4 cb4]] _ (Model.ref_m _ _ _ _ _ _ _ _ _ _ _ _ _ _ _) (Model.run_call _ _ _ rfl rfl Tryz.func20 (by kernel_rfl) (by kernel_rfl) _ (by kernel_rfl)) ?_
                  rintro e wq ⟨rfl, b_⟩
                  refine ⟨_, rfl, ?_⟩
                  replace bz := Lib.hid (bl_trans bz.out b_)
                  replace bq := Lib.hid (bl_trans bq.out b_)
                  clear b_
                  refine hK.out _ _ (KEEP.out _ bq.out) (fun hHeld2 => ?_)
                  clear hHeld1 hK KK0
                  try simp only [Act.put]
                  try simp only [List.setIfInBounds_toArray]
                  try simp only [List.set_cons_succ]
                  try simp only [List.set_cons_zero]
                  refine wpAnyH_ready (rs := [13]) (by kernel_rfl) (by simp) ?_
                  refine AllReadyH.cons rfl (fun KK0 hK => ?_) AllReadyH.nil
                  rw [if_pos (by kernel_rfl)]
                  refine Model.calls_wp 20 #[.agg #[.int .i64 o.kind, .int .i64 o.why, .slice Aa1 r1 ca1, .slice Aa2 r2 ca2, .slice Aa3 0 ca3, .slice Aa4 r4 ca4]] _ (Model.ref_m _ _ _ _ _ _ _ _ _ _ _ _ _ _ _) (Model.run_call _ _ _ rfl rfl Tryz.func20 (by kernel_rfl) (by kernel_rfl) _ (by kernel_rfl)) ?_
                  rintro e wq ⟨rfl, b_⟩
                  refine ⟨_, rfl, ?_⟩
                  replace bz := Lib.hid (bl_trans bz.out b_)
                  replace bq := Lib.hid (bl_trans bq.out b_)
                  clear b_
                  refine hK.out _ _ (KEEP.out _ bq.out) (fun hHeld3 => ?_)
                  clear hHeld2 hK KK0
                  try simp only [Act.put]
                  try simp only [List.setIfInBounds_toArray]
                  try simp only [List.set_cons_succ]
                  try simp only [List.set_cons_zero]
                  refine wpAnyH_ready (rs := [14]) (by kernel_rfl) (by simp) ?_
                  refine AllReadyH.cons rfl (fun KK0 hK => ?_) AllReadyH.nil
                  rw [if_pos (by kernel_rfl)]
                  refine Model.calls_wp 19 #[.agg #[.int .i64 o.kind, .int .i64 o.why, .slice Ab1 r1 cb1, .slice Ab2 r2 cb2, .slice Ab3 0 cb3, .slice Ab4 r4 cb4], .agg #[.int .i64 o.kind, .int .i64 o.why, .slice Aa1 r1 ca1, .slice Aa2 r2 ca2, .slice Aa3 0 ca3, .slice Aa4 r4 ca4]] _ (Model.same_r o _ _ _ _ _ _ _ _ r1 r2 0 r4 _ _ _ _ _ _ _ _ _ (OB.out.below bz.out) (OA.out.below bq.out) (by omega) (by omega) (by omega) (by omega)) (Model.run_call _ _ _ rfl rfl Tryz.func19 (by kernel_rfl) (by kernel_rfl) _ (by kernel_rfl)) ?_
                  rintro e wq ⟨rfl, b_⟩
                  refine ⟨_, rfl, ?_⟩
                  replace bq := Lib.hid (bl_trans bq.out b_)
                  clear b_
                  refine hK.out _ _ (KEEP.out _ bq.out) (fun hHeld4 => ?_)
                  clear hHeld3 hK KK0
                  try simp only [Act.put]
                  try simp only [List.setIfInBounds_toArray]
                  try simp only [List.set_cons_succ]
                  try simp only [List.set_cons_zero]
                  refine wpAnyH_take (i := 15) (v := .bool true) rfl (by kernel_rfl) (by kernel_rfl) (by kernel_rfl) (fun _ _ _ h => h) (Or.inl ⟨by kernel_rfl, fun W hS => by go_simp⟩) hHeld4 ?_
                  try simp only [Act.put]
                  try simp only [List.setIfInBounds_toArray]
                  try simp only [List.set_cons_succ]
                  try simp only [List.set_cons_zero]
                  refine wpAnyH_take (i := 16) (v := .bool true) rfl (by kernel_rfl) (by kernel_rfl) (by kernel_rfl) (fun _ _ _ h => h) (Or.inl ⟨by kernel_rfl, fun W hS => by go_simp⟩) hHeld4 ?_
                  try simp only [Act.put]
                  try simp only [List.setIfInBounds_toArray]
                  try simp only [List.set_cons_succ]
                  try simp only [List.set_cons_zero]
                  refine wpAnyH_ready (rs := [17]) (by kernel_rfl) (by simp) ?_
                  refine AllReadyH.cons rfl (fun KK0 hK => ?_) AllReadyH.nil
                  rw [if_pos (by kernel_rfl)]
                  refine Model.calls_wp 11 #[] _ (awake_any _) (Model.run_call _ _ _ rfl rfl Tryz.func11 (by kernel_rfl) (by kernel_rfl) _ (by kernel_rfl)) ?_
                  rintro e wq ⟨rfl, b_⟩
                  refine ⟨_, rfl, ?_⟩
                  replace bq := Lib.hid (bl_trans bq.out b_)
                  clear b_
                  refine hK.out _ _ (KEEP.out _ bq.out) (fun hHeld5 => ?_)
                  clear hHeld4 hK KK0
                  try simp only [Act.put]
                  try simp only [List.setIfInBounds_toArray]
                  try simp only [List.set_cons_succ]
                  try simp only [List.set_cons_zero]
                  refine wpAnyH_take (i := 18) (v := .bool true) rfl (by kernel_rfl) (by kernel_rfl) (by kernel_rfl) (fun _ _ _ h => h) (Or.inl ⟨by kernel_rfl, fun W hS => by go_simp⟩) hHeld5 ?_
                  try simp only [Act.put]
                  try simp only [List.setIfInBounds_toArray]
                  try simp only [List.set_cons_succ]
                  try simp only [List.set_cons_zero]
                  refine wpAnyH_ready (rs := [19]) (by kernel_rfl) (by simp) ?_
                  refine AllReadyH.cons rfl (fun KK0 hK => ?_) AllReadyH.nil
                  go_simp
                  refine hK.out _ _ (KEEP.out _ bq.out) (fun hHeld6 => ?_)
                  clear hHeld5 hK KK0
                  try simp only [Act.put]
                  try simp only [List.setIfInBounds_toArray]
                  try simp only [List.set_cons_succ]
                  try simp only [List.set_cons_zero]
                  refine wpAnyH_done (by kernel_rfl) ?_ _
                  go_wp2
                  go_ret
                  exact ⟨rfl, bl_trans bb.out bq.out⟩
end Go.Proofs.YtadofonlkjkcmaaGreat.Attempt
