/-
  THE WALK OF THE LAW AttemptAlone.
-/
import Derived.Test.YtadofonlkjkcmaaGreatAttemptEnds
import Derived.Test.YtadofonlkjkcmaaGreatAttemptSmall
import Derived.Test.YtadofonlkjkcmaaGreatModC
import Derived.Test.YtadofonlkjkcmaaGreatStripeA
import Derived.Test.YtadofonlkjkcmaaGreatAttemptU32
namespace Go.Proofs.YtadofonlkjkcmaaGreat.Attempt
open Go.ChangeShapes Go.WideShapes Go.ChangeAt Go.RowKit Mem Go.Proofs.YtadofonlkjkcmaaGreat.Code

theorem run_bad {c : List Step} {h : List Heap.Cell} {r : List Stripe.Rec} {t T : Try} {k : Nat} (hR : runS c h r t = (T, k, false)) : k = 0 := by
  unfold runS at hR
  split at hR
  · rename_i h1; rw [hR] at h1; cases h1
  · injection hR with _ e; injection e with e _; exact e.symm
set_option maxRecDepth 100000 in
set_option maxHeartbeats 12000000 in
theorem alone_walk (A HA VA : Option Addr) (n c hn hc m d : Nat) (who snap : Int) (hsb : -9223372036854775808 ≤ snap ∧ snap ≤ 9223372036854775807) (l : List Raw) (h : List Heap.Cell) (vs : List Int) (w : World) (hnc : n ≤ c) (mn : n ≤ 9223372036854775807) (cm : c ≤ 9223372036854775807) (hat : At w A n l) (hmn : hn ≤ 9223372036854775807) (hh : Rd w 2 HA hn (Heap.cs h)) (hmd : m ≤ 9223372036854775807) (hv : Rd w 1 VA m (us vs)) (hvf : ∀ v ∈ vs, 0 ≤ v ∧ v ≤ 4294967295) :
    Calls Tryz.prog 4 #[.slice A n c, .int .i64 who, .int .i64 snap, .slice HA hn hc, .slice VA m d] w (RetB w true) := by
  have HL := Lib.hid hat.len
  have HA0 := Lib.hid hat
  have HH0 := Lib.hid hh
  have HV0 := Lib.hid hv
  have HVF := Lib.hid hvf
  have HHL : Hid (h.length = hn) := Lib.hid (by have h1 := hh.1; rw [Heap.cs_len] at h1; omega)
  have HVL : Hid (vs.length = m) := Lib.hid (us_len hv)
  clear hat hh hv hvf
  have bb : Hid (Below w.heap.size w w) := Lib.hid (Below.refl _ _)
  cases hs : smallB l with
  | false =>
    have HSM := Lib.hid (small_neg l hs)
    clear hs
    go_enter Tryz.func4, Tryz.ntmps4
    go_wp2_with fail
    refine (small_c l _ _ _ _ (-1) (HA0.out.below bb.out) mn HSM.out).mono ?_
    rintro e w1 ⟨rfl, b_⟩
    replace bb := Lib.hid (bl_trans bb.out b_)
    clear b_
    go_wp2_with fail
    refine (awake_any _).mono ?_
    rintro e wz ⟨rfl, b_⟩
    replace bb := Lib.hid (bl_trans bb.out b_)
    clear b_
    go_wp2
    go_ret
    exact ⟨rfl, bb.out⟩
  | true =>
    obtain ⟨hlim, h40⟩ := small_lim l hs
    have HSM := Lib.hid (small_val l n HL.out hs)
    have HLM := Lib.hid hlim
    have hn40 : n ≤ 40 := by rw [← HL.out]; exact h40
    clear hs hlim h40
    by_cases h64 : 64 < hn
    · have h64i : (64 : Int) < (hn : Int) := by omega
      go_enter Tryz.func4, Tryz.ntmps4
      go_wp2_with fail
      refine (small_c l _ _ _ _ (n : Int) (HA0.out.below bb.out) mn HSM.out).mono ?_
      rintro e w1 ⟨rfl, b_⟩
      replace bb := Lib.hid (bl_trans bb.out b_)
      clear b_
      go_wp2_with fail
      refine (awake_any _).mono ?_
      rintro e wz ⟨rfl, b_⟩
      replace bb := Lib.hid (bl_trans bb.out b_)
      clear b_
      go_wp2
      go_ret
      exact ⟨rfl, bb.out⟩
    · by_cases h16 : 16 < m
      · have h16i : (16 : Int) < (m : Int) := by omega
        go_enter Tryz.func4, Tryz.ntmps4
        go_wp2_with fail
        refine (small_c l _ _ _ _ (n : Int) (HA0.out.below bb.out) mn HSM.out).mono ?_
        rintro e w1 ⟨rfl, b_⟩
        replace bb := Lib.hid (bl_trans bb.out b_)
        clear b_
        go_wp2_with fail
        refine (awake_any _).mono ?_
        rintro e wz ⟨rfl, b_⟩
        replace bb := Lib.hid (bl_trans bb.out b_)
        clear b_
        go_wp2
        go_ret
        exact ⟨rfl, bb.out⟩
      · by_cases hs0 : snap < 0
        · have hs0i := hs0
          go_enter Tryz.func4, Tryz.ntmps4
          go_wp2_with fail
          refine (small_c l _ _ _ _ (n : Int) (HA0.out.below bb.out) mn HSM.out).mono ?_
          rintro e w1 ⟨rfl, b_⟩
          replace bb := Lib.hid (bl_trans bb.out b_)
          clear b_
          go_wp2_with fail
          refine (awake_any _).mono ?_
          rintro e wz ⟨rfl, b_⟩
          replace bb := Lib.hid (bl_trans bb.out b_)
          clear b_
          go_wp2
          go_ret
          exact ⟨rfl, bb.out⟩
        · have HBG : Hid (∀ (W : World) (t0 : Try) (ok : Bool), Below w.heap.size w W → beginS (ss l) who snap = (t0, ok) → Calls Tryz.prog 12 #[.slice A n c, .int .i64 who, .int .i64 snap] W fun e w' => ∃ y : TL, e = .returned (.tuple #[.agg #[.int .i64 t0.who, .int .i64 t0.snap, .int .i64 t0.pc, .slice y.R t0.regs.length y.rc, .slice y.P t0.path.length y.pc, .slice y.D t0.reads.length y.dc, .slice y.L t0.log.list.length y.lc, .slice y.M t0.log.marks.length y.mc, .slice y.F y.fl.length y.fc, .int .i64 t0.kind, .int .i64 t0.why], .int .i64 (if ok = true then 0 else 1)]) ∧ TOwn W w' t0 y ∧ Below W.heap.size W w') := Lib.hid (fun W t0 ok hW hB => (begin_c l A n c who snap W t0 ok (HA0.out.below hW) hnc HLM.out (by omega) hB).mono (fun e w' ⟨y, h1, h2, _, h4⟩ => ⟨y, h1, h2, h4⟩))
          have HRN : Hid (∀ (W : World) (rl : List Stripe.Rec) (RA : Option Addr) (rn rc : Nat) (t0 T9 : Try) (x0 : TL) (k : Nat) (ok : Bool), Below w.heap.size w W → TRd W t0 x0 → Inv (ss l) t0 → Rd W 2 RA rn (Stripe.rs rl) → rn ≤ 1000 → runS (ss l) h rl t0 = (T9, k, ok) → Calls Tryz.prog 23 #[.agg #[.int .i64 t0.who, .int .i64 t0.snap, .int .i64 t0.pc, .slice x0.R t0.regs.length x0.rc, .slice x0.P t0.path.length x0.pc, .slice x0.D t0.reads.length x0.dc, .slice x0.L t0.log.list.length x0.lc, .slice x0.M t0.log.marks.length x0.mc, .slice x0.F x0.fl.length x0.fc, .int .i64 t0.kind, .int .i64 t0.why], .slice A n c, .slice HA hn hc, .slice RA rn rc] W fun e w' => ∃ y : TL, e = .returned (.tuple #[.agg #[.int .i64 T9.who, .int .i64 T9.snap, .int .i64 T9.pc, .slice y.R T9.regs.length y.rc, .slice y.P T9.path.length y.pc, .slice y.D T9.reads.length y.dc, .slice y.L T9.log.list.length y.lc, .slice y.M T9.log.marks.length y.mc, .slice y.F y.fl.length y.fc, .int .i64 T9.kind, .int .i64 T9.why], .int .i64 k, .int .i64 (if ok = true then 0 else 1)]) ∧ TOwn W w' T9 y ∧ Below W.heap.size W w') := Lib.hid (fun W rl RA rn rc t0 T9 x0 k ok hW hr hi ht h6 hR => (run_c l A n c h HA hn hc rl RA rn rc t0 x0 W (SPre.mk_ (HA0.out.below hW) hnc HLM.out (by omega) (HH0.out.below hW) (by omega) ht (by omega) hr hi) (T9, k, ok) hR).mono (fun e w' ⟨y, h1, h2, _, h4⟩ => ⟨y, h1, h2, h4⟩))
          obtain ⟨mz, hmz⟩ : ∃ z : Nat, min snap 2147483647 + 1 = (z : Int) := ⟨(min snap 2147483647 + 1).toNat, by omega⟩
          have mz0 : 0 < mz := by omega
          have mzm : (mz : Int) ≤ 2147483648 := by omega
          have HMS : Hid ((mz : Int) ≤ snap + 1) := Lib.hid (by omega)
          have hdn : ((mz : Int) == 0) = false := beq_eq_false_iff_ne.2 (by omega)
          have HREC : Hid (∀ b, (recAt ((vs.map (fun v => v % (mz : Int))).map fun v => ⟨v, 0⟩) b).owner = 0 ∧ (recAt ((vs.map (fun v => v % (mz : Int))).map fun v => ⟨v, 0⟩) b).version ≤ snap) := Lib.hid (fun b => alone_rec _ snap (by omega) (fun v hv => by obtain ⟨u, hu, rfl⟩ := List.mem_map.1 hv; have h1 := Int.emod_lt_of_pos u (show (0 : Int) < (mz : Int) by omega); have h2 := HMS.out; omega) b)
          go_enter Tryz.func4, Tryz.ntmps4
          go_wp2_with fail
          refine (small_c l _ _ _ _ (n : Int) (HA0.out.below bb.out) mn HSM.out).mono ?_
          rintro e w1 ⟨rfl, b_⟩
          replace bb := Lib.hid (bl_trans bb.out b_)
          clear b_
          go_wp2_with fail
          go_loopw [11, 42] (fun v i wr => ∃ k : Nat, k ≤ m ∧ i = .int .i64 k ∧ Own w wr 65 2 v k (Stripe.rs (((vs.take k).map (fun v => v % (mz : Int))).map fun v => ⟨v, 0⟩))) (fun _ i _ => m - (intOf i).toNat)
          case atStart => exact ⟨0, Nat.zero_le _, rfl, Own.nil_ bb.out⟩
          case round =>
            obtain ⟨k, hk, rfl, hown⟩ := hrel
            generalize wr = wa at *
            by_cases hlt : k < m
            · obtain ⟨vb, vo, z, hVV, hz, z0⟩ := at_u (HV0.out.below hown.2) k hlt
              subst hVV
              have hzf := HVF.out z (List.mem_of_getElem? hz)
              have HT : Hid (Stripe.rs (((vs.take k).map (fun v => v % (mz : Int))).map fun v => ⟨v, 0⟩) ++ [.int .i64 (z % (mz : Int)), .int .i64 0] = Stripe.rs (((vs.take (k + 1)).map (fun v => v % (mz : Int))).map fun v => ⟨v, 0⟩)) := Lib.hid (by obtain ⟨hl, rfl⟩ := List.getElem?_eq_some_iff.1 hz; rw [List.take_succ_eq_append_getElem hl, List.map_append, List.map_append]; unfold Stripe.rs; rw [List.flatMap_append]; rfl)
              clear hz
              go_wp2_with (at_builtin; refine append_rd rfl _ _ 49 rfl Stripe.tRec w _ _ _ rfl (hown.alloc _) _ 1 1 [.int .i64 (z % (mz : Int)), .int .i64 0] rfl (Rd.built _ 2 1 [.int .i64 (z % (mz : Int)), .int .i64 0] _ rfl) (one_cons rfl (one_cons rfl one_nil)) (by omega) (by omega) ?_; intro v' w' hown' hg; clear hg)
              go_roundw
              case rel => exact ⟨k + 1, by omega, by go_num, by rw [← HT.out]; exact hown'⟩
              case measure => simp [intOf]; omega
            · have hkq : k = m := by omega
              rw [hkq, List.take_of_length_le (by rw [HVL.out]; exact Nat.le_refl _)] at hown
              obtain ⟨RA, rc, rfl, hcap, rd⟩ := own_room hown
              have HR0 := Lib.hid rd
              have bb := Lib.hid hown.2
              clear hown rd hcap
              obtain ⟨t0, ok, hB⟩ : ∃ t0 ok, beginS (ss l) who snap = (t0, ok) := ⟨_, _, rfl⟩
              have HBB := Lib.hid hB
              have HBC := Lib.hid (HBG.out _ t0 ok bb.out hB)
              clear hB
              cases ok with
              | false =>
                have hw0 : t0.who = 0 := by rw [begin_not HBB.out]; rfl
                have hwb : (t0.who == 0) = true := by simp [hw0]
                clear hw0
                go_wp2_with fail
                refine HBC.out.mono ?_
                rintro e5 v0 ⟨y0, rfl, ho0, b_⟩
                have HO0 := Lib.hid (ho0.rd.below (bl_alloc (Below.refl _ _) (.cells #[.int .i64 t0.who, .int .i64 t0.snap, .int .i64 t0.pc, .slice y0.R t0.regs.length y0.rc, .slice y0.P t0.path.length y0.pc, .slice y0.D t0.reads.length y0.dc, .slice y0.L t0.log.list.length y0.lc, .slice y0.M t0.log.marks.length y0.mc, .slice y0.F y0.fl.length y0.fc, .int .i64 t0.kind, .int .i64 t0.why] 34)))
                have HKT : Hid (Blk (v0.alloc (.cells #[.int .i64 t0.who, .int .i64 t0.snap, .int .i64 t0.pc, .slice y0.R t0.regs.length y0.rc, .slice y0.P t0.path.length y0.pc, .slice y0.D t0.reads.length y0.dc, .slice y0.L t0.log.list.length y0.lc, .slice y0.M t0.log.marks.length y0.mc, .slice y0.F y0.fl.length y0.fc, .int .i64 t0.kind, .int .i64 t0.why] 34)) v0.heap.size 34 #[.int .i64 t0.who, .int .i64 t0.snap, .int .i64 t0.pc, .slice y0.R t0.regs.length y0.rc, .slice y0.P t0.path.length y0.pc, .slice y0.D t0.reads.length y0.dc, .slice y0.L t0.log.list.length y0.lc, .slice y0.M t0.log.marks.length y0.mc, .slice y0.F y0.fl.length y0.fc, .int .i64 t0.kind, .int .i64 t0.why]) := Lib.hid (Blk.new _ _ _)
                replace HR0 := Lib.hid (HR0.out.below (bl_alloc b_ (.cells #[.int .i64 t0.who, .int .i64 t0.snap, .int .i64 t0.pc, .slice y0.R t0.regs.length y0.rc, .slice y0.P t0.path.length y0.pc, .slice y0.D t0.reads.length y0.dc, .slice y0.L t0.log.list.length y0.lc, .slice y0.M t0.log.marks.length y0.mc, .slice y0.F y0.fl.length y0.fc, .int .i64 t0.kind, .int .i64 t0.why] 34)))
                replace bb := Lib.hid (bl_trans bb.out (bl_alloc b_ (.cells #[.int .i64 t0.who, .int .i64 t0.snap, .int .i64 t0.pc, .slice y0.R t0.regs.length y0.rc, .slice y0.P t0.path.length y0.pc, .slice y0.D t0.reads.length y0.dc, .slice y0.L t0.log.list.length y0.lc, .slice y0.M t0.log.marks.length y0.mc, .slice y0.F y0.fl.length y0.fc, .int .i64 t0.kind, .int .i64 t0.why] 34)))
                clear ho0 b_
                have c0 := HKT.out.cell 0 _ rfl
                go_wp2_with fail
                refine (awake_any _).mono ?_
                rintro e wz ⟨rfl, b_⟩
                replace bb := Lib.hid (bl_trans bb.out b_)
                clear b_
                go_wp2
                go_ret
                exact ⟨rfl, bb.out⟩
              | true =>
                go_wp2_with fail
                refine HBC.out.mono ?_
                rintro e5 v0 ⟨y0, rfl, ho0, b_⟩
                have HO0 := Lib.hid (ho0.rd.below (bl_alloc (Below.refl _ _) (.cells #[.int .i64 t0.who, .int .i64 t0.snap, .int .i64 t0.pc, .slice y0.R t0.regs.length y0.rc, .slice y0.P t0.path.length y0.pc, .slice y0.D t0.reads.length y0.dc, .slice y0.L t0.log.list.length y0.lc, .slice y0.M t0.log.marks.length y0.mc, .slice y0.F y0.fl.length y0.fc, .int .i64 t0.kind, .int .i64 t0.why] 34)))
                have HKT : Hid (Blk (v0.alloc (.cells #[.int .i64 t0.who, .int .i64 t0.snap, .int .i64 t0.pc, .slice y0.R t0.regs.length y0.rc, .slice y0.P t0.path.length y0.pc, .slice y0.D t0.reads.length y0.dc, .slice y0.L t0.log.list.length y0.lc, .slice y0.M t0.log.marks.length y0.mc, .slice y0.F y0.fl.length y0.fc, .int .i64 t0.kind, .int .i64 t0.why] 34)) v0.heap.size 34 #[.int .i64 t0.who, .int .i64 t0.snap, .int .i64 t0.pc, .slice y0.R t0.regs.length y0.rc, .slice y0.P t0.path.length y0.pc, .slice y0.D t0.reads.length y0.dc, .slice y0.L t0.log.list.length y0.lc, .slice y0.M t0.log.marks.length y0.mc, .slice y0.F y0.fl.length y0.fc, .int .i64 t0.kind, .int .i64 t0.why]) := Lib.hid (Blk.new _ _ _)
                replace HR0 := Lib.hid (HR0.out.below (bl_alloc b_ (.cells #[.int .i64 t0.who, .int .i64 t0.snap, .int .i64 t0.pc, .slice y0.R t0.regs.length y0.rc, .slice y0.P t0.path.length y0.pc, .slice y0.D t0.reads.length y0.dc, .slice y0.L t0.log.list.length y0.lc, .slice y0.M t0.log.marks.length y0.mc, .slice y0.F y0.fl.length y0.fc, .int .i64 t0.kind, .int .i64 t0.why] 34)))
                replace bb := Lib.hid (bl_trans bb.out (bl_alloc b_ (.cells #[.int .i64 t0.who, .int .i64 t0.snap, .int .i64 t0.pc, .slice y0.R t0.regs.length y0.rc, .slice y0.P t0.path.length y0.pc, .slice y0.D t0.reads.length y0.dc, .slice y0.L t0.log.list.length y0.lc, .slice y0.M t0.log.marks.length y0.mc, .slice y0.F y0.fl.length y0.fc, .int .i64 t0.kind, .int .i64 t0.why] 34)))
                clear ho0 b_
                obtain ⟨T9, kk, ok2, hR⟩ : ∃ T9 kk ok2, runS (ss l) h ((vs.map (fun v => v % (mz : Int))).map fun v => ⟨v, 0⟩) t0 = (T9, kk, ok2) := ⟨_, _, _, rfl⟩
                have HRR := Lib.hid hR
                have HRC := Lib.hid (HRN.out _ _ RA m rc t0 T9 y0 kk ok2 bb.out HO0.out (begin_inv HBB.out) HR0.out (by omega) hR)
                clear hR
                obtain ⟨o, g, ok3, r1, r2, r3, r4, gn, hM, e1, e2, e3, e4, e5_, l1, l2, l3, l4, l5⟩ := Model.run_names (ss l) h
                have HMM := Lib.hid hM
                rw [HHL.out] at l5
                have HEE : Hid (o.regs.length = r1 ∧ o.path.length = r2 ∧ o.seen.length = r3 ∧ o.writes.length = r4) := Lib.hid ⟨e1, e2, e3, e4⟩
                have HGN := Lib.hid e5_
                obtain ⟨f3, hf3⟩ : ∃ f3, Model.errOf ok3 = f3 := ⟨_, rfl⟩
                have HF3 := Lib.hid hf3
                obtain ⟨f2, hf2⟩ : ∃ f2 : Int, (if ok2 = true then 0 else 1) = f2 := ⟨_, rfl⟩
                have HF2 := Lib.hid hf2
                rw [hf2] at HRC
                clear hM e1 e2 e3 e4 e5_ hf2 hf3
                have c0 := HKT.out.cell 0 _ rfl
                have c1 := HKT.out.cell 1 _ rfl
                have c2 := HKT.out.cell 2 _ rfl
                have c3 := HKT.out.cell 3 _ rfl
                have c4 := HKT.out.cell 4 _ rfl
                have c5 := HKT.out.cell 5 _ rfl
                have c6 := HKT.out.cell 6 _ rfl
                have c7 := HKT.out.cell 7 _ rfl
                have c8 := HKT.out.cell 8 _ rfl
                have c9 := HKT.out.cell 9 _ rfl
                have c10 := HKT.out.cell 10 _ rfl
                go_wp2_with fail
                refine HRC.out.mono ?_
                rintro e6 v1 ⟨y, rfl, ho1, b_⟩
                have HO1 := Lib.hid (ho1.rd.below (bl_alloc (Below.refl _ _) (.cells #[.int .i64 T9.who, .int .i64 T9.snap, .int .i64 T9.pc, .slice y.R T9.regs.length y.rc, .slice y.P T9.path.length y.pc, .slice y.D T9.reads.length y.dc, .slice y.L T9.log.list.length y.lc, .slice y.M T9.log.marks.length y.mc, .slice y.F y.fl.length y.fc, .int .i64 T9.kind, .int .i64 T9.why] 34)))
                have HK9 : Hid (Blk (v1.alloc (.cells #[.int .i64 T9.who, .int .i64 T9.snap, .int .i64 T9.pc, .slice y.R T9.regs.length y.rc, .slice y.P T9.path.length y.pc, .slice y.D T9.reads.length y.dc, .slice y.L T9.log.list.length y.lc, .slice y.M T9.log.marks.length y.mc, .slice y.F y.fl.length y.fc, .int .i64 T9.kind, .int .i64 T9.why] 34)) v1.heap.size 34 #[.int .i64 T9.who, .int .i64 T9.snap, .int .i64 T9.pc, .slice y.R T9.regs.length y.rc, .slice y.P T9.path.length y.pc, .slice y.D T9.reads.length y.dc, .slice y.L T9.log.list.length y.lc, .slice y.M T9.log.marks.length y.mc, .slice y.F y.fl.length y.fc, .int .i64 T9.kind, .int .i64 T9.why]) := Lib.hid (Blk.new _ _ _)
                replace bb := Lib.hid (bl_trans bb.out (bl_alloc b_ (.cells #[.int .i64 T9.who, .int .i64 T9.snap, .int .i64 T9.pc, .slice y.R T9.regs.length y.rc, .slice y.P T9.path.length y.pc, .slice y.D T9.reads.length y.dc, .slice y.L T9.log.list.length y.lc, .slice y.M T9.log.marks.length y.mc, .slice y.F y.fl.length y.fc, .int .i64 T9.kind, .int .i64 T9.why] 34)))
                clear ho1 b_ c0 c1 c2 c3 c4 c5 c6 c7 c8 c9 c10
                go_wp2_with fail
                refine (Model.said.run l h _ _ n c hn hc _ o g ok3 r1 r2 r3 r4 gn f3 (HA0.out.below bb.out) hnc cm HLM.out (by omega) (HH0.out.below bb.out) (by omega) HMM.out HEE.out.1 HEE.out.2.1 HEE.out.2.2.1 HEE.out.2.2.2 HGN.out HF3.out).mono ?_
                rintro e7 v2 ⟨Aa1, ca1, Aa2, ca2, Aa3, ca3, Aa4, ca4, Ga, gca, rfl, ho, hg, b_⟩
                have OA := Lib.hid (ho.below (bl_alloc (Below.refl _ _) (.cells #[.int .i64 o.kind, .int .i64 o.why, .slice Aa1 r1 ca1, .slice Aa2 r2 ca2, .slice Aa3 r3 ca3, .slice Aa4 r4 ca4] 58)))
                have KO : Hid (Blk (v2.alloc (.cells #[.int .i64 o.kind, .int .i64 o.why, .slice Aa1 r1 ca1, .slice Aa2 r2 ca2, .slice Aa3 r3 ca3, .slice Aa4 r4 ca4] 58)) v2.heap.size 58 #[.int .i64 o.kind, .int .i64 o.why, .slice Aa1 r1 ca1, .slice Aa2 r2 ca2, .slice Aa3 r3 ca3, .slice Aa4 r4 ca4]) := Lib.hid (Blk.new _ _ _)
                replace HK9 := Lib.hid (HK9.out.below (bl_alloc b_ (.cells #[.int .i64 o.kind, .int .i64 o.why, .slice Aa1 r1 ca1, .slice Aa2 r2 ca2, .slice Aa3 r3 ca3, .slice Aa4 r4 ca4] 58)))
                replace HO1 := Lib.hid (HO1.out.below (bl_alloc b_ (.cells #[.int .i64 o.kind, .int .i64 o.why, .slice Aa1 r1 ca1, .slice Aa2 r2 ca2, .slice Aa3 r3 ca3, .slice Aa4 r4 ca4] 58)))
                replace bb := Lib.hid (bl_trans bb.out (bl_alloc b_ (.cells #[.int .i64 o.kind, .int .i64 o.why, .slice Aa1 r1 ca1, .slice Aa2 r2 ca2, .slice Aa3 r3 ca3, .slice Aa4 r4 ca4] 58)))
                clear ho hg b_
                cases ok2 with
                | false =>
                  have hf2 : f2 = 1 := by rw [← HF2.out]; rfl
                  subst hf2
                  have hk0 : kk = 0 := run_bad HRR.out
                  subst hk0
                  go_wp2_with fail
                  refine (awake_any _).mono ?_
                  rintro e wz ⟨rfl, b_⟩
                  replace bb := Lib.hid (bl_trans bb.out b_)
                  clear b_
                  go_wp2
                  go_ret
                  exact ⟨rfl, bb.out⟩
                | true =>
                  have hf2 : f2 = 0 := by rw [← HF2.out]; rfl
                  subst hf2
                  cases ok3 with
                  | false =>
                    have hf3 : f3 = 1 := by rw [← HF3.out]; rfl
                    subst hf3
                    go_wp2_with fail
                    refine (awake_any _).mono ?_
                    rintro e wz ⟨rfl, b_⟩
                    replace bb := Lib.hid (bl_trans bb.out b_)
                    clear b_
                    go_wp2
                    go_ret
                    exact ⟨rfl, bb.out⟩
                  | true =>
                    have hf3 : f3 = 0 := by rw [← HF3.out]; rfl
                    subst hf3
                    obtain ⟨q1, q2, q3⟩ := alone_end HBB.out HREC.out HRR.out HMM.out
                    have HEQ := Lib.hid q2
                    have HSA := Lib.hid q3
                    have hkn : ¬ (n : Int) < (kk : Int) := by rw [ss_len, HL.out] at q1; omega
                    clear q1 q2 q3
                    have HI9 : Hid (Inv (ss l) T9) := Lib.hid (run_inv (begin_inv HBB.out) HRR.out).1
                    have HOC : Hid (∀ W : World, Below (v2.alloc (.cells #[.int .i64 o.kind, .int .i64 o.why, .slice Aa1 r1 ca1, .slice Aa2 r2 ca2, .slice Aa3 r3 ca3, .slice Aa4 r4 ca4] 58)).heap.size (v2.alloc (.cells #[.int .i64 o.kind, .int .i64 o.why, .slice Aa1 r1 ca1, .slice Aa2 r2 ca2, .slice Aa3 r3 ca3, .slice Aa4 r4 ca4] 58)) W → Calls Tryz.prog 21 #[.agg #[.int .i64 T9.who, .int .i64 T9.snap, .int .i64 T9.pc, .slice y.R T9.regs.length y.rc, .slice y.P T9.path.length y.pc, .slice y.D T9.reads.length y.dc, .slice y.L T9.log.list.length y.lc, .slice y.M T9.log.marks.length y.mc, .slice y.F y.fl.length y.fc, .int .i64 T9.kind, .int .i64 T9.why]] W (RetOut W o r1 r2 r3 r4)) := Lib.hid (fun W hW => out_c T9 y W o r1 r2 r3 r4 (HO1.out.below hW) (HI9.out.small (HO1.out.below hW)) HEQ.out HEE.out.1 HEE.out.2.1 HEE.out.2.2.1 HEE.out.2.2.2)
                    have KEEP : Hid (∀ W, Below (v2.alloc (.cells #[.int .i64 o.kind, .int .i64 o.why, .slice Aa1 r1 ca1, .slice Aa2 r2 ca2, .slice Aa3 r3 ca3, .slice Aa4 r4 ca4] 58)).heap.size (v2.alloc (.cells #[.int .i64 o.kind, .int .i64 o.why, .slice Aa1 r1 ca1, .slice Aa2 r2 ca2, .slice Aa3 r3 ca3, .slice Aa4 r4 ca4] 58)) W → W.cell? ⟨v1.heap.size, 0, none⟩ = some (.int .i64 T9.who) ∧ W.cell? ⟨v1.heap.size, 1, none⟩ = some (.int .i64 T9.snap) ∧ W.cell? ⟨v1.heap.size, 2, none⟩ = some (.int .i64 T9.pc) ∧ W.cell? ⟨v1.heap.size, 3, none⟩ = some (.slice y.R T9.regs.length y.rc) ∧ W.cell? ⟨v1.heap.size, 4, none⟩ = some (.slice y.P T9.path.length y.pc) ∧ W.cell? ⟨v1.heap.size, 5, none⟩ = some (.slice y.D T9.reads.length y.dc) ∧ W.cell? ⟨v1.heap.size, 6, none⟩ = some (.slice y.L T9.log.list.length y.lc) ∧ W.cell? ⟨v1.heap.size, 7, none⟩ = some (.slice y.M T9.log.marks.length y.mc) ∧ W.cell? ⟨v1.heap.size, 8, none⟩ = some (.slice y.F y.fl.length y.fc) ∧ W.cell? ⟨v1.heap.size, 9, none⟩ = some (.int .i64 T9.kind) ∧ W.cell? ⟨v1.heap.size, 10, none⟩ = some (.int .i64 T9.why) ∧ W.cell? ⟨v2.heap.size, 0, none⟩ = some (.int .i64 o.kind) ∧ W.cell? ⟨v2.heap.size, 1, none⟩ = some (.int .i64 o.why) ∧ W.cell? ⟨v2.heap.size, 2, none⟩ = some (.slice Aa1 r1 ca1) ∧ W.cell? ⟨v2.heap.size, 3, none⟩ = some (.slice Aa2 r2 ca2) ∧ W.cell? ⟨v2.heap.size, 4, none⟩ = some (.slice Aa3 r3 ca3) ∧ W.cell? ⟨v2.heap.size, 5, none⟩ = some (.slice Aa4 r4 ca4)) := Lib.hid (fun W hW => by have k1 := HK9.out.below hW; have k2 := KO.out.below hW; exact ⟨k1.cell 0 _ rfl, k1.cell 1 _ rfl, k1.cell 2 _ rfl, k1.cell 3 _ rfl, k1.cell 4 _ rfl, k1.cell 5 _ rfl, k1.cell 6 _ rfl, k1.cell 7 _ rfl, k1.cell 8 _ rfl, k1.cell 9 _ rfl, k1.cell 10 _ rfl, k2.cell 0 _ rfl, k2.cell 1 _ rfl, k2.cell 2 _ rfl, k2.cell 3 _ rfl, k2.cell 4 _ rfl, k2.cell 5 _ rfl⟩)
                    have bq : Hid (Below (v2.alloc (.cells #[.int .i64 o.kind, .int .i64 o.why, .slice Aa1 r1 ca1, .slice Aa2 r2 ca2, .slice Aa3 r3 ca3, .slice Aa4 r4 ca4] 58)).heap.size (v2.alloc (.cells #[.int .i64 o.kind, .int .i64 o.why, .slice Aa1 r1 ca1, .slice Aa2 r2 ca2, .slice Aa3 r3 ca3, .slice Aa4 r4 ca4] 58)) (v2.alloc (.cells #[.int .i64 o.kind, .int .i64 o.why, .slice Aa1 r1 ca1, .slice Aa2 r2 ca2, .slice Aa3 r3 ca3, .slice Aa4 r4 ca4] 58)).drew) := Lib.hid (Below.refl _ _).drew
                    go_wp2_with fail
                    try simp only [List.append_eq, List.cons_append, List.nil_append]
                    refine wp_region_held_drew (S := fun (W : World) => W.cell? ⟨v1.heap.size, 0, none⟩ = some (.int .i64 T9.who) ∧ W.cell? ⟨v1.heap.size, 1, none⟩ = some (.int .i64 T9.snap) ∧ W.cell? ⟨v1.heap.size, 2, none⟩ = some (.int .i64 T9.pc) ∧ W.cell? ⟨v1.heap.size, 3, none⟩ = some (.slice y.R T9.regs.length y.rc) ∧ W.cell? ⟨v1.heap.size, 4, none⟩ = some (.slice y.P T9.path.length y.pc) ∧ W.cell? ⟨v1.heap.size, 5, none⟩ = some (.slice y.D T9.reads.length y.dc) ∧ W.cell? ⟨v1.heap.size, 6, none⟩ = some (.slice y.L T9.log.list.length y.lc) ∧ W.cell? ⟨v1.heap.size, 7, none⟩ = some (.slice y.M T9.log.marks.length y.mc) ∧ W.cell? ⟨v1.heap.size, 8, none⟩ = some (.slice y.F y.fl.length y.fc) ∧ W.cell? ⟨v1.heap.size, 9, none⟩ = some (.int .i64 T9.kind) ∧ W.cell? ⟨v1.heap.size, 10, none⟩ = some (.int .i64 T9.why) ∧ W.cell? ⟨v2.heap.size, 0, none⟩ = some (.int .i64 o.kind) ∧ W.cell? ⟨v2.heap.size, 1, none⟩ = some (.int .i64 o.why) ∧ W.cell? ⟨v2.heap.size, 2, none⟩ = some (.slice Aa1 r1 ca1) ∧ W.cell? ⟨v2.heap.size, 3, none⟩ = some (.slice Aa2 r2 ca2) ∧ W.cell? ⟨v2.heap.size, 4, none⟩ = some (.slice Aa3 r3 ca3) ∧ W.cell? ⟨v2.heap.size, 5, none⟩ = some (.slice Aa4 r4 ca4)) (by kernel_rfl) (KEEP.out _ bq.out) (fun hHeld0 => ?_)
                    refine wpAnyH_take (i := 0) (v := .int .i64 kk) rfl (by kernel_rfl) (by kernel_rfl) (by kernel_rfl) (fun _ _ _ h => h) (Or.inl ⟨by kernel_rfl, fun W hS => by go_simp⟩) hHeld0 ?_
                    try simp only [Act.put]
                    try simp only [List.setIfInBounds_toArray]
                    try simp only [List.set_cons_succ]
                    try simp only [List.set_cons_zero]
                    refine wpAnyH_take (i := 1) (v := .slice A n c) rfl (by kernel_rfl) (by kernel_rfl) (by kernel_rfl) (fun _ _ _ h => h) (Or.inl ⟨by kernel_rfl, fun W hS => by go_simp⟩) hHeld0 ?_
                    try simp only [Act.put]
                    try simp only [List.setIfInBounds_toArray]
                    try simp only [List.set_cons_succ]
                    try simp only [List.set_cons_zero]
                    refine wpAnyH_take (i := 2) (v := .int .i64 n) rfl (by kernel_rfl) (by kernel_rfl) (by kernel_rfl) (fun _ _ _ h => h) (Or.inl ⟨by kernel_rfl, fun W hS => by go_simp⟩) hHeld0 ?_
                    try simp only [Act.put]
                    try simp only [List.setIfInBounds_toArray]
                    try simp only [List.set_cons_succ]
                    try simp only [List.set_cons_zero]
                    refine wpAnyH_take (i := 3) (v := .bool false) rfl (by kernel_rfl) (by kernel_rfl) (by kernel_rfl) (fun _ _ _ h => h) (Or.inl ⟨by kernel_rfl, fun W hS => by go_simp; omega⟩) hHeld0 ?_
                    try simp only [Act.put]
                    try simp only [List.setIfInBounds_toArray]
                    try simp only [List.set_cons_succ]
                    try simp only [List.set_cons_zero]
                    refine wpAnyH_take (i := 4) (v := .bool false) rfl (by kernel_rfl) (by kernel_rfl) (by kernel_rfl) (fun _ _ _ h => h) (Or.inl ⟨by kernel_rfl, fun W hS => by go_simp⟩) hHeld0 ?_
                    try simp only [Act.put]
                    try simp only [List.setIfInBounds_toArray]
                    try simp only [List.set_cons_succ]
                    try simp only [List.set_cons_zero]
                    refine wpAnyH_take (i := 5) (v := .agg #[.int .i64 T9.who, .int .i64 T9.snap, .int .i64 T9.pc, .slice y.R T9.regs.length y.rc, .slice y.P T9.path.length y.pc, .slice y.D T9.reads.length y.dc, .slice y.L T9.log.list.length y.lc, .slice y.M T9.log.marks.length y.mc, .slice y.F y.fl.length y.fc, .int .i64 T9.kind, .int .i64 T9.why]) rfl (by kernel_rfl) (by kernel_rfl) (by kernel_rfl) (fun _ _ _ h => h) (Or.inl ⟨by kernel_rfl, fun W hS => by obtain ⟨k_0, k_1, k_2, k_3, k_4, k_5, k_6, k_7, k_8, k_9, k_10, k_11, k_12, k_13, k_14, k_15, k_16⟩ := hS; go_simp⟩) hHeld0 ?_
                    try simp only [Act.put]
                    try simp only [List.setIfInBounds_toArray]
                    try simp only [List.set_cons_succ]
                    try simp only [List.set_cons_zero]
                    refine wpAnyH_take (i := 8) (v := .agg #[.int .i64 o.kind, .int .i64 o.why, .slice Aa1 r1 ca1, .slice Aa2 r2 ca2, .slice Aa3 r3 ca3, .slice Aa4 r4 ca4]) rfl (by kernel_rfl) (by kernel_rfl) (by kernel_rfl) (fun _ _ _ h => h) (Or.inl ⟨by kernel_rfl, fun W hS => by obtain ⟨k_0, k_1, k_2, k_3, k_4, k_5, k_6, k_7, k_8, k_9, k_10, k_11, k_12, k_13, k_14, k_15, k_16⟩ := hS; go_simp⟩) hHeld0 ?_
                    try simp only [Act.put]
                    try simp only [List.setIfInBounds_toArray]
                    try simp only [List.set_cons_succ]
                    try simp only [List.set_cons_zero]
                    refine wpAnyH_ready (rs := [6]) (by kernel_rfl) (by simp) ?_
                    refine AllReadyH.cons rfl (fun KK0 hK => ?_) AllReadyH.nil
                    rw [if_pos (by kernel_rfl)]
                    refine Model.calls_wp 21 #[.agg #[.int .i64 T9.who, .int .i64 T9.snap, .int .i64 T9.pc, .slice y.R T9.regs.length y.rc, .slice y.P T9.path.length y.pc, .slice y.D T9.reads.length y.dc, .slice y.L T9.log.list.length y.lc, .slice y.M T9.log.marks.length y.mc, .slice y.F y.fl.length y.fc, .int .i64 T9.kind, .int .i64 T9.why]] _ (HOC.out _ bq.out) (Model.run_call _ _ _ rfl rfl Tryz.func21 (by kernel_rfl) (by kernel_rfl) _ (by kernel_rfl)) ?_
                    rintro e wq ⟨Ab1, cb1, Ab2, cb2, Ab3, cb3, Ab4, cb4, rfl, ob, b_⟩
                    refine ⟨_, rfl, ?_⟩
                    have OB := Lib.hid ob
                    have bz : Hid (Below wq.heap.size wq wq) := Lib.hid (Below.refl _ _)
                    clear ob
                    replace bq := Lib.hid (bl_trans bq.out b_)
                    clear b_
                    refine hK.out _ _ (KEEP.out _ bq.out) (fun hHeld1 => ?_)
                    clear hHeld0 hK KK0
                    try simp only [Act.put]
                    try simp only [List.setIfInBounds_toArray]
                    try simp only [List.set_cons_succ]
                    try simp only [List.set_cons_zero]
                    refine wpAnyH_ready (rs := [7]) (by kernel_rfl) (by simp) ?_
                    refine AllReadyH.cons rfl (fun KK0 hK => ?_) AllReadyH.nil
                    rw [if_pos (by kernel_rfl)]
                    refine Model.calls_wp 20 #[.agg #[.int .i64 o.kind, .int .i64 o.why, .slice Ab1 r1 cb1, .slice Ab2 r2 cb2, .slice Ab3 r3 cb3, .slice Ab4 r4 cb4]] _ (Model.ref_m _ _ _ _ _ _ _ _ _ _ _ _ _ _ _) (Model.run_call _ _ _ rfl rfl Tryz.func20 (by kernel_rfl) (by kernel_rfl) _ (by kernel_rfl)) ?_
                    rintro e wq ⟨rfl, b_⟩
                    refine ⟨_, rfl, ?_⟩
                    replace bz := Lib.hid (bl_trans bz.out b_)
                    replace bq := Lib.hid (bl_trans bq.out b_)
                    clear b_
                    refine hK.out _ _ (KEEP.out _ bq.out) (fun hHeld2 => ?_)
                    clear hHeld1 hK KK0
                    try simp only [Act.put]
                    try simp only [List.setIfInBounds_toArray]
                    try simp only [List.set_cons_succ]
                    try simp only [List.set_cons_zero]
                    refine wpAnyH_ready (rs := [9]) (by kernel_rfl) (by simp) ?_
                    refine AllReadyH.cons rfl (fun KK0 hK => ?_) AllReadyH.nil
                    rw [if_pos (by kernel_rfl)]
                    refine Model.calls_wp 20 #[.agg #[.int .i64 o.kind, .int .i64 o.why, .slice Aa1 r1 ca1, .slice Aa2 r2 ca2, .slice Aa3 r3 ca3, .slice Aa4 r4 ca4]] _ (Model.ref_m _ _ _ _ _ _ _ _ _ _ _ _ _ _ _) (Model.run_call _ _ _ rfl rfl Tryz.func20 (by kernel_rfl) (by kernel_rfl) _ (by kernel_rfl)) ?_
                    rintro e wq ⟨rfl, b_⟩
                    refine ⟨_, rfl, ?_⟩
                    replace bz := Lib.hid (bl_trans bz.out b_)
                    replace bq := Lib.hid (bl_trans bq.out b_)
                    clear b_
                    refine hK.out _ _ (KEEP.out _ bq.out) (fun hHeld3 => ?_)
                    clear hHeld2 hK KK0
                    try simp only [Act.put]
                    try simp only [List.setIfInBounds_toArray]
                    try simp only [List.set_cons_succ]
                    try simp only [List.set_cons_zero]
                    refine wpAnyH_ready (rs := [10]) (by kernel_rfl) (by simp) ?_
                    refine AllReadyH.cons rfl (fun KK0 hK => ?_) AllReadyH.nil
                    rw [if_pos (by kernel_rfl)]
                    refine Model.calls_wp 19 #[.agg #[.int .i64 o.kind, .int .i64 o.why, .slice Ab1 r1 cb1, .slice Ab2 r2 cb2, .slice Ab3 r3 cb3, .slice Ab4 r4 cb4], .agg #[.int .i64 o.kind, .int .i64 o.why, .slice Aa1 r1 ca1, .slice Aa2 r2 ca2, .slice Aa3 r3 ca3, .slice Aa4 r4 ca4]] _ (Model.same_r o _ _ _ _ _ _ _ _ r1 r2 r3 r4 _ _ _ _ _ _ _ _ _ (OB.out.below bz.out) (OA.out.below bq.out) (by omega) (by omega) (by omega) (by omega)) (Model.run_call _ _ _ rfl rfl Tryz.func19 (by kernel_rfl) (by kernel_rfl) _ (by kernel_rfl)) ?_
                    rintro e wq ⟨rfl, b_⟩
                    refine ⟨_, rfl, ?_⟩
                    replace bq := Lib.hid (bl_trans bq.out b_)
                    clear b_
                    refine hK.out _ _ (KEEP.out _ bq.out) (fun hHeld4 => ?_)
                    clear hHeld3 hK KK0
                    try simp only [Act.put]
                    try simp only [List.setIfInBounds_toArray]
                    try simp only [List.set_cons_succ]
                    try simp only [List.set_cons_zero]
                    refine wpAnyH_take (i := 11) (v := .bool false) rfl (by kernel_rfl) (by kernel_rfl) (by kernel_rfl) (fun _ _ _ h => h) (Or.inl ⟨by kernel_rfl, fun W hS => by go_simp⟩) hHeld4 ?_
                    try simp only [Act.put]
                    try simp only [List.setIfInBounds_toArray]
                    try simp only [List.set_cons_succ]
                    try simp only [List.set_cons_zero]
                    refine wpAnyH_ready (rs := [12]) (by kernel_rfl) (by simp) ?_
                    refine AllReadyH.cons rfl (fun KK0 hK => ?_) AllReadyH.nil
                    go_simp
                    refine hK.out _ _ (KEEP.out _ bq.out) (fun hHeld5 => ?_)
                    clear hHeld4 hK KK0
                    try simp only [Act.put]
                    try simp only [List.setIfInBounds_toArray]
                    try simp only [List.set_cons_succ]
                    try simp only [List.set_cons_zero]
                    refine wpAnyH_done (by kernel_rfl) ?_ _
                    have d5 := (HK9.out.below bq.out).cell 5 _ rfl
                    replace bb := Lib.hid (bl_trans bb.out bq.out)
                    have HO2 := Lib.hid (HO1.out.below bq.out)
                    go_wp2_with fail
                    refine (Reads.same_c T9.reads h y.D _ _ y.dc hn hc _ true HO2.out.reads HO2.out.dn (HH0.out.below bb.out) (by have h1 := HI9.out.rlen; have h2 := HI9.out.top; have h3 := HI9.out.len; omega) (by omega) HSA.out).mono ?_
                    rintro e8 w8 ⟨rfl, b_⟩
                    replace bb := Lib.hid (bl_trans bb.out b_)
                    clear b_ d5
                    go_wp2_with fail
                    refine (awake_any _).mono ?_
                    rintro e wz ⟨rfl, b_⟩
                    replace bb := Lib.hid (bl_trans bb.out b_)
                    clear b_
                    go_wp2
                    go_ret
                    exact ⟨rfl, bb.out⟩
end Go.Proofs.YtadofonlkjkcmaaGreat.Attempt
