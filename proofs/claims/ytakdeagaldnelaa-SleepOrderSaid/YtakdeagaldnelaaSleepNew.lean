/-
  clone AND Add OF THE LAYER sleep ONCE MORE, AS THEY ARE WRITTEN, with where their answers lie: in blocks no older than the call.
-/
import Derived.Test.YtakdeagaldnelaaSleepCode4
namespace Go.Proofs.Ytakdeagaldnelaa.Sleep
open Go.ChangeShapes Go.WideShapes Go.ChangeAt Go.RowKit Mem
open Heap (Write)

/-- What is returned: as RetOP has it, all of it new. -/
def RetON (te : Nat) (w : World) (n : Nat) (S : List Sl) (e : Ending) (w' : World) : Prop :=
  ∃ v L, e = .returned v ∧ Own w w' te 5 v n (ss L) ∧ cc L = S ∧ Inners w' L ∧ Lim L ∧ Off v L ∧ ∀ x ∈ L, New1 w.heap.size x
/-- What is returned: as RetP has it, all of it new. -/
def RetPN (w : World) (r : List Sl × Int) (e : Ending) (w' : World) : Prop :=
  ∃ B m d L, e = .returned (.tuple #[.slice B m d, .int .i64 r.2]) ∧ Sls w' B m L ∧ cc L = r.1 ∧ Lim L ∧ Below w.heap.size w w' ∧ (∀ b off, B = some ⟨b, off, none⟩ → w.heap.size ≤ b) ∧ ∀ x ∈ L, New1 w.heap.size x
set_option maxRecDepth 100000 in
set_option maxHeartbeats 4000000 in
theorem clone_n (L : List RawS) (A : Option Addr) (n c : Nat) (w : World) (hr : Sls w A n L) (hn : n ≤ 1000000) (hl : Lim L) :
    Calls Try.prog 30 #[.slice A n c] w (RetON 26 w n (cc L)) := by
  have HR := Lib.hid hr
  have HLim := Lib.hid hl
  have HLen := Lib.hid hr.len
  clear hr hl
  go_enter Try.func30, Try.ntmps30
  go_wp2_with fail
  refine (clones_any L _ _ _ _ HR.out.1 hn).mono ?_
  rintro e w1 ⟨v1, rfl, ho⟩
  rcases Nat.eq_zero_or_pos n with h0 | h0
  · subst h0
    obtain ⟨B, d, rfl, hrd⟩ := ho.form
    have HO := Lib.hid ho
    clear ho hrd
    go_wp2
    go_loopw [9] (fun i wr => i = .int .i64 0 ∧ wr = w1) (fun i _ => 0)
    case atStart => exact ⟨rfl, rfl⟩
    case round =>
      obtain ⟨rfl, rfl⟩ := hrel
      go_wp2
      go_ret
      exact ⟨_, L, rfl, HO.out, rfl, HR.out.2.below HO.out.2, HLim.out, off_old HO.out HR.out.2, fun x hx => by have h := HLen.out; have := List.eq_nil_of_length_eq_zero h; subst this; cases hx⟩
  · obtain ⟨g, cap, rfl⟩ := own_lay ho h0
    have HO := Lib.hid ho
    have HOF := Lib.hid (off_old ho HR.out.2)
    clear ho
    go_wp2
    go_loopw [9] (fun i wr => ∃ k : Nat, k ≤ n ∧ i = .int .i64 k ∧ Hid (∃ L' : List RawS, Own w wr 26 5 (.slice (some ⟨g, 0, none⟩) n cap) n (ss L') ∧ cc L' = cc L ∧ Inners wr L' ∧ Lim L' ∧ Off (.slice (some ⟨g, 0, none⟩) n cap) L' ∧ ∀ (i : Nat) (x : RawS), i < k → L'[i]? = some x → New1 w.heap.size x)) (fun i _ => n - (intOf i).toNat)
    case atStart => exact ⟨0, Nat.zero_le _, rfl, Lib.hid ⟨L, HO.out, rfl, HR.out.2.below HO.out.2, HLim.out, HOF.out, fun i x hi => absurd hi (Nat.not_lt_zero _)⟩⟩
    case round =>
      obtain ⟨k, hk, rfl, HI⟩ := hrel
      generalize wr = w2 at *
      by_cases hlt : k < n
      · obtain ⟨L', i1, i2, i3, i4, i5, i6⟩ := HI.out
        have hlen : L'.length = n := by have := congrArg List.length i2; rw [cc_len, cc_len, HLen.out] at this; exact this
        obtain ⟨x, hx⟩ : ∃ x, L'[k]? = some x := ⟨_, List.getElem?_eq_getElem (by omega)⟩
        have hxin := i3 x (List.mem_of_getElem? hx)
        have hxn := i4 x (List.mem_of_getElem? hx)
        have hss := flat_at sc_len L' k x hx
        obtain ⟨xw, xm, xt, xA, xn, xc, xW, xB, xk, xd, xT⟩ := x
        have c0 : w2.cell? ⟨g, k * 5, none⟩ = some (.int .i64 xw) := (i1.1.cellAt (k * 5) (by omega)).trans (hss 0 (by decide))
        have c1 : w2.cell? ⟨g, k * 5 + 1, none⟩ = some (.int .i64 xm) := (i1.1.cellAt (k * 5 + 1) (by omega)).trans (hss 1 (by decide))
        have c2 : w2.cell? ⟨g, k * 5 + 2, none⟩ = some (.int .i64 xt) := (i1.1.cellAt (k * 5 + 2) (by omega)).trans (hss 2 (by decide))
        have c3 : w2.cell? ⟨g, k * 5 + 3, none⟩ = some (.slice xA xn xc) := (i1.1.cellAt (k * 5 + 3) (by omega)).trans (hss 3 (by decide))
        have c4 : w2.cell? ⟨g, k * 5 + 4, none⟩ = some (.slice xB xk xd) := (i1.1.cellAt (k * 5 + 4) (by omega)).trans (hss 4 (by decide))
        have HOWN := Lib.hid i1
        have HCC := Lib.hid i2
        have HINN := Lib.hid i3
        have HLL := Lib.hid i4
        have HOFF := Lib.hid i5
        have HNEW := Lib.hid i6
        have HSZ := Lib.hid i1.2.size
        have HX := Lib.hid hx
        have HXN := Lib.hid hxn
        have HXIN := Lib.hid hxin
        have HCL := Lib.hid (clone1_c ⟨xw, xm, xt, xA, xn, xc, xW, xB, xk, xd, xT⟩ (w2.alloc (.cells #[.int .i64 xw, .int .i64 xm, .int .i64 xt, .slice xA xn xc, .slice xB xk xd] 26)) (HXIN.out.alloc _) HXN.out)
        have HLT := Lib.hid (cell_lt c0)
        have HK : Hid (∀ V, Below w2.heap.size w2 V → V.cell? ⟨g, k * 5, none⟩ = some (.int .i64 xw) ∧ V.cell? ⟨g, k * 5 + 1, none⟩ = some (.int .i64 xm) ∧ V.cell? ⟨g, k * 5 + 2, none⟩ = some (.int .i64 xt) ∧ V.cell? ⟨g, k * 5 + 3, none⟩ = some (.slice xA xn xc) ∧ V.cell? ⟨g, k * 5 + 4, none⟩ = some (.slice xB xk xd)) :=
          Lib.hid (fun V h => ⟨(h.cell (cell_lt c0)).trans c0, (h.cell (cell_lt c1)).trans c1, (h.cell (cell_lt c2)).trans c2, (h.cell (cell_lt c3)).trans c3, (h.cell (cell_lt c4)).trans c4⟩)
        clear i1 i2 i3 i4 i5 i6 HI hss hx hxin hlen hxn
        go_wp2_with fail
        refine HCL.out.mono ?_
        rintro e w3 ⟨y, rfl, hst, hin, hly, hnw, hb⟩
        have HB := Lib.hid (bl_trans (bl_alloc (Below.refl w2.heap.size w2) (.cells #[.int .i64 xw, .int .i64 xm, .int .i64 xt, .slice xA xn xc, .slice xB xk xd] 26)) hb)
        have HST := Lib.hid hst
        have HIN := Lib.hid hin
        have HLY := Lib.hid hly
        have HNW : Hid (New1 (w2.heap.size + 1) y) := Lib.hid (by simpa only [World.size_alloc] using hnw)
        have HOW3 := Lib.hid (HOWN.out.below HB.out)
        obtain ⟨c0', c1', c2', c3', c4'⟩ := HK.out _ HB.out
        have f0 := HOW3.out.1.frozenAt (k * 5)
        have f1 := HOW3.out.1.frozenAt (k * 5 + 1)
        have f2 := HOW3.out.1.frozenAt (k * 5 + 2)
        have f3 := HOW3.out.1.frozenAt (k * 5 + 3)
        have f4 := HOW3.out.1.frozenAt (k * 5 + 4)
        obtain ⟨yw, ym, yt, yA, yn, yc, yW, yB, yk, yd, yT⟩ := y
        clear hst hin hly hnw hb HCL c0 c1 c2 c3 c4
        simp only [cS]
        go_wp2
        go_roundw
        case rel =>
          refine ⟨k + 1, by omega, by go_num, Lib.hid ⟨L'.set k ⟨yw, ym, yt, yA, yn, yc, yW, yB, yk, yd, yT⟩, ?_, ?_, ?_, ?_, ?_, ?_⟩⟩
          · exact own_set5 HOW3.out k _ ⟨yw, ym, yt, yA, yn, yc, yW, yB, yk, yd, yT⟩ HX.out
          · rw [cc_set L' k _ (⟨yw, ym, yt, yA, yn, yc, yW, yB, yk, yd, yT⟩ : RawS) HX.out HST.out]; exact HCC.out
          · intro z hz
            rcases mem_set hz with hz | rfl
            · have h9 := off_ne (HOFF.out z hz)
              exact Inner.set5 ((HINN.out z hz).below HB.out) h9.1 h9.2 k ⟨yw, ym, yt, yA, yn, yc, yW, yB, yk, yd, yT⟩
            · have h8 : g < w2.heap.size := HLT.out
              exact Inner.set5 HIN.out (fun b off e hn' => by have := HNW.out.1 b off e hn'; omega) (fun b off e hn' => by have := HNW.out.2 b off e hn'; omega) k ⟨yw, ym, yt, yA, yn, yc, yW, yB, yk, yd, yT⟩
          · intro z hz
            rcases mem_set hz with hz | rfl
            · exact HLL.out z hz
            · exact HLY.out
          · intro z hz
            rcases mem_set hz with hz | rfl
            · exact HOFF.out z hz
            · have h8 : g < w2.heap.size := HLT.out
              refine ⟨fun b off e hn' e2 => ?_, fun b off e hn' e2 => ?_⟩
              · have := HNW.out.1 b off e hn'
                have e3 : g = b := by simpa [Value.ownBlock] using e2
                omega
              · have := HNW.out.2 b off e hn'
                have e3 : g = b := by simpa [Value.ownBlock] using e2
                omega
          · intro i z hi hz
            by_cases hik : i = k
            · subst hik
              rw [List.getElem?_set_self (List.getElem?_eq_some_iff.1 HX.out).1] at hz
              injection hz with hz
              subst hz
              have h7 := HSZ.out
              exact ⟨fun b off e hn' => by have := HNW.out.1 b off e hn'; omega, fun b off e hn' => by have := HNW.out.2 b off e hn'; omega⟩
            · rw [List.getElem?_set_ne (fun e => hik e.symm)] at hz
              exact HNEW.out i z (by omega) hz
        case measure => simp [intOf]; omega
      · obtain rfl : k = n := by omega
        have HI2 := HI
        go_wp2
        go_ret
        obtain ⟨L', i1, i2, i3, i4, i5, i6⟩ := HI2.out
        have hlen : L'.length = k := by have := congrArg List.length i2; rw [cc_len, cc_len, HLen.out] at this; exact this
        exact ⟨_, L', rfl, i1, i2, i3, i4, i5, fun x hx => by obtain ⟨i, hi, e⟩ := List.getElem_of_mem hx; exact i6 i x (by omega) (by rw [List.getElem?_eq_getElem hi, e])⟩
set_option maxRecDepth 100000 in
set_option maxHeartbeats 4000000 in
theorem add_n (L : List RawS) (x : RawS) (A : Option Addr) (n c : Nat) (w : World) (r : List Sl × Int) (hr : Sls w A n L) (hn : n ≤ 1000000) (hl : Lim L) (hi : Inner w x) (hx : Lim1 x) (ha : addS (cc L) (st x) = r) :
    Calls Try.prog 12 #[.slice A n c, .agg (cS x)] w (RetPN w r) := by
  have HR := Lib.hid hr
  have HLim := Lib.hid hl
  have HLen := Lib.hid hr.len
  have HXL := Lib.hid hx
  have HXI := Lib.hid hi
  have HA := Lib.hid ha
  clear hr hl hx hi ha
  obtain ⟨w1, hw1⟩ : ∃ w1, w1 = w.alloc (.cells (cS x) 26) := ⟨_, rfl⟩
  have HBK : Hid (Blk w1 w.heap.size 26 (cS x)) := Lib.hid (by rw [hw1]; exact Blk.new _ _ _)
  have HB1 : Hid (Below w.heap.size w w1) := Lib.hid (by rw [hw1]; exact bl_alloc (Below.refl _ _) _)
  have HCL := Lib.hid (clone_n L A n c w1 (HR.out.below HB1.out) hn HLim.out)
  obtain ⟨xw, xm, xt, xA, xn, xc, xW, xB, xk, xd, xT⟩ := x
  simp only [cS] at HBK hw1 ⊢
  go_enter Try.func12, Try.ntmps12
  go_wp2_with fail
  rw [← hw1]
  clear hw1
  refine HCL.out.mono ?_
  rintro e w2 ⟨v1, L1, rfl, o1, o2, o3, o4, o5, o6⟩
  have HO := Lib.hid o1
  have HCC := Lib.hid o2
  have HI := Lib.hid o3
  have HLL := Lib.hid o4
  have HOFF := Lib.hid o5
  have HNEW : Hid (∀ x ∈ L1, New1 w.heap.size x) := Lib.hid (fun x hx => by have h1 := o6 x hx; have h2 := HB1.out.size; exact ⟨fun b off e hn' => by have := h1.1 b off e hn'; omega, fun b off e hn' => by have := h1.2 b off e hn'; omega⟩)
  clear o1 o2 o3 o4 o5 o6 HCL
  have HL1 : Hid (L1.length = n) := Lib.hid (by have := congrArg List.length HCC.out; rw [cc_len, cc_len, HLen.out] at this; exact this)
  have HB2 := Lib.hid (bl_trans HB1.out HO.out.2)
  -- what comes back with an error
  have back : Hid (∀ (w3 : World) (f : Int), Below w2.heap.size w2 w3 → r = (cc L, f) → RetPN w r (.returned (.tuple #[v1, .int .i64 f])) w3) := Lib.hid (by
    intro w3 f hb hf
    obtain ⟨B, d, hv, hrd⟩ := HO.out.form
    exact ⟨B, n, d, L1, by rw [hv, hf], ⟨hrd.below hb, HI.out.below hb⟩, by rw [HCC.out, hf], HLL.out, bl_trans HB2.out hb, fun b' off' e' => by have h1 := HO.out.base b' (by rw [hv, e']; rfl); have h2 := HB1.out.size; omega, HNEW.out⟩)
  obtain ⟨b1, h1⟩ : ∃ b, rightB (cc L) = b := ⟨_, rfl⟩
  obtain ⟨b2, h2⟩ : ∃ b, oneB (st ⟨xw, xm, xt, xA, xn, xc, xW, xB, xk, xd, xT⟩) = b := ⟨_, rfl⟩
  have HRC := Lib.hid (right_c L A n c w2 b1 (HR.out.below HB2.out) hn HLim.out h1)
  have H1 := Lib.hid h1
  have H2 := Lib.hid h2
  clear h1 h2
  cases b1
  · have HF : Hid (r = (cc L, 1)) := Lib.hid (by rw [← HA.out]; unfold addS; rw [H1.out]; rfl)
    go_wp2_with fail
    refine HRC.out.mono ?_
    rintro e w3 ⟨rfl, b3⟩
    go_wp2
    go_ret2
    exact back.out w3 1 b3 HF.out
  · go_wp2_with fail
    refine HRC.out.mono ?_
    rintro e w3 ⟨rfl, b3⟩
    have HB3 := Lib.hid (bl_trans HB2.out b3)
    have HB23 := Lib.hid b3
    have K3 := Lib.hid ((HBK.out.below HO.out.2).below b3)
    have q0 := K3.out.cell 0 _ rfl
    have q1 := K3.out.cell 1 _ rfl
    have q2 := K3.out.cell 2 _ rfl
    have q3 := K3.out.cell 3 _ rfl
    have q4 := K3.out.cell 4 _ rfl
    have HOC := Lib.hid (one_c ⟨xw, xm, xt, xA, xn, xc, xW, xB, xk, xd, xT⟩ w3 b2 (HXI.out.below HB3.out) HXL.out H2.out)
    clear b3 HRC
    cases b2
    · have HF : Hid (r = (cc L, 1)) := Lib.hid (by rw [← HA.out]; unfold addS; rw [H1.out, H2.out]; rfl)
      go_wp2_with fail
      refine HOC.out.mono ?_
      rintro e w4 ⟨rfl, b4⟩
      have HB24 := Lib.hid (bl_trans HB23.out b4)
      clear b4 q0 q1 q2 q3 q4
      go_wp2
      go_ret2
      exact back.out w4 1 HB24.out HF.out
    · go_wp2_with fail
      refine HOC.out.mono ?_
      rintro e w4 ⟨rfl, b4⟩
      have HB4 := Lib.hid (bl_trans HB3.out b4)
      have HB24 := Lib.hid (bl_trans HB23.out b4)
      have K4 := Lib.hid (K3.out.below b4)
      clear b4 q0 q1 q2 q3 q4 HOC
      have q0 := K4.out.cell 0 _ rfl
      obtain ⟨f, hf⟩ : ∃ f, hasB (cc L) xw = f := ⟨_, rfl⟩
      have HFC := Lib.hid (find_c L A n c xw w4 f (HR.out.below HB4.out) hn H1.out hf)
      have HF0 := Lib.hid hf
      clear hf
      go_wp2_with fail
      refine HFC.out.mono ?_
      rintro e w5 ⟨p, rfl, hp, b5⟩
      have HB5 := Lib.hid (bl_trans HB4.out b5)
      have HB25 := Lib.hid (bl_trans HB24.out b5)
      have K5 := Lib.hid (K4.out.below b5)
      have HP := Lib.hid hp
      clear b5 q0 hp HFC
      cases f
      · have HF : Hid (r = (insS (cc L) (st ⟨xw, xm, xt, xA, xn, xc, xW, xB, xk, xd, xT⟩), 0)) := Lib.hid (by
          rw [← HA.out]; unfold addS; rw [H1.out, H2.out]
          rw [if_pos (by rfl), if_neg (by show ¬ hasB (cc L) xw = true; rw [HF0.out]; decide)])
        have HIN := Lib.hid (found_ins (cc L) (st ⟨xw, xm, xt, xA, xn, xc, xW, xB, xk, xd, xT⟩) p false HP.out)
        have hpn : p ≤ n := by have := HP.out.1; rw [cc_len, HLen.out] at this; exact this
        have q0 := K5.out.cell 0 _ rfl
        have q1 := K5.out.cell 1 _ rfl
        have q2 := K5.out.cell 2 _ rfl
        have q3 := K5.out.cell 3 _ rfl
        have q4 := K5.out.cell 4 _ rfl
        have HC1 := Lib.hid (clone1_c ⟨xw, xm, xt, xA, xn, xc, xW, xB, xk, xd, xT⟩ w5 (HXI.out.below HB5.out) HXL.out)
        go_wp2_with fail
        refine HC1.out.mono ?_
        rintro e w6 ⟨y, rfl, hst, hin, hly, hnw, hb⟩
        have HST := Lib.hid hst
        have HNI := Lib.hid hin
        have HLY := Lib.hid hly
        have HNW := Lib.hid hnw
        have HB26 := Lib.hid (bl_trans HB25.out hb)
        have HO6 := Lib.hid (HO.out.below HB26.out)
        have HOY := Lib.hid (off_new HO.out HB25.out.size hnw)
        clear hst hin hly hnw hb HC1 q0 q1 q2 q3 q4
        obtain ⟨yw, ym, yt, yA, yn, yc, yW, yB, yk, yd, yT⟩ := y
        simp only [cS]
        have HNE : Hid (v1.ownBlock ≠ some w6.heap.size) := Lib.hid (fun e => by have := HO6.out.lt _ e; omega)
        have HINS := Lib.hid (insert_c w1 (w6.alloc (.cells #[.int .i64 yw, .int .i64 ym, .int .i64 yt, .slice yA yn yc, .slice yB yk yd] 26)) v1 n p L1 ⟨yw, ym, yt, yA, yn, yc, yW, yB, yk, yd, yT⟩ w6.heap.size 1 (HO6.out.alloc _) hpn hn (Blk.new _ _ _) HNE.out)
        go_wp2_with fail
        refine HINS.out.mono ?_
        rintro e w7 ⟨v7, rfl, o7, g7⟩
        have HO7 := Lib.hid o7
        have HI7 : Hid (Inners w7 (L1.take p ++ (⟨yw, ym, yt, yA, yn, yc, yW, yB, yk, yd, yT⟩ : RawS) :: L1.drop p)) := Lib.hid (by
          refine Inners.grown (v := v1) (fun z hz => ?_) (fun z hz => ?_) g7
          · rcases mem_mid hz with hz | rfl
            · exact ((HI.out z hz).below HB26.out).alloc _
            · exact HNI.out.alloc _
          · rcases mem_mid hz with hz | rfl
            · exact HOFF.out z hz
            · exact HOY.out)
        clear o7 g7 HINS
        obtain ⟨B, d, rfl, hrd⟩ := HO7.out.form
        have HRD := Lib.hid hrd
        clear hrd
        go_wp2
        go_ret2
        refine ⟨B, n + 1, d, _, by rw [HF.out]; rfl, ⟨HRD.out, HI7.out⟩, ?_, ?_, bl_trans HB1.out HO7.out.2, fun b' off' e' => by have h1 := HO7.out.base b' (by rw [e']; rfl); have h2 := HB1.out.size; omega, ?_⟩
        · rw [HF.out]
          show _ = insS _ _
          rw [HIN.out, cc_app, cc_take, HCC.out]
          show _ ++ st _ :: cc (L1.drop p) = _
          rw [cc_drop, HCC.out, HST.out]
        · intro z hz
          rcases mem_mid hz with hz | rfl
          · exact HLL.out z hz
          · exact HLY.out
        · intro z hz
          rcases mem_mid hz with hz | rfl
          · exact HNEW.out z hz
          · have h7 := HB5.out.size
            exact ⟨fun b off e hn' => by have := HNW.out.1 b off e hn'; omega, fun b off e hn' => by have := HNW.out.2 b off e hn'; omega⟩
      · have HF : Hid (r = (cc L, 9)) := Lib.hid (by
          rw [← HA.out]; unfold addS; rw [H1.out, H2.out]
          rw [if_pos (by rfl), if_pos (by exact HF0.out)])
        go_wp2
        go_ret2
        exact back.out w5 9 HB25.out HF.out
end Go.Proofs.Ytakdeagaldnelaa.Sleep
