/-
  WHAT THE FUNCTIONS OF THE LAYER sleep RETURN, AS THEY ARE WRITTEN: Add.
-/
import Derived.Test.YtddgdhaioomnnaaSleepCode3
import Derived.Test.YtddgdhaioomnnaaSleepIns3
namespace Go.Proofs.Ytddgdhaioomnnaa.Sleep
open Go.ChangeShapes Go.WideShapes Go.ChangeAt Go.RowKit Mem
open Heap (Write)

theorem off_new {w0 w1 w : World} {te n : Nat} {v : Value} {xs : List Value} {y : RawS} (h : Own w0 w1 te 5 v n xs) (hb : w1.heap.size ≤ w.heap.size) (hy : New1 w.heap.size y) : Off1 v y := by
  refine ⟨fun b off e hn e2 => ?_, fun b off e hn e2 => ?_⟩
  · have h1 := h.lt b e2
    have h2 := hy.1 b off e hn
    omega
  · have h1 := h.lt b e2
    have h2 := hy.2 b off e hn
    omega
theorem mem_mid {L : List RawS} {p : Nat} {y z : RawS} (h : z ∈ L.take p ++ y :: L.drop p) : z ∈ L ∨ z = y := by
  rcases List.mem_append.1 h with h | h
  · exact .inl (List.mem_of_mem_take h)
  · rcases List.mem_cons.1 h with h | h
    · exact .inr h
    · exact .inl (List.mem_of_mem_drop h)
set_option maxRecDepth 100000 in
set_option maxHeartbeats 4000000 in
theorem add_c (L : List RawS) (x : RawS) (A : Option Addr) (n c : Nat) (w : World) (r : List Sl × Int) (hr : Sls w A n L) (hn : n ≤ 1000000) (hl : Lim L) (hi : Inner w x) (hx : Lim1 x) (ha : addS (cc L) (st x) = r) :
    Calls Try.prog 30 #[.slice A n c, .agg (cS x)] w (RetP w r) := by
  have HR := Lib.hid hr
  have HLim := Lib.hid hl
  have HLen := Lib.hid hr.len
  have HXL := Lib.hid hx
  have HXI := Lib.hid hi
  have HA := Lib.hid ha
  clear hr hl hx hi ha
  obtain ⟨w1, hw1⟩ : ∃ w1, w1 = w.alloc (.cells (cS x) 36) := ⟨_, rfl⟩
  have HBK : Hid (Blk w1 w.heap.size 36 (cS x)) := Lib.hid (by rw [hw1]; exact Blk.new _ _ _)
  have HB1 : Hid (Below w.heap.size w w1) := Lib.hid (by rw [hw1]; exact bl_alloc (Below.refl _ _) _)
  have HCL := Lib.hid (clone_p L A n c w1 (HR.out.below HB1.out) hn HLim.out)
  obtain ⟨xw, xm, xt, xA, xn, xc, xW, xB, xk, xd, xT⟩ := x
  simp only [cS] at HBK hw1 ⊢
  go_enter Try.func30, Try.ntmps30
  go_wp2_with fail
  rw [← hw1]
  clear hw1
  refine HCL.out.mono ?_
  rintro e w2 ⟨v1, L1, rfl, o1, o2, o3, o4, o5⟩
  have HO := Lib.hid o1
  have HCC := Lib.hid o2
  have HI := Lib.hid o3
  have HLL := Lib.hid o4
  have HOFF := Lib.hid o5
  clear o1 o2 o3 o4 o5 HCL
  have HL1 : Hid (L1.length = n) := Lib.hid (by have := congrArg List.length HCC.out; rw [cc_len, cc_len, HLen.out] at this; exact this)
  have HB2 := Lib.hid (bl_trans HB1.out HO.out.2)
  -- what comes back with an error
  have back : Hid (∀ (w3 : World) (f : Int), Below w2.heap.size w2 w3 → r = (cc L, f) → RetP w r (.returned (.tuple #[v1, .int .i64 f])) w3) := Lib.hid (by
    intro w3 f hb hf
    obtain ⟨B, d, hv, hrd⟩ := HO.out.form
    exact ⟨B, n, d, L1, by rw [hv, hf], ⟨hrd.below hb, HI.out.below hb⟩, by rw [HCC.out, hf], HLL.out, bl_trans HB2.out hb⟩)
  obtain ⟨b1, h1⟩ : ∃ b, rightB (cc L) = b := ⟨_, rfl⟩
  obtain ⟨b2, h2⟩ : ∃ b, oneB (st ⟨xw, xm, xt, xA, xn, xc, xW, xB, xk, xd, xT⟩) = b := ⟨_, rfl⟩
  have HRC := Lib.hid (right_c L A n c w2 b1 (HR.out.below HB2.out) hn HLim.out h1)
  have H1 := Lib.hid h1
  have H2 := Lib.hid h2
  clear h1 h2
  cases b1
  · have HF : Hid (r = (cc L, 1)) := Lib.hid (by rw [← HA.out]; unfold addS; rw [H1.out]; rfl)
    go_wp2_with fail
    refine HRC.out.mono ?_
    rintro e w3 ⟨rfl, b3⟩
    go_wp2
    go_ret2
    exact back.out w3 1 b3 HF.out
  · go_wp2_with fail
    refine HRC.out.mono ?_
    rintro e w3 ⟨rfl, b3⟩
    have HB3 := Lib.hid (bl_trans HB2.out b3)
    have HB23 := Lib.hid b3
    have K3 := Lib.hid ((HBK.out.below HO.out.2).below b3)
    have q0 := K3.out.cell 0 _ rfl
    have q1 := K3.out.cell 1 _ rfl
    have q2 := K3.out.cell 2 _ rfl
    have q3 := K3.out.cell 3 _ rfl
    have q4 := K3.out.cell 4 _ rfl
    have HOC := Lib.hid (one_c ⟨xw, xm, xt, xA, xn, xc, xW, xB, xk, xd, xT⟩ w3 b2 (HXI.out.below HB3.out) HXL.out H2.out)
    clear b3 HRC
    cases b2
    · have HF : Hid (r = (cc L, 1)) := Lib.hid (by rw [← HA.out]; unfold addS; rw [H1.out, H2.out]; rfl)
      go_wp2_with fail
      refine HOC.out.mono ?_
      rintro e w4 ⟨rfl, b4⟩
      have HB24 := Lib.hid (bl_trans HB23.out b4)
      clear b4 q0 q1 q2 q3 q4
      go_wp2
      go_ret2
      exact back.out w4 1 HB24.out HF.out
    · go_wp2_with fail
      refine HOC.out.mono ?_
      rintro e w4 ⟨rfl, b4⟩
      have HB4 := Lib.hid (bl_trans HB3.out b4)
      have HB24 := Lib.hid (bl_trans HB23.out b4)
      have K4 := Lib.hid (K3.out.below b4)
      clear b4 q0 q1 q2 q3 q4 HOC
      have q0 := K4.out.cell 0 _ rfl
      obtain ⟨f, hf⟩ : ∃ f, hasB (cc L) xw = f := ⟨_, rfl⟩
      have HFC := Lib.hid (find_c L A n c xw w4 f (HR.out.below HB4.out) hn H1.out hf)
      have HF0 := Lib.hid hf
      clear hf
      go_wp2_with fail
      refine HFC.out.mono ?_
      rintro e w5 ⟨p, rfl, hp, b5⟩
      have HB5 := Lib.hid (bl_trans HB4.out b5)
      have HB25 := Lib.hid (bl_trans HB24.out b5)
      have K5 := Lib.hid (K4.out.below b5)
      have HP := Lib.hid hp
      clear b5 q0 hp HFC
      cases f
      · have HF : Hid (r = (insS (cc L) (st ⟨xw, xm, xt, xA, xn, xc, xW, xB, xk, xd, xT⟩), 0)) := Lib.hid (by
          rw [← HA.out]; unfold addS; rw [H1.out, H2.out]
          rw [if_pos (by rfl), if_neg (by show ¬ hasB (cc L) xw = true; rw [HF0.out]; decide)])
        have HIN := Lib.hid (found_ins (cc L) (st ⟨xw, xm, xt, xA, xn, xc, xW, xB, xk, xd, xT⟩) p false HP.out)
        have hpn : p ≤ n := by have := HP.out.1; rw [cc_len, HLen.out] at this; exact this
        have q0 := K5.out.cell 0 _ rfl
        have q1 := K5.out.cell 1 _ rfl
        have q2 := K5.out.cell 2 _ rfl
        have q3 := K5.out.cell 3 _ rfl
        have q4 := K5.out.cell 4 _ rfl
        have HC1 := Lib.hid (clone1_c ⟨xw, xm, xt, xA, xn, xc, xW, xB, xk, xd, xT⟩ w5 (HXI.out.below HB5.out) HXL.out)
        go_wp2_with fail
        refine HC1.out.mono ?_
        rintro e w6 ⟨y, rfl, hst, hin, hly, hnw, hb⟩
        have HST := Lib.hid hst
        have HNI := Lib.hid hin
        have HLY := Lib.hid hly
        have HNW := Lib.hid hnw
        have HB26 := Lib.hid (bl_trans HB25.out hb)
        have HO6 := Lib.hid (HO.out.below HB26.out)
        have HOY := Lib.hid (off_new HO.out HB25.out.size hnw)
        clear hst hin hly hnw hb HC1 q0 q1 q2 q3 q4
        obtain ⟨yw, ym, yt, yA, yn, yc, yW, yB, yk, yd, yT⟩ := y
        simp only [cS]
        have HNE : Hid (v1.ownBlock ≠ some w6.heap.size) := Lib.hid (fun e => by have := HO6.out.lt _ e; omega)
        have HINS := Lib.hid (insert_c w1 (w6.alloc (.cells #[.int .i64 yw, .int .i64 ym, .int .i64 yt, .slice yA yn yc, .slice yB yk yd] 36)) v1 n p L1 ⟨yw, ym, yt, yA, yn, yc, yW, yB, yk, yd, yT⟩ w6.heap.size 1 (HO6.out.alloc _) hpn hn (Blk.new _ _ _) HNE.out)
        go_wp2_with fail
        refine HINS.out.mono ?_
        rintro e w7 ⟨v7, rfl, o7, g7⟩
        have HO7 := Lib.hid o7
        have HI7 : Hid (Inners w7 (L1.take p ++ (⟨yw, ym, yt, yA, yn, yc, yW, yB, yk, yd, yT⟩ : RawS) :: L1.drop p)) := Lib.hid (by
          refine Inners.grown (v := v1) (fun z hz => ?_) (fun z hz => ?_) g7
          · rcases mem_mid hz with hz | rfl
            · exact ((HI.out z hz).below HB26.out).alloc _
            · exact HNI.out.alloc _
          · rcases mem_mid hz with hz | rfl
            · exact HOFF.out z hz
            · exact HOY.out)
        clear o7 g7 HINS
        obtain ⟨B, d, rfl, hrd⟩ := HO7.out.form
        have HRD := Lib.hid hrd
        clear hrd
        go_wp2
        go_ret2
        refine ⟨B, n + 1, d, _, by rw [HF.out]; rfl, ⟨HRD.out, HI7.out⟩, ?_, ?_, bl_trans HB1.out HO7.out.2⟩
        · rw [HF.out]
          show _ = insS _ _
          rw [HIN.out, cc_app, cc_take, HCC.out]
          show _ ++ st _ :: cc (L1.drop p) = _
          rw [cc_drop, HCC.out, HST.out]
        · intro z hz
          rcases mem_mid hz with hz | rfl
          · exact HLL.out z hz
          · exact HLY.out
      · have HF : Hid (r = (cc L, 9)) := Lib.hid (by
          rw [← HA.out]; unfold addS; rw [H1.out, H2.out]
          rw [if_pos (by rfl), if_pos (by exact HF0.out)])
        go_wp2
        go_ret2
        exact back.out w5 9 HB25.out HF.out
end Go.Proofs.Ytddgdhaioomnnaa.Sleep
