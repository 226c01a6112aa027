/-
  WHAT THE FUNCTIONS OF THE LAYER filter RETURN, AS THEY ARE WRITTEN: Woken, Wake, Lie.
-/
import Derived.Test.YtddgdhaioomnnaaFilterCode
import Derived.Test.YtddgdhaioomnnaaSleepOf
import Derived.Test.YtddgdhaioomnnaaSleepCode4
namespace Go.Proofs.Ytddgdhaioomnnaa.Filter
open Go.ChangeShapes Go.WideShapes Go.ChangeAt Go.RowKit Mem
open Heap (Write)
open Sleep

set_option maxRecDepth 100000 in
set_option maxHeartbeats 4000000 in
theorem woken_c (L : List RawS) (h : List Heap.Cell) (W : List Write) (A D E : Option Addr) (n c m d k f : Nat) (w : World) (r : List Int) (q : Nat) (hr : Sls w A n L) (hn : n ≤ 1000000) (hl : Lim L) (hh : Rd w 2 D m (Heap.cs h)) (hm : m ≤ 1000000)
    (hw : Rd w 2 E k (Heap.ws W)) (hk : k ≤ 1000000) (ha : wokenS (cc L) h (W.map Write.cell) = r) (hq : r.length = q) :
    Calls Try.prog 17 #[.slice A n c, .slice D m d, .slice E k f] w (RetO w 3 1 q (zs r)) := by
  have HR := Lib.hid hr
  have HLim := Lib.hid hl
  have HLen := Lib.hid hr.len
  have HH := Lib.hid hh
  have HQ := Lib.hid hq
  obtain ⟨O, hO⟩ : ∃ O, ofS (cc L) (W.map Write.cell) = O := ⟨_, rfl⟩
  have HA : Hid (O.filter (fun w => mayS (findS (cc L) w).1 h) = r) := Lib.hid (by rw [← ha, woken_of, hO])
  have HO := Lib.hid hO
  obtain ⟨p, hp⟩ : ∃ p, O.length = p := ⟨_, rfl⟩
  have HP := Lib.hid hp
  have hpn : p ≤ 1000000 := by have h1 := of_len (cc L) (W.map Write.cell); rw [hO, cc_len, HLen.out] at h1; omega
  have HC0 := Lib.hid (cellsof_c W E k f w hw hk)
  clear hr hl hh hq ha hO hp hw
  go_enter Try.func17, Try.ntmps17
  go_wp2_with fail
  refine HC0.out.mono ?_
  rintro e w1 ⟨v1, rfl, o1⟩
  obtain ⟨B1, d1, rfl, r1⟩ := o1.form
  have HB1 := Lib.hid o1.2
  have HC1 := Lib.hid (of_c L (W.map Write.cell) A B1 n c k d1 w1 O p (HR.out.below o1.2) hn HLim.out r1 hk HO.out HP.out)
  clear o1 r1 HC0
  go_wp2_with fail
  refine HC1.out.mono ?_
  rintro e w2 ⟨v2, rfl, o2⟩
  obtain ⟨B2, d2, rfl, r2⟩ := o2.form
  have HB2 := Lib.hid (bl_trans HB1.out o2.2)
  have HZ := Lib.hid r2
  clear o2 r2 HC1
  go_wp2
  go_loopw [7, 17] (fun v i wr => ∃ (k j : Nat), k ≤ p ∧ j ≤ k ∧ i = .int .i64 k ∧ Hid (((O.take k).filter (fun w => mayS (findS (cc L) w).1 h)).length = j) ∧ Own w2 wr 3 1 v j (zs ((O.take k).filter (fun w => mayS (findS (cc L) w).1 h)))) (fun _ i _ => p - (intOf i).toNat)
  case atStart => exact ⟨0, 0, Nat.zero_le _, Nat.le_refl _, rfl, Lib.hid rfl, Own.nil_ (Below.refl _ _)⟩
  case round =>
    obtain ⟨k, j, hk, hjk, rfl, HJ, hown⟩ := hrel
    generalize wr = w3 at *
    have HB3 := Lib.hid (bl_trans HB2.out hown.2)
    by_cases hlt : k < p
    · obtain ⟨b1, off, z, rfl, hx, c0⟩ := at_z (HZ.out.below hown.2) k hlt
      have HT := Lib.hid (take_fk O (fun w => mayS (findS (cc L) w).1 h) k z hx)
      obtain ⟨⟨s, e1⟩, hfs⟩ : ∃ r, findS (cc L) z = r := ⟨_, rfl⟩
      have HFS := Lib.hid hfs
      have HC := Lib.hid (findS_c L A n c z w3 (s, e1) (HR.out.below HB3.out) hn HLim.out hfs)
      clear hx hfs
      go_wp2_with fail
      refine HC.out.mono ?_
      rintro e w4 ⟨⟨yw, ym, yt, yA, yn, yc, yW, yB, yk, yd, yT⟩, rfl, hst, hin, hly, b4⟩
      have HB4 := Lib.hid (bl_trans HB3.out b4)
      obtain ⟨g, hg⟩ : ∃ g, mayS (st ⟨yw, ym, yt, yA, yn, yc, yW, yB, yk, yd, yT⟩) h = g := ⟨_, rfl⟩
      have HG : Hid (mayS (findS (cc L) z).1 h = g) := Lib.hid (by rw [HFS.out, ← hg]; show mayS s h = _; rw [← show st ⟨yw, ym, yt, yA, yn, yc, yW, yB, yk, yd, yT⟩ = s from hst])
      have hown4 := (hown.below b4).alloc (.cells #[.int .i64 yw, .int .i64 ym, .int .i64 yt, .slice yA yn yc, .slice yB yk yd] 36)
      have HC2 := Lib.hid (may_c ⟨yw, ym, yt, yA, yn, yc, yW, yB, yk, yd, yT⟩ h D m d (w4.alloc (.cells #[.int .i64 yw, .int .i64 ym, .int .i64 yt, .slice yA yn yc, .slice yB yk yd] 36)) g (hin.alloc _) hly ((HH.out.below HB4.out).alloc _) hm hg)
      have KY := Blk.new w4 36 #[.int .i64 yw, .int .i64 ym, .int .i64 yt, .slice yA yn yc, .slice yB yk yd]
      have e0 := KY.cell 0 _ rfl
      have e1 := KY.cell 1 _ rfl
      have e2 := KY.cell 2 _ rfl
      have e3 := KY.cell 3 _ rfl
      have e4 := KY.cell 4 _ rfl
      clear hst hin hly b4 HC hown KY hg c0
      simp only [cS] at HC2 ⊢
      go_wp2_with fail
      clear e0 e1 e2 e3 e4
      refine HC2.out.mono ?_
      rintro e w5 ⟨rfl, b5⟩
      have hown5 := hown4.below b5
      clear b5 HC2 hown4
      cases g
      · have HT2 : Hid ((O.take (k + 1)).filter (fun w => mayS (findS (cc L) w).1 h) = (O.take k).filter (fun w => mayS (findS (cc L) w).1 h)) := Lib.hid (by rw [HT.out, if_neg (by rw [HG.out]; decide), List.append_nil])
        have HO5 := Lib.hid hown5
        clear hown5
        go_wp2
        go_roundw
        case rel => exact ⟨k + 1, j, by omega, by omega, by go_num, Lib.hid (by rw [HT2.out]; exact HJ.out), by rw [HT2.out]; exact HO5.out⟩
        case measure => simp [intOf]; omega
      · have HT2 : Hid ((O.take (k + 1)).filter (fun w => mayS (findS (cc L) w).1 h) = (O.take k).filter (fun w => mayS (findS (cc L) w).1 h) ++ [z]) := Lib.hid (by rw [HT.out, if_pos HG.out])
        go_wp2_with (at_builtin; refine append_rd rfl _ _ 28 rfl Mem.tInt w2 _ _ _ rfl (hown5.alloc _) _ 1 1 [.int .i64 z] rfl (Rd.builtAt _ 1 1 [.int .i64 z] _ rfl (by simp)) (one_cons rfl one_nil) (by omega) (by omega) ?_; intro v' w' hown' hg; clear hg)
        go_roundw
        case rel => exact ⟨k + 1, j + 1, by omega, by omega, by go_num, Lib.hid (by rw [HT2.out, List.length_append, HJ.out]; rfl), by rw [HT2.out, zs_app]; exact hown'⟩
        case measure => simp [intOf]; omega
    · have ho := hown
      have hj := HJ.out
      rw [List.take_of_length_le (by rw [HP.out]; omega), HA.out] at ho hj
      have hjq : j = q := by rw [← HQ.out]; exact hj.symm
      subst hjq
      have HO := Lib.hid ho
      clear hown ho hj
      go_wp2
      go_ret
      exact ⟨_, rfl, HO.out.wide HB2.out⟩

/-- What is returned: who sleeps on, and who is woken. -/
def RetW (w : World) (S : List Sl) (q : Nat) (r : List Int) (e : Ending) (w' : World) : Prop :=
  ∃ B m d L C f, e = .returned (.tuple #[.slice B m d, .slice C q f]) ∧ Sls w' B m L ∧ cc L = S ∧ Lim L ∧ Rd w' 1 C q (zs r) ∧ Below w.heap.size w w'
set_option maxRecDepth 100000 in
theorem wake_c (L : List RawS) (h : List Heap.Cell) (W : List Write) (A D E : Option Addr) (n c m d k f : Nat) (w : World) (S : List Sl) (q : Nat) (r : List Int) (hr : Sls w A n L) (hn : n ≤ 1000000) (hl : Lim L) (hh : Rd w 2 D m (Heap.cs h)) (hm : m ≤ 1000000)
    (hw : Rd w 2 E k (Heap.ws W)) (hk : k ≤ 1000000) (ha : wokenS (cc L) h (W.map Write.cell) = r) (hq : r.length = q) (hs : restS (cc L) h (W.map Write.cell) = S) :
    Calls Try.prog 11 #[.slice A n c, .slice D m d, .slice E k f] w (RetW w S q r) := by
  subst hq
  have HR := Lib.hid hr
  have HLim := Lib.hid hl
  have HC0 := Lib.hid (woken_c L h W A D E n c m d k f w r r.length hr hn hl hh hm hw hk ha rfl)
  have HS : Hid ((dropS (cc L) r).1 = S) := Lib.hid (by rw [← ha, drop_woken]; exact hs)
  have hrl : r.length ≤ 1000000 := by have h1 := woken_le (cc L) h (W.map Write.cell); rw [ha, cc_len, hr.len] at h1; omega
  clear hr hl hh hw ha hs
  go_enter Try.func11, Try.ntmps11
  go_wp2_with fail
  refine HC0.out.mono ?_
  rintro e w1 ⟨v1, rfl, o1⟩
  obtain ⟨B1, d1, rfl, r1⟩ := o1.form
  have HB1 := Lib.hid o1.2
  have HZ := Lib.hid r1
  have HC1 := Lib.hid (drop_c L r A B1 n c r.length d1 w1 (dropS (cc L) r) (HR.out.below o1.2) hn HLim.out r1 hrl rfl)
  clear o1 r1 HC0
  go_wp2_with fail
  refine HC1.out.mono ?_
  rintro e w2 ⟨B, m2, d2, L2, rfl, h1, h2, h3, h4⟩
  have H1 := Lib.hid h1
  have H2 := Lib.hid h2
  have H3 := Lib.hid h3
  have H4 := Lib.hid (bl_trans HB1.out h4)
  replace HZ := Lib.hid (HZ.out.below h4)
  clear h1 h2 h3 h4 HC1
  go_wp2
  go_ret2
  exact ⟨B, m2, d2, L2, B1, d1, rfl, H1.out, by rw [H2.out]; exact HS.out, H3.out, HZ.out, H4.out⟩

set_option maxRecDepth 100000 in
set_option maxHeartbeats 4000000 in
theorem lie_c (L : List RawS) (x : RawS) (h : List Heap.Cell) (A D : Option Addr) (n c m d : Nat) (w : World) (r : List Sl × Int) (hr : Sls w A n L) (hn : n ≤ 1000000) (hl : Lim L) (hi : Inner w x) (hx : Lim1 x) (hh : Rd w 2 D m (Heap.cs h)) (hm : m ≤ 1000000) (ha : lieS (cc L) (st x) h = r) :
    Calls Try.prog 15 #[.slice A n c, .agg (cS x), .slice D m d] w (RetP w r) := by
  obtain ⟨w1, hw1⟩ : ∃ w1, w1 = w.alloc (.cells (cS x) 36) := ⟨_, rfl⟩
  have K1 : Hid (Blk w1 w.heap.size 36 (cS x)) := Lib.hid (by rw [hw1]; exact Blk.new _ _ _)
  have B1 : Hid (Below w.heap.size w w1) := Lib.hid (by rw [hw1]; exact bl_alloc (Below.refl _ _) _)
  have HR := Lib.hid hr
  have HLim := Lib.hid hl
  have HXI := Lib.hid hi
  have HXL := Lib.hid hx
  have HH := Lib.hid hh
  have HA := Lib.hid ha
  obtain ⟨b2, h2⟩ : ∃ b, Heap.rightB h = b := ⟨_, rfl⟩
  have H2 := Lib.hid h2
  have HC := Lib.hid (Heap.right_c h D m d w1 b2 (hh.below B1.out) hm h2)
  clear hr hl hi hx hh ha h2
  obtain ⟨xw, xm, xt, xA, xn, xc, xW, xB, xk, xd, xT⟩ := x
  simp only [cS] at hw1 K1 ⊢
  -- a copy, beside an error
  have back : Hid (∀ (w2 : World) (f : Int), Below w.heap.size w w2 → r = (cc L, f) → ∀ (e : Ending) (w3 : World), RetL w2 (cc L) e w3 → ∃ B m k, e = .returned (.slice B m k) ∧ RetP w r (.returned (.tuple #[.slice B m k, .int .i64 f])) w3) := Lib.hid (by
    rintro w2 f hb hf e w3 ⟨B, m, k, L1, rfl, h1, h2, h3, h4⟩
    exact ⟨B, m, k, rfl, B, m, k, L1, by rw [hf], h1, by rw [h2, hf], h3, bl_trans hb h4⟩)
  cases b2
  · have HF : Hid (r = (cc L, 1)) := Lib.hid (by rw [← HA.out]; unfold lieS; rw [if_neg (by rw [H2.out]; decide)])
    go_enter Try.func15, Try.ntmps15
    go_wp2_with fail
    rw [← hw1]
    clear hw1
    refine HC.out.mono ?_
    rintro e w2 ⟨rfl, b2⟩
    have B2 := Lib.hid (bl_trans B1.out b2)
    clear b2 HC
    have HCP := Lib.hid (copy_c L A n c w2 (HR.out.below B2.out) hn HLim.out)
    go_wp2_with fail
    refine HCP.out.mono ?_
    intro e w3 he
    obtain ⟨B, m3, k, rfl, hP⟩ := back.out w2 1 B2.out HF.out e w3 he
    have HP := Lib.hid hP
    clear he hP
    go_wp2
    go_ret2
    exact HP.out
  · go_enter Try.func15, Try.ntmps15
    go_wp2_with fail
    rw [← hw1]
    clear hw1
    refine HC.out.mono ?_
    rintro e w2 ⟨rfl, b2⟩
    have B2 := Lib.hid (bl_trans B1.out b2)
    replace K1 := Lib.hid (K1.out.below b2)
    clear b2 HC
    obtain ⟨⟨S, f⟩, hra⟩ : ∃ r, addS (cc L) (st ⟨xw, xm, xt, xA, xn, xc, xW, xB, xk, xd, xT⟩) = r := ⟨_, rfl⟩
    have HRA := Lib.hid hra
    have HC1 := Lib.hid (add_c L ⟨xw, xm, xt, xA, xn, xc, xW, xB, xk, xd, xT⟩ A n c w2 (S, f) (HR.out.below B2.out) hn HLim.out (HXI.out.below B2.out) HXL.out hra)
    simp only [cS] at HC1
    clear hra
    have q0 := K1.out.cell 0 _ rfl
    have q1 := K1.out.cell 1 _ rfl
    have q2 := K1.out.cell 2 _ rfl
    have q3 := K1.out.cell 3 _ rfl
    have q4 := K1.out.cell 4 _ rfl
    go_wp2_with fail
    clear q0 q1 q2 q3 q4
    refine HC1.out.mono ?_
    rintro e w3 ⟨B3, m3, d3, L3, rfl, s3, c3, l3, b3⟩
    have S3 := Lib.hid s3
    have C3 : Hid (cc L3 = S) := Lib.hid c3
    have L3' := Lib.hid l3
    have B3' := Lib.hid (bl_trans B2.out b3)
    replace K1 := Lib.hid (K1.out.below b3)
    clear s3 c3 l3 b3 HC1
    have q0 := K1.out.cell 0 _ rfl
    have q1 := K1.out.cell 1 _ rfl
    have q2 := K1.out.cell 2 _ rfl
    have q3 := K1.out.cell 3 _ rfl
    have q4 := K1.out.cell 4 _ rfl
    by_cases hf : f = 0
    · subst hf
      by_cases m1 : xm = 1
      · subst m1
        have HF : Hid (r = (S, 0)) := Lib.hid (by rw [← HA.out]; unfold lieS; rw [if_pos H2.out, HRA.out, if_pos rfl, if_neg (by rintro ⟨h, -⟩; exact h rfl)])
        go_wp2
        go_ret2
        exact ⟨B3, m3, d3, L3, by rw [HF.out] <;> rfl, S3.out, by rw [HF.out]; exact C3.out, L3'.out, B3'.out⟩
      · have t1 : (xm != 1) = true := by simpa using m1
        have HM1 : Hid (xm ≠ 1) := Lib.hid m1
        obtain ⟨g, hg⟩ : ∃ g, mayS (st ⟨xw, xm, xt, xA, xn, xc, xW, xB, xk, xd, xT⟩) h = g := ⟨_, rfl⟩
        have HG := Lib.hid hg
        have HC2 := Lib.hid (may_c ⟨xw, xm, xt, xA, xn, xc, xW, xB, xk, xd, xT⟩ h D m d w3 g (HXI.out.below B3'.out) HXL.out (HH.out.below B3'.out) hm hg)
        simp only [cS] at HC2
        clear hg m1
        go_wp2_with fail
        clear q0 q1 q2 q3 q4
        refine HC2.out.mono ?_
        rintro e w4 ⟨rfl, b4⟩
        have B4 := Lib.hid (bl_trans B3'.out b4)
        replace S3 := Lib.hid (S3.out.below b4)
        clear b4 HC2
        cases g
        · have HF : Hid (r = (S, 0)) := Lib.hid (by rw [← HA.out]; unfold lieS; rw [if_pos H2.out, HRA.out, if_pos rfl, if_neg (by rintro ⟨-, h⟩; rw [HG.out] at h; cases h)])
          go_wp2
          go_ret2
          exact ⟨B3, m3, d3, L3, by rw [HF.out] <;> rfl, S3.out, by rw [HF.out]; exact C3.out, L3'.out, B4.out⟩
        · have HF : Hid (r = (cc L, 9)) := Lib.hid (by rw [← HA.out]; unfold lieS; rw [if_pos H2.out, HRA.out, if_pos rfl, if_pos ⟨HM1.out, HG.out⟩])
          have HCP := Lib.hid (copy_c L A n c w4 (HR.out.below B4.out) hn HLim.out)
          go_wp2_with fail
          refine HCP.out.mono ?_
          intro e w5 he
          obtain ⟨B, m5, k, rfl, hP⟩ := back.out w4 9 B4.out HF.out e w5 he
          have HP := Lib.hid hP
          clear he hP
          go_wp2
          go_ret2
          exact HP.out
    · have t1 : (f != 0) = true := by simpa using hf
      have HF : Hid (r = (S, f)) := Lib.hid (by
        have h1 := add_err (cc L) (st ⟨xw, xm, xt, xA, xn, xc, xW, xB, xk, xd, xT⟩) (by rw [HRA.out]; exact hf)
        rw [← HA.out]; unfold lieS; rw [if_pos H2.out, if_neg (by rw [HRA.out]; exact hf), ← h1, HRA.out])
      clear hf q0 q1 q2 q3 q4
      go_wp2
      go_ret2
      exact ⟨B3, m3, d3, L3, by rw [HF.out] <;> rfl, S3.out, by rw [HF.out]; exact C3.out, L3'.out, B3'.out⟩
end Go.Proofs.Ytddgdhaioomnnaa.Filter
