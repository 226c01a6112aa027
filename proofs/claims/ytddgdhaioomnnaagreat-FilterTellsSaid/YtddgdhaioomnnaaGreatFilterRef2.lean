/-
  WHAT THE DOCUMENT'S ANSWER FOR LAYER 16 RETURNS: Wake, Lie.
-/
import Derived.Test.YtddgdhaioomnnaaGreatFilterRef
import Derived.Test.YtddgdhaioomnnaaGreatFilterCode2
import Derived.Test.YtddgdhaioomnnaaGreatSleepRef2
import Derived.Test.YtddgdhaioomnnaaGreatMemA
import Derived.Deep.RegionHeld3
namespace Go.Proofs.YtddgdhaioomnnaaGreat.Filter
open Go.ChangeShapes Go.WideShapes Go.ChangeAt Go.RowKit Go.Deep Mem
open Heap (Write)
open Sleep

def qr (h : List Heap.Cell) (cs : List Int) (x : RawS) : Bool := wakeB h cs (st x)
theorem cc_filt (L : List RawS) (p : Sl → Bool) : cc (L.filter (fun x => p (st x))) = (cc L).filter p := by
  unfold cc; rw [List.filter_map]; rfl
set_option maxRecDepth 100000 in
set_option maxHeartbeats 8000000 in
theorem refwake_c (L : List RawS) (h : List Heap.Cell) (W : List Write) (A D E : Option Addr) (n c m d p f : Nat) (w : World) (S : List Sl) (q : Nat) (r : List Int) (hr : Sls w A n L) (hn : n ≤ 1000000) (hl : Lim L) (hh : Rd w 2 D m (Heap.cs h)) (hm : m ≤ 1000000)
    (hw : Rd w 2 E p (Heap.ws W)) (hp : p ≤ 1000000) (ha : wokenS (cc L) h (W.map Write.cell) = r) (hq : r.length = q) (hs : restS (cc L) h (W.map Write.cell) = S) :
    Calls Tryz.prog 8 #[.slice A n c, .slice D m d, .slice E p f] w (RetW w S q r) := by
  have HR := Lib.hid hr
  have HLim := Lib.hid hl
  have HLen := Lib.hid hr.len
  have HH := Lib.hid hh
  have HW := Lib.hid hw
  have HA := Lib.hid ha
  have HQ := Lib.hid hq
  have HS := Lib.hid hs
  obtain ⟨CS, hcs⟩ : ∃ C, W.map Write.cell = C := ⟨_, rfl⟩
  rw [hcs] at HA HS
  have HCS := Lib.hid hcs
  clear hr hl hh hw ha hq hs hcs
  obtain ⟨b1, h1⟩ : ∃ b, rightB (cc L) = b := ⟨_, rfl⟩
  have H1 := Lib.hid h1
  have HRC := Lib.hid (refright L A n c w b1 HR.out hn HLim.out h1)
  clear h1
  go_enter Tryz.func8, Tryz.ntmps8
  go_wp2_with fail
  refine HRC.out.mono ?_
  rintro e w1 ⟨rfl, b_⟩
  replace HR := Lib.hid (HR.out.below b_)
  replace HH := Lib.hid (HH.out.below b_)
  replace HW := Lib.hid (HW.out.below b_)
  have HB1 := Lib.hid b_
  clear b_ HRC
  cases b1
  · have HF : Hid (r = []) := Lib.hid (by rw [← HA.out]; unfold wokenS; rw [if_neg (by rw [H1.out]; decide)])
    have HF2 : Hid (S = cc L) := Lib.hid (by rw [← HS.out]; unfold restS; rw [if_neg (by rw [H1.out]; decide)])
    obtain rfl : q = 0 := by rw [← HQ.out, HF.out]; rfl
    go_wp2
    go_ret2
    exact ⟨A, n, c, L, none, 0, rfl, HR.out, HF2.out.symm, HLim.out, by rw [HF.out]; exact Rd.none_, HB1.out⟩
  · have HF : Hid (((L.filter (qr h CS)).map (fun x => x.who)) = r) := Lib.hid (by
      rw [← HA.out]; unfold wokenS; rw [if_pos H1.out, ← cc_filt L (wakeB h CS)]
      unfold cc; rw [List.map_map]; rfl)
    have HF2 : Hid (cc (L.filter (fun x => !qr h CS x)) = S) := Lib.hid (by
      rw [← HS.out]; unfold restS; rw [if_pos H1.out]; exact cc_filt L (fun s => !wakeB h CS s))
    go_wp2
    go_loopw [8, 9, 11] (fun v u i wr => ∃ (k a b : Nat), k ≤ n ∧ a ≤ k ∧ b ≤ k ∧ i = .int .i64 k ∧ Hid (((L.take k).filter (fun x => !qr h CS x)).length = a) ∧ Hid (((L.take k).filter (qr h CS)).length = b)
      ∧ Hid (Own w1 wr 44 5 v a (ss ((L.take k).filter (fun x => !qr h CS x)))) ∧ Hid (Own w1 wr 3 1 u b (zs (((L.take k).filter (qr h CS)).map (fun x => x.who)))) ∧ Hid (Apart v u)) (fun _ _ i _ => n - (intOf i).toNat)
    case atStart => exact ⟨0, 0, 0, Nat.zero_le _, Nat.le_refl _, Nat.le_refl _, rfl, Lib.hid rfl, Lib.hid rfl, Lib.hid (Own.nil_ (Below.refl _ _)), Lib.hid (Own.nil_ (Below.refl _ _)), Lib.hid (Apart.nil_ _)⟩
    case round =>
      obtain ⟨k, a, b, hk, hak, hbk, rfl, HAL, HBL, HV, HU, HAP⟩ := hrel
      generalize wr = w2 at *
      have HB2 := HV.out.2
      by_cases hlt : k < n
      · obtain ⟨b1, off, ⟨xw, xm, xt, xA, xn, xc, xW, xB, xk, xd, xT⟩, rfl, hx, c0, c1, c2, c3, c4, hin⟩ := (HR.out.below HB2).at_ k hlt
        have HTA := Lib.hid (take_fk L (fun x => !qr h CS x) k _ hx)
        have HTB := Lib.hid (take_fk L (qr h CS) k _ hx)
        have HXL := Lib.hid (HLim.out.at_ k _ hx)
        have HIN := Lib.hid hin
        obtain ⟨g1, hg1⟩ : ∃ g, mayS (st ⟨xw, xm, xt, xA, xn, xc, xW, xB, xk, xd, xT⟩) h = g := ⟨_, rfl⟩
        obtain ⟨g2, hg2⟩ : ∃ g, seesB xW CS = g := ⟨_, rfl⟩
        have HQR : Hid (qr h CS ⟨xw, xm, xt, xA, xn, xc, xW, xB, xk, xd, xT⟩ = (g2 && g1)) := Lib.hid (by unfold qr wakeB; rw [← hg1, ← hg2]; rfl)
        have HG1 := Lib.hid hg1
        have HG2 := Lib.hid hg2
        have KEEP : Hid (∀ V, Below w2.heap.size w2 V → V.cell? ⟨b1, off + k * 5, none⟩ = some (.int .i64 xw) ∧ V.cell? ⟨b1, off + k * 5 + 1, none⟩ = some (.int .i64 xm) ∧ V.cell? ⟨b1, off + k * 5 + 2, none⟩ = some (.int .i64 xt) ∧ V.cell? ⟨b1, off + k * 5 + 3, none⟩ = some (.slice xA xn xc) ∧ V.cell? ⟨b1, off + k * 5 + 4, none⟩ = some (.slice xB xk xd)) :=
          Lib.hid (fun V hV => ⟨(hV.cell (cell_lt c0)).trans c0, (hV.cell (cell_lt c1)).trans c1, (hV.cell (cell_lt c2)).trans c2, (hV.cell (cell_lt c3)).trans c3, (hV.cell (cell_lt c4)).trans c4⟩)
        have HB2' := Lib.hid HB2
        have bq : Hid (Below w2.heap.size w2 w2.drew) := Lib.hid (Below.refl _ _).drew
        clear hx hin hg1 hg2 HB2 c0 c1 c2 c3 c4
        go_wp2_with fail
        go_region_held3 (fun w' => w'.cell? ⟨b1, off + k * 5, none⟩ = some (.int .i64 xw) ∧ w'.cell? ⟨b1, off + k * 5 + 1, none⟩ = some (.int .i64 xm) ∧ w'.cell? ⟨b1, off + k * 5 + 2, none⟩ = some (.int .i64 xt) ∧ w'.cell? ⟨b1, off + k * 5 + 3, none⟩ = some (.slice xA xn xc) ∧ w'.cell? ⟨b1, off + k * 5 + 4, none⟩ = some (.slice xB xk xd)) (first | exact KEEP.out _ bq.out | go_keep)
          (first
          | (go_at_call 13
             refine (refmay_c ⟨xw, xm, xt, xA, xn, xc, xW, xB, xk, xd, xT⟩ h D m d _ g1 (HIN.out.below bq.out) HXL.out ((HH.out.below HB2'.out).below bq.out) hm HG1.out).mono ?_
             rintro e wq ⟨rfl, b5⟩
             replace bq := Lib.hid (bl_trans bq.out b5)
             clear b5)
          | (go_at_call 19
             refine (refmet_c ⟨xw, xm, xt, xA, xn, xc, xW, xB, xk, xd, xT⟩ W E p f _ g2 (HIN.out.below bq.out) HXL.out ((HW.out.below HB2'.out).below bq.out) hp (by rw [HCS.out]; exact HG2.out)).mono ?_
             rintro e wq ⟨rfl, b5⟩
             replace bq := Lib.hid (bl_trans bq.out b5)
             clear b5))
        all_goals
          obtain ⟨c0, c1, c2, c3, c4⟩ := KEEP.out _ bq.out
          have HV3 := Lib.hid (HV.out.below bq.out)
          have HU3 := Lib.hid (HU.out.below bq.out)
          clear HV HU
          obtain ⟨g, hg⟩ : ∃ g, (g2 && g1) = g := ⟨_, rfl⟩
          rw [hg] at HQR
          cases g
          · have HA2 : Hid ((L.take (k + 1)).filter (fun x => !qr h CS x) = (L.take k).filter (fun x => !qr h CS x) ++ [⟨xw, xm, xt, xA, xn, xc, xW, xB, xk, xd, xT⟩]) := Lib.hid (by rw [HTA.out, if_pos (by rw [HQR.out]; rfl)])
            have HB2 : Hid ((L.take (k + 1)).filter (qr h CS) = (L.take k).filter (qr h CS)) := Lib.hid (by rw [HTB.out, if_neg (by rw [HQR.out]; decide), List.append_nil])
            have tg : (g1 && g2) = false := by rw [Bool.and_comm]; exact hg
            have step : ∀ (v9 : Value) (w9 : World), Own w1 w9 44 5 v9 (a + 1) (ss ((L.take k).filter (fun x => !qr h CS x)) ++ sc ⟨xw, xm, xt, xA, xn, xc, xW, xB, xk, xd, xT⟩) → Own w1 w9 44 5 v9 (a + 1) (ss ((L.take (k + 1)).filter (fun x => !qr h CS x))) := fun v9 w9 ho => by
              rw [HA2.out, ss_app]; show Own w1 w9 _ 5 v9 (a + 1) (_ ++ ss [_]); unfold ss at ho ⊢; simpa using ho
            have STEP := Lib.hid step
            clear step
            cases g1
            · go_wp2_with (at_builtin; refine append_at rfl _ _ 30 rfl tRSleeper w1 _ a _ rfl (HV3.out.alloc _) _ 1 1 [.int .i64 xw, .int .i64 xm, .int .i64 xt, .slice xA xn xc, .slice xB xk xd] rfl (Rd.builtAt _ 5 1 [.int .i64 xw, .int .i64 xm, .int .i64 xt, .slice xA xn xc, .slice xB xk xd] _ rfl (by simp)) (sc_one ⟨xw, xm, xt, xA, xn, xc, xW, xB, xk, xd, xT⟩) (by omega) (by omega) ?_; intro v9 w9 o9 g9 a9; have HO9 := Lib.hid o9; have HBS := Lib.hid ((HU3.out.alloc _).beside HAP.out (HV3.out.alloc _) g9 a9); clear o9 g9 a9)
              go_roundw
              case rel => exact ⟨k + 1, a + 1, b, by omega, by omega, by omega, by go_num, Lib.hid (by rw [HA2.out, List.length_append, HAL.out]; rfl), Lib.hid (by rw [HB2.out]; exact HBL.out), Lib.hid (STEP.out _ _ HO9.out), Lib.hid (by rw [HB2.out]; exact HBS.out.1), Lib.hid HBS.out.2⟩
              case measure => simp [intOf]; omega
            · obtain rfl : g2 = false := by simpa using tg
              go_wp2_with (at_builtin; refine append_at rfl _ _ 30 rfl tRSleeper w1 _ a _ rfl (HV3.out.alloc _) _ 1 1 [.int .i64 xw, .int .i64 xm, .int .i64 xt, .slice xA xn xc, .slice xB xk xd] rfl (Rd.builtAt _ 5 1 [.int .i64 xw, .int .i64 xm, .int .i64 xt, .slice xA xn xc, .slice xB xk xd] _ rfl (by simp)) (sc_one ⟨xw, xm, xt, xA, xn, xc, xW, xB, xk, xd, xT⟩) (by omega) (by omega) ?_; intro v9 w9 o9 g9 a9; have HO9 := Lib.hid o9; have HBS := Lib.hid ((HU3.out.alloc _).beside HAP.out (HV3.out.alloc _) g9 a9); clear o9 g9 a9)
              go_roundw
              case rel => exact ⟨k + 1, a + 1, b, by omega, by omega, by omega, by go_num, Lib.hid (by rw [HA2.out, List.length_append, HAL.out]; rfl), Lib.hid (by rw [HB2.out]; exact HBL.out), Lib.hid (STEP.out _ _ HO9.out), Lib.hid (by rw [HB2.out]; exact HBS.out.1), Lib.hid HBS.out.2⟩
              case measure => simp [intOf]; omega
          · have HA2 : Hid ((L.take (k + 1)).filter (fun x => !qr h CS x) = (L.take k).filter (fun x => !qr h CS x)) := Lib.hid (by rw [HTA.out, if_neg (by rw [HQR.out]; decide), List.append_nil])
            have HB2 : Hid ((L.take (k + 1)).filter (qr h CS) = (L.take k).filter (qr h CS) ++ [⟨xw, xm, xt, xA, xn, xc, xW, xB, xk, xd, xT⟩]) := Lib.hid (by rw [HTB.out, if_pos HQR.out])
            obtain ⟨rfl, rfl⟩ : g2 = true ∧ g1 = true := by simpa using hg
            go_wp2_with (at_builtin; refine append_at rfl _ _ 32 rfl Mem.tInt w1 _ b _ rfl (HU3.out.alloc _) _ 1 1 [.int .i64 xw] rfl (Rd.builtAt _ 1 1 [.int .i64 xw] _ rfl (by simp)) (one_cons rfl one_nil) (by omega) (by omega) ?_; intro v9 w9 o9 g9 a9; have HO9 := Lib.hid o9; have HBS := Lib.hid ((HV3.out.alloc _).beside HAP.out.symm (HU3.out.alloc _) g9 a9); clear o9 g9 a9)
            go_roundw
            case rel => exact ⟨k + 1, a, b + 1, by omega, by omega, by omega, by go_num, Lib.hid (by rw [HA2.out]; exact HAL.out), Lib.hid (by rw [HB2.out, List.length_append, HBL.out]; rfl), Lib.hid (by rw [HA2.out]; exact HBS.out.1), Lib.hid (by rw [HB2.out, List.map_append, zs_app]; exact HO9.out), Lib.hid HBS.out.2.symm⟩
            case measure => simp [intOf]; omega
      · rw [List.take_of_length_le (by rw [HLen.out]; omega)] at HAL HBL HV HU
        rw [HF.out] at HU
        have hbq : b = q := by rw [← HQ.out, ← HF.out, List.length_map]; exact HBL.out.symm
        subst hbq
        obtain rfl : k = n := by omega
        obtain ⟨BV, dV, rfl, rv⟩ := HV.out.form
        obtain ⟨BU, dU, rfl, ru⟩ := HU.out.form
        have RV := Lib.hid rv
        have RU := Lib.hid ru
        have HBE := Lib.hid (bl_trans HB1.out HV.out.2)
        have HIN : Hid (Inners w2 (L.filter (fun x => !qr h CS x))) := Lib.hid (fun x hx => ((HR.out.below HV.out.2).2 x (List.mem_filter.1 hx).1))
        clear rv ru
        go_wp2
        go_ret2
        exact ⟨BV, a, dV, L.filter (fun x => !qr h CS x), BU, dU, rfl, ⟨RV.out, HIN.out⟩, HF2.out, fun x hx => HLim.out x (List.mem_filter.1 hx).1, RU.out, HBE.out⟩

set_option maxRecDepth 100000 in
set_option maxHeartbeats 4000000 in
theorem reflie_c (L : List RawS) (x : RawS) (h : List Heap.Cell) (A D : Option Addr) (n c m d : Nat) (w : World) (r : List Sl × Int) (hr : Sls w A n L) (hn : n ≤ 1000000) (hl : Lim L) (hi : Inner w x) (hx : Lim1 x) (hh : Rd w 2 D m (Heap.cs h)) (hm : m ≤ 1000000) (ha : lieS (cc L) (st x) h = r) :
    Calls Tryz.prog 10 #[.slice A n c, .agg (cS x), .slice D m d] w (RetP w r) := by
  obtain ⟨w1, hw1⟩ : ∃ w1, w1 = w.alloc (.cells (cS x) 44) := ⟨_, rfl⟩
  have K1 : Hid (Blk w1 w.heap.size 44 (cS x)) := Lib.hid (by rw [hw1]; exact Blk.new _ _ _)
  have B1 : Hid (Below w.heap.size w w1) := Lib.hid (by rw [hw1]; exact bl_alloc (Below.refl _ _) _)
  have HR := Lib.hid (hr.below B1.out)
  have HLim := Lib.hid hl
  have HXI := Lib.hid (hi.below B1.out)
  have HXL := Lib.hid hx
  have HH := Lib.hid (hh.below B1.out)
  have HA := Lib.hid ha
  obtain ⟨b2, h2⟩ : ∃ b, Heap.rightB h = b := ⟨_, rfl⟩
  have H2 := Lib.hid h2
  have HC := Lib.hid (Heap.right_any h D m d w1 HH.out hm)
  rw [h2] at HC
  clear hr hl hi hx hh ha h2
  obtain ⟨xw, xm, xt, xA, xn, xc, xW, xB, xk, xd, xT⟩ := x
  simp only [cS] at hw1 K1 ⊢
  -- the list as it came in, beside an error
  have back : Hid (∀ (w2 : World) (f : Int), Below w1.heap.size w1 w2 → r = (cc L, f) → RetP w r (.returned (.tuple #[.slice A n c, .int .i64 f])) w2) := Lib.hid (by
    intro w2 f hb hf
    exact ⟨A, n, c, L, by rw [hf], HR.out.below hb, by rw [hf], HLim.out, bl_trans B1.out hb⟩)
  cases b2
  · have HF : Hid (r = (cc L, 1)) := Lib.hid (by rw [← HA.out]; unfold lieS; rw [if_neg (by rw [H2.out]; decide)])
    go_enter Tryz.func10, Tryz.ntmps10
    go_wp2_with fail
    rw [← hw1]
    clear hw1
    refine HC.out.mono ?_
    rintro e w2 ⟨rfl, rfl⟩
    clear HC
    go_wp2
    go_ret2
    exact back.out w1 1 (Below.refl _ _) HF.out
  · go_enter Tryz.func10, Tryz.ntmps10
    go_wp2_with fail
    rw [← hw1]
    clear hw1
    refine HC.out.mono ?_
    rintro e w2 ⟨rfl, rfl⟩
    clear HC
    obtain ⟨⟨S, f⟩, hra⟩ : ∃ r, addS (cc L) (st ⟨xw, xm, xt, xA, xn, xc, xW, xB, xk, xd, xT⟩) = r := ⟨_, rfl⟩
    have HRA := Lib.hid hra
    have HC1 := Lib.hid (refadd L ⟨xw, xm, xt, xA, xn, xc, xW, xB, xk, xd, xT⟩ A n c w1 (S, f) HR.out hn HLim.out HXI.out HXL.out hra)
    simp only [cS] at HC1
    clear hra
    have q0 := K1.out.cell 0 _ rfl
    have q1 := K1.out.cell 1 _ rfl
    have q2 := K1.out.cell 2 _ rfl
    have q3 := K1.out.cell 3 _ rfl
    have q4 := K1.out.cell 4 _ rfl
    go_wp2_with fail
    clear q0 q1 q2 q3 q4
    refine HC1.out.mono ?_
    rintro e w3 ⟨B3, m3, d3, L3, rfl, s3, c3, l3, b3⟩
    have S3 := Lib.hid s3
    have C3 : Hid (cc L3 = S) := Lib.hid c3
    have L3' := Lib.hid l3
    have HB3 := Lib.hid b3
    replace K1 := Lib.hid (K1.out.below b3)
    clear s3 c3 l3 b3 HC1
    by_cases hf : f = 0
    · subst hf
      have HOB : Hid (oneB (st ⟨xw, xm, xt, xA, xn, xc, xW, xB, xk, xd, xT⟩) = true) := Lib.hid (add_ok (cc L) _ (by rw [HRA.out])).2.1
      obtain ⟨g, hg⟩ : ∃ g, mayS (st ⟨xw, xm, xt, xA, xn, xc, xW, xB, xk, xd, xT⟩) h = g := ⟨_, rfl⟩
      have HG := Lib.hid hg
      have HC2 := Lib.hid (refmay_c ⟨xw, xm, xt, xA, xn, xc, xW, xB, xk, xd, xT⟩ h D m d w3 g (HXI.out.below HB3.out) HXL.out (HH.out.below HB3.out) hm hg)
      simp only [cS] at HC2
      clear hg
      have q0 := K1.out.cell 0 _ rfl
      have q1 := K1.out.cell 1 _ rfl
      have q2 := K1.out.cell 2 _ rfl
      have q3 := K1.out.cell 3 _ rfl
      have q4 := K1.out.cell 4 _ rfl
      go_wp2_with fail
      clear q0 q1 q2 q3 q4
      refine HC2.out.mono ?_
      rintro e w4 ⟨rfl, b4⟩
      have HB4 := Lib.hid (bl_trans HB3.out b4)
      replace S3 := Lib.hid (S3.out.below b4)
      replace K1 := Lib.hid (K1.out.below b4)
      clear b4 HC2
      have q1 := K1.out.cell 1 _ rfl
      by_cases m1 : xm = 1
      · subst m1
        have HF : Hid (r = (S, 0)) := Lib.hid (by rw [← HA.out]; unfold lieS; rw [if_pos H2.out, HRA.out, if_pos rfl, if_neg (by rintro ⟨h, -⟩; exact h rfl)])
        go_wp2
        go_ret2
        exact ⟨B3, m3, d3, L3, by rw [HF.out] <;> rfl, S3.out, by rw [HF.out]; exact C3.out, L3'.out, bl_trans B1.out HB4.out⟩
      · have t1 : decide (1 < xm) = true := by
          rcases mode_one _ HOB.out with h | h | h
          · exact absurd h m1
          · have h' : xm = 2 := h
            simp; omega
          · have h' : xm = 3 := h
            simp; omega
        have HM1 : Hid (xm ≠ 1) := Lib.hid m1
        clear m1
        cases g
        · have HF : Hid (r = (S, 0)) := Lib.hid (by rw [← HA.out]; unfold lieS; rw [if_pos H2.out, HRA.out, if_pos rfl, if_neg (by rintro ⟨-, h⟩; rw [HG.out] at h; cases h)])
          go_wp2
          go_ret2
          exact ⟨B3, m3, d3, L3, by rw [HF.out] <;> rfl, S3.out, by rw [HF.out]; exact C3.out, L3'.out, bl_trans B1.out HB4.out⟩
        · have HF : Hid (r = (cc L, 9)) := Lib.hid (by rw [← HA.out]; unfold lieS; rw [if_pos H2.out, HRA.out, if_pos rfl, if_pos ⟨HM1.out, HG.out⟩])
          go_wp2
          go_ret2
          exact back.out w4 9 HB4.out HF.out
    · have t1 : (f != 0) = true := by simpa using hf
      have HF : Hid (r = (cc L, f)) := Lib.hid (by
        rw [← HA.out]; unfold lieS; rw [if_pos H2.out, if_neg (by rw [HRA.out]; exact hf), HRA.out])
      clear hf
      go_wp2
      go_ret2
      exact back.out w3 f HB3.out HF.out
end Go.Proofs.YtddgdhaioomnnaaGreat.Filter
