/-
  THE WALK OF THE LAW SleepCells.
-/
import Derived.Test.YtakdeagaldnelaaSleepAwake
import Derived.Test.YtakdeagaldnelaaSleepTwiceW
import Derived.Test.YtakdeagaldnelaaMemA
import Derived.BigQuiet
namespace Go.Proofs.Ytakdeagaldnelaa.Sleep
open Go.ChangeShapes Go.WideShapes Go.ChangeAt Go.RowKit Mem
open Heap (Write)

theorem filt_split {α : Type} (L : List α) (p : α → Bool) (i : Nat) (x : α) (hx : L[i]? = some x) (hp : p x = true) : (L.filter p)[((L.take i).filter p).length]? = some x := by
  obtain ⟨h1, h2⟩ := List.getElem?_eq_some_iff.1 hx
  conv => lhs; arg 1; rw [← List.take_append_drop i L, List.drop_eq_getElem_cons h1, h2]
  rw [List.filter_append, List.filter_cons_of_pos hp, List.getElem?_append_right (Nat.le_refl _), Nat.sub_self]; rfl
theorem filt_len {α : Type} (L : List α) (p : α → Bool) (i : Nat) (x : α) (hx : L[i]? = some x) : ((L.take (i + 1)).filter p).length = ((L.take i).filter p).length + (if p x = true then 1 else 0) := by
  rw [List.take_add_one, hx, List.filter_append, List.length_append]
  by_cases h : p x = true
  · simp [h]
  · simp [h]
def cellB (c : Int) (s : Sl) : Bool := s.watch.any (fun w => w.cell == c)
def anyW (s : Sl) : Bool := decide (0 < s.watch.length)
theorem sees_one (W : List Write) (c : Int) : seesB W [c] = W.any (fun w => w.cell == c) := by
  unfold seesB
  congr 1
  funext w
  simp only [List.any_cons, List.any_nil, Bool.or_false]
  rw [Bool.eq_iff_iff, beq_iff_eq, beq_iff_eq]
  exact eq_comm
theorem sees_nil (W : List Write) : seesB W [] = false := by unfold seesB; simp
def allC (j : Nat) : List Int := (List.range j).map (fun (i : Nat) => (i : Int))
theorem allC_succ (j : Nat) : allC (j + 1) = allC j ++ [(j : Int)] := by unfold allC; rw [List.range_succ, List.map_append]; rfl
theorem sees_all (W : List Write) (h : watchB W = true) : seesB W (allC 64) = decide (0 < W.length) := by
  cases W with
  | nil => rfl
  | cons a W =>
    unfold watchB goodW at h
    rw [Bool.and_eq_true, Bool.and_eq_true, List.all_eq_true] at h
    have ha := h.2.1 a (List.mem_cons_self ..)
    unfold wOk at ha
    rw [Bool.and_eq_true, decide_eq_true_eq] at ha
    unfold seesB
    rw [decide_eq_true (by simp), List.any_cons]
    have : (allC 64).any (fun c => c == a.cell) = true := by
      rw [List.any_eq_true]
      refine ⟨a.cell, ?_, by simp⟩
      unfold allC
      rw [List.mem_map]
      exact ⟨a.cell.toNat, List.mem_range.2 (by omega), by omega⟩
    rw [this]; rfl
theorem of_one (L : List Sl) (c : Int) (h : rightB L = true) : ofS L [c] = (L.filter (cellB c)).map Sl.who := by
  unfold ofS
  rw [if_pos h]
  congr 1
  exact List.filter_congr (fun s _ => sees_one s.watch c)
theorem of_all (L : List Sl) (h : rightB L = true) : ofS L (allC 64) = (L.filter anyW).map Sl.who := by
  unfold ofS
  rw [if_pos h]
  congr 1
  refine List.filter_congr (fun s hs => ?_)
  have ho := right_one L h s hs
  unfold oneB at ho
  rw [Bool.and_eq_true, Bool.and_eq_true, Bool.and_eq_true] at ho
  exact sees_all s.watch ho.2.1
theorem of_nil (L : List Sl) : ofS L [] = [] := by
  unfold ofS
  split
  · rw [List.filter_eq_nil_iff.2 (fun s _ => by rw [sees_nil]; decide)]; rfl
  · rfl
theorem map_filt_take (L : List Sl) (q : Sl → Bool) (k : Nat) (x : Sl) (hx : L[k]? = some x) : ((L.take (k + 1)).filter q).map Sl.who = ((L.take k).filter q).map Sl.who ++ (if q x = true then [x.who] else []) := by
  rw [List.take_add_one, hx, List.filter_append, List.map_append]
  by_cases h : q x = true
  · simp [h]
  · simp [h]
set_option maxRecDepth 100000 in
set_option maxHeartbeats 8000000 in
theorem cells_walk (A : Option Addr) (n c : Nat) (L : List RawS) (cell : Int) (w : World) (mn : n ≤ 9223372036854775807) (hr : Sls w A n L) :
    Calls Try.prog 6 #[.slice A n c, .int .i64 cell] w (RetB w true) := by
  have SL := Lib.hid hr
  have HLn := Lib.hid hr.len
  clear hr
  have C0 := Lib.hid (small_c L A n c w (if smallB L = true then (n : Int) else -1) SL.out mn rfl)
  obtain ⟨s1_, h1⟩ : ∃ b, smallB L = b := ⟨_, rfl⟩
  cases s1_
  · rw [small_no L n h1] at C0
    go_enter Try.func6, Try.ntmps6
    go_wp2_with fail
    refine C0.out.mono ?_
    rintro e w2 ⟨rfl, b2⟩
    have bb := Lib.hid b2
    clear b2 C0
    go_wp2_with fail
    refine (awake_any _).mono ?_
    rintro e w3 ⟨rfl, b3⟩
    go_wp2
    go_ret
    exact ⟨rfl, bl_trans bb.out b3⟩
  · rw [small_yes L n h1] at C0
    obtain ⟨hl, hn20⟩ := small_lim L h1
    rw [HLn.out] at hn20
    have ML := Lib.hid hl
    have t0 : decide ((n : Int) < 0) = false := by simp
    clear hl h1
    obtain ⟨br, hbr⟩ : ∃ b, rightB (cc L) = b := ⟨_, rfl⟩
    have HBR := Lib.hid hbr
    clear hbr
    go_enter Try.func6, Try.ntmps6
    go_wp2_with fail
    refine C0.out.mono ?_
    rintro e w2 ⟨rfl, b2⟩
    have bb := Lib.hid b2
    replace SL := Lib.hid (SL.out.below b2)
    clear b2 C0
    have C1 := Lib.hid (right_c L A n c w2 br SL.out (by omega) ML.out HBR.out)
    cases br
    · go_wp2_with fail
      refine C1.out.mono ?_
      rintro e w3 ⟨rfl, b3⟩
      replace bb := Lib.hid (bl_trans bb.out b3)
      clear b3 C1
      go_wp2_with fail
      refine (awake_any _).mono ?_
      rintro e w4 ⟨rfl, b4⟩
      go_wp2
      go_ret
      exact ⟨rfl, bl_trans bb.out b4⟩
    · go_wp2_with fail
      refine C1.out.mono ?_
      rintro e w3 ⟨rfl, b3⟩
      replace bb := Lib.hid (bl_trans bb.out b3)
      replace SL := Lib.hid (SL.out.below b3)
      clear b3 C1
      obtain ⟨O1, hO1⟩ : ∃ O, ((cc L).filter (cellB cell)).map Sl.who = O := ⟨_, rfl⟩
      have HO1 := Lib.hid hO1
      have hlO : O1.length ≤ 20 := by rw [← hO1, List.length_map]; exact Nat.le_trans (List.length_filter_le _ _) (by rw [cc_len, HLn.out]; exact hn20)
      have HOL : Hid (O1.length = ((cc L).filter (cellB cell)).length) := Lib.hid (by rw [← hO1, List.length_map])
      clear hO1
      obtain ⟨q, hq⟩ : ∃ q, O1.length = q := ⟨_, rfl⟩
      have HQ := Lib.hid hq
      have C2 := Lib.hid (of_c L [cell] A (some ⟨w3.heap.size, 0, none⟩) n c 1 1 (w3.alloc (.cells #[.int .i64 cell] 3)) O1 q (SL.out.alloc _) (by omega) ML.out (Rd.built w3 1 1 (zs [cell]) _ rfl) (by decide) (by rw [of_one _ _ HBR.out]; exact HO1.out) hq)
      rw [hq] at hlO
      clear hq
      go_wp2_with fail
      refine C2.out.mono ?_
      rintro e w4 ⟨v4, rfl, o4⟩
      replace bb := Lib.hid (bl_trans (bl_alloc bb.out (.cells #[.int .i64 cell] 3)) o4.2)
      replace SL := Lib.hid ((SL.out.alloc (.cells #[.int .i64 cell] 3)).below o4.2)
      obtain ⟨BO, dO, rfl, r4⟩ := o4.form
      have RO := Lib.hid r4
      clear o4 r4 C2
      go_wp2
      go_loopw [6, 28] (fun v i wr => ∃ j : Nat, j ≤ 64 ∧ i = .int .i64 j ∧ Own w4 wr 3 1 v j (zs (allC j))) (fun _ i _ => 64 - (intOf i).toNat)
      case atStart => exact ⟨0, by decide, rfl, (Own.nil_ (Below.refl w4.heap.size w4) : Own w4 w4 3 1 (.slice none 0 0) 0 (zs (allC 0)))⟩
      case round =>
        obtain ⟨j, hj, rfl, hown⟩ := hrel
        generalize wr = w5 at *
        by_cases hlt : j < 64
        · have HAS := Lib.hid (allC_succ j)
          go_wp2_with (at_builtin; refine append_rd rfl _ _ 27 rfl Mem.tInt w4 _ _ _ rfl (hown.alloc _) _ 1 1 [.int .i64 (j : Int)] rfl (Rd.builtAt _ 1 1 [.int .i64 (j : Int)] _ rfl (by simp)) (one_cons rfl one_nil) (by omega) (by omega) ?_; intro v' w' hown' hg; clear hg)
          go_roundw
          case rel => exact ⟨j + 1, by omega, by go_num, by rw [HAS.out, zs_app]; exact hown'⟩
          case measure => simp [intOf]; omega
        · have HJ : Hid (j = 64) := Lib.hid (by omega)
          obtain ⟨BA, dA, rfl, rA⟩ := hown.form
          have RA := Lib.hid rA
          replace bb := Lib.hid (bl_trans bb.out hown.2)
          replace SL := Lib.hid (SL.out.below hown.2)
          replace RO := Lib.hid (RO.out.below hown.2)
          clear hown rA
          go_wp2
          clear hlt hj
          go_loopw [7, 9, 38] (fun v u i wr => ∃ (i_ : Nat) (k : Nat) (m : Nat), i_ ≤ n ∧ k ≤ i_ ∧ m ≤ i_ ∧ u = .int .i64 k ∧ i = .int .i64 i_ ∧ Hid (k = (((cc L).take i_).filter (cellB cell)).length) ∧ Hid (m = (((cc L).take i_).filter anyW).length) ∧ Hid (Own w5 wr 3 1 v m (zs ((((cc L).take i_).filter anyW).map Sl.who)))) (fun _ _ i _ => n - (intOf i).toNat)
          case atStart => exact ⟨0, 0, 0, Nat.zero_le _, Nat.le_refl _, Nat.le_refl _, rfl, rfl, Lib.hid rfl, Lib.hid rfl, Lib.hid (Own.nil_ (Below.refl _ _))⟩
          case round =>
            obtain ⟨i_, k, m, hi, hki, hmi, rfl, rfl, HK, HM, HOWN⟩ := hrel
            generalize wr = w6 at *
            obtain ⟨Bs, ds, rfl, -⟩ := HOWN.out.form
            by_cases hlt : i_ < n
            · obtain ⟨b1, off, ⟨xw, xm, xt, xA, xn, xc, xW, xB, xk, xd, xT⟩, rfl, hx, c0, c1, c2, c3, c4, hin⟩ := (SL.out.below HOWN.out.2).at_ i_ hlt
              have HAT := Lib.hid (cc_at L i_ _ hx)
              have HXW : Hid (Rd w6 2 xA xn (Heap.ws xW)) := Lib.hid hin.1
              have HXL : Hid (xW.length = xn) := Lib.hid hin.lenW
              have hxn : xn ≤ 1000000 := (ML.out.at_ i_ _ hx).1
              have HKN := Lib.hid (filt_len (cc L) (cellB cell) i_ _ (cc_at L i_ _ hx))
              have HMN := Lib.hid (filt_len (cc L) anyW i_ _ (cc_at L i_ _ hx))
              have HMT := Lib.hid (map_filt_take (cc L) anyW i_ _ (cc_at L i_ _ hx))
              have HSP : Hid (cellB cell (st ⟨xw, xm, xt, xA, xn, xc, xW, xB, xk, xd, xT⟩) = true → O1[k]? = some xw) := Lib.hid (fun hp => by
                rw [← HO1.out, List.getElem?_map, HK.out, filt_split (cc L) (cellB cell) i_ _ HAT.out hp]; rfl)
              clear hx hin
              have HBX := Lib.hid (Blk.new w6 26 #[.int .i64 xw, .int .i64 xm, .int .i64 xt, .slice xA xn xc, .slice xB xk xd])
              have HO7 := Lib.hid (HOWN.out.alloc (.cells #[.int .i64 xw, .int .i64 xm, .int .i64 xt, .slice xA xn xc, .slice xB xk xd] 26))
              have HXW7 := Lib.hid (HXW.out.alloc (.cells #[.int .i64 xw, .int .i64 xm, .int .i64 xt, .slice xA xn xc, .slice xB xk xd] 26))
              go_wp2_with fail
              clear c0 c1 c2 c3 c4
              generalize w6.alloc (.cells #[.int .i64 xw, .int .i64 xm, .int .i64 xt, .slice xA xn xc, .slice xB xk xd] 26) = w7 at *
              go_loopw [12, 45] (fun v i wr => ∃ (p : Nat) (met : Bool), p ≤ xn ∧ v = .bool met ∧ i = .int .i64 p ∧ Hid (Below w7.heap.size w7 wr) ∧ Hid ((xW.take p).any (fun w => w.cell == cell) = met)) (fun _ i _ => xn - (intOf i).toNat)
              case atStart => exact ⟨0, false, Nat.zero_le _, rfl, rfl, Lib.hid (Below.refl _ _), Lib.hid rfl⟩
              case round =>
                obtain ⟨p, met, hp, rfl, rfl, HB, HMET⟩ := hrel
                generalize wr = w8 at *
                by_cases hlp : p < xn
                · obtain ⟨b7, off7, ⟨cl, vl⟩, rfl, hy, d0, d1⟩ := Heap.at_write (HXW7.out.below HB.out) p hlp
                  have HS := Lib.hid (take_any xW (fun w => w.cell == cell) p _ hy)
                  clear hy
                  cases met
                  · obtain ⟨f, hf⟩ : ∃ f, (cl == cell) = f := ⟨_, rfl⟩
                    have HN : Hid ((xW.take (p + 1)).any (fun w => w.cell == cell) = f) := Lib.hid (by rw [HS.out, HMET.out, hf]; rfl)
                    go_wp2
                    go_roundw
                    case rel => exact ⟨p + 1, f, by omega, by first | rfl | simp [hf], by go_num, Lib.hid (bl_alloc HB.out _), HN⟩
                    case measure => simp [intOf]; omega
                  · have HN : Hid ((xW.take (p + 1)).any (fun w => w.cell == cell) = true) := Lib.hid (by rw [HS.out, HMET.out]; rfl)
                    go_wp2
                    go_roundw
                    case rel => exact ⟨p + 1, true, by omega, rfl, by go_num, Lib.hid (bl_alloc HB.out _), HN⟩
                    case measure => simp [intOf]; omega
                · have HCB : Hid (cellB cell (st ⟨xw, xm, xt, xA, xn, xc, xW, xB, xk, xd, xT⟩) = met) := Lib.hid (by have h5 := HMET.out; rw [List.take_of_length_le (by rw [HXL.out]; omega)] at h5; exact h5)
                  have HO8 := Lib.hid (HO7.out.below HB.out)
                  have KB := Lib.hid (HBX.out.below HB.out)
                  have q0 := KB.out.cell 0 _ rfl
                  have q3 := KB.out.cell 3 _ rfl
                  cases met
                  · have HK2 : Hid (k = (((cc L).take (i_ + 1)).filter (cellB cell)).length) := Lib.hid (by rw [HKN.out, if_neg (by rw [HCB.out]; decide), Nat.add_zero]; exact HK.out)
                    by_cases h0 : 0 < xn
                    · have hP : anyW (st ⟨xw, xm, xt, xA, xn, xc, xW, xB, xk, xd, xT⟩) = true := by unfold anyW; exact decide_eq_true (by show 0 < xW.length; rw [HXL.out]; exact h0)
                      have HM2 : Hid (m + 1 = (((cc L).take (i_ + 1)).filter anyW).length) := Lib.hid (by rw [HMN.out, if_pos hP, ← HM.out])
                      have HT2 : Hid ((((cc L).take (i_ + 1)).filter anyW).map Sl.who = (((cc L).take i_).filter anyW).map Sl.who ++ [xw]) := Lib.hid (by rw [HMT.out, if_pos hP]; rfl)
                      clear hP
                      go_wp2_with (at_builtin; refine append_rd rfl _ _ 27 rfl Mem.tInt w5 _ _ _ rfl (HO8.out.alloc _) _ 1 1 [.int .i64 xw] rfl (Rd.builtAt _ 1 1 [.int .i64 xw] _ rfl (by simp)) (one_cons rfl one_nil) (by omega) (by omega) ?_; intro v' w' hown' hg; clear hg)
                      go_roundw
                      case rel => exact ⟨i_ + 1, k, m + 1, by omega, by omega, by omega, rfl, by go_num, HK2, HM2, Lib.hid (by rw [HT2.out, zs_app]; exact hown')⟩
                      case measure => simp [intOf]; omega
                    · have hP : anyW (st ⟨xw, xm, xt, xA, xn, xc, xW, xB, xk, xd, xT⟩) = false := by unfold anyW; exact decide_eq_false (by show ¬ 0 < xW.length; rw [HXL.out]; exact h0)
                      have HM2 : Hid (m = (((cc L).take (i_ + 1)).filter anyW).length) := Lib.hid (by rw [HMN.out, if_neg (by rw [hP]; decide), Nat.add_zero]; exact HM.out)
                      have HT2 : Hid ((((cc L).take (i_ + 1)).filter anyW).map Sl.who = (((cc L).take i_).filter anyW).map Sl.who) := Lib.hid (by rw [HMT.out, if_neg (by rw [hP]; decide), List.append_nil])
                      clear hP
                      go_wp2
                      go_roundw
                      case rel => exact ⟨i_ + 1, k, m, by omega, by omega, by omega, rfl, by go_num, HK2, HM2, Lib.hid (by rw [HT2.out]; exact HO8.out)⟩
                      case measure => simp [intOf]; omega
                  · have HOK := Lib.hid (HSP.out HCB.out)
                    have hkq : k < q := by have := (List.getElem?_eq_some_iff.1 HOK.out).1; rw [HQ.out] at this; exact this
                    obtain ⟨b9, off9, z, rfl, hz, g0⟩ := at_z (RO.out.below HO8.out.2) k hkq
                    have hzx : z = xw := by have h7 := HOK.out; rw [hz] at h7; injection h7
                    subst hzx
                    have hge : decide ((q : Int) ≤ (k : Int)) = false := by simp; omega
                    have hne : (z != z) = false := by simp
                    have hw1 : IntKind.i64.wrap ((k : Int) + 1) = (k : Int) + 1 := by rw [IntKind.wrap_i64]; omega
                    have HK2 : Hid (k + 1 = (((cc L).take (i_ + 1)).filter (cellB cell)).length) := Lib.hid (by rw [HKN.out, if_pos HCB.out, ← HK.out])
                    have h0 : 0 < xn := by
                      rcases Nat.eq_zero_or_pos xn with h | h
                      · exfalso
                        have h5 := HCB.out
                        have h6 : xW = [] := List.eq_nil_of_length_eq_zero (by rw [HXL.out]; exact h)
                        unfold cellB st at h5
                        simp [h6] at h5
                      · exact h
                    have hP : anyW (st ⟨z, xm, xt, xA, xn, xc, xW, xB, xk, xd, xT⟩) = true := by unfold anyW; exact decide_eq_true (by show 0 < xW.length; rw [HXL.out]; exact h0)
                    have HM2 : Hid (m + 1 = (((cc L).take (i_ + 1)).filter anyW).length) := Lib.hid (by rw [HMN.out, if_pos hP, ← HM.out])
                    have HT2 : Hid ((((cc L).take (i_ + 1)).filter anyW).map Sl.who = (((cc L).take i_).filter anyW).map Sl.who ++ [z]) := Lib.hid (by rw [HMT.out, if_pos hP]; rfl)
                    clear hz hP
                    go_wp2_with fail
                    go_quiet (fail)
                    have HO9 := Lib.hid (HO8.out.below (bl_drewN (Below.refl _ w8) nq))
                    have KB9 := Lib.hid (KB.out.drewN nq)
                    clear q0 q3 g0
                    have q0 := KB9.out.cell 0 _ rfl
                    have q3 := KB9.out.cell 3 _ rfl
                    generalize w8.drewN nq = w9 at *
                    go_wp2_with (at_builtin; refine append_rd rfl _ _ 27 rfl Mem.tInt w5 _ _ _ rfl (HO9.out.alloc _) _ 1 1 [.int .i64 z] rfl (Rd.builtAt _ 1 1 [.int .i64 z] _ rfl (by simp)) (one_cons rfl one_nil) (by omega) (by omega) ?_; intro v' w' hown' hg; clear hg)
                    go_roundw
                    case rel => exact ⟨i_ + 1, k + 1, m + 1, by omega, by omega, by omega, by go_num, by go_num, HK2, HM2, Lib.hid (by rw [HT2.out, zs_app]; exact hown')⟩
                    case measure => simp [intOf]; omega
            · have HTK : Hid ((cc L).take i_ = cc L) := Lib.hid (List.take_of_length_le (by rw [cc_len, HLn.out]; omega))
              rw [HTK.out] at HK HM HOWN
              have hkq : k = q := by rw [HK.out, ← HOL.out]; exact HQ.out
              subst hkq
              replace bb := Lib.hid (bl_trans bb.out HOWN.out.2)
              replace SL := Lib.hid (SL.out.below HOWN.out.2)
              replace RA := Lib.hid (RA.out.below HOWN.out.2)
              obtain ⟨Bs2, ds2, hvs, rs⟩ := HOWN.out.form
              injection hvs with e1 e2 e3
              subst e1 e3
              have RS := Lib.hid rs
              have hm20 : m ≤ 20 := by omega
              have C3 := Lib.hid (of_c L (allC 64) A BA n c 64 dA w6 (((cc L).filter anyW).map Sl.who) m SL.out (by omega) ML.out (by have := RA.out; rw [HJ.out] at this; exact this) (by decide) (of_all _ HBR.out) (by rw [List.length_map, HM.out]))
              have C3' : Hid (Calls Try.prog 24 #[.slice A n c, .slice BA j dA] w6 (RetO w6 3 1 m (zs (((cc L).filter anyW).map Sl.who)))) := Lib.hid (by rw [HJ.out]; exact C3.out)
              clear rs e2 C3
              have tkk : ((k : Int) == (k : Int)) = true := by simp
              go_wp2_with fail
              refine C3'.out.mono ?_
              rintro e w7 ⟨v7, rfl, o7⟩
              obtain ⟨B7, d7, rfl, r7⟩ := o7.form
              have C4 := Lib.hid (numbers_b (((cc L).filter anyW).map Sl.who) (((cc L).filter anyW).map Sl.who) B7 Bs m m d7 ds w7 true r7 (RS.out.below o7.2) (by omega) (by omega) (by simp))
              replace bb := Lib.hid (bl_trans bb.out o7.2)
              replace SL := Lib.hid (SL.out.below o7.2)
              clear o7 r7 C3'
              go_wp2_with fail
              refine C4.out.mono ?_
              rintro e w8 ⟨rfl, b8⟩
              replace bb := Lib.hid (bl_trans bb.out b8)
              replace SL := Lib.hid (SL.out.below b8)
              clear b8 C4
              have C5 := Lib.hid (of_c L [] A none n c 0 0 w8 [] 0 SL.out (by omega) ML.out Rd.none_ (by decide) (of_nil _) rfl)
              go_wp2_with fail
              refine C5.out.mono ?_
              rintro e w9 ⟨v9, rfl, o9⟩
              obtain ⟨B9, d9, rfl, -⟩ := o9.form
              replace bb := Lib.hid (bl_trans bb.out o9.2)
              clear o9 C5
              go_wp2_with fail
              refine (awake_any _).mono ?_
              rintro e wz ⟨rfl, bz⟩
              go_wp2
              go_ret
              exact ⟨rfl, bl_trans bb.out bz⟩
end Go.Proofs.Ytakdeagaldnelaa.Sleep
