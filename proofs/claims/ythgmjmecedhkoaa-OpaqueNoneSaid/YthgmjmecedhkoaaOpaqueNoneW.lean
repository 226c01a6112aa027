/-
  THE WALK OF THE LAW OpaqueNone.
-/
import Derived.Test.YthgmjmecedhkoaaOpaqueLaw
import Derived.Test.YthgmjmecedhkoaaMem2
namespace Go.Proofs.Ythgmjmecedhkoaa.Opaque
open Go.ChangeShapes Go.WideShapes Go.ChangeAt Go.RowKit Mem

theorem vs_take (L : List RawS) (k : Nat) (x : RawS) (hx : L[k]? = some x) : ((cc L).take (k + 1)).map St.v = ((cc L).take k).map St.v ++ [x.v] := by
  rw [List.take_add_one, cc_at L k x hx]; simp [st]
theorem own_fresh {w0 w : World} {e size n : Nat} {v : Value} {xs : List Value} (h : Mem.Own w0 w e size v n xs) : v.ownBlock ≠ some w.heap.size := fun e1 => by have := h.lt _ e1; omega
set_option maxRecDepth 100000 in
set_option maxHeartbeats 4000000 in
theorem none_walk (A : Option Addr) (n c : Nat) (L : List RawS) (cell : Int) (w : World) (mn : n ≤ 9223372036854775807) (hr : Past w A n L) (hcell : Heap.Fits cell) :
    Calls Try.prog 4 #[.slice A n c, .int .i64 cell] w (RetB w true) := by
  have HR := Lib.hid hr
  have HLen := Lib.hid hr.len
  clear hr
  cases hs : smallB L
  · have HS := Lib.hid hs
    clear hs
    go_enter Try.func4, Try.ntmps4
    go_wp2_with fail
    refine (small_c L _ _ _ _ false HR.out mn HS.out).mono ?_
    rintro e w1 ⟨rfl, b1⟩
    go_wp2_with fail
    refine (awake_any _).mono ?_
    rintro e w2 ⟨rfl, b2⟩
    go_wp2
    go_ret
    exact ⟨rfl, bl_trans b1 b2⟩
  have HS := Lib.hid hs
  have HLim := Lib.hid (small_lim L hs).1
  have hn : n ≤ 30 := by have := (small_lim L hs).2; rw [HLen.out] at this; exact this
  clear hs
  cases h1 : rightB (cc L)
  · have H1 := Lib.hid h1
    clear h1
    go_enter Try.func4, Try.ntmps4
    go_wp2_with fail
    refine (small_c L _ _ _ _ true HR.out mn HS.out).mono ?_
    rintro e w1 ⟨rfl, b1⟩
    have HB1 := Lib.hid b1
    clear b1
    go_wp2_with fail
    refine (right_c L _ _ _ _ false (HR.out.below HB1.out) (by omega) HLim.out H1.out).mono ?_
    rintro e w1 ⟨rfl, b2⟩
    go_wp2_with fail
    refine (awake_any _).mono ?_
    rintro e w3 ⟨rfl, b3⟩
    go_wp2
    go_ret
    exact ⟨rfl, bl_trans HB1.out (bl_trans b2 b3)⟩
  have H1 := Lib.hid h1
  clear h1
  go_enter Try.func4, Try.ntmps4
  go_wp2_with fail
  refine (small_c L _ _ _ _ true HR.out mn HS.out).mono ?_
  rintro e w1 ⟨rfl, b1⟩
  have HB1 := Lib.hid b1
  clear b1
  go_wp2_with fail
  refine (right_c L _ _ _ _ true (HR.out.below HB1.out) (by omega) HLim.out H1.out).mono ?_
  rintro e w2 ⟨rfl, b2⟩
  have HB2 := Lib.hid (bl_trans HB1.out b2)
  clear b2
  go_wp2
  go_loopw [5, 6, 20] (fun u v i wr => ∃ k p : Nat, k ≤ n ∧ p ≤ k ∧ i = .int .i64 k ∧ Hid (Mem.Own w2 wr 3 1 u k (zs (((cc L).take k).map St.v))) ∧ Hid (Mem.Own w2 wr 3 1 v p (zs ((((cc L).take k).filter (hitB cell)).map St.v))) ∧ Hid (Apart u v)) (fun _ _ i _ => n - (intOf i).toNat)
  case atStart => exact ⟨0, 0, Nat.zero_le _, Nat.le_refl _, rfl, Lib.hid (Mem.Own.nil_ (Below.refl _ _)), Lib.hid (Mem.Own.nil_ (Below.refl _ _)), Lib.hid (Apart.nil_ _)⟩
  case round =>
    obtain ⟨k, p, hk, hpk, rfl, HU, HV, HAP⟩ := hrel
    generalize wr = w3 at *
    by_cases hlt : k < n
    · obtain ⟨b3, off, ⟨xv, xA, xn, xc, xh⟩, rfl, hx, c0, c1, hin⟩ := ((HR.out.below HB2.out).below HU.out.2).at_ k hlt
      have HIN := Lib.hid hin
      have HXL : Hid (xh.length = xn) := Lib.hid hin.len
      have HTA := Lib.hid (vs_take L k _ hx)
      have HTS := Lib.hid (span_take (cc L) (hitB cell) k _ (cc_at L k _ hx))
      have HBX := Lib.hid (Blk.new w3 39 #[.int .i64 xv, .slice xA xn xc])
      have HXX := Lib.hid hx
      clear hx hin
      have HIN2 : Hid (Rd w2 2 xA xn (Heap.cs xh)) := Lib.hid ((HR.out.below HB2.out).2 _ (List.mem_of_getElem? HXX.out))
      have HNE := Lib.hid (own_fresh HU.out)
      have T1 : Hid True := Lib.hid trivial
      by_cases hc0 : 0 ≤ cell
      · obtain ⟨j, rfl⟩ := Int.eq_ofNat_of_zero_le hc0
        by_cases hj : j < xn
        · obtain ⟨hb, hoff, ⟨lv, vl⟩, rfl, hy, q0, q1⟩ := Heap.at_cell HIN2.out j hj
          have HQ0 := Lib.hid q0
          have HQ1 := Lib.hid q1
          have HLV := Lib.hid (Heap.live_at xh j _ hy)
          have HVL := Lib.hid (Heap.val_at xh j _ hy)
          clear hy q0 q1 hc0
          cases lv
          · have HF : Hid (hitB (j : Int) (st ⟨xv, some ⟨hb, hoff, none⟩, xn, xc, xh⟩) = false) := Lib.hid (by unfold hitB st; rw [HLV.out]; rfl)
            have HTT : Hid (((List.take (k + 1) (cc L)).filter (hitB (j : Int))).map St.v = (((cc L).take k).filter (hitB (j : Int))).map St.v) := Lib.hid (by rw [HTS.out, HF.out]; simp)
            go_wp2_with (at_builtin; clear T1; refine append_at rfl _ _ 37 rfl Mem.tInt w2 _ k _ rfl ((HU.out.alloc _).alloc _) _ 1 1 [.int .i64 xv] rfl (Rd.builtAt _ 1 1 [.int .i64 xv] _ rfl (by simp)) (one_cons rfl one_nil) (by omega) (by omega) ?_; intro u' w' hown' hg' hat'; have HU2 := Lib.hid hown'; have HVA := Lib.hid (((HV.out.alloc _).alloc _).beside HAP.out ((HU.out.alloc _).alloc _) hg' hat'); have kb := (HBX.out.alloc _).grown hg' HNE.out; have p0 := kb.cell 0 _ rfl; have p1 := kb.cell 1 _ rfl; have HKB := Lib.hid kb; have d0 := (HU2.out.2.cell (cell_lt HQ0.out)).trans HQ0.out; have d1 := (HU2.out.2.cell (cell_lt HQ1.out)).trans HQ1.out; clear hown' hg' hat' kb)
            go_roundw
            case rel => exact ⟨k + 1, p, by omega, by omega, by go_num, by rw [HTA.out, zs_app]; exact HU2, by rw [HTT.out]; exact Lib.hid HVA.out.1, Lib.hid HVA.out.2⟩
            case measure => simp [intOf]; omega
          · by_cases h5 : vl = 5
            · subst h5
              have HF : Hid (hitB (j : Int) (st ⟨xv, some ⟨hb, hoff, none⟩, xn, xc, xh⟩) = true) := Lib.hid (by unfold hitB st; rw [HLV.out, HVL.out]; rfl)
              have HTT : Hid (((List.take (k + 1) (cc L)).filter (hitB (j : Int))).map St.v = (((cc L).take k).filter (hitB (j : Int))).map St.v ++ [xv]) := Lib.hid (by rw [HTS.out, HF.out]; simp [st])
              go_wp2_with (first
                | (at_builtin; clear T1; refine append_at rfl _ _ 37 rfl Mem.tInt w2 _ k _ rfl ((HU.out.alloc _).alloc _) _ 1 1 [.int .i64 xv] rfl (Rd.builtAt _ 1 1 [.int .i64 xv] _ rfl (by simp)) (one_cons rfl one_nil) (by omega) (by omega) ?_; intro u' w' hown' hg' hat'; have HU2 := Lib.hid hown'; have HVA := Lib.hid (((HV.out.alloc _).alloc _).beside HAP.out ((HU.out.alloc _).alloc _) hg' hat'); have kb := (HBX.out.alloc _).grown hg' HNE.out; have p0 := kb.cell 0 _ rfl; have p1 := kb.cell 1 _ rfl; have HKB := Lib.hid kb; have d0 := (HU2.out.2.cell (cell_lt HQ0.out)).trans HQ0.out; have d1 := (HU2.out.2.cell (cell_lt HQ1.out)).trans HQ1.out; clear hown' hg' hat' kb)
                | (at_builtin; refine append_at rfl _ _ 37 rfl Mem.tInt w2 _ p _ rfl (HVA.out.1.alloc _) _ 1 1 [.int .i64 xv] rfl (Rd.built _ 1 1 [.int .i64 xv] _ rfl) (one_cons rfl one_nil) (by omega) (by omega) ?_; intro v' w4 hown' hg' hat'; have HV3 := Lib.hid hown'; have HUA := Lib.hid ((HU2.out.alloc _).beside HVA.out.2.symm (HVA.out.1.alloc _) hg' hat'); clear hown' hg' hat'))
              go_roundw
              case rel => exact ⟨k + 1, p + 1, by omega, by omega, by go_num, by rw [HTA.out, zs_app]; exact Lib.hid HUA.out.1, by rw [HTT.out, zs_app]; exact HV3, Lib.hid HUA.out.2.symm⟩
              case measure => simp [intOf]; omega
            · have t5 : (vl == 5) = false := by simpa using h5
              have HF : Hid (hitB (j : Int) (st ⟨xv, some ⟨hb, hoff, none⟩, xn, xc, xh⟩) = false) := Lib.hid (by unfold hitB st; rw [HLV.out, HVL.out]; simpa using h5)
              have HTT : Hid (((List.take (k + 1) (cc L)).filter (hitB (j : Int))).map St.v = (((cc L).take k).filter (hitB (j : Int))).map St.v) := Lib.hid (by rw [HTS.out, HF.out]; simp)
              go_wp2_with (at_builtin; clear T1; refine append_at rfl _ _ 37 rfl Mem.tInt w2 _ k _ rfl ((HU.out.alloc _).alloc _) _ 1 1 [.int .i64 xv] rfl (Rd.builtAt _ 1 1 [.int .i64 xv] _ rfl (by simp)) (one_cons rfl one_nil) (by omega) (by omega) ?_; intro u' w' hown' hg' hat'; have HU2 := Lib.hid hown'; have HVA := Lib.hid (((HV.out.alloc _).alloc _).beside HAP.out ((HU.out.alloc _).alloc _) hg' hat'); have kb := (HBX.out.alloc _).grown hg' HNE.out; have p0 := kb.cell 0 _ rfl; have p1 := kb.cell 1 _ rfl; have HKB := Lib.hid kb; have d0 := (HU2.out.2.cell (cell_lt HQ0.out)).trans HQ0.out; have d1 := (HU2.out.2.cell (cell_lt HQ1.out)).trans HQ1.out; clear hown' hg' hat' kb)
              go_roundw
              case rel => exact ⟨k + 1, p, by omega, by omega, by go_num, by rw [HTA.out, zs_app]; exact HU2, by rw [HTT.out]; exact Lib.hid HVA.out.1, Lib.hid HVA.out.2⟩
              case measure => simp [intOf]; omega
        · have HF : Hid (hitB (j : Int) (st ⟨xv, xA, xn, xc, xh⟩) = false) := Lib.hid (by unfold hitB st; rw [Heap.live_out xh _ (by rw [HXL.out]; omega)]; rfl)
          have HTT : Hid (((List.take (k + 1) (cc L)).filter (hitB (j : Int))).map St.v = (((cc L).take k).filter (hitB (j : Int))).map St.v) := Lib.hid (by rw [HTS.out, HF.out]; simp)
          go_wp2_with (at_builtin; clear T1; refine append_at rfl _ _ 37 rfl Mem.tInt w2 _ k _ rfl ((HU.out.alloc _).alloc _) _ 1 1 [.int .i64 xv] rfl (Rd.builtAt _ 1 1 [.int .i64 xv] _ rfl (by simp)) (one_cons rfl one_nil) (by omega) (by omega) ?_; intro u' w' hown' hg' hat'; have HU2 := Lib.hid hown'; have HVA := Lib.hid (((HV.out.alloc _).alloc _).beside HAP.out ((HU.out.alloc _).alloc _) hg' hat'); have kb := (HBX.out.alloc _).grown hg' HNE.out; have p0 := kb.cell 0 _ rfl; have p1 := kb.cell 1 _ rfl; have HKB := Lib.hid kb; clear hown' hg' hat' kb)
          go_roundw
          case rel => exact ⟨k + 1, p, by omega, by omega, by go_num, by rw [HTA.out, zs_app]; exact HU2, by rw [HTT.out]; exact Lib.hid HVA.out.1, Lib.hid HVA.out.2⟩
          case measure => simp [intOf]; omega
      · have HF : Hid (hitB cell (st ⟨xv, xA, xn, xc, xh⟩) = false) := Lib.hid (by unfold hitB st; rw [Heap.live_out xh _ (by omega)]; rfl)
        have HTT : Hid (((List.take (k + 1) (cc L)).filter (hitB cell)).map St.v = (((cc L).take k).filter (hitB cell)).map St.v) := Lib.hid (by rw [HTS.out, HF.out]; simp)
        go_wp2_with (at_builtin; clear T1; refine append_at rfl _ _ 37 rfl Mem.tInt w2 _ k _ rfl ((HU.out.alloc _).alloc _) _ 1 1 [.int .i64 xv] rfl (Rd.builtAt _ 1 1 [.int .i64 xv] _ rfl (by simp)) (one_cons rfl one_nil) (by omega) (by omega) ?_; intro u' w' hown' hg' hat'; have HU2 := Lib.hid hown'; have HVA := Lib.hid (((HV.out.alloc _).alloc _).beside HAP.out ((HU.out.alloc _).alloc _) hg' hat'); have kb := (HBX.out.alloc _).grown hg' HNE.out; have p0 := kb.cell 0 _ rfl; have p1 := kb.cell 1 _ rfl; have HKB := Lib.hid kb; clear hown' hg' hat' kb)
        go_roundw
        case rel => exact ⟨k + 1, p, by omega, by omega, by go_num, by rw [HTA.out, zs_app]; exact HU2, by rw [HTT.out]; exact Lib.hid HVA.out.1, Lib.hid HVA.out.2⟩
        case measure => simp [intOf]; omega
    · obtain rfl : k = n := by omega
      have HTK : Hid ((cc L).take k = cc L) := Lib.hid (List.take_of_length_le (by rw [cc_len, HLen.out]; exact Nat.le_refl _))
      obtain ⟨BU, dU, rfl, hU⟩ := HU.out.form
      obtain ⟨BV, dV, rfl, hV⟩ := HV.out.form
      rw [HTK.out] at hU hV
      have HRU := Lib.hid hU
      have HRV := Lib.hid hV
      have HB3 := Lib.hid (bl_trans HB2.out HU.out.2)
      have HLQ : Hid ((((cc L).filter (hitB cell)).map St.v).length = p) := Lib.hid (zs_len hV)
      clear hU hV
      go_wp2_with fail
      refine (span_c L [] _ none _ _ 0 0 _ ((cc L).map St.v) k (HR.out.below HB3.out) (by omega) HLim.out Rd.none_ (Nat.le_refl _) (by decide) (span_nil _ H1.out) (by rw [List.length_map, cc_len, HLen.out])).mono ?_
      rintro e w4 ⟨B4, d4, rfl, s4, b4⟩
      have HB4 := Lib.hid (bl_trans HB3.out b4)
      have HRU4 := Lib.hid (HRU.out.below b4)
      have HRV4 := Lib.hid (HRV.out.below b4)
      have S4 := Lib.hid s4
      clear b4 s4
      go_wp2_with fail
      refine (Mem.numbers_b ((cc L).map St.v) ((cc L).map St.v) _ _ _ _ _ _ _ true S4.out HRU4.out (by omega) (by omega) (by simp)).mono ?_
      rintro e w5 ⟨rfl, b5⟩
      have HB5 := Lib.hid (bl_trans HB4.out b5)
      have HRV5 := Lib.hid (HRV4.out.below b5)
      clear b5
      go_wp2_with fail
      refine (span_c L [⟨cell, 0, 5⟩] _ _ _ _ _ _ _ (((cc L).filter (hitB cell)).map St.v) p ((HR.out.below HB5.out).alloc _) (by omega) HLim.out (Rd.built w5 3 1 (Reads.ds [⟨cell, 0, 5⟩]) _ rfl) (Nat.le_refl _) (by decide) (span_hit _ _ H1.out) HLQ.out).mono ?_
      rintro e w6 ⟨B6, d6, rfl, s6, b6⟩
      have HB6 := Lib.hid (bl_trans (bl_alloc HB5.out _) b6)
      have HRV6 := Lib.hid ((HRV5.out.alloc _).below b6)
      have S6 := Lib.hid s6
      clear b6 s6
      go_wp2_with fail
      refine (Mem.numbers_b (((cc L).filter (hitB cell)).map St.v) (((cc L).filter (hitB cell)).map St.v) _ _ _ _ _ _ _ true S6.out HRV6.out (by omega) (by omega) (by simp)).mono ?_
      rintro e w7 ⟨rfl, b7⟩
      have HB7 := Lib.hid (bl_trans HB6.out b7)
      clear b7
      go_wp2_with fail
      refine (awake_any _).mono ?_
      rintro e w8 ⟨rfl, b8⟩
      go_wp2
      go_ret
      exact ⟨rfl, bl_trans HB7.out b8⟩
end Go.Proofs.Ythgmjmecedhkoaa.Opaque
