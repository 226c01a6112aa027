/-
  THE WALK OF THE LAW OpaqueWrites.
-/
import Derived.Test.YthgmjmecedhkoaaOpaqueLaw
import Derived.BigQuiet
import Derived.Laws.StructEq
namespace Go.Proofs.Ythgmjmecedhkoaa.Opaque
open Go.ChangeShapes Go.WideShapes Go.ChangeAt Go.RowKit Mem

set_option maxRecDepth 100000 in
set_option maxHeartbeats 4000000 in
theorem writes_walk (A D : Option Addr) (n c m d : Nat) (L : List RawS) (v : Int) (l : List Heap.Write) (w : World) (mn : n ≤ 9223372036854775807) (mm : m ≤ 9223372036854775807) (hr : Past w A n L) (hw : Rd w 2 D m (Heap.ws l)) :
    Calls Try.prog 3 #[.slice A n c, .int .i64 v, .slice D m d] w (RetB w true) := by
  have HR := Lib.hid hr
  have HW := Lib.hid hw
  have HLen := Lib.hid hr.len
  have HLW : Hid (l.length = m) := Lib.hid (by have := hw.1; rw [Heap.ws_len] at this; omega)
  clear hr hw
  cases hs : smallB L
  · have HS := Lib.hid hs
    clear hs
    go_enter Try.func3, Try.ntmps3
    go_wp2_with fail
    refine (small_c L _ _ _ _ false HR.out mn HS.out).mono ?_
    rintro e w1 ⟨rfl, b1⟩
    go_wp2_with fail
    refine (awake_any _).mono ?_
    rintro e w2 ⟨rfl, b2⟩
    go_wp2
    go_ret
    exact ⟨rfl, bl_trans b1 b2⟩
  have HS := Lib.hid hs
  have HLim := Lib.hid (small_lim L hs).1
  have hn : n ≤ 30 := by have := (small_lim L hs).2; rw [HLen.out] at this; exact this
  clear hs
  by_cases h40 : 40 < m
  · go_enter Try.func3, Try.ntmps3
    go_wp2_with fail
    refine (small_c L _ _ _ _ true HR.out mn HS.out).mono ?_
    rintro e w1 ⟨rfl, b1⟩
    go_wp2_with fail
    refine (awake_any _).mono ?_
    rintro e w2 ⟨rfl, b2⟩
    go_wp2
    go_ret
    exact ⟨rfl, bl_trans b1 b2⟩
  obtain ⟨⟨S, er⟩, hx⟩ : ∃ y, nextS (cc L) v l = y := ⟨_, rfl⟩
  have HX := Lib.hid hx
  clear hx
  go_enter Try.func3, Try.ntmps3
  go_wp2_with fail
  refine (small_c L _ _ _ _ true HR.out mn HS.out).mono ?_
  rintro e w1 ⟨rfl, b1⟩
  have HB1 := Lib.hid b1
  clear b1
  go_wp2_with fail
  refine (next_c L l _ _ _ _ _ _ _ _ _ (HR.out.below HB1.out) (by omega) HLim.out (HW.out.below HB1.out) (by omega) HX.out).mono ?_
  rintro e w2 ⟨B2, n2, d2, L2, rfl, s2, t2, l2, b2⟩
  have HB2 := Lib.hid (bl_trans HB1.out b2)
  have S2 := Lib.hid s2
  have T2 := Lib.hid t2
  have L2' := Lib.hid l2
  clear b2 s2 t2 l2
  by_cases he : er = 0
  · subst he
    obtain ⟨s, p1, p2, p3, p4, p5, p6, p7⟩ := next_right (cc L) v l (by rw [HX.out])
    have HSS : Hid (S = cc L ++ [⟨v, Heap.putAll s.h l⟩]) := Lib.hid (by rw [HX.out] at p6; exact congrArg Prod.fst p6)
    obtain ⟨a1, a2⟩ := next_at (cc L) v s (Heap.putAll s.h l) p7 p2 p3
    obtain ⟨x1, x2, x3, x4⟩ := put_parts s.h l p5
    have hv0 : 1 ≤ v ∧ v ≤ 2147483647 := by
      have k1 := (right_heap (cc L) p1 _ s (last_at _ _ p2)).1
      unfold Reads.timeB at k1 p4
      simp only [decide_eq_true_eq] at k1 p4
      omega
    have hn2 : n2 ≤ 31 := by
      have := past_count S2.out T2.out
      rw [HSS.out, List.length_append, cc_len, HLen.out] at this
      simp at this; omega
    have HA1 : Hid (atS (cc L2) v = (Heap.putAll s.h l, 0)) := Lib.hid (by rw [T2.out]; show atS S v = _; rw [HSS.out]; exact a1)
    have HA2 : Hid (atS (cc L2) (v - 1) = (s.h, 0)) := Lib.hid (by rw [T2.out]; show atS S (v - 1) = _; rw [HSS.out]; exact a2)
    have HLIV := Lib.hid x3
    have hsl := Heap.right_len s.h x1
    obtain ⟨q, hq⟩ : ∃ q, s.h.length = q := ⟨_, rfl⟩
    have HQ := Lib.hid hq
    have hq1 : q ≤ 64 := by omega
    clear p1 p2 p3 p4 p5 p6 p7 a1 a2 x1 x2 x3 x4 hsl hq
    go_wp2_with fail
    refine (at_c L2 _ _ _ _ _ _ q S2.out (by omega) L2'.out HA1.out (by show (Heap.putAll s.h l).length = q; rw [Heap.putAll_len, HQ.out])).mono ?_
    rintro e w3 ⟨B3, d3, rfl, s3, b3⟩
    have HB3 := Lib.hid (bl_trans HB2.out b3)
    have S3 := Lib.hid s3
    have SB3 := Lib.hid b3
    clear s3 b3
    go_wp2_with fail
    refine (at_c L2 _ _ _ _ _ _ q (S2.out.below SB3.out) (by omega) L2'.out HA2.out HQ.out).mono ?_
    rintro e w4 ⟨B4, d4, rfl, s4, b4⟩
    have HB4 := Lib.hid (bl_trans HB3.out b4)
    have H4 := Lib.hid (S3.out.below b4)
    have G4 := Lib.hid s4
    clear s4 b4 S3 SB3
    go_wp2
    go_loopw [64] (fun i wr => ∃ k : Nat, k ≤ q ∧ i = .int .i64 k ∧ Hid (Below w4.heap.size w4 wr)) (fun i _ => q - (intOf i).toNat)
    case atStart => exact ⟨0, Nat.zero_le _, rfl, Lib.hid (Below.refl _ _)⟩
    case round =>
      obtain ⟨k, hk, rfl, HB⟩ := hrel
      generalize wr = w5 at *
      by_cases hlt : k < q
      · obtain ⟨gb, goff, ⟨lv, vl⟩, rfl, hgx, g0, g1⟩ := Heap.at_cell (G4.out.below HB.out) k hlt
        have HPX := Lib.hid (Heap.putAll_at s.h l HLIV.out k _ hgx)
        have HGX := Lib.hid hgx
        clear hgx
        have HK0 := Lib.hid (Blk.new w5 33 #[.bool lv, .int .i64 vl])
        go_wp2
        go_loopw [73] (fun i wr => ∃ j : Nat, j ≤ m ∧ i = .int .i64 j ∧ Hid (Below w5.heap.size w5 wr) ∧ Hid (Blk wr w5.heap.size 33 #[.bool lv, .int .i64 (Heap.lastV k (l.take j) vl)])) (fun i _ => m - (intOf i).toNat)
        case atStart => exact ⟨0, Nat.zero_le _, rfl, Lib.hid (bl_alloc (Below.refl _ _) _), HK0⟩
        case round =>
          obtain ⟨j, hj, rfl, HBJ, HKJ⟩ := hrel
          generalize wr = w6 at *
          by_cases hjm : j < m
          · obtain ⟨lb, loff, ⟨cl, wv⟩, rfl, hlx, c0, c1⟩ := Heap.at_write (HW.out.below (bl_trans HB4.out (bl_trans HB.out HBJ.out))) j hjm
            have HT := Lib.hid (Heap.lastV_take k l vl j _ hlx)
            have q0 := HKJ.out.cell 0 _ rfl
            have q1 := HKJ.out.cell 1 _ rfl
            have f1 := HKJ.out.frozen 1
            clear hlx
            by_cases hck : cl = (k : Int)
            · subst hck
              have HV : Hid (Heap.lastV k (l.take (j + 1)) vl = wv) := Lib.hid (by rw [HT.out, if_pos rfl])
              have q1a := (HKJ.out.alloc (.cells #[.int .i64 (k : Int), .int .i64 wv] 35)).cell 1 _ rfl
              have f1a := (HKJ.out.alloc (.cells #[.int .i64 (k : Int), .int .i64 wv] 35)).frozen 1
              clear q0 q1 f1
              go_wp2
              go_roundw
              case rel =>
                refine ⟨j + 1, by omega, by go_num, Lib.hid (bl_set (bl_alloc HBJ.out _) (Nat.le_refl _) _), Lib.hid ?_⟩
                rw [HV.out]
                exact (HKJ.out.alloc _).set_ 1 (.int .i64 wv)
              case measure => simp [intOf]; omega
            · have hck2 : (cl == (k : Int)) = false := by simpa using hck
              have HV : Hid (Heap.lastV k (l.take (j + 1)) vl = Heap.lastV k (l.take j) vl) := Lib.hid (by rw [HT.out, if_neg hck])
              clear hck
              go_wp2
              go_roundw
              case rel => exact ⟨j + 1, by omega, by go_num, Lib.hid (bl_alloc HBJ.out _), Lib.hid (by rw [HV.out]; exact HKJ.out.alloc _)⟩
              case measure => simp [intOf]; omega
          · have HTT : Hid (l.take j = l) := Lib.hid (List.take_of_length_le (by rw [HLW.out]; omega))
            obtain ⟨hb, hoff, ⟨lh, vh⟩, rfl, hhx, h0, h1⟩ := Heap.at_cell (H4.out.below (bl_trans HB.out HBJ.out)) k hlt
            obtain ⟨rfl, rfl⟩ : lh = lv ∧ vh = Heap.lastV k l vl := by
              have := HPX.out; rw [hhx] at this; simpa using this
            have q0 := HKJ.out.cell 0 _ rfl
            have q1 := HKJ.out.cell 1 _ rfl
            rw [HTT.out] at q1
            generalize Heap.lastV k l vl = z at *
            clear hhx
            go_wp2_with fail
            go_quiet (fail)
            go_wp2
            go_roundw
            case rel => exact ⟨k + 1, by omega, by go_num, Lib.hid (bl_drewN (bl_trans HB.out HBJ.out) _)⟩
            case measure => simp [intOf]; omega
      · go_wp2_with fail
        refine (awake_any _).mono ?_
        rintro e w6 ⟨rfl, b6⟩
        go_wp2
        go_ret
        exact ⟨rfl, bl_trans (bl_trans HB4.out HB.out) b6⟩
  · have t1 : (er != 0) = true := by simpa using he
    clear he
    go_wp2_with fail
    refine (awake_any _).mono ?_
    rintro e w3 ⟨rfl, b3⟩
    go_wp2
    go_ret
    exact ⟨rfl, bl_trans HB2.out b3⟩
end Go.Proofs.Ythgmjmecedhkoaa.Opaque
