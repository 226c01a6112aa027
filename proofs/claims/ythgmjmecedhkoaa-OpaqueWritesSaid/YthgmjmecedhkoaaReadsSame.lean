/-
  WHAT THE FUNCTION Same OF THE LAYER reads RETURNS, AS IT IS WRITTEN (cut out of the text on Cells and Same, for programs that call no sort).
-/
import Derived.Test.YthgmjmecedhkoaaReadsCode3
import Derived.Test.YthgmjmecedhkoaaHeapCode3
namespace Go.Proofs.Ythgmjmecedhkoaa.Reads
open Go.ChangeShapes Go.WideShapes Go.ChangeAt Go.RowKit Mem

theorem get_still (h : List Heap.Cell) (x : Read) (hr : Heap.rightB h = true) (r : Int × Int) (hg : Heap.getS h x.cell = r) : stillB h x = (decide (r.2 = 0) && (r.1 == x.value)) := by
  subst hg
  unfold Heap.getS stillB
  rw [if_pos hr]
  cases Heap.liveAt h x.cell
  · rfl
  · rfl
set_option maxRecDepth 100000 in
theorem same_c (l : List Read) (h : List Heap.Cell) (A D : Option Addr) (n c m d : Nat) (w : World) (v : Bool) (hr : Rd w 3 A n (ds l)) (hnc : n ≤ c) (ht : Rd w 2 D m (Heap.cs h)) (hn : n ≤ 1000000) (hm : m ≤ 1000000)
    (hv : sameS l h = v) : Calls Try.prog 21 #[.slice A n c, .slice D m d] w (RetB w v) := by
  have HV := Lib.hid hv
  have HL := Lib.hid (ds_len hr)
  have HR := Lib.hid hr
  have HT := Lib.hid ht
  clear hr ht hv
  cases h1 : rightB l
  · have H1 := Lib.hid h1
    have HF : Hid (v = false) := Lib.hid (by rw [← HV.out]; unfold sameS; rw [h1]; rfl)
    clear h1
    go_enter Try.func21, Try.ntmps21
    go_wp2_with fail
    refine (right_c l _ _ _ _ false HR.out hnc hn H1.out).mono ?_
    rintro e w1 ⟨rfl, b1⟩
    go_wp2
    go_ret
    exact ⟨ret_bool HF.out.symm, b1⟩
  · have H1 := Lib.hid h1
    clear h1
    go_enter Try.func21, Try.ntmps21
    go_wp2_with fail
    refine (right_c l _ _ _ _ true HR.out hnc hn H1.out).mono ?_
    rintro e w1 ⟨rfl, b1⟩
    have HB1 := Lib.hid b1
    clear b1
    cases h2 : Heap.rightB h
    · have H2 := Lib.hid h2
      have HF : Hid (v = false) := Lib.hid (by rw [← HV.out]; unfold sameS; rw [h2]; simp)
      clear h2
      go_wp2_with fail
      refine (Heap.right_c h _ _ _ _ false (HT.out.below HB1.out) hm H2.out).mono ?_
      rintro e w2 ⟨rfl, b2⟩
      go_wp2
      go_ret
      exact ⟨ret_bool HF.out.symm, bl_trans HB1.out b2⟩
    · have H2 := Lib.hid h2
      clear h2
      go_wp2_with fail
      refine (Heap.right_c h _ _ _ _ true (HT.out.below HB1.out) hm H2.out).mono ?_
      rintro e w2 ⟨rfl, b2⟩
      have HB2 := Lib.hid (bl_trans HB1.out b2)
      clear b2
      go_wp2
      go_loopw [19] (fun i wr => ∃ k : Nat, k ≤ n ∧ i = .int .i64 k ∧ Hid (Below w.heap.size w wr) ∧ Hid ((l.take k).all (stillB h) = true)) (fun i _ => n - (intOf i).toNat)
      case atStart => exact ⟨0, Nat.zero_le _, rfl, HB2, Lib.hid rfl⟩
      case round =>
        obtain ⟨k, hk, rfl, HB, hall⟩ := hrel
        by_cases hlt : k < n
        · obtain ⟨b, off, ⟨cl, vr, vl⟩, rfl, hx, c0, c1, c2⟩ := at_read (HR.out.below HB.out) k hlt
          have hs := Lib.hid (take_all l (stillB h) k _ hx)
          have HX := Lib.hid hx
          have HC : Hid (stillB h ⟨cl, vr, vl⟩ = false → v = false) := Lib.hid (fun e1 => by
            rw [← HV.out]; unfold sameS; rw [all_bad l (stillB h) k _ HX.out e1]; simp)
          have HK0 : Hid (Blk (wr.alloc (.cells #[.int .i64 cl, .int .i64 vr, .int .i64 vl] 43)) wr.heap.size 43 #[.int .i64 cl, .int .i64 vr, .int .i64 vl]) := Lib.hid (Blk.new _ _ _)
          clear hx
          obtain ⟨⟨gv, ge⟩, hg⟩ : ∃ y, Heap.getS h cl = y := ⟨_, rfl⟩
          have ha := Lib.hid (get_still h ⟨cl, vr, vl⟩ H2.out _ hg)
          have HG := Lib.hid hg
          clear hg
          go_wp2_with fail
          refine (Heap.get_c h _ _ _ _ _ _ ((HT.out.below HB.out).alloc _) hm HG.out).mono ?_
          rintro e w3 ⟨rfl, b3⟩
          have HB3 := Lib.hid (bl_trans (bl_alloc HB.out _) b3)
          have q2 := (HK0.out.below b3).cell 2 _ rfl
          clear b3 HK0 c0 c1 c2
          by_cases he : ge = 0
          · subst he
            by_cases hv1 : gv = vl
            · subst hv1
              have HY : Hid (stillB h ⟨cl, vr, gv⟩ = true) := Lib.hid (by rw [ha.out]; simp)
              go_wp2
              go_roundw
              case rel => exact ⟨k + 1, by omega, by go_num, HB3, Lib.hid (by rw [hs.out, hall.out, HY.out]; rfl)⟩
              case measure => simp [intOf]; omega
            · have HF : Hid (v = false) := Lib.hid (HC.out (by rw [ha.out]; simpa using hv1))
              have hv2 : (gv != vl) = true := by simpa using hv1
              clear hv1
              go_wp2
              go_ret
              exact ⟨ret_bool HF.out.symm, HB3.out⟩
          · have HF : Hid (v = false) := Lib.hid (HC.out (by rw [ha.out]; simp [he]))
            have hv2 : (ge != 0) = true := by simpa using he
            clear he
            go_wp2
            go_ret
            exact ⟨ret_bool HF.out.symm, HB3.out⟩
        · have HF : Hid (v = true) := Lib.hid (by
            have := hall.out
            rw [List.take_of_length_le (by rw [HL.out]; omega)] at this
            rw [← HV.out]; unfold sameS; rw [H1.out, H2.out, this]; rfl)
          go_wp2
          go_ret
          exact ⟨ret_bool HF.out.symm, HB.out⟩
end Go.Proofs.Ythgmjmecedhkoaa.Reads
