/-
  WHAT EACH FUNCTION OF THE LAYER reads RETURNS, AS IT IS WRITTEN: Cells, Same.
-/
import Derived.Test.YtemfkjcfafenjaaReadsCode3
import Derived.Test.YtemfkjcfafenjaaSort
import Derived.Sort.OwnSortedInts
namespace Go.Proofs.Ytemfkjcfafenjaa.Reads
open Go.ChangeShapes Go.WideShapes Go.ChangeAt Go.RowKit Mem

theorem zs_map (l : List Int) : zs l = l.map (Value.int .i64) := by
  induction l with
  | nil => rfl
  | cons x l ih => unfold zs at *; rw [List.flatMap_cons, ih]; rfl
/-- The library's sort, on a slice of the call's own. -/
theorem sort_own (w0 w : World) (v : Value) (n : Nat) (l : List Int) (ho : Own w0 w 3 1 v n (zs l)) (hn : n ≤ 1000000) :
    Calls Try.prog 31 #[v] w fun e w' => e = .returned (.tuple #[]) ∧ Own w0 w' 3 1 v n (zs (sortZ l)) := by
  have hl : l.length = n := by have := ho.1.1; rw [zs_map, List.length_map] at this; omega
  rcases ho.1.2 with ⟨rfl, rfl⟩ | ⟨g, cap, cur, rfl, hbase, hb, hnc, hcap, hsz, htk⟩
  · obtain rfl : l = [] := List.eq_nil_of_length_eq_zero hl
    refine (Srt.slices_Sort_int_none _ _ w).mono ?_
    rintro e w' ⟨rfl, rfl⟩
    exact ⟨rfl, by rw [sort_of [] [] (List.Perm.refl _) List.Pairwise.nil]; exact ho⟩
  · subst hl
    rw [zs_map, Nat.mul_one] at htk
    have hg : g < w.heap.size := (Array.getElem?_eq_some_iff.1 hb).1
    refine (Srt.slices_Sort_int g 0 cap l w (holds_of_blockI hb htk) hg (by omega)).mono ?_
    rintro e w' ⟨rfl, q, os, rfl⟩
    refine ⟨rfl, ?_, ?_⟩
    · rw [zs_map]
      exact ownsRow_sortedI (ts := sortZ l) (sort_len l) hbase hb hnc hcap (by rw [hsz])
    · exact ho.grown (grownBy_sortedI (w := w) (g := g) (n := q) (os := os) _)

theorem cells_c (l : List Read) (A : Option Addr) (n c : Nat) (w : World) (r : List Int) (q : Nat) (hr : Rd w 3 A n (ds l)) (hnc : n ≤ c) (hn : n ≤ 1000000) (hcs : cellsS l = r) (hq : r.length = q) :
    Calls Try.prog 19 #[.slice A n c] w (RetS w 1 q (zs r)) := by
  have HC := Lib.hid hcs
  have HQ := Lib.hid hq
  have HL := Lib.hid (ds_len hr)
  have HR := Lib.hid hr
  clear hr hcs hq
  cases h1 : rightB l
  · have H1 := Lib.hid h1
    have HF : Hid (r = []) := Lib.hid (by rw [← HC.out]; unfold cellsS; rw [h1]; rfl)
    have HN : Hid (q = 0) := Lib.hid (by rw [← HQ.out, HF.out]; rfl)
    obtain rfl := HN.out
    clear h1
    go_enter Try.func19, Try.ntmps19
    go_wp2_with fail
    refine (right_c l _ _ _ _ false HR.out hnc hn H1.out).mono ?_
    rintro e w1 ⟨rfl, b1⟩
    go_wp2
    go_ret
    exact ⟨_, _, rfl, by rw [HF.out]; exact Rd.none_, b1⟩
  · have H1 := Lib.hid h1
    have HF : Hid (r = sortZ (l.map Read.cell)) := Lib.hid (by rw [← HC.out]; unfold cellsS; rw [if_pos h1])
    have HN : Hid (q = n) := Lib.hid (by rw [← HQ.out, HF.out, sort_len, List.length_map]; exact HL.out)
    obtain rfl := HN.out
    clear h1
    go_enter Try.func19, Try.ntmps19
    go_wp2_with fail
    refine (right_c l _ _ _ _ true HR.out hnc hn H1.out).mono ?_
    rintro e w1 ⟨rfl, b1⟩
    have HB1 := Lib.hid b1
    clear b1
    go_wp2
    go_loopw [3, 11] (fun v i wr => ∃ k : Nat, k ≤ q ∧ i = .int .i64 k ∧ Own w1 wr 3 1 v k (zs ((l.map Read.cell).take k))) (fun _ i _ => q - (intOf i).toNat)
    case atStart => exact ⟨0, Nat.zero_le _, rfl, Own.nil_ (Below.refl _ _)⟩
    case round =>
      obtain ⟨k, hk, rfl, hown⟩ := hrel
      by_cases hlt : k < q
      · obtain ⟨b, off, ⟨cl, vr, vl⟩, rfl, hx, c0, c1, c2⟩ := at_read ((HR.out.below HB1.out).below hown.2) k hlt
        have HT := Lib.hid (zs_take (l.map Read.cell) k cl (by rw [List.getElem?_map, hx]; rfl))
        clear hx
        go_wp2_with (at_builtin; refine append_rd rfl _ _ 35 rfl Mem.tInt w1 _ _ _ rfl ((hown.alloc _).alloc _) _ 1 1 [.int .i64 cl] rfl (Rd.builtAt _ 1 1 [.int .i64 cl] _ rfl (by simp)) (one_cons rfl one_nil) (by omega) (by omega) ?_; intro v' w' hown' hg; clear hg)
        go_roundw
        case rel => exact ⟨k + 1, by omega, by go_num, by rw [HT.out]; exact hown'⟩
        case measure => simp [intOf]; omega
      · obtain rfl : k = q := by omega
        have ho := hown
        rw [List.take_of_length_le (by rw [List.length_map, HL.out]; exact Nat.le_refl _)] at ho
        have HO := Lib.hid ho
        clear hown ho
        go_wp2_with fail
        refine (sort_own w1 _ _ _ _ HO.out hn).mono ?_
        rintro e w2 ⟨rfl, ho2⟩
        obtain ⟨B, d, rfl, hrd⟩ := ho2.form
        go_wp2
        go_ret
        exact ⟨B, d, rfl, by rw [HF.out]; exact hrd, bl_trans HB1.out ho2.2⟩

theorem get_still (h : List Heap.Cell) (x : Read) (hr : Heap.rightB h = true) (r : Int × Int) (hg : Heap.getS h x.cell = r) : stillB h x = (decide (r.2 = 0) && (r.1 == x.value)) := by
  subst hg
  unfold Heap.getS stillB
  rw [if_pos hr]
  cases Heap.liveAt h x.cell
  · rfl
  · rfl
theorem same_c (l : List Read) (h : List Heap.Cell) (A D : Option Addr) (n c m d : Nat) (w : World) (v : Bool) (hr : Rd w 3 A n (ds l)) (hnc : n ≤ c) (ht : Rd w 2 D m (Heap.cs h)) (hn : n ≤ 1000000) (hm : m ≤ 1000000)
    (hv : sameS l h = v) : Calls Try.prog 22 #[.slice A n c, .slice D m d] w (RetB w v) := by
  have HV := Lib.hid hv
  have HL := Lib.hid (ds_len hr)
  have HR := Lib.hid hr
  have HT := Lib.hid ht
  clear hr ht hv
  cases h1 : rightB l
  · have H1 := Lib.hid h1
    have HF : Hid (v = false) := Lib.hid (by rw [← HV.out]; unfold sameS; rw [h1]; rfl)
    clear h1
    go_enter Try.func22, Try.ntmps22
    go_wp2_with fail
    refine (right_c l _ _ _ _ false HR.out hnc hn H1.out).mono ?_
    rintro e w1 ⟨rfl, b1⟩
    go_wp2
    go_ret
    exact ⟨ret_bool HF.out.symm, b1⟩
  · have H1 := Lib.hid h1
    clear h1
    go_enter Try.func22, Try.ntmps22
    go_wp2_with fail
    refine (right_c l _ _ _ _ true HR.out hnc hn H1.out).mono ?_
    rintro e w1 ⟨rfl, b1⟩
    have HB1 := Lib.hid b1
    clear b1
    cases h2 : Heap.rightB h
    · have H2 := Lib.hid h2
      have HF : Hid (v = false) := Lib.hid (by rw [← HV.out]; unfold sameS; rw [h2]; simp)
      clear h2
      go_wp2_with fail
      refine (Heap.right_c h _ _ _ _ false (HT.out.below HB1.out) hm H2.out).mono ?_
      rintro e w2 ⟨rfl, b2⟩
      go_wp2
      go_ret
      exact ⟨ret_bool HF.out.symm, bl_trans HB1.out b2⟩
    · have H2 := Lib.hid h2
      clear h2
      go_wp2_with fail
      refine (Heap.right_c h _ _ _ _ true (HT.out.below HB1.out) hm H2.out).mono ?_
      rintro e w2 ⟨rfl, b2⟩
      have HB2 := Lib.hid (bl_trans HB1.out b2)
      clear b2
      go_wp2
      go_loopw [19] (fun i wr => ∃ k : Nat, k ≤ n ∧ i = .int .i64 k ∧ Hid (Below w.heap.size w wr) ∧ Hid ((l.take k).all (stillB h) = true)) (fun i _ => n - (intOf i).toNat)
      case atStart => exact ⟨0, Nat.zero_le _, rfl, HB2, Lib.hid rfl⟩
      case round =>
        obtain ⟨k, hk, rfl, HB, hall⟩ := hrel
        by_cases hlt : k < n
        · obtain ⟨b, off, ⟨cl, vr, vl⟩, rfl, hx, c0, c1, c2⟩ := at_read (HR.out.below HB.out) k hlt
          have hs := Lib.hid (take_all l (stillB h) k _ hx)
          have HX := Lib.hid hx
          have HC : Hid (stillB h ⟨cl, vr, vl⟩ = false → v = false) := Lib.hid (fun e1 => by
            rw [← HV.out]; unfold sameS; rw [all_bad l (stillB h) k _ HX.out e1]; simp)
          have HK0 : Hid (Blk (wr.alloc (.cells #[.int .i64 cl, .int .i64 vr, .int .i64 vl] 24)) wr.heap.size 24 #[.int .i64 cl, .int .i64 vr, .int .i64 vl]) := Lib.hid (Blk.new _ _ _)
          clear hx
          obtain ⟨⟨gv, ge⟩, hg⟩ : ∃ y, Heap.getS h cl = y := ⟨_, rfl⟩
          have ha := Lib.hid (get_still h ⟨cl, vr, vl⟩ H2.out _ hg)
          have HG := Lib.hid hg
          clear hg
          go_wp2_with fail
          refine (Heap.get_c h _ _ _ _ _ _ ((HT.out.below HB.out).alloc _) hm HG.out).mono ?_
          rintro e w3 ⟨rfl, b3⟩
          have HB3 := Lib.hid (bl_trans (bl_alloc HB.out _) b3)
          have q2 := (HK0.out.below b3).cell 2 _ rfl
          clear b3 HK0 c0 c1 c2
          by_cases he : ge = 0
          · subst he
            by_cases hv1 : gv = vl
            · subst hv1
              have HY : Hid (stillB h ⟨cl, vr, gv⟩ = true) := Lib.hid (by rw [ha.out]; simp)
              go_wp2
              go_roundw
              case rel => exact ⟨k + 1, by omega, by go_num, HB3, Lib.hid (by rw [hs.out, hall.out, HY.out]; rfl)⟩
              case measure => simp [intOf]; omega
            · have HF : Hid (v = false) := Lib.hid (HC.out (by rw [ha.out]; simpa using hv1))
              have hv2 : (gv != vl) = true := by simpa using hv1
              clear hv1
              go_wp2
              go_ret
              exact ⟨ret_bool HF.out.symm, HB3.out⟩
          · have HF : Hid (v = false) := Lib.hid (HC.out (by rw [ha.out]; simp [he]))
            have hv2 : (ge != 0) = true := by simpa using he
            clear he
            go_wp2
            go_ret
            exact ⟨ret_bool HF.out.symm, HB3.out⟩
        · have HF : Hid (v = true) := Lib.hid (by
            have := hall.out
            rw [List.take_of_length_le (by rw [HL.out]; omega)] at this
            rw [← HV.out]; unfold sameS; rw [H1.out, H2.out, this]; rfl)
          go_wp2
          go_ret
          exact ⟨ret_bool HF.out.symm, HB.out⟩
end Go.Proofs.Ytemfkjcfafenjaa.Reads
