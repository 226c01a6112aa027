/-
  WHAT THE FUNCTIONS OF THE LAYER opaque RETURN, AS THEY ARE WRITTEN: Holds, Span, over what At is said to do.
-/
import Derived.Test.YthgmjmecedhkoaaOpaqueCode2
import Derived.Test.YthgmjmecedhkoaaNumbers
namespace Go.Proofs.Ythgmjmecedhkoaa.Opaque
open Go.ChangeShapes Go.WideShapes Go.ChangeAt Go.RowKit Mem

/-- What At is said to do. -/
def AtSaid : Prop := ∀ (L : List RawS) (A : Option Addr) (n c : Nat) (v : Int) (w : World) (r : List Heap.Cell × Int) (m : Nat), Past w A n L → n ≤ 1000000 → Lim L → atS (cc L) v = r → r.1.length = m →
    Calls Try.prog 8 #[.slice A n c, .int .i64 v] w (RetSE w 2 m (Heap.cs r.1) r.2)

theorem at_len (L : List RawS) (v : Int) (w : World) (h : Inners w L) (hl : Lim L) : (atS (cc L) v).1.length ≤ 1000000 := by
  unfold atS
  split
  · split
    · rename_i s hs
      unfold asOf at hs
      have hm := List.mem_of_find?_eq_some hs
      rw [List.mem_reverse] at hm
      obtain ⟨k, hk, e⟩ := List.getElem_of_mem hm
      obtain ⟨x, hx, hst⟩ := cc_get L k s (by rw [List.getElem?_eq_getElem hk, e])
      have h1 := (h x (List.mem_of_getElem? hx)).len
      have h2 := hl.at_ k x hx
      rw [← hst]
      show x.h.length ≤ _
      omega
    · simp
  · simp
set_option maxRecDepth 100000 in
theorem holds_c (SA : AtSaid) (L : List RawS) (l : List Reads.Read) (A D : Option Addr) (n c m d : Nat) (v : Int) (w : World) (b : Bool) (hr : Past w A n L) (hn : n ≤ 1000000) (hl : Lim L) (hd : Rd w 3 D m (Reads.ds l)) (hmd : m ≤ d) (hm : m ≤ 1000000) (hb : holdsS (cc L) v l = b) :
    Calls Try.prog 13 #[.slice A n c, .int .i64 v, .slice D m d] w (RetB w b) := by
  have HS := Lib.hid SA
  have HR := Lib.hid hr
  have HLim := Lib.hid hl
  have HD := Lib.hid hd
  have HB := Lib.hid hb
  have HA := Lib.hid (at_len L v w hr.2 hl)
  clear hr hl hd hb SA
  obtain ⟨⟨g, e⟩, ha⟩ : ∃ y, atS (cc L) v = y := ⟨_, rfl⟩
  have HAT := Lib.hid ha
  rw [ha] at HA
  have HBB : Hid (b = (decide (e = 0) && Reads.sameS l g)) := Lib.hid (by rw [← HB.out]; unfold holdsS; rw [ha])
  clear ha HB
  go_enter Try.func13, Try.ntmps13
  go_wp2_with fail
  refine (HS.out L _ _ _ _ _ _ _ HR.out hn HLim.out HAT.out rfl).mono ?_
  rintro e1 w1 ⟨B, q, rfl, hrd, b1⟩
  have HRD := Lib.hid hrd
  have HB1 := Lib.hid b1
  clear hrd b1
  by_cases h0 : e = 0
  · subst h0
    have HF : Hid (Reads.sameS l g = b) := Lib.hid (by rw [HBB.out]; simp)
    go_wp2_with fail
    refine (Reads.same_c l g _ _ _ _ _ _ _ b (HD.out.below HB1.out) hmd HRD.out hm HA.out HF.out).mono ?_
    rintro e2 w2 ⟨rfl, b2⟩
    go_wp2
    go_ret
    exact ⟨rfl, bl_trans HB1.out b2⟩
  · have HF : Hid (b = false) := Lib.hid (by rw [HBB.out, decide_eq_false h0]; rfl)
    have t1 : (e == 0) = false := by simpa using h0
    clear h0
    go_wp2
    go_ret
    exact ⟨ret_bool HF.out.symm, HB1.out⟩

set_option maxRecDepth 100000 in
theorem span_c (L : List RawS) (l : List Reads.Read) (A D : Option Addr) (n c m d : Nat) (w : World) (r : List Int) (q : Nat) (hr : Past w A n L) (hn : n ≤ 1000000) (hl : Lim L) (hd : Rd w 3 D m (Reads.ds l)) (hmd : m ≤ d) (hm : m ≤ 1000000) (hx : spanS (cc L) l = r) (hq : r.length = q) :
    Calls Try.prog 11 #[.slice A n c, .slice D m d] w (RetS w 1 q (zs r)) := by
  have HR := Lib.hid hr
  have HLim := Lib.hid hl
  have HLen := Lib.hid hr.len
  have HD := Lib.hid hd
  have HX := Lib.hid hx
  have HQ := Lib.hid hq
  clear hr hl hd hx hq
  cases h1 : rightB (cc L)
  · have H1 := Lib.hid h1
    have HF : Hid (r = []) := Lib.hid (by rw [← HX.out]; unfold spanS; rw [h1]; rfl)
    have HN : Hid (q = 0) := Lib.hid (by rw [← HQ.out, HF.out]; rfl)
    obtain rfl := HN.out
    clear h1
    go_enter Try.func11, Try.ntmps11
    go_wp2_with fail
    refine (right_c L _ _ _ _ false HR.out hn HLim.out H1.out).mono ?_
    rintro e w1 ⟨rfl, b1⟩
    go_wp2
    go_ret
    exact ⟨_, _, rfl, by rw [HF.out]; exact Rd.none_, b1⟩
  · have H1 := Lib.hid h1
    have HF : Hid (r = ((cc L).filter (fun s => Reads.sameS l s.h)).map St.v) := Lib.hid (by rw [← HX.out]; unfold spanS; rw [if_pos h1])
    clear h1
    go_enter Try.func11, Try.ntmps11
    go_wp2_with fail
    refine (right_c L _ _ _ _ true HR.out hn HLim.out H1.out).mono ?_
    rintro e w1 ⟨rfl, b1⟩
    have HB1 := Lib.hid b1
    clear b1
    go_wp2
    go_loopw [5, 13] (fun u i wr => ∃ k p : Nat, k ≤ n ∧ p ≤ k ∧ i = .int .i64 k ∧ Own w1 wr 3 1 u p (zs ((((cc L).take k).filter (fun s => Reads.sameS l s.h)).map St.v))) (fun _ i _ => n - (intOf i).toNat)
    case atStart => exact ⟨0, 0, Nat.zero_le _, Nat.le_refl _, rfl, Own.nil_ (Below.refl _ _)⟩
    case round =>
      obtain ⟨k, p, hk, hpk, rfl, hown⟩ := hrel
      generalize wr = w2 at *
      have HOWN := Lib.hid hown
      clear hown
      by_cases hlt : k < n
      · obtain ⟨b3, off, ⟨xv, xA, xn, xc, xh⟩, rfl, hx, c0, c1, hin⟩ := ((HR.out.below HB1.out).below HOWN.out.2).at_ k hlt
        have HIN := Lib.hid hin
        have hxn : xn ≤ 1000000 := HLim.out.at_ k _ hx
        have HT := Lib.hid (span_take (cc L) (fun s => Reads.sameS l s.h) k _ (cc_at L k _ hx))
        have HBX := Lib.hid (Blk.new w2 39 #[.int .i64 xv, .slice xA xn xc])
        clear hx hin
        cases hs : Reads.sameS l xh
        · have HSS := Lib.hid hs
          have HTT : Hid (((List.take (k + 1) (cc L)).filter (fun s => Reads.sameS l s.h)).map St.v = (((cc L).take k).filter (fun s => Reads.sameS l s.h)).map St.v) := Lib.hid (by rw [HT.out]; simp [st, hs])
          clear hs
          go_wp2_with fail
          refine (Reads.same_c l xh _ _ _ _ _ _ _ false (((HD.out.below HB1.out).below HOWN.out.2).alloc _) hmd (Rd.alloc HIN.out _) hm hxn HSS.out).mono ?_
          rintro e w3 ⟨rfl, b3⟩
          have HO3 := Lib.hid ((HOWN.out.alloc (.cells #[.int .i64 xv, .slice xA xn xc] 39)).below b3)
          clear b3
          go_wp2
          go_roundw
          case rel => exact ⟨k + 1, p, by omega, by omega, by go_num, by rw [HTT.out]; exact HO3.out⟩
          case measure => simp [intOf]; omega
        · have HSS := Lib.hid hs
          have HTT : Hid (((List.take (k + 1) (cc L)).filter (fun s => Reads.sameS l s.h)).map St.v = (((cc L).take k).filter (fun s => Reads.sameS l s.h)).map St.v ++ [xv]) := Lib.hid (by rw [HT.out]; simp [st, hs])
          clear hs
          go_wp2_with fail
          refine (Reads.same_c l xh _ _ _ _ _ _ _ true (((HD.out.below HB1.out).below HOWN.out.2).alloc _) hmd (Rd.alloc HIN.out _) hm hxn HSS.out).mono ?_
          rintro e w3 ⟨rfl, b3⟩
          have HO3 := Lib.hid ((HOWN.out.alloc (.cells #[.int .i64 xv, .slice xA xn xc] 39)).below b3)
          have c3 := (HBX.out.below b3).cell 0 _ rfl
          clear b3 c0 c1
          go_wp2_with (at_builtin; refine append_rd rfl _ _ 37 rfl Mem.tInt w1 _ _ _ rfl (HO3.out.alloc _) _ 1 1 [.int .i64 xv] rfl (Rd.built _ 1 1 [.int .i64 xv] _ rfl) (one_cons rfl one_nil) (by omega) (by omega) ?_; intro v' w' hown' hg; clear hg)
          go_roundw
          case rel => exact ⟨k + 1, p + 1, by omega, by omega, by go_num, by rw [HTT.out, zs_app]; exact hown'⟩
          case measure => simp [intOf]; omega
      · obtain rfl : k = n := by omega
        have HE : Hid ((cc L).take k = cc L) := Lib.hid (List.take_of_length_le (by rw [cc_len, HLen.out]; exact Nat.le_refl _))
        obtain ⟨B, q2, rfl, hrd⟩ := HOWN.out.form
        have HRD := Lib.hid hrd
        have HPQ : Hid (p = q) := Lib.hid (by
          have h5 := zs_len hrd
          rw [HE.out, ← HF.out, HQ.out] at h5; exact h5.symm)
        clear hrd
        go_wp2
        go_ret
        refine ⟨B, q2, by rw [HPQ.out]; rfl, ?_, bl_trans HB1.out HOWN.out.2⟩
        have h6 := HRD.out
        rw [HE.out, ← HF.out, HPQ.out] at h6
        exact h6
end Go.Proofs.Ythgmjmecedhkoaa.Opaque
