/-
  WHAT THE FUNCTIONS OF THE LAYER filter RETURN, AS THEY ARE WRITTEN: cellsOf, copyOf, isOther, isHeld, May.
-/
import Derived.Test.YtddgdhaioomnnaaFilterMore
import Derived.Test.YtddgdhaioomnnaaSleepCode5
import Derived.Test.YtddgdhaioomnnaaHeapA
namespace Go.Proofs.Ytddgdhaioomnnaa.Filter
open Go.ChangeShapes Go.WideShapes Go.ChangeAt Go.RowKit Mem
open Heap (Write)
open Sleep

set_option maxRecDepth 100000 in
theorem cellsof_c (W : List Write) (A : Option Addr) (n c : Nat) (w : World) (hr : Rd w 2 A n (Heap.ws W)) (hn : n ≤ 1000000) :
    Calls Try.prog 33 #[.slice A n c] w (RetO w 3 1 n (zs (W.map Write.cell))) := by
  have HL : Hid (W.length = n) := Lib.hid (by have := hr.1; rw [Heap.ws_len] at this; omega)
  have HR := Lib.hid hr
  clear hr
  go_enter Try.func33, Try.ntmps33
  go_wp2
  go_loopw [3, 8] (fun v i wr => ∃ k : Nat, k ≤ n ∧ i = .int .i64 k ∧ Own w wr 3 1 v k (zs ((W.take k).map Write.cell))) (fun _ i _ => n - (intOf i).toNat)
  case atStart => exact ⟨0, Nat.zero_le _, rfl, Own.nil_ (Below.refl _ _)⟩
  case round =>
    obtain ⟨k, hk, rfl, hown⟩ := hrel
    by_cases hlt : k < n
    · obtain ⟨b, off, ⟨cl, vl⟩, rfl, hx, c0, c1⟩ := Heap.at_write (HR.out.below hown.2) k hlt
      have HT := Lib.hid (Sleep.map_take_succ Write.cell W k _ hx)
      clear hx
      go_wp2_with (at_builtin; refine append_rd rfl _ _ 28 rfl Mem.tInt w _ _ _ rfl ((hown.alloc _).alloc _) _ 1 1 [.int .i64 cl] rfl (Rd.builtAt _ 1 1 [.int .i64 cl] _ rfl (by simp)) (one_cons rfl one_nil) (by omega) (by omega) ?_; intro v' w' hown' hg; clear hg)
      go_roundw
      case rel => exact ⟨k + 1, by omega, by go_num, by rw [HT.out, zs_app]; exact hown'⟩
      case measure => simp [intOf]; omega
    · have ho := hown
      rw [List.take_of_length_le (by rw [HL.out]; omega)] at ho
      obtain rfl : k = n := by omega
      have HO := Lib.hid ho
      clear hown ho
      go_wp2
      go_ret
      exact ⟨_, rfl, HO.out⟩

/-- What is returned: who sleeps. -/
def RetL (w : World) (S : List Sl) (e : Ending) (w' : World) : Prop := ∃ B m d L, e = .returned (.slice B m d) ∧ Sls w' B m L ∧ cc L = S ∧ Lim L ∧ Below w.heap.size w w'
set_option maxRecDepth 100000 in
theorem copy_c (L : List RawS) (A : Option Addr) (n c : Nat) (w : World) (hr : Sls w A n L) (hn : n ≤ 1000000) (hl : Lim L) :
    Calls Try.prog 29 #[.slice A n c] w (RetL w (cc L)) := by
  have HD := Lib.hid (drop_c L [] A none n c 0 0 w (dropS (cc L) []) hr hn hl Rd.none_ (by decide) rfl)
  have HE := Lib.hid (drop_none (cc L))
  clear hr hl
  go_enter Try.func29, Try.ntmps29
  go_wp2_with fail
  refine HD.out.mono ?_
  rintro e w2 ⟨B, m, d, L2, rfl, h1, h2, h3, h4⟩
  have H1 := Lib.hid h1
  have H2 := Lib.hid h2
  have H3 := Lib.hid h3
  have H4 := Lib.hid h4
  clear h1 h2 h3 h4 HD
  go_wp2
  go_ret
  exact ⟨B, m, d, L2, rfl, H1.out, by rw [H2.out]; exact HE.out, H3.out, H4.out⟩

set_option maxRecDepth 100000 in
theorem other_c (W : List Write) (h : List Heap.Cell) (A D : Option Addr) (n c m d : Nat) (w : World) (b : Bool) (hw : Rd w 2 A n (Heap.ws W)) (hh : Rd w 2 D m (Heap.cs h)) (hn : n ≤ 1000000) (hm : m ≤ 1000000) (hb : otherB W h = b) :
    Calls Try.prog 27 #[.slice A n c, .slice D m d] w (RetB w b) := by
  have HL : Hid (W.length = n) := Lib.hid (by have := hw.1; rw [Heap.ws_len] at this; omega)
  have HW := Lib.hid hw
  have HH := Lib.hid hh
  have HB0 := Lib.hid hb
  clear hw hh hb
  go_enter Try.func27, Try.ntmps27
  go_wp2
  go_loopw [11] (fun i wr => ∃ k : Nat, k ≤ n ∧ i = .int .i64 k ∧ Hid (Below w.heap.size w wr) ∧ Hid (otherB (W.take k) h = false)) (fun i _ => n - (intOf i).toNat)
  case atStart => exact ⟨0, Nat.zero_le _, rfl, Lib.hid (Below.refl _ _), Lib.hid rfl⟩
  case round =>
    obtain ⟨k, hk, rfl, HB, hall⟩ := hrel
    generalize wr = w1 at *
    by_cases hlt : k < n
    · obtain ⟨b1, off, ⟨cl, vl⟩, rfl, hx, c0, c1⟩ := Heap.at_write (HW.out.below HB.out) k hlt
      have HS := Lib.hid (take_any W (diffB h) k _ hx)
      have HX := Lib.hid hx
      clear hx
      obtain ⟨⟨v, f⟩, hg⟩ : ∃ r, Heap.getS h cl = r := ⟨_, rfl⟩
      have HD : Hid (diffB h ⟨cl, vl⟩ = !(f == 0 && v == vl)) := Lib.hid (by unfold diffB; dsimp only; rw [hg])
      have KB := Lib.hid (Blk.new w1 32 #[.int .i64 cl, .int .i64 vl])
      have HC := Lib.hid (Heap.get_c h D m d cl (w1.alloc (.cells #[.int .i64 cl, .int .i64 vl] 32)) (v, f) ((HH.out.below HB.out).alloc _) hm hg)
      clear hg
      go_wp2_with fail
      refine HC.out.mono ?_
      rintro e w2 ⟨rfl, b2⟩
      have HB2 := Lib.hid (bl_trans (bl_alloc HB.out (.cells #[.int .i64 cl, .int .i64 vl] 32)) b2)
      have q1 := (KB.out.below b2).cell 1 _ rfl
      clear b2 HC
      by_cases hf : f = 0
      · subst hf
        by_cases hv : v = vl
        · subst hv
          have HN : Hid (otherB (W.take (k + 1)) h = false) := Lib.hid (by unfold otherB at hall ⊢; rw [HS.out, hall.out, HD.out]; simp)
          go_wp2
          go_roundw
          case rel => exact ⟨k + 1, by omega, by go_num, HB2, HN⟩
          case measure => simp [intOf]; omega
        · have HF : Hid (b = true) := Lib.hid (by rw [← HB0.out]; exact any_good W _ k _ HX.out (by rw [HD.out]; simpa using hv))
          have t1 : (v != vl) = true := by simpa using hv
          clear hv
          go_wp2
          go_ret
          exact ⟨ret_bool HF.out.symm, HB2.out⟩
      · have HF : Hid (b = true) := Lib.hid (by rw [← HB0.out]; exact any_good W _ k _ HX.out (by rw [HD.out]; simp [hf]))
        have t1 : (f != 0) = true := by simpa using hf
        clear hf
        go_wp2
        go_ret
        exact ⟨ret_bool HF.out.symm, HB2.out⟩
    · obtain rfl : k = n := by omega
      have HF : Hid (b = false) := Lib.hid (by
        rw [← HB0.out]; have h5 := hall.out; rwa [List.take_of_length_le (by rw [HL.out]; exact Nat.le_refl _)] at h5)
      go_wp2
      go_ret
      exact ⟨ret_bool HF.out.symm, HB.out⟩

set_option maxRecDepth 100000 in
theorem held_c (T : List Term.Op) (h : List Heap.Cell) (A D : Option Addr) (n c m d : Nat) (w : World) (b : Bool) (ht : Rd w 2 A n (Term.ops T)) (hh : Rd w 2 D m (Heap.cs h)) (hn : n ≤ 1000000) (hm : m ≤ 1000000) (hb : heldB T h = b) :
    Calls Try.prog 28 #[.slice A n c, .slice D m d] w (RetB w b) := by
  obtain ⟨⟨v, f⟩, hg⟩ : ∃ r, Term.evalS T h [] = r := ⟨_, rfl⟩
  have HD : Hid ((f == 0 && v != 0) = b) := Lib.hid (by rw [← hb]; unfold heldB; rw [hg])
  have HC := Lib.hid (Term.eval_c T h [] A D none n c m d 0 0 w (v, f) ht hh Rd.none_ hn hm hg)
  clear ht hh hb hg
  go_enter Try.func28, Try.ntmps28
  go_wp2_with fail
  refine HC.out.mono ?_
  rintro e w2 ⟨rfl, b2⟩
  have HB2 := Lib.hid b2
  clear b2 HC
  by_cases hf : f = 0
  · subst hf
    by_cases hv : v = 0
    · subst hv
      go_wp2
      go_ret
      exact ⟨ret_bool (by rw [← HD.out]; simp), HB2.out⟩
    · have t1 : (v != 0) = true := by simpa using hv
      go_wp2
      go_ret
      exact ⟨ret_bool (by rw [← HD.out]; simp [hv]), HB2.out⟩
  · have t1 : (f == 0) = false := by simpa using hf
    go_wp2
    go_ret
    exact ⟨ret_bool (by rw [← HD.out]; simp [hf]), HB2.out⟩

set_option maxRecDepth 100000 in
set_option maxHeartbeats 4000000 in
theorem may_c (x : RawS) (h : List Heap.Cell) (D : Option Addr) (m d : Nat) (w : World) (b : Bool) (hi : Inner w x) (hl : Lim1 x) (hh : Rd w 2 D m (Heap.cs h)) (hm : m ≤ 1000000) (hb : mayS (st x) h = b) :
    Calls Try.prog 14 #[.agg (cS x), .slice D m d] w (RetB w b) := by
  obtain ⟨w1, hw1⟩ : ∃ w1, w1 = w.alloc (.cells (cS x) 36) := ⟨_, rfl⟩
  obtain ⟨w2, hw2⟩ : ∃ w2, w2 = w1.alloc (.cells (cS x) 36) := ⟨_, rfl⟩
  have K1 : Hid (Blk w2 w.heap.size 36 (cS x)) := Lib.hid (by rw [hw2, hw1]; exact (Blk.new _ _ _).alloc _)
  have B2 : Hid (Below w.heap.size w w2) := Lib.hid (by rw [hw2, hw1]; exact bl_alloc (bl_alloc (Below.refl _ _) _) _)
  have HIX : Hid (Inner w2 x) := Lib.hid (hi.below B2.out)
  have HXL := Lib.hid hl
  have HS : Hid (Sls w2 (some ⟨w.heap.size + 1, 0, none⟩) 1 [x]) := Lib.hid ⟨by rw [hw2]; exact Rd.builtAt w1 5 1 (ss [x]) _ rfl (by rw [hw1, World.size_alloc]), Inners.one HIX.out⟩
  have HH := Lib.hid (hh.below B2.out)
  obtain ⟨b1, h1⟩ : ∃ b, oneB (st x) = b := ⟨_, rfl⟩
  obtain ⟨b2, h2⟩ : ∃ b, Heap.rightB h = b := ⟨_, rfl⟩
  have HRC := Lib.hid (right_c [x] (some ⟨w.heap.size + 1, 0, none⟩) 1 1 w2 b1 HS.out (by decide) (Lim.one hl) (by show rightB [st x] = b1; rw [one_right]; exact h1))
  have HB : Hid (((b1 && b2) && modeB (st x) h) = b) := Lib.hid (by rw [← hb, ← h1, ← h2]; rfl)
  have H2 := Lib.hid h2
  clear hi hl hh hb h1 h2
  obtain ⟨xw, xm, xt, xA, xn, xc, xW, xB, xk, xd, xT⟩ := x
  have e0 := K1.out
  simp only [cS] at hw1 hw2 K1 ⊢
  clear e0
  have KA := Blk.new w 36 #[.int .i64 xw, .int .i64 xm, .int .i64 xt, .slice xA xn xc, .slice xB xk xd]
  rw [← hw1] at KA
  have e0 := KA.cell 0 _ rfl
  have e1 := KA.cell 1 _ rfl
  have e2 := KA.cell 2 _ rfl
  have e3 := KA.cell 3 _ rfl
  have e4 := KA.cell 4 _ rfl
  rw [hw1] at e0 e1 e2 e3 e4
  clear KA
  cases b1
  · have HF : Hid (b = false) := Lib.hid (by rw [← HB.out]; simp)
    go_enter Try.func14, Try.ntmps14
    go_wp2_with fail
    rw [← hw1, ← hw2]
    clear hw1 hw2 e0 e1 e2 e3 e4
    refine HRC.out.mono ?_
    rintro e w3 ⟨rfl, b3⟩
    go_wp2
    go_ret
    exact ⟨ret_bool HF.out.symm, bl_trans B2.out b3⟩
  · go_enter Try.func14, Try.ntmps14
    go_wp2_with fail
    rw [← hw1, ← hw2]
    clear hw1 hw2 e0 e1 e2 e3 e4
    refine HRC.out.mono ?_
    rintro e w3 ⟨rfl, b3⟩
    replace HIX := Lib.hid (HIX.out.below b3)
    replace HH := Lib.hid (HH.out.below b3)
    replace K1 := Lib.hid (K1.out.below b3)
    have B3 := Lib.hid (bl_trans B2.out b3)
    clear b3 HRC
    have HC := Lib.hid (Heap.right_c h D m d w3 b2 HH.out hm H2.out)
    cases b2
    · have HF : Hid (b = false) := Lib.hid (by rw [← HB.out]; simp)
      go_wp2_with fail
      refine HC.out.mono ?_
      rintro e w4 ⟨rfl, b4⟩
      go_wp2
      go_ret
      exact ⟨ret_bool HF.out.symm, bl_trans B3.out b4⟩
    · go_wp2_with fail
      refine HC.out.mono ?_
      rintro e w4 ⟨rfl, b4⟩
      replace HIX := Lib.hid (HIX.out.below b4)
      replace HH := Lib.hid (HH.out.below b4)
      replace K1 := Lib.hid (K1.out.below b4)
      have B4 := Lib.hid (bl_trans B3.out b4)
      clear b4 HC
      have q1 := K1.out.cell 1 _ rfl
      have q3 := K1.out.cell 3 _ rfl
      have q4 := K1.out.cell 4 _ rfl
      by_cases m1 : xm = 1
      · subst m1
        have HF : Hid (b = true) := Lib.hid (by rw [← HB.out]; rfl)
        go_wp2
        go_ret
        exact ⟨ret_bool HF.out.symm, B4.out⟩
      · by_cases m2 : xm = 2
        · subst m2
          have HM : Hid (otherB xW h = b) := Lib.hid (by rw [← HB.out]; rfl)
          have HO := Lib.hid (other_c xW h xA D xn xc m d w4 b HIX.out.1 HH.out HXL.out.1 hm HM.out)
          clear m1
          go_wp2_with fail
          refine HO.out.mono ?_
          rintro e w5 ⟨rfl, b5⟩
          go_wp2
          go_ret
          exact ⟨rfl, bl_trans B4.out b5⟩
        · have t1 : (xm == 1) = false := by simpa using m1
          have t2 : (xm == 2) = false := by simpa using m2
          have HM : Hid (heldB xT h = b) := Lib.hid (by rw [← HB.out]; show _ = ((true && true) && modeB _ h); unfold modeB; rw [if_neg (by exact m1), if_neg (by exact m2)]; rfl)
          have HO := Lib.hid (held_c xT h xB D xk xd m d w4 b HIX.out.2 HH.out HXL.out.2 hm HM.out)
          clear m1 m2
          go_wp2_with fail
          refine HO.out.mono ?_
          rintro e w5 ⟨rfl, b5⟩
          go_wp2
          go_ret
          exact ⟨rfl, bl_trans B4.out b5⟩
end Go.Proofs.Ytddgdhaioomnnaa.Filter
