/-
  WHAT THE DOCUMENT'S ANSWER FOR LAYER 16 RETURNS: May, met.
-/
import Derived.Test.YtddgdhaioomnnaaGreatFilterMore
import Derived.Test.YtddgdhaioomnnaaGreatSleepRef
import Derived.Test.YtddgdhaioomnnaaGreatHeapA
import Derived.RegionTactic
namespace Go.Proofs.YtddgdhaioomnnaaGreat.Filter
open Go.ChangeShapes Go.WideShapes Go.ChangeAt Go.RowKit Mem
open Heap (Write)
open Sleep

set_option maxRecDepth 100000 in
set_option maxHeartbeats 4000000 in
theorem refmay_c (x : RawS) (h : List Heap.Cell) (D : Option Addr) (m d : Nat) (w : World) (b : Bool) (hi : Inner w x) (hl : Lim1 x) (hh : Rd w 2 D m (Heap.cs h)) (hm : m ≤ 1000000) (hb : mayS (st x) h = b) :
    Calls Tryz.prog 13 #[.agg (cS x), .slice D m d] w (RetB w b) := by
  obtain ⟨w1, hw1⟩ : ∃ w1, w1 = w.alloc (.cells (cS x) 44) := ⟨_, rfl⟩
  have K1 : Hid (Blk w1 w.heap.size 44 (cS x)) := Lib.hid (by rw [hw1]; exact Blk.new _ _ _)
  have B1 : Hid (Below w.heap.size w w1) := Lib.hid (by rw [hw1]; exact bl_alloc (Below.refl _ _) _)
  have HIX : Hid (Inner w1 x) := Lib.hid (hi.below B1.out)
  have HXL := Lib.hid hl
  have HLW := Lib.hid hi.lenW
  have HH := Lib.hid (hh.below B1.out)
  obtain ⟨b1, h1⟩ : ∃ b, oneB (st x) = b := ⟨_, rfl⟩
  obtain ⟨b2, h2⟩ : ∃ b, Heap.rightB h = b := ⟨_, rfl⟩
  have HOC := Lib.hid (refone_c x w1 b1 HIX.out HXL.out h1)
  have HB : Hid (((b1 && b2) && modeB (st x) h) = b) := Lib.hid (by rw [← hb, ← h1, ← h2]; rfl)
  have H1 := Lib.hid h1
  have H2 := Lib.hid h2
  clear hi hl hh hb h1 h2
  obtain ⟨xw, xm, xt, xA, xn, xc, xW, xB, xk, xd, xT⟩ := x
  have e0' := K1.out
  simp only [cS] at hw1 K1 HOC ⊢
  clear e0'
  have KA := K1.out
  have e0 := KA.cell 0 _ rfl
  have e1 := KA.cell 1 _ rfl
  have e2 := KA.cell 2 _ rfl
  have e3 := KA.cell 3 _ rfl
  have e4 := KA.cell 4 _ rfl
  rw [hw1] at e0 e1 e2 e3 e4
  clear KA
  go_enter Tryz.func13, Tryz.ntmps13
  go_wp2_with fail
  rw [← hw1]
  clear hw1 e0 e1 e2 e3 e4
  refine HOC.out.mono ?_
  rintro e w2 ⟨rfl, b_⟩
  replace HIX := Lib.hid (HIX.out.below b_)
  replace HH := Lib.hid (HH.out.below b_)
  replace K1 := Lib.hid (K1.out.below b_)
  have B2 := Lib.hid (bl_trans B1.out b_)
  clear b_ HOC
  have HR := Lib.hid (Heap.right_any h D m d w2 HH.out hm)
  rw [H2.out] at HR
  go_wp2_with fail
  refine HR.out.mono ?_
  rintro e w3 ⟨rfl, rfl⟩
  clear HR
  cases b1
  · have HF : Hid (b = false) := Lib.hid (by rw [← HB.out]; simp)
    go_wp2
    go_ret
    exact ⟨ret_bool HF.out.symm, B2.out⟩
  · cases b2
    · have HF : Hid (b = false) := Lib.hid (by rw [← HB.out]; simp)
      go_wp2
      go_ret
      exact ⟨ret_bool HF.out.symm, B2.out⟩
    · have q1 := K1.out.cell 1 _ rfl
      have q3 := K1.out.cell 3 _ rfl
      have q4 := K1.out.cell 4 _ rfl
      by_cases m1 : xm = 1
      · subst m1
        have HF : Hid (b = true) := Lib.hid (by rw [← HB.out]; rfl)
        go_wp2
        go_ret
        exact ⟨ret_bool HF.out.symm, B2.out⟩
      · have t1 : (xm == 1) = false := by simpa using m1
        by_cases m3 : xm = 3
        · subst m3
          have HM : Hid (heldB xT h = b) := Lib.hid (by rw [← HB.out]; rfl)
          obtain ⟨⟨v, f⟩, hg⟩ : ∃ r, Term.evalS xT h [] = r := ⟨_, rfl⟩
          have HD : Hid ((f == 0 && v != 0) = b) := Lib.hid (by rw [← HM.out]; unfold heldB; rw [hg])
          have HC := Lib.hid (Term.refeval xT h [] xB D none xk xd m d 0 0 w2 (v, f) HIX.out.2 HH.out Rd.none_ HXL.out.2 hm (by decide) hg)
          clear hg m1
          go_wp2_with fail
          refine HC.out.mono ?_
          rintro e w4 ⟨rfl, b4⟩
          have B4 := Lib.hid (bl_trans B2.out b4)
          clear b4 HC q1 q3 q4
          by_cases hf : f = 0
          · subst hf
            by_cases hv : v = 0
            · subst hv
              go_wp2
              go_ret
              exact ⟨ret_bool (by rw [← HD.out]; simp), B4.out⟩
            · have t2 : (v != 0) = true := by simpa using hv
              go_wp2
              go_ret
              exact ⟨ret_bool (by rw [← HD.out]; simp [hv]), B4.out⟩
          · have t2 : (f == 0) = false := by simpa using hf
            go_wp2
            go_ret
            exact ⟨ret_bool (by rw [← HD.out]; simp [hf]), B4.out⟩
        · have t3 : (xm == 3) = false := by simpa using m3
          have HM : Hid (otherB xW h = b) := Lib.hid (by
            have hm2 : xm = 2 := by rcases mode_one _ H1.out with h | h | h; exact absurd h m1; exact h; exact absurd h m3
            rw [← HB.out, hm2]; rfl)
          have hxn : xn ≤ 1000000 := HXL.out.1
          clear m1 m3
          go_wp2
          go_loopw [9] (fun i wr => ∃ k : Nat, k ≤ xn ∧ i = .int .i64 k ∧ Hid (Below w2.heap.size w2 wr) ∧ Hid (otherB (xW.take k) h = false)) (fun i _ => xn - (intOf i).toNat)
          case atStart => exact ⟨0, Nat.zero_le _, rfl, Lib.hid (Below.refl _ _), Lib.hid rfl⟩
          case round =>
            obtain ⟨k, hk, rfl, HBW, hall⟩ := hrel
            generalize wr = w3 at *
            clear q1 q3 q4
            have q3 := (K1.out.below HBW.out).cell 3 _ rfl
            by_cases hlt : k < xn
            · obtain ⟨b5, off, ⟨cl, vl⟩, rfl, hx, c0, c1⟩ := Heap.at_write (HIX.out.1.below HBW.out) k hlt
              have HS := Lib.hid (take_any xW (diffB h) k _ hx)
              have HX := Lib.hid hx
              clear hx
              obtain ⟨⟨v, f⟩, hg⟩ : ∃ r, Heap.getS h cl = r := ⟨_, rfl⟩
              have HD : Hid (diffB h ⟨cl, vl⟩ = !(f == 0 && v == vl)) := Lib.hid (by unfold diffB; dsimp only; rw [hg])
              have HC := Lib.hid (Heap.get_any h D m d cl w3 (HH.out.below HBW.out) hm)
              rw [hg] at HC
              clear hg
              go_wp2_with fail
              refine HC.out.mono ?_
              rintro e w4 ⟨rfl, rfl⟩
              clear HC
              by_cases hf : f = 0
              · subst hf
                by_cases hv : v = vl
                · subst hv
                  have HN : Hid (otherB (xW.take (k + 1)) h = false) := Lib.hid (by unfold otherB at hall ⊢; rw [HS.out, hall.out, HD.out]; simp)
                  go_wp2
                  go_roundw
                  case rel => exact ⟨k + 1, by omega, by go_num, HBW, HN⟩
                  case measure => simp [intOf]; omega
                · have HF : Hid (b = true) := Lib.hid (by rw [← HM.out]; exact any_good xW _ k _ HX.out (by rw [HD.out]; simpa using hv))
                  have t2 : (v != vl) = true := by simpa using hv
                  clear hv
                  go_wp2
                  go_ret
                  exact ⟨ret_bool HF.out.symm, bl_trans B2.out HBW.out⟩
              · have HF : Hid (b = true) := Lib.hid (by rw [← HM.out]; exact any_good xW _ k _ HX.out (by rw [HD.out]; simp [hf]))
                have t2 : (f != 0) = true := by simpa using hf
                clear hf
                go_wp2
                go_ret
                exact ⟨ret_bool HF.out.symm, bl_trans B2.out HBW.out⟩
            · obtain rfl : k = xn := by omega
              have HF : Hid (b = false) := Lib.hid (by
                rw [← HM.out]; have h5 := hall.out; rwa [List.take_of_length_le (by rw [show xW.length = k from HLW.out]; exact Nat.le_refl _)] at h5)
              go_wp2
              go_ret
              exact ⟨ret_bool HF.out.symm, bl_trans B2.out HBW.out⟩

def metS (W w : List Write) : Bool := w.any (fun a => W.any (fun y => y.cell == a.cell))
theorem met_sees (W w : List Write) : metS W w = seesB W (w.map Write.cell) := by
  rw [Bool.eq_iff_iff]
  unfold metS seesB
  simp only [List.any_eq_true, List.any_map, Function.comp, beq_iff_eq]
  constructor
  · rintro ⟨a, ha, y, hy, e⟩; exact ⟨y, hy, a, ha, e.symm⟩
  · rintro ⟨y, hy, a, ha, e⟩; exact ⟨a, ha, y, hy, e.symm⟩
set_option maxRecDepth 100000 in
set_option maxHeartbeats 4000000 in
theorem refmet_c (x : RawS) (u : List Write) (E : Option Addr) (p f : Nat) (w : World) (b : Bool) (hi : Inner w x) (hl : Lim1 x) (hu : Rd w 2 E p (Heap.ws u)) (hp : p ≤ 1000000) (hb : seesB x.W (u.map Write.cell) = b) :
    Calls Tryz.prog 19 #[.agg (cS x), .slice E p f] w (RetB w b) := by
  obtain ⟨w1, hw1⟩ : ∃ w1, w1 = w.alloc (.cells (cS x) 44) := ⟨_, rfl⟩
  have K1 : Hid (Blk w1 w.heap.size 44 (cS x)) := Lib.hid (by rw [hw1]; exact Blk.new _ _ _)
  have B1 : Hid (Below w.heap.size w w1) := Lib.hid (by rw [hw1]; exact bl_alloc (Below.refl _ _) _)
  have HW : Hid (Rd w1 2 x.A x.n (Heap.ws x.W)) := Lib.hid (hi.below B1.out).1
  have HWL : Hid (x.W.length = x.n) := Lib.hid hi.lenW
  have HU := Lib.hid (hu.below B1.out)
  have HUL : Hid (u.length = p) := Lib.hid (by have := hu.1; rw [Heap.ws_len] at this; omega)
  have hxn : x.n ≤ 1000000 := hl.1
  have HM : Hid (metS x.W u = b) := Lib.hid (by rw [met_sees]; exact hb)
  clear hi hl hu hb
  obtain ⟨xw, xm, xt, xA, xn, xc, xW, xB, xk, xd, xT⟩ := x
  simp only at HW HWL hxn HM
  simp only [cS] at hw1 K1 ⊢
  go_enter Tryz.func19, Tryz.ntmps19
  go_wp2_with fail
  rw [← hw1]
  clear hw1
  go_loopw [5, 6] (fun i j_ wr => ∃ k : Nat, k ≤ p ∧ i = .int .i64 k ∧ Hid (Below w1.heap.size w1 wr) ∧ Hid (metS xW (u.take k) = false)) (fun i _ _ => p - (intOf i).toNat)
  case atStart => exact ⟨0, Nat.zero_le _, rfl, Lib.hid (Below.refl _ _), Lib.hid rfl⟩
  case round =>
    obtain ⟨k, hk, rfl, HB, hall⟩ := hrel
    generalize wr = w2 at *
    by_cases hlt : k < p
    · obtain ⟨b5, off5, ⟨cl, vl⟩, rfl, hx, c0, c1⟩ := Heap.at_write (HU.out.below HB.out) k hlt
      have HS := Lib.hid (take_any u (fun a => xW.any (fun y => y.cell == a.cell)) k _ hx)
      have HX := Lib.hid hx
      have HC0 := Lib.hid c0
      clear hx c0 c1
      go_wp2
      go_loopw [6] (fun i wr => ∃ t : Nat, t ≤ xn ∧ i = .int .i64 t ∧ Hid (Below w2.heap.size w2 wr) ∧ Hid ((xW.take t).any (fun y => y.cell == cl) = false)) (fun i _ => xn - (intOf i).toNat)
      case atStart => exact ⟨0, Nat.zero_le _, rfl, Lib.hid (Below.refl _ _), Lib.hid rfl⟩
      case round =>
        obtain ⟨t, ht, rfl, HB2, hno⟩ := hrel
        generalize wr = w3 at *
        have HB3 := Lib.hid (bl_trans HB.out HB2.out)
        have q3 := (K1.out.below HB3.out).cell 3 _ rfl
        by_cases hlt2 : t < xn
        · obtain ⟨b6, off6, ⟨cy, vy⟩, rfl, hy, d0, d1⟩ := Heap.at_write (HW.out.below HB3.out) t hlt2
          have HT := Lib.hid (take_any xW (fun y => y.cell == cl) t _ hy)
          have HY := Lib.hid hy
          have c0 := (HB2.out.cell (cell_lt HC0.out)).trans HC0.out
          clear hy
          by_cases he : cy = cl
          · subst he
            have HF : Hid (b = true) := Lib.hid (by rw [← HM.out]; exact any_good u _ k _ HX.out (any_good xW _ t _ HY.out (by simp)))
            go_wp2_with fail
            go_quiet (fail)
            go_wp2
            go_ret
            exact ⟨ret_bool HF.out.symm, bl_drewN (bl_trans B1.out HB3.out) _⟩
          · have t1 : (cy == cl) = false := by simpa using he
            have HN : Hid ((xW.take (t + 1)).any (fun y => y.cell == cl) = false) := Lib.hid (by rw [HT.out, hno.out]; exact t1)
            clear he
            go_wp2_with fail
            go_quiet (fail)
            go_wp2
            go_roundw
            case rel => exact ⟨t + 1, by omega, by go_num, Lib.hid (bl_drewN HB2.out _), HN⟩
            case measure => simp [intOf]; omega
        · have HN : Hid (metS xW (u.take (k + 1)) = false) := Lib.hid (by
            have h5 := hno.out; rw [List.take_of_length_le (by rw [HWL.out]; omega)] at h5
            unfold metS at hall ⊢; rw [HS.out, hall.out]; exact h5)
          go_wp2
          go_roundw
          case rel => exact ⟨k + 1, by omega, by go_num, HB3, HN⟩
          case measure => simp [intOf]; omega
    · obtain rfl : k = p := by omega
      have HF : Hid (b = false) := Lib.hid (by
        rw [← HM.out]; have h5 := hall.out; rwa [List.take_of_length_le (by rw [HUL.out]; exact Nat.le_refl _)] at h5)
      go_wp2
      go_ret
      exact ⟨ret_bool HF.out.symm, bl_trans B1.out HB.out⟩
end Go.Proofs.YtddgdhaioomnnaaGreat.Filter
