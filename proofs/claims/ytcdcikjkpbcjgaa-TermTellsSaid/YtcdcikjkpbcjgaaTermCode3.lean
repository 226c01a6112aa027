/-
  WHAT EACH FUNCTION OF THE LAYER term RETURNS, AS IT IS WRITTEN: tell.
-/
import Derived.Test.YtcdcikjkpbcjgaaTermCode2
namespace Go.Proofs.Ytcdcikjkpbcjgaa.Term
open Go.ChangeShapes Go.WideShapes Go.ChangeAt Go.RowKit Mem

theorem heap_told (h : List Heap.Cell) (hr : Heap.rightB h = true) (nn : Int) (rg : List Int) (ys : List Int) : Heap.getS h nn = told (tellS h rg ⟨2, nn⟩ ys) := by
  unfold Heap.getS tellS
  rw [if_pos hr]
  cases hl : Heap.liveAt h nn
  · simp [told]
  · simp [told]
set_option maxHeartbeats 1000000 in
theorem tell_any (h : List Heap.Cell) (rg ys : List Int) (kd nn : Int) (B D E : Option Addr) (t cb m d x y : Nat) (w : World) (r : Int × Int) (hy : Rd w 1 B t (zs ys)) (hh : Rd w 2 D m (Heap.cs h)) (hg : Rd w 1 E x (zs rg))
    (hm : m ≤ 1000000) (ho : oneB ⟨kd, nn⟩ = true) (ht : takes kd = t) (hys : ∀ z ∈ ys, Heap.vB z = true) (hr : Heap.rightB h = true) (hv : told (tellS h rg ⟨kd, nn⟩ ys) = r) :
    Calls Try.prog 23 #[.agg #[.int .i64 kd, .int .i64 nn], .slice B t cb, .slice D m d, .slice E x y] w (RetG w r) := by
  have hk : 1 ≤ kd ∧ kd ≤ 11 := one_kind ⟨kd, nn⟩ ho
  have HY := Lib.hid hy
  have HYL := Lib.hid (zs_len hy)
  have HH := Lib.hid hh
  have HG := Lib.hid hg
  have HV := Lib.hid hv
  have HR := Lib.hid hr
  clear hy hh hg hv hr
  rcases (by omega : kd = 1 ∨ kd = 2 ∨ kd = 3 ∨ kd = 11 ∨ (4 ≤ kd ∧ kd ≤ 10)) with rfl | rfl | rfl | rfl | ⟨h4, h10⟩
  · have HF : Hid (r = (nn, 0)) := Lib.hid (by rw [← HV.out]; rfl)
    clear ho ht hk hys
    go_enter Try.func23, Try.ntmps23
    go_wp2
    go_ret2
    exact ⟨by rw [HF.out]; rfl, bl_alloc (Below.refl _ _) _⟩
  · have HF := Lib.hid ((heap_told h HR.out nn rg ys).trans HV.out)
    clear ho ht hk hys
    go_enter Try.func23, Try.ntmps23
    go_wp2_with fail
    refine (Heap.get_c h _ _ _ _ _ r (HH.out.alloc _) hm HF.out).mono ?_
    rintro e w1 ⟨rfl, b1⟩
    have HB := Lib.hid (bl_trans (bl_alloc (Below.refl _ _) _) b1)
    clear b1
    go_wp2
    go_ret2
    exact ⟨rfl, HB.out⟩
  · have hn0 : 0 ≤ nn := by unfold oneB at ho; simp at ho; omega
    obtain ⟨j, rfl⟩ := Int.eq_ofNat_of_zero_le hn0
    obtain ⟨u, hu⟩ : ∃ u, told ((rg[j]?).map Span.sw) = u := ⟨_, rfl⟩
    have HF : Hid (r = u) := Lib.hid (by rw [← HV.out, ← hu]; rfl)
    have HU := Lib.hid hu
    obtain ⟨u1, u2⟩ := u
    clear ho ht hk hys hu
    go_enter Try.func23, Try.ntmps23
    go_wp2_with fail
    refine (register_any rg _ _ _ _ _ (HG.out.alloc _)).mono ?_
    rw [HU.out]
    rintro e w' ⟨rfl, rfl⟩
    go_wp2
    go_ret2
    exact ⟨by rw [HF.out]; rfl, bl_alloc (Below.refl _ _) _⟩
  · obtain rfl : t = 1 := ht.symm
    obtain ⟨bb, bf, a, rfl, ha, e0⟩ := at_z (HY.out.alloc (.cells #[.int .i64 11, .int .i64 nn] 44)) 0 (by omega)
    rw [Nat.add_zero] at e0
    have HF : Hid (r = (truthI (a == 0), 0)) := Lib.hid (by
      rw [← HV.out]
      have e : ys.getD 0 0 = a := by rw [List.getD_eq_getElem?_getD, ha]; rfl
      show told (some (truthI (ys.getD 0 0 == 0))) = _
      rw [e]; rfl)
    clear ho hk hys ha ht
    cases hz : (a == 0)
    all_goals
      have HZ := Lib.hid hz
      go_enter Try.func23, Try.ntmps23
      go_wp2_with fail
      refine (truth_any _ _).mono ?_
      rintro e w' ⟨rfl, rfl⟩
      go_wp2
      go_ret2
      exact ⟨by rw [HF.out, HZ.out]; rfl, bl_alloc (Below.refl _ _) _⟩
  · have f1 : (kd == 1) = false := beq_eq_false_iff_ne.2 (by omega)
    have f2 : (kd == 2) = false := beq_eq_false_iff_ne.2 (by omega)
    have f3 : (kd == 3) = false := beq_eq_false_iff_ne.2 (by omega)
    have f11 : (kd == 11) = false := beq_eq_false_iff_ne.2 (by omega)
    obtain rfl : t = 2 := by rw [← ht]; unfold takes; rw [if_neg (by omega), if_neg (by omega)]
    obtain ⟨bb, bf, a, rfl, ha, e0⟩ := at_z (HY.out.alloc (.cells #[.int .i64 kd, .int .i64 nn] 44)) 0 (by omega)
    obtain ⟨bb', bf', b, hA, hb, e1⟩ := at_z (HY.out.alloc (.cells #[.int .i64 kd, .int .i64 nn] 44)) 1 (by omega)
    injection hA with hA
    injection hA with hA1 hA2
    subst hA1 hA2
    rw [Nat.add_zero] at e0
    have HVA := Lib.hid (hys a (List.mem_of_getElem? ha))
    have HVB := Lib.hid (hys b (List.mem_of_getElem? hb))
    obtain ⟨v, hv⟩ : ∃ v, two kd a b = v := ⟨_, rfl⟩
    have HF : Hid (r = (v, 0)) := Lib.hid (by
      rw [← HV.out]
      have e : ys.getD 0 0 = a := by rw [List.getD_eq_getElem?_getD, ha]; rfl
      have e' : ys.getD 1 0 = b := by rw [List.getD_eq_getElem?_getD, hb]; rfl
      unfold tellS
      rw [if_neg (by show ¬ kd = 1; omega), if_neg (by show ¬ kd = 2; omega), if_neg (by show ¬ kd = 3; omega), if_neg (by show ¬ kd = 11; omega), e, e']
      show told (some (two kd a b)) = _
      rw [hv]; rfl)
    have HTW := Lib.hid hv
    have hc := fun m => (oftwo_any kd a b v ((w.alloc (.cells #[.int .i64 kd, .int .i64 nn] 44)).drewN m) HVA.out HVB.out h4 h10 HTW.out).mono (fun _ _ (h : _ ∧ _) => (⟨h.1, 0, h.2.symm⟩ : _ ∧ ∃ q, _ = ((w.alloc (.cells #[.int .i64 kd, .int .i64 nn] 44)).drewN m).drewN q))
    clear ho hk hys ha hb ht hv
    go_enter Try.func23, Try.ntmps23
    go_wp2_with fail
    go_quiet (first | (go_at_call 38; refine Calls.quiet_of (hc _)))
    go_wp2
    go_ret2
    exact ⟨by rw [HF.out]; rfl, bl_drewN (bl_alloc (Below.refl _ _) _) _⟩
end Go.Proofs.Ytcdcikjkpbcjgaa.Term
