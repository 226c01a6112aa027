/-
  WHAT THE DOCUMENT'S ANSWER FOR LAYER 5 RETURNS: Valid, Still.
-/
import Derived.Test.YtemfkjcfafenjaaReadsRef
import Derived.Test.YtemfkjcfafenjaaReadsMore
namespace Go.Proofs.Ytemfkjcfafenjaa.Reads
open Go.ChangeShapes Go.WideShapes Go.ChangeAt Go.RowKit Mem

/-- What is returned: a number, with new memory at most. -/
def RetI (w : World) (v : Int) (e : Ending) (w' : World) : Prop := e = .returned (.int .i64 v) ∧ Below w.heap.size w w'

/-- The record of a read's cell. -/
theorem place_of (t : List Stripe.Rec) (n : Nat) (hl : t.length = n) (hn : 0 < n) (c : Int) : ∃ j x, c % (n : Int) = (j : Nat) ∧ j < n ∧ t[j]? = some x := by
  have h1 := Int.emod_nonneg c (show (n : Int) ≠ 0 by omega)
  have h2 := Int.emod_lt_of_pos c (show (0 : Int) < (n : Int) by omega)
  refine ⟨(c % (n : Int)).toNat, t[(c % (n : Int)).toNat]'(by omega), by omega, by omega, List.getElem?_eq_getElem (by omega)⟩
theorem as_at (t : List Stripe.Rec) (n : Nat) (hl : t.length = n) (who : Int) (r : Read) (j : Nat) (x : Stripe.Rec) (hj : r.cell % (n : Int) = (j : Int)) (hx : t[j]? = some x) :
    asB t who r = (x.version == r.version && (x.owner == 0 || x.owner == who)) := by
  unfold asB; rw [hl, hj, Int.toNat_natCast, hx]
theorem rec_owner (t : List Stripe.Rec) (h : Stripe.rightB t = true) (j : Nat) (x : Stripe.Rec) (hx : t[j]? = some x) : 0 ≤ x.owner := by
  unfold Stripe.rightB at h; rw [Bool.and_eq_true] at h
  have := List.all_eq_true.1 h.2 x (List.mem_of_getElem? hx)
  unfold Stripe.recB at this; simp at this; omega
theorem rec_len (t : List Stripe.Rec) (h : Stripe.rightB t = true) : 0 < t.length := by
  unfold Stripe.rightB at h; rw [Bool.and_eq_true] at h
  have := h.1; simp at this; omega
theorem cells_rec {w : World} {b off n : Nat} {l : List Stripe.Rec} (hr : Rd w 2 (some ⟨b, off, none⟩) n (Stripe.rs l)) {k : Nat} {x : Stripe.Rec} (hx : l[k]? = some x) :
    w.cell? ⟨b, off + k * 2, none⟩ = some (.int .i64 x.version) ∧ w.cell? ⟨b, off + k * 2 + 1, none⟩ = some (.int .i64 x.owner) := by
  have hl := Stripe.rs_len hr
  obtain ⟨b', off', y, e, hy, h0, h1⟩ := Stripe.at_rec hr k (by have := (List.getElem?_eq_some_iff.1 hx).1; omega)
  injection e with e
  injection e with e1 e2
  subst e1 e2
  rw [hx] at hy
  injection hy with hy
  subst hy
  exact ⟨h0, h1⟩

theorem refvalid (l : List Read) (t : List Stripe.Rec) (A D : Option Addr) (n c m d : Nat) (who : Int) (w : World) (v : Int) (hr : Rd w 3 A n (ds l)) (ht : Rd w 2 D m (Stripe.rs t)) (hn : n ≤ 1000000) (hm : m ≤ 1000000)
    (hv : validS l t who = v) : Calls Try.prog 21 #[.slice A n c, .slice D m d, .int .i64 who] w (RetI w v) := by
  have HV := Lib.hid hv
  have HL := Lib.hid (ds_len hr)
  have HM := Lib.hid (Stripe.rs_len ht)
  have HR := Lib.hid hr
  have HT := Lib.hid ht
  clear hr ht hv
  by_cases hok : (rightB l && (Stripe.rightB t && Stripe.whoB who)) = true
  · have HOK := Lib.hid hok
    obtain ⟨k1, hok⟩ := Bool.and_eq_true_iff.1 hok
    obtain ⟨k2, k3⟩ := Bool.and_eq_true_iff.1 hok
    have h1 := Lib.hid k1
    have h2 := Lib.hid k2
    have hm0 : 0 < m := by rw [← HM.out]; exact rec_len t k2
    have hdn : ((m : Int) == 0) = false := beq_eq_false_iff_ne.2 (by omega)
    obtain ⟨db, dof, rfl, -⟩ := HT.out.2 hm0
    clear hok k1 k2
    go_enter Try.func21, Try.ntmps21
    go_wp2_with fail
    refine (right_g l _ _ _ _ true HR.out hn h1.out).mono ?_
    rintro e w1 ⟨rfl, g1⟩
    have hb1 := g1.below
    clear g1
    go_wp2_with fail
    refine (Stripe.right_any t _ _ _ _ (HT.out.below hb1) hm).mono ?_
    rw [h2.out]
    rintro e w' ⟨rfl, rfl⟩
    go_wp2_with fail
    refine (Stripe.who_any who _).mono ?_
    rw [k3]
    rintro e w' ⟨rfl, rfl⟩
    go_wp2_with fail
    go_loopw [10] (fun i wr => ∃ k : Nat, k ≤ n ∧ i = .int .i64 k ∧ Hid (Below w.heap.size w wr) ∧ Hid ((l.take k).all (asB t who) = true)) (fun i _ => n - (intOf i).toNat)
    case atStart => exact ⟨0, Nat.zero_le _, rfl, Lib.hid hb1, Lib.hid rfl⟩
    case round =>
      clear hb1
      obtain ⟨k, hk, rfl, HB, hall⟩ := hrel
      by_cases hlt : k < n
      · obtain ⟨b, off, ⟨cl, vr, vl⟩, rfl, hx, c0, c1, c2⟩ := at_read (HR.out.below HB.out) k hlt
        have hc0 : 0 ≤ cl := one_cell _ (right_one l h1.out _ (List.mem_of_getElem? hx))
        obtain ⟨j, ⟨rv, ro⟩, hj, hjm, hy⟩ := place_of t m HM.out hm0 cl
        obtain ⟨d0, d1⟩ := cells_rec (HT.out.below HB.out) hy
        have ho0 : 0 ≤ ro := rec_owner t h2.out j _ hy
        have hs := Lib.hid (take_all l (asB t who) k _ hx)
        have ha := Lib.hid (as_at t m HM.out who ⟨cl, vr, vl⟩ j _ hj hy)
        have HX := Lib.hid hx
        have hc1 : ∀ o, (wr.alloc o).cell? ⟨b, off + k * 3 + 1, none⟩ = some (.int .i64 vr) := fun o => (cells_read ((HR.out.below HB.out).alloc o) hx).2.1
        have HC : Hid (∀ y, (asB t who ⟨cl, vr, vl⟩ = y) → y = false → v = 8) := Lib.hid (fun y e1 e2 => by
          rw [← HV.out]; unfold validS; rw [if_pos HOK.out, all_bad l (asB t who) k _ HX.out (e1.trans e2)]; rfl)
        clear hx hy
        by_cases hv1 : rv = vr
        · subst hv1
          by_cases hv2 : 0 < ro
          · by_cases hv3 : ro = who
            · subst hv3
              have HY : Hid (asB t ro ⟨cl, rv, vl⟩ = true) := Lib.hid (by rw [ha.out]; simp)
              go_wp2_with fail
              go_quiet (fail)
              go_wp2
              go_roundw
              case rel => exact ⟨k + 1, by omega, by go_num, Lib.hid (bl_drewN (bl_alloc HB.out _) _), Lib.hid (by rw [hs.out, hall.out, HY.out]; rfl)⟩
              case measure => simp [intOf]; omega
            · have hv4 : (ro != who) = true := by simpa using hv3
              have HF : Hid (v = 8) := Lib.hid (HC.out _ ha.out (by simp [hv3]; omega))
              clear hv3
              go_wp2_with fail
              go_quiet (fail)
              go_wp2
              go_ret
              exact ⟨ret_int HF.out.symm, bl_drewN (bl_alloc HB.out _) _⟩
          · obtain rfl : ro = 0 := by omega
            have HY : Hid (asB t who ⟨cl, rv, vl⟩ = true) := Lib.hid (by rw [ha.out]; simp)
            go_wp2_with fail
            go_quiet (fail)
            go_wp2
            go_roundw
            case rel => exact ⟨k + 1, by omega, by go_num, Lib.hid (bl_drewN (bl_alloc HB.out _) _), Lib.hid (by rw [hs.out, hall.out, HY.out]; rfl)⟩
            case measure => simp [intOf]; omega
        · have HF : Hid (v = 8) := Lib.hid (HC.out _ ha.out (by simp [hv1]))
          have hv2 : (rv != vr) = true := by simpa using hv1
          clear hv1
          go_wp2_with fail
          go_quiet (fail)
          go_wp2
          go_ret
          exact ⟨ret_int HF.out.symm, bl_drewN (bl_alloc HB.out _) _⟩
      · have HF : Hid (v = 0) := Lib.hid (by
          have := hall.out
          rw [List.take_of_length_le (by rw [HL.out]; omega)] at this
          rw [← HV.out]; unfold validS; rw [if_pos HOK.out, if_pos this])
        go_wp2
        go_ret
        exact ⟨ret_int HF.out.symm, HB.out⟩
  · have HF : Hid (v = 1) := Lib.hid (by rw [← HV.out]; unfold validS; rw [if_neg hok])
    cases h1 : rightB l
    all_goals cases h2 : Stripe.rightB t
    all_goals cases h3 : Stripe.whoB who
    all_goals first
      | (exfalso; rw [h1, h2, h3] at hok; exact hok rfl)
      | (have H1 := Lib.hid h1
         have H2 := Lib.hid h2
         clear hok h1 h2
         go_enter Try.func21, Try.ntmps21
         go_wp2_with fail
         refine (right_g l _ _ _ _ _ HR.out hn H1.out).mono ?_
         rintro e w1 ⟨rfl, g1⟩
         have hb1 := g1.below
         clear g1
         go_wp2_with fail
         refine (Stripe.right_any t _ _ _ _ (HT.out.below hb1) hm).mono ?_
         rw [H2.out]
         rintro e w' ⟨rfl, rfl⟩
         go_wp2_with fail
         refine (Stripe.who_any who _).mono ?_
         rw [h3]
         rintro e w' ⟨rfl, rfl⟩
         go_wp2_with fail
         go_ret
         exact ⟨ret_int HF.out.symm, hb1⟩)

theorem still_at (h : List Heap.Cell) (r : Read) (hl : Heap.liveAt h r.cell = true) (j : Nat) (hj : r.cell = (j : Int)) (x : Heap.Cell) (hx : h[j]? = some x) : stillB h r = (x.value == r.value) := by
  unfold stillB; rw [hl, hj, Heap.val_at h j x hx]; simp
theorem cells_cell {w : World} {b off n : Nat} {l : List Heap.Cell} (hr : Rd w 2 (some ⟨b, off, none⟩) n (Heap.cs l)) {k : Nat} {x : Heap.Cell} (hx : l[k]? = some x) :
    w.cell? ⟨b, off + k * 2, none⟩ = some (.bool x.live) ∧ w.cell? ⟨b, off + k * 2 + 1, none⟩ = some (.int .i64 x.value) := by
  have hl : l.length = n := by have := hr.1; rw [Heap.cs_len] at this; omega
  obtain ⟨b', off', y, e, hy, h0, h1⟩ := Heap.at_cell hr k (by have := (List.getElem?_eq_some_iff.1 hx).1; omega)
  injection e with e
  injection e with e1 e2
  subst e1 e2
  rw [hx] at hy
  injection hy with hy
  subst hy
  exact ⟨h0, h1⟩

theorem refstill (l : List Read) (h : List Heap.Cell) (A D : Option Addr) (n c m d : Nat) (w : World) (v : Bool) (hr : Rd w 3 A n (ds l)) (ht : Rd w 2 D m (Heap.cs h)) (hn : n ≤ 1000000) (hm : m ≤ 1000000)
    (hv : sameS l h = v) : Calls Try.prog 23 #[.slice A n c, .slice D m d] w (RetB w v) := by
  have HV := Lib.hid hv
  have HL := Lib.hid (ds_len hr)
  have HM : Hid (h.length = m) := Lib.hid (by have := ht.1; rw [Heap.cs_len] at this; omega)
  have HR := Lib.hid hr
  have HT := Lib.hid ht
  clear hr ht hv
  by_cases hok : (rightB l && Heap.rightB h) = true
  · have HOK := Lib.hid hok
    obtain ⟨k1, k2⟩ := Bool.and_eq_true_iff.1 hok
    have h1 := Lib.hid k1
    have h2 := Lib.hid k2
    clear hok k1 k2
    go_enter Try.func23, Try.ntmps23
    go_wp2_with fail
    refine (right_g l _ _ _ _ true HR.out hn h1.out).mono ?_
    rintro e w1 ⟨rfl, g1⟩
    have hb1 := g1.below
    clear g1
    go_wp2_with fail
    refine (Heap.right_any h _ _ _ _ (HT.out.below hb1) hm).mono ?_
    rw [h2.out]
    rintro e w' ⟨rfl, rfl⟩
    go_wp2_with fail
    go_loopw [7] (fun i wr => ∃ k : Nat, k ≤ n ∧ i = .int .i64 k ∧ Hid (Below w.heap.size w wr) ∧ Hid ((l.take k).all (stillB h) = true)) (fun i _ => n - (intOf i).toNat)
    case atStart => exact ⟨0, Nat.zero_le _, rfl, Lib.hid hb1, Lib.hid rfl⟩
    case round =>
      clear hb1
      obtain ⟨k, hk, rfl, HB, hall⟩ := hrel
      by_cases hlt : k < n
      · obtain ⟨b, off, ⟨cl, vr, vl⟩, rfl, hx, c0, c1, c2⟩ := at_read (HR.out.below HB.out) k hlt
        have hs := Lib.hid (take_all l (stillB h) k _ hx)
        have HX := Lib.hid hx
        have HC : Hid (stillB h ⟨cl, vr, vl⟩ = false → v = false) := Lib.hid (fun e1 => by
          rw [← HV.out]; unfold sameS; rw [all_bad l (stillB h) k _ HX.out e1]; simp)
        clear hx
        cases hlv : Heap.liveAt h cl
        · have HF : Hid (v = false) := Lib.hid (HC.out (by unfold stillB; rw [hlv]; rfl))
          have HLV := Lib.hid hlv
          clear hlv
          go_wp2_with fail
          refine (Heap.live_any h _ _ _ _ _ (HT.out.below HB.out) hm).mono ?_
          rw [HLV.out]
          rintro e w' ⟨rfl, rfl⟩
          go_wp2_with fail
          go_quiet (fail)
          go_wp2
          go_ret
          exact ⟨ret_bool HF.out.symm, bl_drewN HB.out _⟩
        · obtain ⟨hc0, hc1, x, hx', _⟩ := Heap.live_in h cl hlv
          obtain ⟨j, rfl⟩ := Int.eq_ofNat_of_zero_le hc0
          simp only [Int.toNat_natCast] at hx' hc1
          have hjm : j < m := by rw [← HM.out]; exact hc1
          obtain ⟨db, dof, rfl, -⟩ := HT.out.2 (by omega)
          obtain ⟨lv, xv⟩ := x
          obtain ⟨d0, d1⟩ := cells_cell (HT.out.below HB.out) hx'
          have ha := Lib.hid (still_at h ⟨(j : Int), vr, vl⟩ hlv j rfl _ hx')
          have HLV := Lib.hid hlv
          clear hlv hc0 hc1 hx'
          by_cases hv1 : xv = vl
          · subst hv1
            have HY : Hid (stillB h ⟨(j : Int), vr, xv⟩ = true) := Lib.hid (by rw [ha.out]; simp)
            go_wp2_with fail
            refine (Heap.live_any h _ _ _ _ _ (HT.out.below HB.out) hm).mono ?_
            rw [HLV.out]
            rintro e w' ⟨rfl, rfl⟩
            go_wp2_with fail
            go_quiet (fail)
            go_wp2
            go_roundw
            case rel => exact ⟨k + 1, by omega, by go_num, Lib.hid (bl_drewN HB.out _), Lib.hid (by rw [hs.out, hall.out, HY.out]; rfl)⟩
            case measure => simp [intOf]; omega
          · have HF : Hid (v = false) := Lib.hid (HC.out (by rw [ha.out]; simpa using hv1))
            have hv2 : (xv != vl) = true := by simpa using hv1
            clear hv1
            go_wp2_with fail
            refine (Heap.live_any h _ _ _ _ _ (HT.out.below HB.out) hm).mono ?_
            rw [HLV.out]
            rintro e w' ⟨rfl, rfl⟩
            go_wp2_with fail
            go_quiet (fail)
            go_wp2
            go_ret
            exact ⟨ret_bool HF.out.symm, bl_drewN HB.out _⟩
      · have HF : Hid (v = true) := Lib.hid (by
          have := hall.out
          rw [List.take_of_length_le (by rw [HL.out]; omega)] at this
          rw [← HV.out]; unfold sameS; rw [HOK.out, this]; rfl)
        go_wp2
        go_ret
        exact ⟨ret_bool HF.out.symm, HB.out⟩
  · have HF : Hid (v = false) := Lib.hid (by rw [← HV.out]; unfold sameS; rw [Bool.eq_false_iff.2 hok]; rfl)
    cases h1 : rightB l
    all_goals cases h2 : Heap.rightB h
    all_goals first
      | (exfalso; rw [h1, h2] at hok; exact hok rfl)
      | (have H1 := Lib.hid h1
         have H2 := Lib.hid h2
         clear hok h1 h2
         go_enter Try.func23, Try.ntmps23
         go_wp2_with fail
         refine (right_g l _ _ _ _ _ HR.out hn H1.out).mono ?_
         rintro e w1 ⟨rfl, g1⟩
         have hb1 := g1.below
         clear g1
         go_wp2_with fail
         refine (Heap.right_any h _ _ _ _ (HT.out.below hb1) hm).mono ?_
         rw [H2.out]
         rintro e w' ⟨rfl, rfl⟩
         go_wp2_with fail
         go_ret
         exact ⟨ret_bool HF.out.symm, hb1⟩)
end Go.Proofs.Ytemfkjcfafenjaa.Reads
