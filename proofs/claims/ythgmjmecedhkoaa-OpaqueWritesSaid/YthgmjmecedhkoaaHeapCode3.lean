/-
  WHAT EACH FUNCTION OF THE LAYER heap RETURNS, AS IT IS WRITTEN: Free, Put; and all of them: the laws' premise 'Said' holds.
-/
import Derived.Test.YthgmjmecedhkoaaHeapCode2
namespace Go.Proofs.Ythgmjmecedhkoaa.Heap
open Go.ChangeShapes Go.WideShapes Go.ChangeAt Go.RowKit Mem


/-- What is wrong with writes. -/
def checkS (h : List Cell) (l : List Write) : Int :=
  if (rightB h && l.all (fun w => vB w.value)) = true then (if l.all (fun w => liveAt h w.cell) = true then 0 else 3) else 1
def RetN (w : World) (r : Int) (e : Ending) (w' : World) : Prop := e = .returned (.int .i64 r) ∧ Below w.heap.size w w'
set_option maxRecDepth 100000 in
theorem check_any (h : List Cell) (l : List Write) (A D : Option Addr) (n c m d : Nat) (w : World) (r : Int) (hr : Rd w 2 A n (cs h)) (hl : Rd w 2 D m (ws l)) (hn : n ≤ 1000000) (hm : m ≤ 1000000) (hc : checkS h l = r) :
    Calls Try.prog 23 #[.slice A n c, .slice D m d] w (RetN w r) := by
  subst hc
  have HM : Hid (l.length = m) := Lib.hid (by have := hl.1; rw [ws_len] at this; omega)
  have HR := Lib.hid hr
  have HW := Lib.hid hl
  clear hr hl
  by_cases h1 : rightB h = true
  · have H1 := Lib.hid h1
    clear h1
    go_enter Try.func23, Try.ntmps23
    go_wp2_with fail
    refine (right_c h _ _ _ _ true HR.out hn H1.out).mono ?_
    rintro e w1 ⟨rfl, b1⟩
    have HB1 := Lib.hid b1
    clear b1
    go_wp2_with fail
    go_loopw [14] (fun i wr => ∃ k : Nat, k ≤ m ∧ i = .int .i64 k ∧ Hid (Below w.heap.size w wr) ∧ Hid ((l.take k).all (fun w => vB w.value) = true)) (fun i _ => m - (intOf i).toNat)
    case atStart => exact ⟨0, Nat.zero_le _, rfl, HB1, Lib.hid rfl⟩
    case round =>
      obtain ⟨k, hk, rfl, HB, hall⟩ := hrel
      by_cases hlt : k < m
      · obtain ⟨b, off, ⟨cl, vl⟩, rfl, hx, c0, c1⟩ := at_write (HW.out.below HB.out) k hlt
        have hs := Lib.hid (take_all l (fun w => vB w.value) k _ hx)
        have HX := Lib.hid hx
        clear hx
        by_cases hok : vB vl = true
        · go_wp2_with (go_at_call 29; refine (spanright_any _ _).mono ?_; rintro e w' ⟨rfl, rfl⟩)
          go_roundw
          case rel => exact ⟨k + 1, by omega, by go_num, Lib.hid (bl_alloc HB.out _), Lib.hid (by rw [hs.out, hall.out]; exact hok)⟩
          case measure => simp [intOf]; omega
        · have hok' : vB vl = false := by simpa using hok
          have HF : Hid (checkS h l = 1) := Lib.hid (by
            unfold checkS; rw [if_neg]
            intro ha
            rw [Bool.and_eq_true] at ha
            have := List.all_eq_true.1 ha.2 _ (List.mem_of_getElem? HX.out)
            simp [hok'] at this)
          clear hok
          go_wp2_with (go_at_call 29; refine (spanright_any _ _).mono ?_; rintro e w' ⟨rfl, rfl⟩)
          go_ret
          exact ⟨ret_int HF.out.symm, bl_alloc HB.out _⟩
      · have HV : Hid ((rightB h && l.all (fun w => vB w.value)) = true) := Lib.hid (by
          have := hall.out
          rw [List.take_of_length_le (by rw [HM.out]; omega)] at this
          rw [H1.out, this]; rfl)
        clear hall
        generalize wr = wa at *
        go_wp2
        go_loopw [25] (fun i wr => ∃ j : Nat, j ≤ m ∧ i = .int .i64 j ∧ Hid (Below w.heap.size w wr) ∧ Hid ((l.take j).all (fun w => liveAt h w.cell) = true)) (fun i _ => m - (intOf i).toNat)
        case atStart => exact ⟨0, Nat.zero_le _, rfl, HB, Lib.hid rfl⟩
        case round =>
          obtain ⟨j, hj, rfl, HB2, hall⟩ := hrel
          by_cases hlt : j < m
          · obtain ⟨b, off, ⟨cl, vl⟩, rfl, hx, c0, c1⟩ := at_write (HW.out.below HB2.out) j hlt
            have hs := Lib.hid (take_all l (fun w => liveAt h w.cell) j _ hx)
            have HX := Lib.hid hx
            clear hx
            by_cases hok : liveAt h cl = true
            · have HK := Lib.hid hok
              clear hok
              go_wp2_with (go_at_call 30; refine (islive_any h _ _ _ _ _ true ((HR.out.below HB2.out).alloc _) HK.out).mono ?_; rintro e w' ⟨rfl, rfl⟩)
              go_roundw
              case rel => exact ⟨j + 1, by omega, by go_num, Lib.hid (bl_alloc HB2.out _), Lib.hid (by rw [hs.out, hall.out]; exact HK.out)⟩
              case measure => simp [intOf]; omega
            · have HK : Hid (liveAt h cl = false) := Lib.hid (by simpa using hok)
              have HF : Hid (checkS h l = 3) := Lib.hid (by
                unfold checkS; rw [if_pos HV.out, if_neg]
                intro ha
                have := List.all_eq_true.1 ha _ (List.mem_of_getElem? HX.out)
                simp [HK.out] at this)
              clear hok
              go_wp2_with (go_at_call 30; refine (islive_any h _ _ _ _ _ false ((HR.out.below HB2.out).alloc _) HK.out).mono ?_; rintro e w' ⟨rfl, rfl⟩)
              go_ret
              exact ⟨ret_int HF.out.symm, bl_alloc HB2.out _⟩
          · have HF : Hid (checkS h l = 0) := Lib.hid (by
              have := hall.out
              rw [List.take_of_length_le (by rw [HM.out]; omega)] at this
              unfold checkS; rw [if_pos HV.out, if_pos this])
            go_wp2
            go_ret
            exact ⟨ret_int HF.out.symm, HB2.out⟩
  · have H1 : Hid (rightB h = false) := Lib.hid (by simpa using h1)
    have HF : Hid (checkS h l = 1) := Lib.hid (by unfold checkS; rw [if_neg (by rw [H1.out]; simp)])
    clear h1
    go_enter Try.func23, Try.ntmps23
    go_wp2_with fail
    refine (right_c h _ _ _ _ false HR.out hn H1.out).mono ?_
    rintro e w1 ⟨rfl, b1⟩
    have HB1 := Lib.hid b1
    clear b1
    go_wp2_with fail
    go_ret
    exact ⟨ret_int HF.out.symm, HB1.out⟩

theorem cs_set1 (h : List Cell) (k : Nat) (x : Cell) (v : Int) (hx : h[k]? = some x) : (cs h).set (k * 2 + 1) (.int .i64 v) = cs (h.set k ⟨x.live, v⟩) := by
  rw [← cs_set h k ⟨x.live, v⟩]
  simp only
  congr 1
  obtain ⟨hl, rfl⟩ := List.getElem?_eq_some_iff.1 hx
  have := cs_0 h k hl
  obtain ⟨h2, h3⟩ := List.getElem?_eq_some_iff.1 this
  rw [← h3, List.set_getElem_self]
theorem live_set (h : List Cell) (a : Int) (v : Int) (cell : Int) (hl : liveAt h cell = true) : liveAt (setAt h a ⟨true, v⟩) cell = true := by
  obtain ⟨h0, h1, x, hx, hlv⟩ := live_in h cell hl
  obtain ⟨k, rfl⟩ := Int.eq_ofNat_of_zero_le h0
  simp only [Int.toNat_natCast] at hx
  by_cases he : (k : Int) = a
  · subst he
    rw [live_at _ k _ (setAt_at h k _ _ hx)]
  · rw [live_at _ k _ (setAt_ne h a k _ _ hx he)]; exact hlv
theorem live_putAll (h : List Cell) (l : List Write) (cell : Int) (hl : liveAt h cell = true) : liveAt (putAll h l) cell = true := by
  induction l generalizing h with
  | nil => exact hl
  | cons x l ih => simp only [putAll, List.foldl_cons] at *; exact ih _ (live_set h _ _ _ hl)

set_option maxRecDepth 100000 in
theorem put_c (h : List Cell) (l : List Write) (A D : Option Addr) (n c m d : Nat) (w : World) (r : List Cell × Int) (hr : Rd w 2 A n (cs h)) (hl : Rd w 2 D m (ws l)) (hn : n ≤ 1000000) (hm : m ≤ 1000000) (hp : putS h l = r) :
    Calls Try.prog 16 #[.slice A n c, .slice D m d] w (RetH w n r) := by
  subst hp
  have HL : Hid (h.length = n) := Lib.hid (by have := hr.1; rw [cs_len] at this; omega)
  have HM : Hid (l.length = m) := Lib.hid (by have := hl.1; rw [ws_len] at this; omega)
  have HR := Lib.hid hr
  have HW := Lib.hid hl
  clear hr hl
  go_enter Try.func16, Try.ntmps16
  go_wp2_with fail
  refine (clone_any h _ _ _ _ HR.out hn).mono ?_
  rintro e w1 ⟨v, rfl, ho⟩
  have HO := Lib.hid ho
  clear ho
  go_wp2_with fail
  by_cases h1 : checkS h l = 0
  · have H1 := Lib.hid h1
    have HV : Hid ((rightB h && l.all (fun w => vB w.value)) = true ∧ l.all (fun w => liveAt h w.cell) = true) := Lib.hid (by
      unfold checkS at h1
      split at h1
      · rename_i ha
        split at h1
        · rename_i hb; exact ⟨ha, hb⟩
        · simp at h1
      · simp at h1)
    have HF : Hid (putS h l = (putAll h l, 0)) := Lib.hid (by unfold putS; rw [if_pos HV.out.1, if_pos HV.out.2])
    have hnz : 0 < n := by
      have := right_len h (by have := HV.out.1; rw [Bool.and_eq_true] at this; exact this.1)
      rw [← HL.out]; exact this.1
    clear h1
    refine (check_any h l _ _ _ _ _ _ _ 0 (HR.out.below HO.out.2) (HW.out.below HO.out.2) hn hm H1.out).mono ?_
    rintro e w2 ⟨rfl, b2⟩
    have HO2 := Lib.hid (HO.out.below b2)
    clear b2 HO
    obtain ⟨g, cap, rfl⟩ := own_lay HO2.out hnz
    go_wp2_with fail
    go_loopw [21] (fun i wr => ∃ j : Nat, j ≤ m ∧ i = .int .i64 j ∧ Hid (Own w wr 33 2 (.slice (some ⟨g, 0, none⟩) n cap) n (cs (putAll h (l.take j))))) (fun i _ => m - (intOf i).toNat)
    case atStart => exact ⟨0, Nat.zero_le _, rfl, HO2⟩
    case round =>
      obtain ⟨j, hj, rfl, hown⟩ := hrel
      by_cases hlt : j < m
      · obtain ⟨b, off, ⟨cl, vl⟩, rfl, hx, c0, c1⟩ := at_write (HW.out.below hown.out.2) j hlt
        have ht := Lib.hid (putAll_take h l j _ hx)
        have hlv : liveAt (putAll h (l.take j)) cl = true := live_putAll _ _ _ (List.all_eq_true.1 HV.out.2 _ (List.mem_of_getElem? hx))
        obtain ⟨q0, q1, x, hxx, hxl⟩ := live_in _ cl hlv
        obtain ⟨k, rfl⟩ := Int.eq_ofNat_of_zero_le q0
        simp only [Int.toNat_natCast] at hxx q1
        rw [putAll_len] at q1
        have hkn : k < n := by rw [← HL.out]; exact q1
        have hne : g ≠ wr.heap.size := by
          have := cell_lt ((hown.out.1.cellAt (k * 2) (by omega)).trans (cs_0 _ k (by rw [putAll_len, HL.out]; exact hkn)))
          simp at this; omega
        have HA := Lib.hid (hown.out.alloc (.cells #[.int .i64 (k : Int), .int .i64 vl] 35))
        have f1 := HA.out.1.frozenAt (k * 2 + 1)
        have d1 := (HA.out.1.cellAt (k * 2 + 1) (by omega)).trans (cs_1 _ k (by rw [putAll_len, HL.out]; exact hkn))
        have HS := Lib.hid (cs_set1 _ k x vl hxx)
        have HXL := Lib.hid hxl
        clear hx hlv hxx hxl q0 q1
        go_wp2
        go_roundw
        case rel =>
          refine ⟨j + 1, by omega, by go_num, Lib.hid ?_⟩
          have := own_set HA.out (k * 2 + 1) (.int .i64 vl)
          rw [HS.out, HXL.out] at this
          rw [ht.out]
          unfold setAt
          rw [if_neg (by simp)]
          exact this
        case measure => simp [intOf]; omega
      · have HT : Hid (l.take j = l) := Lib.hid (List.take_of_length_le (by rw [HM.out]; omega))
        have HO3 : Hid (Own w wr 33 2 (.slice (some ⟨g, 0, none⟩) n cap) n (cs (putAll h l))) := Lib.hid (by have := hown.out; rwa [HT.out] at this)
        go_wp2
        go_ret2
        obtain ⟨B, d, hv, hrd⟩ := HO3.out.form
        injection hv with e1 _ e3
        subst e1 e3
        exact ⟨_, _, by rw [HF.out]; rfl, by rw [HF.out]; exact hrd, HO3.out.2⟩
  · have HF : Hid (putS h l = (h, checkS h l)) := Lib.hid (by
      unfold checkS at h1 ⊢; unfold putS
      split
      · rename_i ha
        split
        · rename_i hb; exact absurd (by rw [if_pos ha, if_pos hb]) h1
        · rfl
      · rfl)
    have t1 : (checkS h l != 0) = true := by simpa using h1
    clear h1
    refine (check_any h l _ _ _ _ _ _ _ _ (HR.out.below HO.out.2) (HW.out.below HO.out.2) hn hm rfl).mono ?_
    rintro e w2 ⟨rfl, b2⟩
    have HO2 := Lib.hid (HO.out.below b2)
    clear b2 HO
    obtain ⟨B, q, rfl, hrd⟩ := HO2.out.form
    have HD := Lib.hid hrd
    clear hrd
    go_wp2_with fail
    go_ret2
    exact ⟨B, q, by rw [HF.out]; rfl, by rw [HF.out]; exact HD.out, HO2.out.2⟩

end Go.Proofs.Ythgmjmecedhkoaa.Heap
