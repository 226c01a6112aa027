/-
  Put, AS IT IS WRITTEN: its answer is of the call's own. No conditions beyond those that the theorem states.
-/
import Derived.Test.YthgmjmecedhkoaaHeapCode3
namespace Go.Proofs.Ythgmjmecedhkoaa.Heap
open Go.ChangeShapes Go.WideShapes Go.ChangeAt Go.RowKit Mem

/-- What is returned: a heap of the call's own, and an error. -/
def RetHO (w : World) (n : Nat) (r : List Cell × Int) (e : Ending) (w' : World) : Prop := ∃ v, e = .returned (.tuple #[v, .int .i64 r.2]) ∧ Own w w' 33 2 v n (cs r.1)
set_option maxRecDepth 100000 in
theorem put_o (h : List Cell) (l : List Write) (A D : Option Addr) (n c m d : Nat) (w : World) (r : List Cell × Int) (hr : Rd w 2 A n (cs h)) (hl : Rd w 2 D m (ws l)) (hn : n ≤ 1000000) (hm : m ≤ 1000000) (hp : putS h l = r) :
    Calls Try.prog 16 #[.slice A n c, .slice D m d] w (RetHO w n r) := by
  subst hp
  have HL : Hid (h.length = n) := Lib.hid (by have := hr.1; rw [cs_len] at this; omega)
  have HM : Hid (l.length = m) := Lib.hid (by have := hl.1; rw [ws_len] at this; omega)
  have HR := Lib.hid hr
  have HW := Lib.hid hl
  clear hr hl
  go_enter Try.func16, Try.ntmps16
  go_wp2_with fail
  refine (clone_any h _ _ _ _ HR.out hn).mono ?_
  rintro e w1 ⟨v, rfl, ho⟩
  have HO := Lib.hid ho
  clear ho
  go_wp2_with fail
  by_cases h1 : checkS h l = 0
  · have H1 := Lib.hid h1
    have HV : Hid ((rightB h && l.all (fun w => vB w.value)) = true ∧ l.all (fun w => liveAt h w.cell) = true) := Lib.hid (by
      unfold checkS at h1
      split at h1
      · rename_i ha
        split at h1
        · rename_i hb; exact ⟨ha, hb⟩
        · simp at h1
      · simp at h1)
    have HF : Hid (putS h l = (putAll h l, 0)) := Lib.hid (by unfold putS; rw [if_pos HV.out.1, if_pos HV.out.2])
    have hnz : 0 < n := by
      have := right_len h (by have := HV.out.1; rw [Bool.and_eq_true] at this; exact this.1)
      rw [← HL.out]; exact this.1
    clear h1
    refine (check_any h l _ _ _ _ _ _ _ 0 (HR.out.below HO.out.2) (HW.out.below HO.out.2) hn hm H1.out).mono ?_
    rintro e w2 ⟨rfl, b2⟩
    have HO2 := Lib.hid (HO.out.below b2)
    clear b2 HO
    obtain ⟨g, cap, rfl⟩ := own_lay HO2.out hnz
    go_wp2_with fail
    go_loopw [21] (fun i wr => ∃ j : Nat, j ≤ m ∧ i = .int .i64 j ∧ Hid (Own w wr 33 2 (.slice (some ⟨g, 0, none⟩) n cap) n (cs (putAll h (l.take j))))) (fun i _ => m - (intOf i).toNat)
    case atStart => exact ⟨0, Nat.zero_le _, rfl, HO2⟩
    case round =>
      obtain ⟨j, hj, rfl, hown⟩ := hrel
      by_cases hlt : j < m
      · obtain ⟨b, off, ⟨cl, vl⟩, rfl, hx, c0, c1⟩ := at_write (HW.out.below hown.out.2) j hlt
        have ht := Lib.hid (putAll_take h l j _ hx)
        have hlv : liveAt (putAll h (l.take j)) cl = true := live_putAll _ _ _ (List.all_eq_true.1 HV.out.2 _ (List.mem_of_getElem? hx))
        obtain ⟨q0, q1, x, hxx, hxl⟩ := live_in _ cl hlv
        obtain ⟨k, rfl⟩ := Int.eq_ofNat_of_zero_le q0
        simp only [Int.toNat_natCast] at hxx q1
        rw [putAll_len] at q1
        have hkn : k < n := by rw [← HL.out]; exact q1
        have hne : g ≠ wr.heap.size := by
          have := cell_lt ((hown.out.1.cellAt (k * 2) (by omega)).trans (cs_0 _ k (by rw [putAll_len, HL.out]; exact hkn)))
          simp at this; omega
        have HA := Lib.hid (hown.out.alloc (.cells #[.int .i64 (k : Int), .int .i64 vl] 35))
        have f1 := HA.out.1.frozenAt (k * 2 + 1)
        have d1 := (HA.out.1.cellAt (k * 2 + 1) (by omega)).trans (cs_1 _ k (by rw [putAll_len, HL.out]; exact hkn))
        have HS := Lib.hid (cs_set1 _ k x vl hxx)
        have HXL := Lib.hid hxl
        clear hx hlv hxx hxl q0 q1
        go_wp2
        go_roundw
        case rel =>
          refine ⟨j + 1, by omega, by go_num, Lib.hid ?_⟩
          have := own_set HA.out (k * 2 + 1) (.int .i64 vl)
          rw [HS.out, HXL.out] at this
          rw [ht.out]
          unfold setAt
          rw [if_neg (by simp)]
          exact this
        case measure => simp [intOf]; omega
      · have HT : Hid (l.take j = l) := Lib.hid (List.take_of_length_le (by rw [HM.out]; omega))
        have HO3 : Hid (Own w wr 33 2 (.slice (some ⟨g, 0, none⟩) n cap) n (cs (putAll h l))) := Lib.hid (by have := hown.out; rwa [HT.out] at this)
        go_wp2
        go_ret2
        exact ⟨_, by rw [HF.out]; rfl, by rw [HF.out]; exact HO3.out⟩
  · have HF : Hid (putS h l = (h, checkS h l)) := Lib.hid (by
      unfold checkS at h1 ⊢; unfold putS
      split
      · rename_i ha
        split
        · rename_i hb; exact absurd (by rw [if_pos ha, if_pos hb]) h1
        · rfl
      · rfl)
    have t1 : (checkS h l != 0) = true := by simpa using h1
    clear h1
    refine (check_any h l _ _ _ _ _ _ _ _ (HR.out.below HO.out.2) (HW.out.below HO.out.2) hn hm rfl).mono ?_
    rintro e w2 ⟨rfl, b2⟩
    have HO2 := Lib.hid (HO.out.below b2)
    clear b2 HO
    obtain ⟨B, q, rfl, hrd⟩ := HO2.out.form
    have HD := Lib.hid hrd
    clear hrd
    go_wp2_with fail
    go_ret2
    exact ⟨_, by rw [HF.out]; rfl, by rw [HF.out]; exact HO2.out⟩

end Go.Proofs.Ythgmjmecedhkoaa.Heap
