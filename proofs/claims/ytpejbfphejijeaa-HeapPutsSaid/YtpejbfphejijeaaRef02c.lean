/-
  WHAT THE DOCUMENT'S ANSWER FOR LAYER 2 RETURNS: Alloc, Put.
-/
import Derived.Test.YtpejbfphejijeaaRef02b
namespace Go.Proofs.Ytpejbfphejijeaa.Heap
open Go.ChangeShapes Go.WideShapes Go.ChangeAt Go.RowKit Mem

/-- A heap, a cell's number, and an error's number, are returned. -/
def RetA (w : World) (n : Nat) (r : List Cell × Int × Int) (e : Ending) (w' : World) : Prop :=
  ∃ B d, e = .returned (.tuple #[.slice B n d, .int .i64 r.2.1, .int .i64 r.2.2]) ∧ Rd w' 2 B n (cs r.1) ∧ Below w.heap.size w w'

theorem alloc_any (h : List Cell) (A : Option Addr) (n c : Nat) (value : Int) (w : World) (hr : Rd w 2 A n (cs h)) (hn : n ≤ 1000000) :
    Calls Try.prog 11 #[.slice A n c, .int .i64 value] w (RetA w n (allocS h value)) := by
  have HL : Hid (h.length = n) := Lib.hid (by have := hr.1; rw [cs_len] at this; omega)
  have HR := Lib.hid hr
  clear hr
  by_cases hok : (rightB h && vB value) = true
  · obtain ⟨h1, h2⟩ := Bool.and_eq_true_iff.1 hok
    have HK := Lib.hid hok
    clear hok
    go_enter Try.func11, Try.ntmps11
    go_wp2_with (first
      | (go_at_call 19; refine (right_any h _ _ _ _ HR.out hn).mono ?_; rintro e w' ⟨rfl, rfl⟩)
      | (go_at_call 26; refine (ref01right_any _ _).mono ?_; rintro e w' ⟨rfl, rfl⟩))
    go_loop [9] (fun i => ∃ k : Nat, k ≤ n ∧ i = .int .i64 k ∧ Hid ((h.take k).all Cell.live = true)) (fun i => n - (intOf i).toNat)
    case atStart => exact ⟨0, Nat.zero_le _, rfl, Lib.hid rfl⟩
    case round =>
      obtain ⟨k, hk, rfl, hall⟩ := hrel
      by_cases hlt : k < n
      · obtain ⟨b, off, ⟨lv, vl⟩, rfl, hx, c0, c1⟩ := at_cell HR.out k hlt
        have HX := Lib.hid hx
        clear hx
        cases lv
        · have HF : Hid (allocS h value = (setAt h (k : Int) ⟨true, value⟩, (k : Int), 0)) := Lib.hid (by
            unfold allocS; rw [if_pos HK.out, free1_at h k _ HX.out rfl hall.out])
          go_wp2_with (go_at_call 27; refine (set_any h _ _ _ _ _ _ _ HR.out hn).mono ?_; rintro e w' ⟨B, d, rfl, hrd, hb⟩; have HB := Lib.hid hb; have HD := Lib.hid hrd; clear hb hrd)
          go_ret3
          exact ⟨B, d, by rw [HF.out]; rfl, by rw [HF.out]; exact HD.out, HB.out⟩
        · have hs := Lib.hid (take_all h Cell.live k _ HX.out)
          go_wp2
          go_round
          case rel => exact ⟨k + 1, by omega, by go_num, Lib.hid (by rw [hs.out, hall.out]; rfl)⟩
          case measure => simp [intOf]; omega
      · have HF : Hid (allocS h value = (h, 0, 4)) := Lib.hid (by
          have ha := hall.out
          rw [List.take_of_length_le (by rw [HL.out]; omega)] at ha
          unfold allocS; rw [if_pos HK.out, free1_none h ha])
        go_wp2
        go_ret3
        exact ⟨A, c, by rw [HF.out]; rfl, by rw [HF.out]; exact HR.out, Below.refl _ _⟩
  · have HF : Hid (allocS h value = (h, 0, 1)) := Lib.hid (by unfold allocS; rw [if_neg hok])
    by_cases h1 : rightB h = true
    · have h2 : vB value = false := by simpa [h1] using hok
      clear hok
      go_enter Try.func11, Try.ntmps11
      go_wp2_with (first
        | (go_at_call 19; refine (right_any h _ _ _ _ HR.out hn).mono ?_; rintro e w' ⟨rfl, rfl⟩)
        | (go_at_call 26; refine (ref01right_any _ _).mono ?_; rintro e w' ⟨rfl, rfl⟩))
      go_ret3
      exact ⟨A, c, by rw [HF.out]; rfl, by rw [HF.out]; exact HR.out, Below.refl _ _⟩
    · have h2 : rightB h = false := by simpa using h1
      clear hok h1
      go_enter Try.func11, Try.ntmps11
      go_wp2_with (first
        | (go_at_call 19; refine (right_any h _ _ _ _ HR.out hn).mono ?_; rintro e w' ⟨rfl, rfl⟩)
        | (go_at_call 26; refine (ref01right_any _ _).mono ?_; rintro e w' ⟨rfl, rfl⟩))
      go_ret3
      exact ⟨A, c, by rw [HF.out]; rfl, by rw [HF.out]; exact HR.out, Below.refl _ _⟩

theorem put_any (h : List Cell) (l : List Write) (A D : Option Addr) (n c m d : Nat) (w : World) (hr : Rd w 2 A n (cs h)) (hl : Rd w 2 D m (ws l)) (hn : n ≤ 1000000) (hm : m ≤ 1000000) :
    Calls Try.prog 17 #[.slice A n c, .slice D m d] w (RetH w n (putS h l)) := by
  have HL : Hid (h.length = n) := Lib.hid (by have := hr.1; rw [cs_len] at this; omega)
  have HM : Hid (l.length = m) := Lib.hid (by have := hl.1; rw [ws_len] at this; omega)
  have HR := Lib.hid hr
  have HW := Lib.hid hl
  clear hr hl
  go_enter Try.func17, Try.ntmps17
  go_wp2_with (go_at_call 19; refine (right_any h _ _ _ _ HR.out hn).mono ?_; rintro e w' ⟨rfl, rfl⟩)
  go_loop [6, 7] (fun ok i => ∃ k : Nat, k ≤ m ∧ i = .int .i64 k ∧ ok = .bool (rightB h && (l.take k).all (fun w => vB w.value))) (fun _ i => m - (intOf i).toNat)
  case atStart => exact ⟨0, Nat.zero_le _, rfl, by simp⟩
  case round =>
    obtain ⟨k, hk, rfl, rfl⟩ := hrel
    by_cases hlt : k < m
    · obtain ⟨b, off, ⟨cl, vl⟩, rfl, hx, c0, c1⟩ := at_write HW.out k hlt
      have hs := Lib.hid (take_all l (fun w => vB w.value) k _ hx)
      clear hx
      generalize hg : (rightB h && (l.take k).all (fun w => vB w.value)) = ok at *
      have HG := Lib.hid hg
      clear hg
      cases ok
      · go_wp2_with (go_at_call 26; refine (ref01right_any _ _).mono ?_; rintro e w' ⟨rfl, rfl⟩)
        go_round
        case rel => exact ⟨k + 1, by omega, by go_num, by rw [hs.out, ← Bool.and_assoc, HG.out]; rfl⟩
        case measure => simp [intOf]; omega
      · go_wp2_with (go_at_call 26; refine (ref01right_any _ _).mono ?_; rintro e w' ⟨rfl, rfl⟩)
        go_round
        case rel => exact ⟨k + 1, by omega, by go_num, by rw [hs.out, ← Bool.and_assoc, HG.out]; rfl⟩
        case measure => simp [intOf]; omega
    · have hkm : k = m := by omega
      subst hkm
      have HT : Hid (l.take k = l) := Lib.hid (List.take_of_length_le (by rw [HM.out]; exact Nat.le_refl _))
      rw [HT.out]
      by_cases hok : (rightB h && l.all (fun w => vB w.value)) = true
      · have HF0 := Lib.hid hok
        go_wp2
        go_loopw [9, 10] (fun v i wr => ∃ j : Nat, j ≤ k ∧ i = .int .i64 j ∧ (∃ B q, v = .slice B n q ∧ Hid (Rd wr 2 B n (cs (putAll h (l.take j))))) ∧ Hid (Below w.heap.size w wr) ∧ Hid ((l.take j).all (fun w => liveAt h w.cell) = true)) (fun _ i _ => k - (intOf i).toNat)
        case atStart => exact ⟨0, Nat.zero_le _, rfl, ⟨A, c, rfl, HR⟩, Lib.hid (Below.refl _ _), Lib.hid rfl⟩
        case round =>
          obtain ⟨j, hj, rfl, ⟨B, q, rfl, HO⟩, HB, hall⟩ := hrel
          by_cases hlt : j < k
          · obtain ⟨b, off, ⟨cl, vl⟩, rfl, hx, c0, c1⟩ := at_write (HW.out.below HB.out) j hlt
            have hs := Lib.hid (take_all l (fun w => liveAt h w.cell) j _ hx)
            have ht := Lib.hid (putAll_take h l j _ hx)
            have HX := Lib.hid hx
            clear hx
            by_cases hlv : liveAt h cl = true
            · go_wp2_with (go_at_call 29; refine (live_any h _ _ _ _ _ (HR.out.below HB.out) hn).mono ?_; rintro e w' ⟨rfl, rfl⟩)
              go_still_tail 12, (by kernel_rfl)
              go_wp2_with (go_at_call 27; refine (set_any (putAll h (l.take j)) _ _ _ _ _ _ _ HO.out.drew hn).mono ?_; rintro e w' ⟨B', q', rfl, hrd, hb⟩; have HB' := Lib.hid hb; have HD := Lib.hid hrd; clear hb hrd)
              go_roundw
              case rel => exact ⟨j + 1, by omega, by go_num, ⟨B', q', rfl, Lib.hid (by rw [ht.out]; exact HD.out)⟩, Lib.hid (HB.out.drew.trans (HB'.out.mono HB.out.size)), Lib.hid (by rw [hs.out, hall.out]; exact hlv)⟩
              case measure => simp [intOf]; omega
            · have hlv' : liveAt h cl = false := by simpa using hlv
              have HF : Hid (putS h l = (h, 3)) := Lib.hid (by
                unfold putS; rw [if_pos HF0.out, if_neg]
                intro ha
                have := List.all_eq_true.1 ha _ (List.mem_of_getElem? HX.out)
                simp [hlv'] at this)
              clear hlv
              go_wp2_with (go_at_call 29; refine (live_any h _ _ _ _ _ (HR.out.below HB.out) hn).mono ?_; rintro e w' ⟨rfl, rfl⟩)
              go_ret2
              exact ⟨A, c, by rw [HF.out]; rfl, by rw [HF.out]; exact HR.out.below HB.out, HB.out⟩
          · have hjk : j = k := by omega
            subst hjk
            have HF : Hid (putS h l = (putAll h l, 0)) := Lib.hid (by
              have ha := hall.out
              rw [HT.out] at ha
              unfold putS; rw [if_pos HF0.out, if_pos ha])
            have HO' : Hid (Rd wr 2 B n (cs (putAll h l))) := Lib.hid (by have := HO.out; rwa [HT.out] at this)
            go_wp2
            go_ret2
            exact ⟨B, q, by rw [HF.out]; rfl, by rw [HF.out]; exact HO'.out, HB.out⟩
      · have HF : Hid (putS h l = (h, 1)) := Lib.hid (by unfold putS; rw [if_neg hok])
        have hok' : (rightB h && l.all (fun w => vB w.value)) = false := by simpa using hok
        rw [hok']
        clear hok hok'
        go_wp2
        go_ret2
        exact ⟨A, c, by rw [HF.out]; rfl, by rw [HF.out]; exact HR.out, Below.refl _ _⟩
end Go.Proofs.Ytpejbfphejijeaa.Heap
