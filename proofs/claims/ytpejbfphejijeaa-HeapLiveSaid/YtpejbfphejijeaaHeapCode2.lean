/-
  WHAT EACH FUNCTION OF THE LAYER heap RETURNS, AS IT IS WRITTEN: New, Live, Alloc, Free, Put. So the laws' premise 'Said' holds.
-/
import Derived.Test.YtpejbfphejijeaaHeapCode
namespace Go.Proofs.Ytpejbfphejijeaa.Heap
open Go.ChangeShapes Go.WideShapes Go.ChangeAt Go.RowKit Mem

theorem made_two (a b : Value) (n : Nat) : (madeCells #[a, b] (n * 2)).toList = (List.replicate n ()).flatMap (fun _ => [a, b]) := by
  unfold madeCells
  rw [Array.toList_map, Array.toList_range]
  induction n with
  | zero => rfl
  | succ n ih =>
    have e : (n + 1) * 2 = n * 2 + 1 + 1 := by omega
    rw [e, List.range_succ, List.range_succ, List.map_append, List.map_append, ih, List.replicate_succ', List.flatMap_append]
    have e1 : n * 2 % 2 = 0 := by omega
    have e2 : (n * 2 + 1) % 2 = 1 := by omega
    simp [e1, e2]
theorem cs_new (n : Nat) : (madeCells (Value.agg #[.bool false, .int .i64 0]).cells (n * 2)).toList = cs (List.replicate n ⟨false, 0⟩) := by
  have h : (Value.agg #[.bool false, .int .i64 0]).cells = #[.bool false, .int .i64 0] := by first | rfl | kernel_rfl | simp [Value.cells]
  rw [h, made_two]
  induction n with
  | zero => rfl
  | succ n ih => simp [cs, cc, List.replicate_succ] at *; exact ih

theorem new_c (n : Int) (w : World) (r : List Cell × Int) (m : Nat) (hn : newS n = r) (hm : r.1.length = m) :
    Calls Try.prog 21 #[.int .i64 n] w (RetH w m r) := by
  subst hn
  by_cases h1 : lenB n = true
  · have h2 : 1 ≤ n ∧ n ≤ 64 := by unfold lenB at h1; simpa using h1
    obtain ⟨k, rfl⟩ := Int.eq_ofNat_of_zero_le (show 0 ≤ n by omega)
    have HF : Hid (newS (k : Int) = (List.replicate k ⟨false, 0⟩, 0)) := Lib.hid (by unfold newS; rw [if_pos h2]; rfl)
    obtain rfl : k = m := by rw [← hm, HF.out]; simp
    clear hm
    obtain ⟨h3, h4⟩ := h2
    obtain ⟨i, hi, z1, z2, z3⟩ := info_parts (P := Try.prog) (e := 48) (z := .agg #[.bool false, .int .i64 0]) (size := 2) (bytes := 16) (by kernel_rfl)
    have HI := Lib.hid hi
    have Z1 := Lib.hid z1
    have Z2 := Lib.hid z2
    have Z3 := Lib.hid z3
    clear hi z1 z2 z3
    go_enter Try.func21, Try.ntmps21
    go_wp2_with (first
      | (go_at_call 31; refine (length_any _ _).mono ?_; rintro e w' ⟨rfl, rfl⟩)
      | (refine wpList_make_full _ rfl _ _ 22 rfl w.heap.size 48 i (.agg #[.bool false, .int .i64 0]) 2 Try.underlying22 HI.out Z1.out Z2.out .i64 .i64 _ _ k rfl rfl rfl rfl (by rw [Z3.out]; omega) (by unfold maxLen; omega) (Nat.le_refl _) ?_; intro w' ho hg; have HO := Lib.hid ho; have HG := Lib.hid hg; clear ho hg))
    go_ret2
    have hO : Own w w' 48 2 (.slice (some ⟨w.heap.size, 0, none⟩) k k) k (cs (List.replicate k ⟨false, 0⟩)) := by
      have := HO.out
      rw [cs_new] at this
      exact ⟨this, (Below.refl _ _).grown HG.out (Nat.le_refl _) (by intro _ hc; cases hc)⟩
    obtain ⟨B, d, hv, hrd⟩ := hO.form
    injection hv with e1 _ e3
    subst e1 e3
    exact ⟨_, _, by rw [HF.out]; rfl, by rw [HF.out]; exact hrd, hO.2⟩
  · have h2 : ¬ (1 ≤ n ∧ n ≤ 64) := by unfold lenB at h1; simpa using h1
    have HF : Hid (newS n = ([], 1)) := Lib.hid (by unfold newS; rw [if_neg h2])
    have h1' : lenB n = false := by simpa using h1
    obtain rfl : 0 = m := by rw [← hm, HF.out]; rfl
    clear hm h1 h2
    go_enter Try.func21, Try.ntmps21
    go_wp2_with (go_at_call 31; refine (length_any _ _).mono ?_; rintro e w' ⟨rfl, rfl⟩)
    go_ret2
    exact ⟨_, _, by rw [HF.out]; rfl, by rw [HF.out]; exact Rd.none_, Below.refl _ _⟩

theorem tIntS : SliceT Try.prog 44 3 1 8 := SliceT.mk_ (z := .int .i64 0) Try.underlying44 (by kernel_rfl) rfl (by decide)
def lives (h : List Cell) (k : Nat) : List Nat := (List.range k).filter (fun k => liveAt h (k : Int))
theorem lives_yes (h : List Cell) (k : Nat) (hl : liveAt h (k : Int) = true) : lives h (k + 1) = lives h k ++ [k] := by
  unfold lives; rw [List.range_succ, List.filter_append]; simp [hl]
theorem lives_no (h : List Cell) (k : Nat) (hl : liveAt h (k : Int) = false) : lives h (k + 1) = lives h k := by
  unfold lives; rw [List.range_succ, List.filter_append]; simp [hl]
theorem lives_len (h : List Cell) (k : Nat) : (lives h k).length ≤ k := by
  unfold lives; have := List.length_filter_le (fun k : Nat => liveAt h (k : Int)) (List.range k); simpa using this
theorem is_app (a b : List Nat) : is (a ++ b) = is a ++ is b := by unfold is; rw [List.flatMap_append]

theorem live_c (h : List Cell) (A : Option Addr) (n c : Nat) (w : World) (r : List Nat) (m : Nat) (hr : Rd w 2 A n (cs h)) (hn : n ≤ 1000000) (hl : liveS h = r) (hm : r.length = m) :
    Calls Try.prog 22 #[.slice A n c] w (RetI w m r) := by
  subst hl hm
  have HL : Hid (h.length = n) := Lib.hid (by have := hr.1; rw [cs_len] at this; omega)
  have HR := Lib.hid hr
  clear hr
  by_cases h1 : rightB h = true
  · have HF : Hid (liveS h = lives h n) := Lib.hid (by unfold liveS; rw [if_pos h1, HL.out]; rfl)
    have H1 := Lib.hid h1
    clear h1
    rw [HF.out]
    go_enter Try.func22, Try.ntmps22
    go_wp2_with fail
    refine (right_c h _ _ _ _ true HR.out hn H1.out).mono ?_
    rintro e w1 ⟨rfl, b1⟩
    have HB1 := Lib.hid b1
    clear b1
    go_wp2_with fail
    go_loopw [3, 11] (fun v i wr => ∃ k : Nat, k ≤ n ∧ i = .int .i64 k ∧ Hid (Own w wr 3 1 v (lives h k).length (is (lives h k)))) (fun _ i _ => n - (intOf i).toNat)
    case atStart => exact ⟨0, Nat.zero_le _, rfl, Lib.hid (Own.nil_ HB1.out)⟩
    case round =>
      obtain ⟨k, hk, rfl, hown⟩ := hrel
      by_cases hlt : k < n
      · obtain ⟨b, off, ⟨lv, vl⟩, rfl, hx, c0, c1⟩ := at_cell (HR.out.below hown.out.2) k hlt
        have HV := Lib.hid (live_at h k _ hx)
        clear hx
        have hll := lives_len h k
        cases lv
        · have HS := Lib.hid (lives_no h k HV.out)
          go_wp2
          go_roundw
          case rel => exact ⟨k + 1, by omega, by go_num, by rw [HS.out]; exact Lib.hid (hown.out.alloc _)⟩
          case measure => simp [intOf]; omega
        · have HS := Lib.hid (lives_yes h k HV.out)
          go_wp2_with (at_builtin; refine append_rd rfl _ _ 44 rfl tIntS w _ _ _ rfl ((hown.out.alloc _).alloc _) _ 1 1 [.int .i64 (k : Int)] rfl (Rd.builtAt _ 1 1 [.int .i64 (k : Int)] _ rfl (by simp)) (one_cons rfl one_nil) (by omega) (by omega) ?_; intro v' w' hown' hg; have HO := Lib.hid hown'; clear hown' hg)
          go_roundw
          case rel => exact ⟨k + 1, by omega, by go_num, by rw [HS.out, is_app, List.length_append]; exact HO⟩
          case measure => simp [intOf]; omega
      · have hkn : k = n := by omega
        obtain ⟨B, d, hv, hrd⟩ := hown.out.form
        subst hkn hv
        have HD := Lib.hid hrd
        clear hrd
        go_wp2
        go_ret
        exact ⟨B, d, rfl, HD.out, hown.out.2⟩
  · have HF : Hid (liveS h = []) := Lib.hid (by unfold liveS; rw [if_neg h1])
    have H1 : Hid (rightB h = false) := Lib.hid (by simpa using h1)
    clear h1
    rw [HF.out]
    go_enter Try.func22, Try.ntmps22
    go_wp2_with fail
    refine (right_c h _ _ _ _ false HR.out hn H1.out).mono ?_
    rintro e w1 ⟨rfl, b1⟩
    have HB1 := Lib.hid b1
    clear b1
    go_wp2_with fail
    go_ret
    exact ⟨_, _, rfl, Rd.none_, HB1.out⟩

theorem alloc_c (h : List Cell) (A : Option Addr) (n c : Nat) (value : Int) (w : World) (r : List Cell × Int × Int) (hr : Rd w 2 A n (cs h)) (hn : n ≤ 1000000) (ha : allocS h value = r) :
    Calls Try.prog 10 #[.slice A n c, .int .i64 value] w (RetA w n r) := by
  subst ha
  have HL : Hid (h.length = n) := Lib.hid (by have := hr.1; rw [cs_len] at this; omega)
  have HR := Lib.hid hr
  clear hr
  go_enter Try.func10, Try.ntmps10
  go_wp2_with fail
  refine (clone_any h _ _ _ _ HR.out hn).mono ?_
  rintro e w1 ⟨v, rfl, ho⟩
  have HO := Lib.hid ho
  clear ho
  go_wp2_with fail
  by_cases h1 : rightB h = true
  · have H1 := Lib.hid h1
    clear h1
    refine (right_c h _ _ _ _ true (HR.out.below HO.out.2) hn H1.out).mono ?_
    rintro e w2 ⟨rfl, b2⟩
    have HO2 := Lib.hid (HO.out.below b2)
    clear b2 HO
    by_cases h2 : vB value = true
    · have H2 := Lib.hid h2
      go_wp2_with (go_at_call 24; refine (spanright_any _ _).mono ?_; rintro e w' ⟨rfl, rfl⟩)
      rcases hf : free1 h with _ | k
      · have HF : Hid (allocS h value = (h, 0, 4)) := Lib.hid (by unfold allocS; rw [if_pos (by rw [H1.out, H2.out]; rfl), hf])
        have H3 := Lib.hid hf
        clear hf
        refine (least_any h _ _ _ _ none (HR.out.below HO2.out.2) hn H3.out).mono ?_
        rintro e w3 ⟨rfl, b3⟩
        obtain ⟨B, d, rfl, hrd⟩ := (HO2.out.below b3).form
        have HD := Lib.hid hrd
        have HB := Lib.hid (bl_trans HO2.out.2 b3)
        clear b3 hrd
        go_wp2_with fail
        go_ret3
        exact ⟨B, d, by rw [HF.out]; rfl, by rw [HF.out]; exact HD.out, HB.out⟩
      · have HF : Hid (allocS h value = (setAt h (k : Int) ⟨true, value⟩, (k : Int), 0)) := Lib.hid (by unfold allocS; rw [if_pos (by rw [H1.out, H2.out]; rfl), hf])
        have hkn : k < n := by
          have := hf
          unfold free1 at this
          rw [List.findIdx?_eq_some_iff_getElem] at this
          obtain ⟨hk, _⟩ := this
          rw [← HL.out]; exact hk
        have H3 := Lib.hid hf
        clear hf
        refine (least_any h _ _ _ _ (some k) (HR.out.below HO2.out.2) hn H3.out).mono ?_
        rintro e w3 ⟨rfl, b3⟩
        have HO3 := Lib.hid (HO2.out.below b3)
        clear b3 HO2
        obtain ⟨g, cap, rfl⟩ := own_lay HO3.out (by omega)
        have f0 := HO3.out.1.frozenAt (k * 2)
        have f1 := HO3.out.1.frozenAt (k * 2 + 1)
        have c0 := (HO3.out.1.cellAt (k * 2) (by omega)).trans (cs_0 h k (by rw [HL.out]; exact hkn))
        have c1 := (HO3.out.1.cellAt (k * 2 + 1) (by omega)).trans (cs_1 h k (by rw [HL.out]; exact hkn))
        go_wp2_with fail
        have HO4 := Lib.hid (own_set (own_set HO3.out (k * 2) (.bool true)) (k * 2 + 1) (.int .i64 value))
        go_ret3
        obtain ⟨B, d, hv, hrd⟩ := HO4.out.form
        injection hv with e1 _ e3
        subst e1 e3
        refine ⟨_, _, by rw [HF.out]; rfl, ?_, HO4.out.2⟩
        rw [HF.out]
        have := cs_set h k ⟨true, value⟩
        simp only at this
        rw [this] at hrd
        unfold setAt
        rw [if_neg (by omega)]
        exact hrd
    · have H2 : vB value = false := by simpa using h2
      have HF : Hid (allocS h value = (h, 0, 1)) := Lib.hid (by unfold allocS; rw [if_neg (by rw [H1.out, H2]; decide)])
      clear h2
      obtain ⟨B, d, rfl, hrd⟩ := HO2.out.form
      have HD := Lib.hid hrd
      clear hrd
      go_wp2_with (go_at_call 24; refine (spanright_any _ _).mono ?_; rintro e w' ⟨rfl, rfl⟩)
      go_ret3
      exact ⟨B, d, by rw [HF.out]; rfl, by rw [HF.out]; exact HD.out, HO2.out.2⟩
  · have H1 : Hid (rightB h = false) := Lib.hid (by simpa using h1)
    have HF : Hid (allocS h value = (h, 0, 1)) := Lib.hid (by unfold allocS; rw [if_neg (by rw [H1.out]; simp)])
    clear h1
    refine (right_c h _ _ _ _ false (HR.out.below HO.out.2) hn H1.out).mono ?_
    rintro e w2 ⟨rfl, b2⟩
    have HO2 := Lib.hid (HO.out.below b2)
    clear b2 HO
    obtain ⟨B, d, rfl, hrd⟩ := HO2.out.form
    have HD := Lib.hid hrd
    clear hrd
    go_wp2_with fail
    go_ret3
    exact ⟨B, d, by rw [HF.out]; rfl, by rw [HF.out]; exact HD.out, HO2.out.2⟩
end Go.Proofs.Ytpejbfphejijeaa.Heap
