/-
  WHAT Due RETURNS, AS IT IS WRITTEN; and all the functions of the layer tick: the laws' premise 'Said' holds.
-/
import Derived.Test.YtdbgpmfdiljopaaTickStable
namespace Go.Proofs.Ytdbgpmfdiljopaa.Tick
open Go.ChangeShapes Go.WideShapes Go.ChangeAt Go.RowKit Mem

theorem isnan_any (x : Int) (w : World) :
    Calls Try.prog 24 #[.int .i64 x] w fun e w' => e = .returned (.bool false) ∧ w = w' := by
  go_enter Try.func24, Try.ntmps24
  go_wp2
  go_ret
  exact ⟨ret_bool (by simp), rfl⟩
theorem compare_any (x y : Int) (w : World) :
    Calls Try.prog 22 #[.int .i64 x, .int .i64 y] w fun e w' => e = .returned (.int .i64 (cmpS x y)) ∧ w = w' := by
  by_cases h1 : x < y
  · have HF : Hid (cmpS x y = -1) := Lib.hid (by unfold cmpS; rw [if_pos h1])
    go_enter Try.func22, Try.ntmps22
    go_wp2_with (go_at_call 24; refine (isnan_any _ _).mono ?_; rintro e w' ⟨rfl, rfl⟩)
    go_ret
    exact ⟨ret_int (by rw [HF.out]), rfl⟩
  · by_cases h2 : y < x
    · have HF : Hid (cmpS x y = 1) := Lib.hid (by unfold cmpS; rw [if_neg h1, if_pos h2])
      go_enter Try.func22, Try.ntmps22
      go_wp2_with (go_at_call 24; refine (isnan_any _ _).mono ?_; rintro e w' ⟨rfl, rfl⟩)
      go_ret
      exact ⟨ret_int (by rw [HF.out]), rfl⟩
    · have HF : Hid (cmpS x y = 0) := Lib.hid (by unfold cmpS; rw [if_neg h1, if_neg h2])
      go_enter Try.func22, Try.ntmps22
      go_wp2_with (go_at_call 24; refine (isnan_any _ _).mono ?_; rintro e w' ⟨rfl, rfl⟩)
      go_ret
      exact ⟨ret_int (by rw [HF.out]), rfl⟩

theorem closure_c (l : List Int) (A : Option Addr) (n c : Nat) (w w1 : World) (B : Nat) (hr : Rd w 1 A n (zs l)) (hw : Below w.heap.size w w1) (hB : B < w1.heap.size) (hbox : w1.cell? ⟨B, 0, none⟩ = some (.slice A n c)) :
    Cmp l w1 #[.pointer (some ⟨B, 0, none⟩)] := by
  intro W x y hb hx hy
  show Calls Try.prog 21 #[.int .i64 (x : Int), .int .i64 (y : Int), .pointer (some ⟨B, 0, none⟩)] W _
  have hn := zs_len hr
  have hrW : Rd W 1 A n (zs l) := (hr.below hw).below hb
  have hbox2 : W.cell? ⟨B, 0, none⟩ = some (.slice A n c) := (hb.cell (p := ⟨B, 0, none⟩) hB).trans hbox
  obtain ⟨b, off, u, rfl, hu, cu⟩ := at_z hrW x (by omega)
  obtain ⟨b', off', v, hA, hv, cv⟩ := at_z hrW y (by omega)
  injection hA with hA
  injection hA with hA1 hA2
  subst hA1 hA2
  have bx : (x : Int) < (n : Int) := by omega
  have by_ : (y : Int) < (n : Int) := by omega
  rw [tm_at l x u hu, tm_at l y v hv]
  have hc := fun m => (compare_any u v (W.drewN m)).mono (fun _ _ (h : _ ∧ _) => (⟨h.1, 0, h.2.symm⟩ : _ ∧ ∃ q, _ = (W.drewN m).drewN q))
  generalize cmpS u v = r at *
  clear hu hv hrW hr hbox hb hn hx hy hw
  go_enter Try.func21, Try.ntmps21
  go_wp2_with fail
  go_quiet (first | (go_at_call 22; refine Calls.quiet_of (hc _)))
  go_wp2
  go_ret
  exact ⟨rfl, _, rfl⟩

theorem due_of (now : Int) (l : List Int) (E : List Nat) (h1 : E.Pairwise (bef l)) (h2 : E.Perm ((List.range l.length).filter (elig now l))) : dueS now l = E := by
  refine due_eq now l E ⟨h1, fun k => ?_⟩
  rw [h2.mem_iff, List.mem_filter, List.mem_range]
  exact ⟨fun h => h.2, fun h => ⟨elig_lt now l k h, h⟩⟩

set_option maxRecDepth 100000 in
set_option maxHeartbeats 4000000 in
theorem due_c (l : List Int) (A : Option Addr) (n c : Nat) (now : Int) (w : World) (r : List Nat) (q : Nat) (hr : Rd w 1 A n (zs l)) (hn : n ≤ 1000000) (hd : dueS now l = r) (hq : r.length = q) :
    Calls Try.prog 18 #[.int .i64 now, .slice A n c] w (RetS w 1 q (zs (r.map Int.ofNat))) := by
  have HL := Lib.hid (zs_len hr)
  have HD := Lib.hid hd
  have HQ := Lib.hid hq
  have HR := Lib.hid hr
  obtain ⟨w1, hw1⟩ : ∃ w1, w.alloc (.cells #[.slice A n c] 22) = w1 := ⟨_, rfl⟩
  have hb1 : Below w.heap.size w w1 := by rw [← hw1]; exact bl_alloc (Below.refl _ _) _
  have hs1 : w1.heap.size = w.heap.size + 1 := by rw [← hw1]; simp
  have hbox : w1.cell? ⟨w.heap.size, 0, none⟩ = some (.slice A n c) := by rw [← hw1]; simp
  have HCl := Lib.hid (closure_c l A n c w w1 w.heap.size hr hb1 (by omega) hbox)
  clear hr hd hq
  go_enter Try.func18, Try.ntmps18
  go_wp2
  go_loopw [5, 10] (fun v i wr => ∃ k : Nat, k ≤ n ∧ i = .int .i64 k ∧ Hid (Own w1 wr 3 1 v (pick (elig now l) k).length (zs (pick (elig now l) k)))) (fun _ i _ => n - (intOf i).toNat)
  case atStart => exact ⟨0, Nat.zero_le _, rfl, Lib.hid (Own.nil_ (Below.refl _ _))⟩
  case round =>
    obtain ⟨k, hk, rfl, HO⟩ := hrel
    by_cases hlt : k < n
    · obtain ⟨b, off, x, rfl, hx, c0⟩ := at_z ((HR.out.below hb1).below HO.out.2) k hlt
      have EL := Lib.hid (elig_at now l k x hx)
      have HPL := Lib.hid (pick_len (elig now l) k)
      clear hx
      cases ht : timeB x with
      | false =>
        have HP : Hid (pick (elig now l) (k + 1) = pick (elig now l) k) := Lib.hid (pick_no _ _ (by
          unfold timeB at ht; rw [decide_eq_false_iff_not] at ht
          rw [EL.out, decide_eq_false_iff_not]; omega))
        go_wp2_with (go_at_call 15; refine (right_any _ _).mono ?_; rintro e w' ⟨rfl, rfl⟩)
        go_roundw
        case rel => exact ⟨k + 1, by omega, by go_num, by rw [HP.out]; exact HO⟩
        case measure => simp [intOf]; omega
      | true =>
        have HT := Lib.hid (of_decide_eq_true (show decide (0 ≤ x ∧ x ≤ 2147483647) = true from ht))
        by_cases hnow : x ≤ now
        · have HP : Hid (pick (elig now l) (k + 1) = pick (elig now l) k ++ [(k : Int)]) := Lib.hid (pick_yes _ _ (by
            have := HT.out
            rw [EL.out, decide_eq_true_eq]; omega))
          obtain ⟨y, hy⟩ : ∃ y, (pick (elig now l) k).length = y := ⟨_, rfl⟩
          have hyk : y ≤ k := by have := HPL.out; omega
          rw [hy] at HO
          have HY := Lib.hid hy
          clear hy
          go_wp2_with (first
            | (go_at_call 15; refine (right_any _ _).mono ?_; rintro e w' ⟨rfl, rfl⟩)
            | (at_builtin; refine append_rd rfl (.tmp 22) (.tmp 24) 22 rfl tInt w1 _ _ _ rfl (HO.out.alloc _) _ 1 1 [.int .i64 (k : Int)] rfl (Rd.builtAt _ 1 1 [.int .i64 (k : Int)] _ rfl (by simp)) (one_cons rfl one_nil) (by omega) (by omega) ?_; intro v' w' hown' hg; have HO2 := Lib.hid hown'; clear hown' hg))
          go_roundw
          case rel => exact ⟨k + 1, by omega, by go_num, Lib.hid (by rw [HP.out, List.length_append, HY.out, zs_app]; exact HO2.out)⟩
          case measure => simp [intOf]; omega
        · have HP : Hid (pick (elig now l) (k + 1) = pick (elig now l) k) := Lib.hid (pick_no _ _ (by
            rw [EL.out, decide_eq_false_iff_not]; omega))
          have hnd : decide (x ≤ now) = false := decide_eq_false hnow
          go_wp2_with (go_at_call 15; refine (right_any _ _).mono ?_; rintro e w' ⟨rfl, rfl⟩)
          go_roundw
          case rel => exact ⟨k + 1, by omega, by go_num, by rw [HP.out]; exact HO⟩
          case measure => simp [intOf]; omega
    · have hkn : k = n := by omega
      subst hkn
      have HS := Lib.hid (sort_c l w1 _ HCl.out _ _ ((List.range k).filter (elig now l)) wr HO.out (by have := pick_len (elig now l) k; omega) (List.Pairwise.filter _ List.pairwise_lt_range) (fun x hx => by rw [HL.out]; exact List.mem_range.1 (List.mem_filter.1 hx).1))
      have HB1 := Lib.hid hb1
      clear HO hbox hs1 hb1
      go_wp2_with fail
      refine HS.out.mono ?_
      rintro e w3 ⟨rfl, E, h1, h2, h3⟩
      have HE : Hid (r = E) := Lib.hid (by rw [← HD.out]; exact due_of now l E h2 (by rw [HL.out]; exact h3))
      have hel : E.length = (pick (elig now l) k).length := by rw [h3.length_eq]; unfold pick; rw [List.length_map]
      have HQ2 : Hid ((pick (elig now l) k).length = q) := Lib.hid (by rw [← hel, ← HE.out]; exact HQ.out)
      rw [HQ2.out] at h1
      have HB2 := Lib.hid (bl_trans HB1.out h1.2)
      obtain ⟨B, d, rfl, hrd⟩ := h1.form
      have HRd := Lib.hid hrd
      clear h1 h2 h3 hel hrd
      go_wp2_with fail
      go_ret
      exact ⟨B, d, rfl, by rw [HE.out]; exact HRd.out, HB2.out⟩

theorem said : Said where
  right n w b h := (right_any n w).mono (fun _ _ ⟨he, hw⟩ => ⟨by rw [he, h], by rw [hw]; exact Below.refl _ _⟩)
  next n w r h := (next_any n w).mono (fun _ _ ⟨he, hw⟩ => ⟨by rw [he, h], by rw [hw]; exact Below.refl _ _⟩)
  after n k w r h1 h2 h := (after_any n k w h1 h2).mono (fun _ _ ⟨he, hw⟩ => ⟨by rw [he, h], by rw [hw]; exact Below.refl _ _⟩)
  due := due_c
  first := first_c
end Go.Proofs.Ytdbgpmfdiljopaa.Tick
