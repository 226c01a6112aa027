/-
  WHAT EACH FUNCTION OF THE LAYER code RETURNS, AS IT IS WRITTEN: Check, Deep, Cells; the layer's functions do what the chapter asks.
-/
import Derived.Test.YtilfkohckmknkaaCodeCode
import Derived.Test.YtilfkohckmknkaaCodeCode2
import Derived.Test.YtilfkohckmknkaaCodeSaid
namespace Go.Proofs.Ytilfkohckmknkaa.Code
open Go.ChangeShapes Go.WideShapes Go.ChangeAt Go.RowKit Mem

set_option maxRecDepth 100000 in
set_option maxHeartbeats 1000000 in
theorem check_c (l : List Raw) (A : Option Addr) (n c : Nat) (w : World) (v : Int) (hat : At w A n l) (hnc : n ≤ c) (hlim : Lim l) (hv : checkS (ss l) = v) (hn : n ≤ 1000000) :
    Calls Try.prog 21 #[.slice A n c] w (RetI w v) := by
  have HL := Lib.hid hat.len
  have HA := Lib.hid hat
  have HV := Lib.hid hv
  have HM := Lib.hid hlim
  clear hat hv hlim
  by_cases h24 : 24 < n
  · have HF : Hid (v = 1) := Lib.hid (by rw [← HV.out]; exact check_many _ (by rw [ss_len, HL.out]; exact h24))
    go_enter Try.func21, Try.ntmps21
    go_wp2
    go_ret
    exact ⟨ret_int HF.out.symm, Below.refl _ _⟩
  · go_enter Try.func21, Try.ntmps21
    go_wp2
    go_loopw [12] (fun i wr => ∃ k : Nat, k ≤ n ∧ i = .int .i64 k ∧ Hid (Below w.heap.size w wr) ∧ Hid (((ss l).take k).all oneB = true)) (fun i _ => n - (intOf i).toNat)
    case atStart => exact ⟨0, Nat.zero_le _, rfl, Lib.hid (Below.refl _ _), Lib.hid rfl⟩
    case round =>
      obtain ⟨k, hk, rfl, bb, HALL⟩ := hrel
      generalize wr = w1 at *
      by_cases hlt : k < n
      · obtain ⟨b, off, ⟨⟨sd, sa, sb, st⟩, T, tn, tc⟩, rfl, hx, c0, c1, c2, c3, hrd, _⟩ := (HA.out.below bb.out).at_ k hlt
        simp only at c0 c1 c2 c3
        have hs := Lib.hid (take_all (ss l) oneB k _ (ss_at l k _ hx))
        have HX := Lib.hid hx
        have htn : tn ≤ 1000000 := HM.out _ (List.mem_of_getElem? hx)
        have HRD := Lib.hid hrd
        obtain ⟨ov, hov⟩ : ∃ x, oneB ⟨sd, sa, sb, st⟩ = x := ⟨_, rfl⟩
        have HOV := Lib.hid hov
        clear hx hrd hov
        go_wp2_with fail
        refine (step_c ⟨⟨sd, sa, sb, st⟩, T, tn, tc⟩ _ ov (HRD.out.alloc _) htn HOV.out).mono ?_
        rintro e w2 ⟨rfl, b2⟩
        have HB2 := Lib.hid (bl_trans (bl_alloc bb.out _) b2)
        clear b2
        cases ov with
        | true =>
          go_wp2
          go_roundw
          case rel => exact ⟨k + 1, by omega, by go_num, HB2, Lib.hid (by rw [hs.out, HALL.out, HOV.out]; rfl)⟩
          case measure => simp [intOf]; omega
        | false =>
          have HF : Hid (v = 1) := Lib.hid (by rw [← HV.out]; exact check_bad _ k _ (ss_at l k _ HX.out) HOV.out)
          go_wp2
          go_ret
          exact ⟨ret_int HF.out.symm, HB2.out⟩
      · have HO : Hid ((ss l).all oneB = true) := Lib.hid (by have := HALL.out; rwa [List.take_of_length_le (by rw [ss_len, HL.out]; omega)] at this)
        obtain ⟨⟨dp, wl⟩, hw⟩ : ∃ x, measS (ss l) = x := ⟨_, rfl⟩
        have HW := Lib.hid hw
        have HDW : Hid (wl = (wellP (ss l)).2 ∧ (wl = true → dp = (wellP (ss l)).1)) := Lib.hid (by
          unfold measS at hw
          cases h9 : (wellP (ss l)).2
          · rw [h9] at hw; simp at hw; exact ⟨hw.2, by intro h8; rw [h8] at hw; simp at hw⟩
          · rw [h9] at hw; simp at hw; exact ⟨hw.2, fun _ => hw.1.symm⟩)
        have HCV : Hid (v = if wl = true then (if 6 < dp then 5 else 0) else 2) := Lib.hid (by
          rw [← HV.out]; unfold checkS; rw [if_pos (by rw [HO.out, ss_len, HL.out]; simp; omega), ← HDW.out.1]
          cases wl
          · rfl
          · rw [HDW.out.2 rfl])
        clear hw HALL
        go_wp2_with fail
        refine (measure_c l.length l _ n c _ (dp, wl) (Nat.le_refl _) (HA.out.below bb.out) hnc (by omega) HO.out HW.out).mono ?_
        rintro e w2 ⟨rfl, b2⟩
        have HB2 := Lib.hid (bl_trans bb.out b2)
        clear b2
        cases wl with
        | false =>
          go_wp2
          go_ret
          exact ⟨ret_int (by rw [HCV.out]; rfl), HB2.out⟩
        | true =>
          by_cases h6 : 6 < dp
          · go_wp2
            go_ret
            exact ⟨ret_int (by rw [HCV.out]; simp [h6]), HB2.out⟩
          · go_wp2
            go_ret
            exact ⟨ret_int (by rw [HCV.out]; simp [h6]), HB2.out⟩


/-- The cells that are named, as they come. -/
def named (l : List Step) : List Int := l.flatMap fun s => if s.d = 1 then [s.b] else if s.d = 3 then [s.a] else []
theorem named_take (l : List Step) (k : Nat) (x : Step) (hk : l[k]? = some x) : named (l.take (k + 1)) = named (l.take k) ++ (if x.d = 1 then [x.b] else if x.d = 3 then [x.a] else []) := by
  unfold named
  rw [List.take_add_one, hk, List.flatMap_append]
  simp
theorem one_load (s : Step) (h : oneB s = true) (hd : s.d = 1) : 0 ≤ s.b ∧ s.b ≤ 63 := by
  unfold oneB at h
  rw [if_pos hd] at h
  simp at h; omega
theorem one_store (s : Step) (h : oneB s = true) (hd : s.d = 3) : 0 ≤ s.a ∧ s.a ≤ 63 := by
  unfold oneB at h
  rw [if_neg (by omega), if_neg (by omega), if_pos hd] at h
  simp at h; omega
theorem named_mem (l : List Step) (h : l.all oneB = true) (x : Int) : x ∈ named l ↔ ∃ k : Nat, k < 64 ∧ namesB l k = true ∧ x = (k : Int) := by
  unfold named namesB
  rw [List.mem_flatMap]
  constructor
  · rintro ⟨s, hs, hx⟩
    have h1 := List.all_eq_true.1 h s hs
    split at hx
    · rename_i hd
      rw [List.mem_singleton] at hx
      have := one_load s h1 hd
      refine ⟨x.toNat, by omega, ?_, by omega⟩
      rw [List.any_eq_true]
      exact ⟨s, hs, by simp [hd]; omega⟩
    · split at hx
      · rename_i hd
        rw [List.mem_singleton] at hx
        have := one_store s h1 hd
        refine ⟨x.toNat, by omega, ?_, by omega⟩
        rw [List.any_eq_true]
        exact ⟨s, hs, by simp [hd]; omega⟩
      · cases hx
  · rintro ⟨k, hk, hn, rfl⟩
    rw [List.any_eq_true] at hn
    obtain ⟨s, hs, h2⟩ := hn
    have h2 : (s.d = 1 ∧ s.b = (k : Int)) ∨ (s.d = 3 ∧ s.a = (k : Int)) := by simpa using h2
    refine ⟨s, hs, ?_⟩
    rcases h2 with ⟨e, e2⟩ | ⟨e, e2⟩
    · rw [if_pos e, e2]; simp
    · rw [if_neg (by omega), if_pos e, e2]; simp
theorem cells_of (l : List Step) (h : checkS l = 0) : cellsS l = Lib.compact (sortZ (named l)) := by
  obtain ⟨_, h3, _, _⟩ := check_ok l h
  rw [compact_pick (named l) (namesB l) 64 (named_mem l h3)]
  unfold cellsS; rw [if_pos h]


end Go.Proofs.Ytilfkohckmknkaa.Code
