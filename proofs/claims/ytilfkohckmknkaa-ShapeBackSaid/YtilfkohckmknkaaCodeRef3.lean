/-
  WHAT THE DOCUMENT'S ANSWER FOR LAYER 8 RETURNS: Check, Deep, Cells.
-/
import Derived.Test.YtilfkohckmknkaaCodeRef2
namespace Go.Proofs.Ytilfkohckmknkaa.Code
open Go.ChangeShapes Go.WideShapes Go.ChangeAt Go.RowKit Mem

/-- What is returned: a number. -/
def RetI (w : World) (v : Int) (e : Ending) (w' : World) : Prop := e = .returned (.int .i64 v) ∧ Below w.heap.size w w'
/-- No term is too long. -/
def Lim (l : List Raw) : Prop := ∀ r ∈ l, r.n ≤ 1000000

set_option maxRecDepth 100000 in
set_option maxHeartbeats 1000000 in
theorem refcheck (l : List Raw) (A : Option Addr) (n c : Nat) (w : World) (v : Int) (hat : At w A n l) (hlim : Lim l) (hn : n ≤ 1000000) (hv : checkS (ss l) = v) :
    Calls Try.prog 14 #[.slice A n c] w (RetI w v) := by
  have HL := Lib.hid hat.len
  have HA := Lib.hid hat
  have HV := Lib.hid hv
  have HM := Lib.hid hlim
  clear hat hv hlim
  by_cases h24 : 24 < n
  · have HF : Hid (v = 1) := Lib.hid (by rw [← HV.out]; exact check_many _ (by rw [ss_len, HL.out]; exact h24))
    go_enter Try.func14, Try.ntmps14
    go_wp2
    go_ret
    exact ⟨ret_int HF.out.symm, Below.refl _ _⟩
  · go_enter Try.func14, Try.ntmps14
    go_wp2
    go_loopw [3] (fun i wr => ∃ k : Nat, k ≤ n ∧ i = .int .i64 k ∧ Hid (Below w.heap.size w wr) ∧ Hid (((ss l).take k).all oneB = true)) (fun i _ => n - (intOf i).toNat)
    case atStart => exact ⟨0, Nat.zero_le _, rfl, Lib.hid (Below.refl _ _), Lib.hid rfl⟩
    case round =>
      obtain ⟨k, hk, rfl, bb, HALL⟩ := hrel
      generalize wr = w1 at *
      by_cases hlt : k < n
      · obtain ⟨b, off, ⟨⟨sd, sa, sb, st⟩, T, tn, tc⟩, rfl, hx, c0, c1, c2, c3, hrd, _⟩ := (HA.out.below bb.out).at_ k hlt
        simp only at c0 c1 c2 c3
        have hs := Lib.hid (take_all (ss l) oneB k _ (ss_at l k _ hx))
        have HX := Lib.hid hx
        have htn : tn ≤ 1000000 := HM.out _ (List.mem_of_getElem? hx)
        have HRD := Lib.hid hrd
        obtain ⟨ov, hov⟩ : ∃ x, oneB ⟨sd, sa, sb, st⟩ = x := ⟨_, rfl⟩
        have HOV := Lib.hid hov
        clear hx hrd hov
        go_wp2_with fail
        refine (refone ⟨⟨sd, sa, sb, st⟩, T, tn, tc⟩ _ ov HRD.out htn HOV.out).mono ?_
        rintro e w2 ⟨rfl, b2⟩
        have HB2 := Lib.hid (bl_trans bb.out b2)
        clear b2
        cases ov with
        | true =>
          go_wp2
          go_roundw
          case rel => exact ⟨k + 1, by omega, by go_num, HB2, Lib.hid (by rw [hs.out, HALL.out, HOV.out]; rfl)⟩
          case measure => simp [intOf]; omega
        | false =>
          have HF : Hid (v = 1) := Lib.hid (by rw [← HV.out]; exact check_bad _ k _ (ss_at l k _ HX.out) HOV.out)
          go_wp2
          go_ret
          exact ⟨ret_int HF.out.symm, HB2.out⟩
      · have HO : Hid ((ss l).all oneB = true) := Lib.hid (by have := HALL.out; rwa [List.take_of_length_le (by rw [ss_len, HL.out]; omega)] at this)
        obtain ⟨⟨dp, wl⟩, hw⟩ : ∃ x, wellP (ss l) = x := ⟨_, rfl⟩
        have hdp : dp ≤ 24 := by have := well_deep _ (ss l) (Nat.le_refl _) HO.out; rw [hw, ss_len, HL.out] at this; simp only at this; omega
        have HW := Lib.hid hw
        have HCV : Hid (v = if wl = true then (if 6 < dp then 5 else 0) else 2) := Lib.hid (by
          rw [← HV.out]; unfold checkS; rw [if_pos (by rw [HO.out, ss_len, HL.out]; simp; omega), hw])
        clear hw HALL
        go_wp2_with fail
        refine (refwell l.length [] l [] l _ n c 0 n _ (dp, wl) (Nat.le_refl _) (HA.out.below bb.out) (by omega) (by simp) rfl (by simp [HL.out]) HO.out HW.out _ _ rfl rfl).mono ?_
        rintro e w2 ⟨rfl, b2⟩
        have HB2 := Lib.hid (bl_trans bb.out b2)
        clear b2
        cases wl with
        | false =>
          go_wp2
          go_ret
          exact ⟨ret_int (by rw [HCV.out]; rfl), HB2.out⟩
        | true =>
          by_cases h6 : 6 < dp
          · go_wp2
            go_ret
            exact ⟨ret_int (by rw [HCV.out]; simp [h6]), HB2.out⟩
          · go_wp2
            go_ret
            exact ⟨ret_int (by rw [HCV.out]; simp [h6]), HB2.out⟩


theorem names_take (c : List Step) (n k : Nat) (x : Step) (hk : c[k]? = some x) : namesB (c.take (k + 1)) n = (namesB (c.take k) n || ((decide (x.d = 1) && decide (x.b = (n : Int))) || (decide (x.d = 3) && decide (x.a = (n : Int))))) :=
  take_any c (fun s => (decide (s.d = 1) && decide (s.b = (n : Int))) || (decide (s.d = 3) && decide (s.a = (n : Int)))) k x hk
end Go.Proofs.Ytilfkohckmknkaa.Code
