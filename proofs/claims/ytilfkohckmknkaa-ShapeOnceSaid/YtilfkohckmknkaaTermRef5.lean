/-
  WHAT THE DOCUMENT'S ANSWER FOR LAYER 7 RETURNS: Eval, Cells.
-/
import Derived.Test.YtilfkohckmknkaaTermRef4
namespace Go.Proofs.Ytilfkohckmknkaa.Term
open Go.ChangeShapes Go.WideShapes Go.ChangeAt Go.RowKit Mem

/-- What is returned: two numbers. -/
def RetG (w : World) (r : Int × Int) (e : Ending) (w' : World) : Prop := e = .returned (.tuple #[.int .i64 r.1, .int .i64 r.2]) ∧ Below w.heap.size w w'


def namesB (l : List Op) (c : Nat) : Bool := l.any fun o => decide (o.kind = 2) && decide (o.n = (c : Int))
set_option maxRecDepth 100000 in
theorem refcells (l : List Op) (A : Option Addr) (n c : Nat) (w : World) (r : List Int) (q : Nat) (hr : Rd w 2 A n (ops l)) (hn : n ≤ 1000000) (hv : cellsS l = r) (hq : r.length = q) :
    Calls Try.prog 47 #[.slice A n c] w (RetS w 1 q (zs r)) := by
  have HL := Lib.hid (ops_len hr)
  have HR := Lib.hid hr
  have HQ := Lib.hid hq
  clear hr hq
  by_cases h0 : checkS l = 0
  · have H0 := Lib.hid h0
    have HF : Hid (r = pick (namesB l) 64) := Lib.hid (by rw [← hv]; unfold cellsS; rw [if_pos h0]; rfl)
    clear h0 hv
    go_enter Try.func47, Try.ntmps47
    go_wp2_with fail
    refine (refcheck l _ _ _ _ 0 HR.out hn H0.out).mono ?_
    rintro e w1 ⟨rfl, b1⟩
    have HB := Lib.hid b1
    clear b1
    go_wp2
    go_loopw [3, 4] (fun v i wr => ∃ k : Nat, k ≤ 64 ∧ i = .int .i64 k ∧ Own w1 wr 3 1 v (pick (namesB l) k).length (zs (pick (namesB l) k))) (fun _ i _ => 64 - (intOf i).toNat)
    case atStart => exact ⟨0, Nat.zero_le _, rfl, Own.nil_ (Below.refl _ _)⟩
    case round =>
      obtain ⟨k, hk, rfl, hown⟩ := hrel
      generalize wr = w2 at *
      by_cases hlt : k < 64
      · have HO := Lib.hid hown
        clear hown
        go_wp2
        go_loop [5, 6] (fun bv i => ∃ j : Nat, j ≤ n ∧ i = .int .i64 j ∧ bv = .bool (namesB (l.take j) k)) (fun _ i => n - (intOf i).toNat)
        case atStart => exact ⟨0, Nat.zero_le _, rfl, rfl⟩
        case round =>
          obtain ⟨j, hj, rfl, rfl⟩ := hrel
          by_cases hjt : j < n
          · obtain ⟨b, off, ⟨kd, nn⟩, rfl, hx, c0, c1⟩ := at_op ((HR.out.below HB.out).below HO.out.2) j hjt
            have hs := Lib.hid (take_any l (fun o => decide (o.kind = 2) && decide (o.n = (k : Int))) j _ hx)
            clear hx
            cases hb : namesB (l.take j) k with
            | true =>
              have HN : Hid (namesB (l.take (j + 1)) k = true) := Lib.hid (by unfold namesB at hb ⊢; rw [hs.out, hb]; rfl)
              clear hb hs
              go_wp2
              go_round
              case rel => exact ⟨j + 1, by omega, by go_num, by rw [HN.out]⟩
              case measure => simp [intOf]; omega
            | false =>
              by_cases e2 : kd = 2
              · subst e2
                cases e3 : (nn == (k : Int))
                all_goals
                  have HE3 := Lib.hid e3
                  have HN : Hid (namesB (l.take (j + 1)) k = (nn == (k : Int))) := Lib.hid (by unfold namesB at hb ⊢; rw [hs.out, hb]; rfl)
                  clear hs hb
                  go_wp2
                  go_round
                  case rel => exact ⟨j + 1, by omega, by go_num, by rw [HN.out, HE3.out]⟩
                  case measure => simp [intOf]; omega
              · have e2' : (kd == 2) = false := beq_eq_false_iff_ne.2 e2
                have HN : Hid (namesB (l.take (j + 1)) k = false) := Lib.hid (by unfold namesB at hb ⊢; rw [hs.out, hb]; simp [e2])
                clear hs hb e2
                go_wp2
                go_round
                case rel => exact ⟨j + 1, by omega, by go_num, by rw [HN.out]⟩
                case measure => simp [intOf]; omega
          · have HT : Hid (l.take j = l) := Lib.hid (List.take_of_length_le (by rw [HL.out]; omega))
            rw [HT.out]
            have hpl := pick_len (namesB l) k
            cases hb : namesB l k with
            | true =>
              have HP := Lib.hid (pick_yes (namesB l) k hb)
              obtain ⟨u, hu⟩ : ∃ u, (pick (namesB l) k).length = u := ⟨_, rfl⟩
              rw [hu] at HO hpl
              have HPL : Hid ((pick (namesB l) (k + 1)).length = u + 1) := Lib.hid (by rw [HP.out, List.length_append, hu]; rfl)
              have HU := Lib.hid hu
              clear hb hu
              go_wp2_with (at_builtin; refine append_rd rfl _ _ 82 rfl Mem.tInt w1 _ _ _ rfl (HO.out.alloc _) _ 1 1 [.int .i64 (k : Int)] rfl (Rd.built _ 1 1 [.int .i64 (k : Int)] _ rfl) (one_cons rfl one_nil) (by omega) (by omega) ?_; intro v' w' hown' hg; clear hg)
              go_roundw
              case rel => exact ⟨k + 1, by omega, by go_num, by rw [HPL.out, HP.out, zs_app]; exact hown'⟩
              case measure => simp [intOf]; omega
            | false =>
              have HP := Lib.hid (pick_no (namesB l) k hb)
              clear hb
              go_wp2
              go_roundw
              case rel => exact ⟨k + 1, by omega, by go_num, by rw [HP.out]; exact HO.out⟩
              case measure => simp [intOf]; omega
      · have hk64 : k = 64 := by omega
        obtain ⟨B, d, rfl, hrd⟩ := hown.form
        have HB2 := Lib.hid hown.2
        have HRD : Hid (Rd w2 1 B q (zs r)) := Lib.hid (by rw [← HQ.out, HF.out, ← hk64]; exact hrd)
        have HPQ : Hid ((pick (namesB l) k).length = q) := Lib.hid (by rw [← HQ.out, HF.out, ← hk64])
        clear hrd hown hk64
        go_wp2
        go_ret
        exact ⟨B, d, by rw [HPQ.out]; rfl, HRD.out, bl_trans HB.out HB2.out⟩
  · have HF : Hid (r = []) := Lib.hid (by rw [← hv]; unfold cellsS; rw [if_neg h0])
    have HN : Hid (q = 0) := Lib.hid (by rw [← HQ.out, HF.out]; rfl)
    obtain rfl := HN.out
    obtain ⟨ck, hck⟩ : ∃ x, checkS l = x := ⟨_, rfl⟩
    have HC := Lib.hid hck
    have hne : (ck != 0) = true := by rw [← hck]; simpa using h0
    clear h0 hv hck
    go_enter Try.func47, Try.ntmps47
    go_wp2_with fail
    refine (refcheck l _ _ _ _ ck HR.out hn HC.out).mono ?_
    rintro e w1 ⟨rfl, b1⟩
    have HB := Lib.hid b1
    clear b1
    go_wp2
    go_ret
    exact ⟨_, _, rfl, by rw [HF.out]; exact Rd.none_, HB.out⟩
end Go.Proofs.Ytilfkohckmknkaa.Term
