/-
  WHAT THE DOCUMENT'S ANSWER FOR LAYER 4 RETURNS.
-/
import Derived.Test.YtdbgpmfdiljopaaNumbers
import Derived.Test.YtdbgpmfdiljopaaTickPlain
import Derived.Test.YtdbgpmfdiljopaaMem2
import Derived.Deep.LoopGhost
import Derived.Deep.OwnRows
namespace Go.Proofs.Ytdbgpmfdiljopaa.Tick
open Go.ChangeShapes Go.WideShapes Go.ChangeAt Go.RowKit Mem

theorem refright_any (n : Int) (w : World) : Calls Try.prog 16 #[.int .i64 n] w fun e w' => e = .returned (.bool (timeB n)) ∧ w = w' := by
  by_cases h1 : 0 ≤ n
  all_goals by_cases h2 : n ≤ 2147483647
  all_goals
    go_enter Try.func16, Try.ntmps16
    go_wp2
    go_ret
    exact ⟨ret_bool (by unfold timeB; simp [h1, h2]), rfl⟩
theorem refnext_any (n : Int) (w : World) : Calls Try.prog 11 #[.int .i64 n] w fun e w' => e = .returned (.tuple #[.int .i64 (nextS n).1, .int .i64 (nextS n).2]) ∧ w = w' := by
  by_cases h1 : 0 ≤ n ∧ n ≤ 2147483647
  · by_cases h2 : 2147483647 < n + 1
    · have HF : Hid (nextS n = (0, 6)) := Lib.hid (by unfold nextS; rw [if_pos h1, if_pos h2])
      obtain ⟨h1a, h1b⟩ := h1
      go_enter Try.func11, Try.ntmps11
      go_wp2
      go_ret2
      exact ⟨by rw [HF.out]; rfl, rfl⟩
    · have HF : Hid (nextS n = (n + 1, 0)) := Lib.hid (by unfold nextS; rw [if_pos h1, if_neg h2])
      obtain ⟨h1a, h1b⟩ := h1
      go_enter Try.func11, Try.ntmps11
      go_wp2
      go_ret2
      exact ⟨by rw [HF.out]; rfl, rfl⟩
  · have HF : Hid (nextS n = (0, 1)) := Lib.hid (by unfold nextS; rw [if_neg h1])
    by_cases h2 : n < 0
    all_goals
      go_enter Try.func11, Try.ntmps11
      go_wp2
      go_ret2
      exact ⟨by rw [HF.out]; rfl, rfl⟩
theorem refafter_any (n k : Int) (w : World) (hk : k ≤ 9223372036854775807) : Calls Try.prog 13 #[.int .i64 n, .int .i64 k] w fun e w' => e = .returned (.tuple #[.int .i64 (afterS n k).1, .int .i64 (afterS n k).2]) ∧ w = w' := by
  by_cases h1 : 0 ≤ n ∧ n ≤ 2147483647 ∧ 0 < k
  · by_cases h2 : 2147483647 < n + k
    · have HF : Hid (afterS n k = (0, 6)) := Lib.hid (by unfold afterS; rw [if_pos h1, if_pos h2])
      obtain ⟨h1a, h1b, h1c⟩ := h1
      by_cases h3 : 2147483647 < k
      all_goals
        go_enter Try.func13, Try.ntmps13
        go_wp2
        go_ret2
        exact ⟨by rw [HF.out]; rfl, rfl⟩
    · have HF : Hid (afterS n k = (n + k, 0)) := Lib.hid (by unfold afterS; rw [if_pos h1, if_neg h2])
      obtain ⟨h1a, h1b, h1c⟩ := h1
      go_enter Try.func13, Try.ntmps13
      go_wp2
      go_ret2
      exact ⟨by rw [HF.out]; rfl, rfl⟩
  · have HF : Hid (afterS n k = (0, 1)) := Lib.hid (by unfold afterS; rw [if_neg h1])
    by_cases h2 : n < 0
    · go_enter Try.func13, Try.ntmps13
      go_wp2
      go_ret2
      exact ⟨by rw [HF.out]; rfl, rfl⟩
    · by_cases h3 : 2147483647 < n
      · go_enter Try.func13, Try.ntmps13
        go_wp2
        go_ret2
        exact ⟨by rw [HF.out]; rfl, rfl⟩
      · have h4 : k ≤ 0 := by omega
        clear h1
        go_enter Try.func13, Try.ntmps13
        go_wp2
        go_ret2
        exact ⟨by rw [HF.out]; rfl, rfl⟩

theorem tBoolInfo : (Try.prog.info? 4).map (fun i => (i.zero, i.size, i.bytes)) = some (some (.bool false), 1, 1) := by kernel_rfl

/-- A store elsewhere leaves what is owned. -/
theorem own_far {w0 w : World} {e size n : Nat} {v : Value} {xs : List Value} (h : Own w0 w e size v n xs) {g i : Nat} (hg : w0.heap.size ≤ g) (hne : v.ownBlock ≠ some g) (u : Value) : Own w0 (w.setCell ⟨g, i, none⟩ u) e size v n xs :=
  ⟨h.1.kept (row := some g) ⟨rfl, rfl, rfl, by simp [World.setCell], fun j _ hj => Below.heap_setCell _ _ _ _ (fun e => hj (by rw [e]))⟩ (.inr hne), h.2.setCell hg u⟩

set_option maxRecDepth 100000 in
set_option maxHeartbeats 2000000 in
theorem refdue_any (l : List Int) (A : Option Addr) (n c : Nat) (now : Int) (w : World) (r : List Nat) (q : Nat) (hr : Rd w 1 A n (zs l)) (hn : n ≤ 1000000) (hd : dueS now l = r) (hq : r.length = q) :
    Calls Try.prog 14 #[.int .i64 now, .slice A n c] w (RetS w 1 q (zs (r.map Int.ofNat))) := by
  have HN := Lib.hid (zs_len hr)
  have HI : Hid (IsDue now l r) := Lib.hid (by rw [← hd]; exact due_is now l)
  have hqn : q ≤ n := by rw [← hq, ← HN.out, ← hd]; exact due_len now l
  have HQ := Lib.hid hq
  clear hq hd
  have hmk := run_make_row' (P := Try.prog) 42 4 (.bool false) 1 Try.underlying42 tBoolInfo rfl .i64 .i64 n (by omega) (by omega)
  go_enter Try.func14, Try.ntmps14
  go_wp2
  clear hmk
  go_loopg [5] (q + 1) (fun gk v wr => ∃ k : Nat, gk + k = q + 1 ∧ k ≤ q ∧ Own w wr 3 1 v k (zs ((r.take k).map Int.ofNat)) ∧ wr.rowIs w.heap.size 4 n (fun j => .bool ((r.take k).contains j)) ∧ v.ownBlock ≠ some w.heap.size)
  case atStart => exact ⟨0, by omega, by omega, Own.nil_ (bl_alloc (Below.refl _ _) _), (World.rowIs_made w (.bool false) n _).congr (fun i _ => by simp), by simp [Value.ownBlock]⟩
  case round =>
    obtain ⟨k, hgk, hk, hown, hrow, hne⟩ := hrel
    have hlen : k ≤ 1000000 := by omega
    have HGK := Lib.hid hgk
    have HNE := Lib.hid hne
    clear hgk hne
    generalize wr = w2 at *
    go_wp2
    go_loopw [7, 8] (fun b i wq => ∃ (i' : Nat) (b' : Int) (nq : Nat), i' ≤ n ∧ i = .int .i64 i' ∧ b = .int .i64 b' ∧ Hid (IsBest l (left_ now l r k) i' b') ∧ wq = w2.drewN nq) (fun _ i _ => n - (intOf i).toNat)
    case atStart => exact ⟨0, -1, 0, Nat.zero_le _, rfl, rfl, Lib.hid (.inl ⟨rfl, fun j hj => absurd hj (by omega)⟩), rfl⟩
    case round =>
      obtain ⟨i, bst, nq, hi, rfl, rfl, HB, rfl⟩ := hrel
      by_cases hlt : i < n
      · obtain ⟨b, off, x, rfl, hx, c0⟩ := at_z (hr.below hown.2) i hlt
        have kt := hrow.cell hlt
        have EL := Lib.hid (elig_at now l i x hx)
        have TX := Lib.hid (tm_at l i x hx)
        clear hx
        cases ht : (r.take k).contains i with
        | true =>
          rw [ht] at kt
          have HS : Hid (left_ now l r k i = false) := Lib.hid (by unfold left_; rw [ht]; simp)
          clear ht
          go_wp2
          go_quiet (fail)
          go_wp2
          go_roundw
          case rel => exact ⟨i + 1, bst, _, by omega, by go_num, rfl, Lib.hid (best_no l _ i bst HB.out HS.out), rfl⟩
          case measure => simp [intOf]; omega
        | false =>
          rw [ht] at kt
          have HTF := Lib.hid ht
          clear ht
          by_cases e1 : 0 ≤ x
          · by_cases e2 : x ≤ 2147483647
            · by_cases e3 : x ≤ now
              · have HS : Hid (left_ now l r k i = true) := Lib.hid (by unfold left_; rw [EL.out, HTF.out]; simp [e1, e2, e3])
                have HB2 := HB.out
                rcases HB2 with ⟨rfl, _⟩ | ⟨m, rfl, hm1, _, _⟩
                · skip
                  go_wp2
                  go_quiet (fail)
                  go_wp2
                  go_roundw
                  case rel => exact ⟨i + 1, _, _, by omega, by go_num, rfl, Lib.hid (best_first l _ i HB.out HS.out), rfl⟩
                  case measure => simp [intOf]; omega
                · obtain ⟨b', off', xm, hA, hxm, cm⟩ := at_z (hr.below hown.2) m (by omega)
                  injection hA with hA
                  injection hA with hA1 hA2
                  subst hA1 hA2
                  have TM := Lib.hid (tm_at l m xm hxm)
                  clear hxm
                  have dm : decide ((m : Int) < 0) = false := by simp
                  by_cases e4 : x < xm
                  · have HB3 := Lib.hid (best_new l _ i m HB.out HS.out (by rw [TX.out, TM.out]; exact e4))
                    go_wp2
                    go_quiet (fail)
                    go_wp2
                    go_roundw
                    case rel => exact ⟨i + 1, _, _, by omega, by go_num, rfl, Lib.hid (HB3.out), rfl⟩
                    case measure => simp [intOf]; omega
                  · have HB3 := Lib.hid (best_keep l _ i m HB.out (by rw [TX.out, TM.out]; exact e4))
                    have d4 : decide (x < xm) = false := by simpa using e4
                    clear e4
                    go_wp2
                    go_quiet (fail)
                    go_wp2
                    go_roundw
                    case rel => exact ⟨i + 1, _, _, by omega, by go_num, rfl, Lib.hid (HB3.out), rfl⟩
                    case measure => simp [intOf]; omega
              · have HS : Hid (left_ now l r k i = false) := Lib.hid (by unfold left_; rw [EL.out]; simp [e3])
                have d3 : decide (x ≤ now) = false := by simpa using e3
                clear e3
                go_wp2
                go_quiet (fail)
                go_wp2
                go_roundw
                case rel => exact ⟨i + 1, bst, _, by omega, by go_num, rfl, Lib.hid (best_no l _ i bst HB.out HS.out), rfl⟩
                case measure => simp [intOf]; omega
            · have HS : Hid (left_ now l r k i = false) := Lib.hid (by unfold left_; rw [EL.out]; simp [e2])
              have d2 : decide (x ≤ 2147483647) = false := by simpa using e2
              clear e2
              go_wp2
              go_quiet (fail)
              go_wp2
              go_roundw
              case rel => exact ⟨i + 1, bst, _, by omega, by go_num, rfl, Lib.hid (best_no l _ i bst HB.out HS.out), rfl⟩
              case measure => simp [intOf]; omega
          · have HS : Hid (left_ now l r k i = false) := Lib.hid (by unfold left_; rw [EL.out]; simp [e1])
            have d1 : decide (0 ≤ x) = false := by simpa using e1
            clear e1
            go_wp2
            go_quiet (fail)
            go_wp2
            go_roundw
            case rel => exact ⟨i + 1, bst, _, by omega, by go_num, rfl, Lib.hid (best_no l _ i bst HB.out HS.out), rfl⟩
            case measure => simp [intOf]; omega
      · have hin : i = n := by omega
        subst hin
        have hown3 : Own w (w2.drewN nq) 3 1 _ k _ := ⟨hown.1, bl_drewN hown.2 nq⟩
        have hrow3 : (w2.drewN nq).rowIs w.heap.size 4 i (fun j => .bool ((r.take k).contains j)) := hrow
        generalize w2.drewN nq = w3 at *
        clear hown hrow
        have HBL : Hid (IsBest l (left_ now l r k) l.length bst) := Lib.hid (by rw [HN.out]; exact HB.out)
        have HB2 := HB.out
        rcases HB2 with ⟨rfl, _⟩ | ⟨m, rfl, hm1, _, _⟩
        · have hkq : k = q := by have := best_none now l r HI.out k HBL.out; rw [HQ.out] at this; omega
          subst hkq
          obtain ⟨B2, d2, rfl, q2⟩ := hown3.form
          have q2' : Rd w3 1 B2 k (zs (r.map Int.ofNat)) := by
            rwa [List.take_of_length_le (by rw [HQ.out]; exact Nat.le_refl _)] at q2
          have b2 := hown3.2
          clear hown3 q2 hrow3
          go_wp2
          go_ret
          exact ⟨B2, d2, rfl, q2', b2⟩
        · have hrk := best_some now l r HI.out k m HBL.out
          have hkq : k < q := by rw [← HQ.out]; exact (List.getElem?_eq_some_iff.1 hrk).1
          have HRK := Lib.hid hrk
          clear hrk
          have k1 := hrow3.cell hm1
          have k2 := hrow3.frozen m
          have hgl := hrow3.lt
          have hown4 := own_far (i := m) hown3 (Nat.le_refl _) HNE.out (.bool true)
          have hrow4 := hrow3.set m (.bool true)
          have dm : decide ((m : Int) < 0) = false := by simp
          have HT : Hid (zs ((r.take (k + 1)).map Int.ofNat) = zs ((r.take k).map Int.ofNat) ++ [.int .i64 (m : Int)]) := Lib.hid (by
            rw [List.take_add_one, HRK.out]; simp [zs, zc])
          clear hown3 hrow3
          go_wp2_with (at_builtin; refine append_at rfl (.tmp 67) (.tmp 69) 22 rfl tInt w _ _ _ rfl (hown4.alloc _) _ 1 1 [.int .i64 (m : Int)] rfl (Rd.builtAt _ 1 1 [.int .i64 (m : Int)] _ rfl (by simp)) (one_cons rfl one_nil) (by omega) (by omega) ?_; intro v' w' hown' hg hat)
          go_roundg (gk - 1)
          case measure => have := HGK.out; omega
          case rel =>
            have hgk := HGK.out
            refine ⟨k + 1, by omega, by omega, by rw [HT.out]; exact hown', ?_, ?_⟩
            · refine (World.rowIs.of_block (hrow4.alloc _) (hg.block _ (by have := hrow4.lt; simp; omega) (fun e => HNE.out e.symm))).congr (fun j hj => ?_)
              rw [List.take_add_one, HRK.out]
              by_cases e : j = m
              · subst e; simp
              · simp [e]
            · rcases hat with e | e
              · rw [e]; exact HNE.out
              · rw [e]; intro h; injection h with h; have := hrow4.lt; simp at h; omega
end Go.Proofs.Ytdbgpmfdiljopaa.Tick
