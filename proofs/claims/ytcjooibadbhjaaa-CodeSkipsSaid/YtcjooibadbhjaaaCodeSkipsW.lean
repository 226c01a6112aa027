/-
  THE WALK OF THE LAW CodeSkips.
-/
import Derived.Test.YtcjooibadbhjaaaCodeAwake
import Derived.Test.YtcjooibadbhjaaaCodeJoin
namespace Go.Proofs.Ytcjooibadbhjaaa.Code
open Go.ChangeShapes Go.WideShapes Go.ChangeAt Go.RowKit Mem

/-- A Skip whose term lies at g, and so many Retries. -/
def skipR (g a m : Nat) : List Raw := ⟨⟨4, (a : Int), 0, [⟨1, 1⟩]⟩, some ⟨g, 0, none⟩, 1, 1⟩ :: bares (List.replicate m (5, 0, 0))
theorem skipR_ss (g a m : Nat) : ss (skipR g a m) = skipL a m := by unfold skipR ss skipL; rw [List.map_cons]; congr 1; unfold bares; simp
theorem skipR_lim (g a m : Nat) : Lim (skipR g a m) := by
  intro r hr
  unfold skipR at hr
  rcases List.mem_cons.1 hr with rfl | hr
  · show 1 ≤ 1000000; omega
  · exact bares_lim _ r hr
theorem skipR_terms {w : World} (g a m : Nat) (h : Rd w 2 (some ⟨g, 0, none⟩) 1 (Term.ops [⟨1, 1⟩])) : Terms w (skipR g a m) := by
  intro r hr
  unfold skipR at hr
  rcases List.mem_cons.1 hr with rfl | hr
  · exact ⟨h, Nat.le_refl _, by show 1 ≤ 9223372036854775807; omega⟩
  · exact bares_terms w _ r hr
theorem skipR_next (g a m : Nat) : rs (skipR g a m) ++ rs (bares [(5, 0, 0)]) = rs (skipR g a (m + 1)) := by
  rw [← rs_app]
  unfold skipR
  rw [List.cons_append, show bares (List.replicate m (5, 0, 0)) ++ bares [(5, 0, 0)] = bares (List.replicate (m + 1) (5, 0, 0)) from by unfold bares; rw [← List.map_append, List.replicate_succ']]
set_option maxRecDepth 100000 in
set_option maxHeartbeats 2000000 in
theorem skips_walk (S : Said) (an_ mo_ : Int) (han : 0 ≤ an_ ∧ an_ ≤ 255) (hmo : 0 ≤ mo_ ∧ mo_ ≤ 255) (w : World) :
    Calls Try.prog 7 #[.int .u8 an_, .int .u8 mo_] w (RetB w true) := by
  have HS := Lib.hid S
  clear S
  obtain ⟨at0, at1⟩ := han
  obtain ⟨an, rfl⟩ := Int.eq_ofNat_of_zero_le at0
  obtain ⟨mo0, mo1⟩ := hmo
  obtain ⟨mo, rfl⟩ := Int.eq_ofNat_of_zero_le mo0
  obtain ⟨r, hr⟩ : ∃ r : Nat, an % 20 = r := ⟨_, rfl⟩
  obtain ⟨fa, hfa⟩ : ∃ r : Nat, mo % 4 = r := ⟨_, rfl⟩
  have hri : (an : Int) % 20 = (r : Int) := by rw [← hr]; rfl
  have hfi : (mo : Int) % 4 = (fa : Int) := by rw [← hfa]; rfl
  have hr20 : r < 20 := by rw [← hr]; omega
  have hf4 : fa < 4 := by rw [← hfa]; omega
  obtain ⟨mm, hmm⟩ : ∃ x, x = r + 1 := ⟨_, rfl⟩
  obtain ⟨sa, hsa⟩ : ∃ x, x = mm + fa := ⟨_, rfl⟩
  have hmi : 1 + (r : Int) = (mm : Int) := by omega
  have hsi : (mm : Int) + (fa : Int) = (sa : Int) := by omega
  have hm20 : mm ≤ 20 := by omega
  have hs23 : sa ≤ 23 := by omega
  have hs1 : 1 ≤ sa := by omega
  have CK := Lib.hid (skip_check sa mm hs1 (by omega) hm20)
  have CI := Lib.hid (skip_in sa mm hs1 (by omega) hm20)
  obtain ⟨w1, hw1⟩ : ∃ x, x = w.alloc (.cells #[.int .i64 1, .int .i64 1] 41) := ⟨_, rfl⟩
  have RT : Hid (Rd w1 2 (some ⟨w.heap.size, 0, none⟩) 1 (Term.ops [⟨1, 1⟩])) := Lib.hid (by rw [hw1]; exact Rd.built _ 2 1 (Term.ops [⟨1, 1⟩]) _ rfl)
  have B1 : Hid (Below w.heap.size w w1) := Lib.hid (by rw [hw1]; exact bl_alloc (Below.refl _ _) _)
  have HNE : Hid (w1.heap.size = w.heap.size + 1) := Lib.hid (by rw [hw1]; simp)
  have hmin : min (sa : Int) 24 = (sa : Int) := by omega
  clear hr hfa at0 mo0 hmm hsa
  go_enter Try.func7, Try.ntmps7
  go_wp2
  rw [hri, hfi, ← hw1]
  clear hw1
  go_loopw [8, 30] (fun v i wr => ∃ j : Nat, j ≤ mm ∧ i = .int .i64 j ∧ Own w1 wr 37 4 v (1 + j) (rs (skipR w.heap.size sa j))) (fun _ i _ => mm - (intOf i).toNat)
  case atStart => exact ⟨0, Nat.zero_le _, rfl, by rw [← HNE.out]; exact own_built w1 _ 4 1 (rs (skipR w.heap.size sa 0)) rfl (by decide)⟩
  case round =>
    obtain ⟨j, hj, rfl, hown⟩ := hrel
    generalize wr = w2 at *
    by_cases hlt : j < mm
    · go_wp2_with (at_builtin; refine append_rd rfl _ _ 22 rfl tStep w1 _ (1 + j) (rs (skipR w.heap.size sa j)) rfl (hown.alloc _) _ 1 1 (rs (bares [(5, 0, 0)])) rfl (Rd.built _ 4 1 (rs (bares [(5, 0, 0)])) _ rfl) (rs_one _) (by omega) (by omega) ?_; intro v' w' ho' hg'; clear hg')
      go_roundw
      case rel => exact ⟨j + 1, by omega, by go_num, own_eq ho' (skipR_next _ _ _)⟩
      case measure => simp [intOf]; omega
    · have hjm : j = mm := by omega
      subst hjm
      obtain ⟨jl, hjl⟩ : ∃ x, x = 1 + j := ⟨_, rfl⟩
      rw [← hjl] at hown
      obtain ⟨B1', d1, rfl, hroom, hrd⟩ := own_room hown
      have RC : Hid (At w2 B1' jl (skipR w.heap.size sa j)) := Lib.hid ⟨hrd, skipR_terms _ _ _ (RT.out.below hown.2)⟩
      have bb := Lib.hid (bl_trans B1.out hown.2)
      have HJL := Lib.hid hjl
      have hjl21 : jl ≤ 21 := by omega
      clear hrd hown RT hjl
      have T1 : Hid True := Lib.hid trivial
      have T2 : Hid True := Lib.hid trivial
      have T3 : Hid True := Lib.hid trivial
      by_cases hle : sa ≤ j
      · have HCK : Hid (checkS (ss (skipR w.heap.size sa j)) = 0) := Lib.hid (by rw [skipR_ss, CK.out]; exact if_pos hle)
        have HCI : Hid (checkS (ss (bares [(7, (jl : Int), 1)] ++ (skipR w.heap.size sa j ++ bares [(5, 0, 0)]))) = 0) := Lib.hid (by
          have e : ss (bares [(7, (jl : Int), 1)] ++ (skipR w.heap.size sa j ++ bares [(5, 0, 0)])) = ⟨7, ((j + 1 : Nat) : Int), ((1 : Nat) : Int), []⟩ :: (skipL sa j ++ [⟨5, 0, 0, []⟩]) := by
            rw [ss_app, ss_app, skipR_ss, HJL.out, Nat.add_comm 1 j]; rfl
          rw [e, CI.out]; exact if_pos hle)
        clear CK CI
        go_wp2_with (first
          | (at_builtin; clear T1; refine append_rd rfl _ _ 22 rfl tStep _ _ 0 [] rfl (own_emptyAt _ _ _ (by simp)) _ jl _ (rs (skipR w.heap.size sa j)) rfl ((RC.out.1.alloc _).alloc _) (rs_one _) (by omega) (by omega) ?_; intro v1 p1 ho hg'; clear hg'; have HO := Lib.hid (own_zero ho); clear ho)
          | (at_builtin; clear T2; refine append_rd rfl _ _ 22 rfl tStep _ _ jl (rs (skipR w.heap.size sa j)) rfl (HO.out.alloc _) _ 1 1 (rs (bares [(5, 0, 0)])) rfl (Rd.builtAt _ 4 1 (rs (bares [(5, 0, 0)])) _ rfl (by simp)) (rs_one _) (by omega) (by omega) ?_; intro v2 p2 ho hg'; clear hg'; replace HO := Lib.hid (own_eq ho (rs_app (skipR w.heap.size sa j) (bares [(5, 0, 0)])).symm); clear ho; obtain ⟨B2, d2, rfl, r2⟩ := HO.out.form; have R2 := Lib.hid r2; clear r2)
          | (at_builtin; clear T3; refine append_rd rfl _ _ 22 rfl tStep w2 _ 1 (rs (bares [(7, (jl : Int), 1)])) rfl ((own_built w2 _ 4 1 (rs (bares [(7, (jl : Int), 1)])) rfl (by decide)).below HO.out.2) _ (jl + 1) _ (rs (skipR w.heap.size sa j ++ bares [(5, 0, 0)])) rfl R2.out (rs_one _) (by omega) (by omega) ?_; intro v3 p3 ho hg'; clear hg'; have HO3 := Lib.hid (own_eq ho (rs_app (bares [(7, (jl : Int), 1)]) (skipR w.heap.size sa j ++ bares [(5, 0, 0)])).symm); clear ho; obtain ⟨B3, d3, rfl, c3, r3⟩ := own_room HO3.out; have R3 : Hid (At p3 B3 (1 + (jl + 1)) (bares [(7, (jl : Int), 1)] ++ (skipR w.heap.size sa j ++ bares [(5, 0, 0)]))) := Lib.hid ⟨r3, ((bares_terms _ _).app ((RC.out.2.below HO3.out.2).app (bares_terms _ _)))⟩; clear r3))
        replace bb := Lib.hid (bl_trans bb.out HO3.out.2)
        replace RC := Lib.hid (RC.out.below HO3.out.2)
        clear HO HO3 R2
        refine (HS.out.check (skipR w.heap.size sa j) _ _ _ _ 0 (RC.out) hroom (skipR_lim _ _ _) (by omega) HCK.out).mono ?_
        rintro e w4 ⟨rfl, b_⟩
        clear RC
        replace R3 := Lib.hid ((R3.out).below b_)
        replace bb := Lib.hid (bl_trans bb.out b_)
        clear b_
        go_wp2_with fail
        refine (HS.out.check (bares [(7, (jl : Int), 1)] ++ (skipR w.heap.size sa j ++ bares [(5, 0, 0)])) _ _ _ _ 0 (R3.out) c3 ((bares_lim _).app ((skipR_lim _ _ _).app (bares_lim _))) (by omega) HCI.out).mono ?_
        rintro e w5 ⟨rfl, b_⟩
        clear R3
        replace bb := Lib.hid (bl_trans bb.out b_)
        clear b_
        go_wp2_with fail
        refine (awake_any HS.out _).mono ?_
        rintro e w6 ⟨rfl, b_⟩
        replace bb := Lib.hid (bl_trans bb.out b_)
        clear b_
        go_wp2
        go_ret
        exact ⟨rfl, bb.out⟩
      · have HCK : Hid (checkS (ss (skipR w.heap.size sa j)) = 2) := Lib.hid (by rw [skipR_ss, CK.out]; exact if_neg hle)
        have HCI : Hid (checkS (ss (bares [(7, (jl : Int), 1)] ++ (skipR w.heap.size sa j ++ bares [(5, 0, 0)]))) = 2) := Lib.hid (by
          have e : ss (bares [(7, (jl : Int), 1)] ++ (skipR w.heap.size sa j ++ bares [(5, 0, 0)])) = ⟨7, ((j + 1 : Nat) : Int), ((1 : Nat) : Int), []⟩ :: (skipL sa j ++ [⟨5, 0, 0, []⟩]) := by
            rw [ss_app, ss_app, skipR_ss, HJL.out, Nat.add_comm 1 j]; rfl
          rw [e, CI.out]; exact if_neg hle)
        clear CK CI
        go_wp2_with (first
          | (at_builtin; clear T1; refine append_rd rfl _ _ 22 rfl tStep _ _ 0 [] rfl (own_emptyAt _ _ _ (by simp)) _ jl _ (rs (skipR w.heap.size sa j)) rfl ((RC.out.1.alloc _).alloc _) (rs_one _) (by omega) (by omega) ?_; intro v1 p1 ho hg'; clear hg'; have HO := Lib.hid (own_zero ho); clear ho)
          | (at_builtin; clear T2; refine append_rd rfl _ _ 22 rfl tStep _ _ jl (rs (skipR w.heap.size sa j)) rfl (HO.out.alloc _) _ 1 1 (rs (bares [(5, 0, 0)])) rfl (Rd.builtAt _ 4 1 (rs (bares [(5, 0, 0)])) _ rfl (by simp)) (rs_one _) (by omega) (by omega) ?_; intro v2 p2 ho hg'; clear hg'; replace HO := Lib.hid (own_eq ho (rs_app (skipR w.heap.size sa j) (bares [(5, 0, 0)])).symm); clear ho; obtain ⟨B2, d2, rfl, r2⟩ := HO.out.form; have R2 := Lib.hid r2; clear r2)
          | (at_builtin; clear T3; refine append_rd rfl _ _ 22 rfl tStep w2 _ 1 (rs (bares [(7, (jl : Int), 1)])) rfl ((own_built w2 _ 4 1 (rs (bares [(7, (jl : Int), 1)])) rfl (by decide)).below HO.out.2) _ (jl + 1) _ (rs (skipR w.heap.size sa j ++ bares [(5, 0, 0)])) rfl R2.out (rs_one _) (by omega) (by omega) ?_; intro v3 p3 ho hg'; clear hg'; have HO3 := Lib.hid (own_eq ho (rs_app (bares [(7, (jl : Int), 1)]) (skipR w.heap.size sa j ++ bares [(5, 0, 0)])).symm); clear ho; obtain ⟨B3, d3, rfl, c3, r3⟩ := own_room HO3.out; have R3 : Hid (At p3 B3 (1 + (jl + 1)) (bares [(7, (jl : Int), 1)] ++ (skipR w.heap.size sa j ++ bares [(5, 0, 0)]))) := Lib.hid ⟨r3, ((bares_terms _ _).app ((RC.out.2.below HO3.out.2).app (bares_terms _ _)))⟩; clear r3))
        replace bb := Lib.hid (bl_trans bb.out HO3.out.2)
        replace RC := Lib.hid (RC.out.below HO3.out.2)
        clear HO HO3 R2
        refine (HS.out.check (skipR w.heap.size sa j) _ _ _ _ 2 (RC.out) hroom (skipR_lim _ _ _) (by omega) HCK.out).mono ?_
        rintro e w4 ⟨rfl, b_⟩
        clear RC
        replace R3 := Lib.hid ((R3.out).below b_)
        replace bb := Lib.hid (bl_trans bb.out b_)
        clear b_
        go_wp2_with fail
        refine (HS.out.check (bares [(7, (jl : Int), 1)] ++ (skipR w.heap.size sa j ++ bares [(5, 0, 0)])) _ _ _ _ 2 (R3.out) c3 ((bares_lim _).app ((skipR_lim _ _ _).app (bares_lim _))) (by omega) HCI.out).mono ?_
        rintro e w5 ⟨rfl, b_⟩
        clear R3
        replace bb := Lib.hid (bl_trans bb.out b_)
        clear b_
        go_wp2_with fail
        refine (awake_any HS.out _).mono ?_
        rintro e w6 ⟨rfl, b_⟩
        replace bb := Lib.hid (bl_trans bb.out b_)
        clear b_
        go_wp2
        go_ret
        exact ⟨rfl, bb.out⟩
end Go.Proofs.Ytcjooibadbhjaaa.Code
