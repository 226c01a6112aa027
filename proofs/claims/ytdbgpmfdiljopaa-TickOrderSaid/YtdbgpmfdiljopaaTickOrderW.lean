/-
  THE WALK OF THE LAW TickOrder, over what the layer's functions are said to do.
-/
import Derived.Test.YtdbgpmfdiljopaaTickLaw
namespace Go.Proofs.Ytdbgpmfdiljopaa.Tick
open Go.ChangeShapes Go.WideShapes Go.ChangeAt Go.RowKit Mem

theorem nat_at' {w : World} {A : Option Addr} {n : Nat} {l : List Nat} (hr : Rd w 1 A n (zs (l.map Int.ofNat))) (k : Nat) (hk : k < n) :
    ∃ b off, ∃ x : Nat, A = some ⟨b, off, none⟩ ∧ l[k]? = some x ∧ w.cell? ⟨b, off + k, none⟩ = some (.int .i64 (x : Int)) := by
  obtain ⟨b, off, z, hA, hz, hc⟩ := at_z hr k hk
  rw [List.getElem?_map] at hz
  cases hx : l[k]? with
  | none => rw [hx] at hz; cases hz
  | some x => rw [hx] at hz; simp at hz; subst hz; exact ⟨b, off, x, hA, rfl, hc⟩

set_option maxRecDepth 100000 in
set_option maxHeartbeats 2000000 in
theorem order_walk (S : Said) (A0 : Option Addr) (n0 c0 : Nat) (x0 : List Int) (a1 a2 : Int) (w : World)
    (m0 : n0 ≤ 9223372036854775807) (r0 : Rd w 1 A0 n0 (zs x0)) :
    Calls Try.prog 7 #[.slice A0 n0 c0, .int .i64 a1, .int .i64 a2] w (RetB w true) := by
  have HS := Lib.hid S
  clear S
  have HL := Lib.hid (zs_len r0)
  by_cases g : n0 ≤ 40
  · have d40 : decide ((40 : Int) < (n0 : Int)) = false := by simp; omega
    have HDM : Hid ((dueS a2 (x0 ++ [a1])).filter (fun k => k != n0) = dueS a2 x0) := Lib.hid (by have := due_more a2 x0 a1; rw [HL.out] at this; exact this)
    have HDL := due_more_len a2 x0 a1
    have hqa : (dueS a2 (x0 ++ [a1])).length ≤ n0 + 1 := by have := due_len a2 (x0 ++ [a1]); simp at this; rw [HL.out] at this; exact this
    have hqs : (dueS a2 x0).length ≤ n0 := by have := due_len a2 x0; rw [HL.out] at this; exact this
    generalize ea : (dueS a2 (x0 ++ [a1])).length = qa at *
    generalize es : (dueS a2 x0).length = qs at *
    have QA := Lib.hid ea
    have QS := Lib.hid es
    clear ea es
    by_cases ht : timeB a1 = true
    · have HT1 := Lib.hid ht
      by_cases hle : a1 ≤ a2
      · have hql : qa = qs + 1 := by rw [HDL, if_pos (by rw [ht]; simpa using hle)]
        have dq : ((qa : Int) == (qs : Int) + 1) = true := by rw [hql]; simp
        clear HDL ht hql
        go_enter Try.func7, Try.ntmps7
        go_wp2_with (first
          | (at_builtin; refine append_rd rfl (.tmp 18) (.tmp 19) 22 rfl tInt w _ _ _ rfl (Own.empty w _ _) A0 n0 c0 (zs x0) rfl (r0.alloc _) (zs_one x0) (by omega) (by omega) ?_; intro va wa oa hga)
          | (at_builtin; refine append_rd rfl (.tmp 20) (.tmp 22) 22 rfl tInt w va _ _ rfl (oa.alloc _) _ 1 1 [.int .i64 a1] rfl (Rd.built _ 1 1 [.int .i64 a1] _ rfl) (one_cons rfl one_nil) (by omega) (by omega) ?_; intro vb wb ob hgb))
        obtain ⟨Bb, db, rfl, qb⟩ := ob.form
        replace r0 := r0.below ob.2
        have bb := ob.2
        have qb' : Rd wb 1 Bb (0 + n0 + 1) (zs (x0 ++ [a1])) := by rw [zs_app]; exact qb
        clear qb ob hgb oa hga
        refine (HS.out.due (x0 ++ [a1]) _ _ _ a2 _ _ qa qb' (by omega) rfl QA.out).mono ?_
        rintro e v1 ⟨B1, d1, rfl, s1, b_⟩
        replace r0 := r0.below b_
        replace bb := bl_trans bb b_
        clear b_
        go_wp2_with fail
        refine (HS.out.due x0 _ _ _ a2 _ _ qs r0 (by omega) rfl QS.out).mono ?_
        rintro e v2 ⟨B2, d2, rfl, s2, b_⟩
        replace r0 := r0.below b_
        replace s1 := s1.below b_
        replace bb := bl_trans bb b_
        clear b_
        go_wp2
        go_loop [9, 30] (fun kk i => ∃ j : Nat, j ≤ qa ∧ i = .int .i64 j ∧ kk = .int .i64 ((((dueS a2 (x0 ++ [a1])).take j).filter (fun k => k != n0)).length : Nat)) (fun _ i => qa - (intOf i).toNat)
        case atStart => exact ⟨0, Nat.zero_le _, rfl, rfl⟩
        case round =>
          obtain ⟨j, hj, rfl, rfl⟩ := hrel
          by_cases hlt : j < qa
          · obtain ⟨b, off, k, rfl, hk, k1⟩ := nat_at' s1 j hlt
            have HT := Lib.hid (filter_take (fun k => k != n0) _ j k hk)
            by_cases hkn : k = n0
            · subst hkn
              clear hk
              go_wp2
              go_round
              case rel => exact ⟨j + 1, by omega, by go_num, by rw [HT.out]; simp⟩
              case measure => simp [intOf]; omega
            · have HN := Lib.hid (filter_nth (fun k => k != n0) _ j k hk (by simpa using hkn))
              rw [HDM.out] at HN
              have d1 : ((k : Int) == (n0 : Int)) = false := beq_eq_false_iff_ne.2 (by omega)
              generalize hc : (((dueS a2 (x0 ++ [a1])).take j).filter (fun k => k != n0)).length = c at *
              have HC := Lib.hid hc
              clear hk hc
              have hcs : c < qs := by rw [← QS.out]; exact (List.getElem?_eq_some_iff.1 HN.out).1
              obtain ⟨b', off', k', rfl, hk', k2⟩ := nat_at' s2 c hcs
              rw [HN.out] at hk'
              injection hk' with hk'
              subst hk'
              have hk3 : k ≠ n0 := hkn
              have HK3 := Lib.hid hk3
              clear hkn hk3
              go_wp2
              go_round
              case rel => exact ⟨j + 1, by omega, by go_num, by rw [HT.out, if_pos (by simpa using HK3.out)]; go_num⟩
              case measure => simp [intOf]; omega
          · have hjq : j = qa := by omega
            have hcc : (((dueS a2 (x0 ++ [a1])).take j).filter (fun k => k != n0)).length = qs := by
              rw [List.take_of_length_le (by rw [QA.out]; omega), HDM.out]; exact QS.out
            rw [hcc]
            clear hcc
            subst hjq
            go_wp2_with fail
            refine (HS.out.right a1 _ _ HT1.out).mono ?_
            rintro e v3 ⟨rfl, b_⟩
            clear s1
            clear s2
            clear r0
            replace bb := bl_trans bb b_
            clear b_
            go_wp2_with fail
            refine (awake_any HS.out _).mono ?_
            rintro e v4 ⟨rfl, b_⟩
            replace bb := bl_trans bb b_
            clear b_
            go_wp2_with fail
            go_ret
            exact ⟨rfl, bb⟩
      · have hql : qa = qs := by rw [HDL, if_neg (by simpa [ht] using hle)]; rfl
        have dq : ((qa : Int) == (qs : Int) + 1) = false := beq_eq_false_iff_ne.2 (by omega)
        have dle : decide (a1 ≤ a2) = false := by simpa using hle
        clear HDL ht hql hle
        go_enter Try.func7, Try.ntmps7
        go_wp2_with (first
          | (at_builtin; refine append_rd rfl (.tmp 18) (.tmp 19) 22 rfl tInt w _ _ _ rfl (Own.empty w _ _) A0 n0 c0 (zs x0) rfl (r0.alloc _) (zs_one x0) (by omega) (by omega) ?_; intro va wa oa hga)
          | (at_builtin; refine append_rd rfl (.tmp 20) (.tmp 22) 22 rfl tInt w va _ _ rfl (oa.alloc _) _ 1 1 [.int .i64 a1] rfl (Rd.built _ 1 1 [.int .i64 a1] _ rfl) (one_cons rfl one_nil) (by omega) (by omega) ?_; intro vb wb ob hgb))
        obtain ⟨Bb, db, rfl, qb⟩ := ob.form
        replace r0 := r0.below ob.2
        have bb := ob.2
        have qb' : Rd wb 1 Bb (0 + n0 + 1) (zs (x0 ++ [a1])) := by rw [zs_app]; exact qb
        clear qb ob hgb oa hga
        refine (HS.out.due (x0 ++ [a1]) _ _ _ a2 _ _ qa qb' (by omega) rfl QA.out).mono ?_
        rintro e v1 ⟨B1, d1, rfl, s1, b_⟩
        replace r0 := r0.below b_
        replace bb := bl_trans bb b_
        clear b_
        go_wp2_with fail
        refine (HS.out.due x0 _ _ _ a2 _ _ qs r0 (by omega) rfl QS.out).mono ?_
        rintro e v2 ⟨B2, d2, rfl, s2, b_⟩
        replace r0 := r0.below b_
        replace s1 := s1.below b_
        replace bb := bl_trans bb b_
        clear b_
        go_wp2
        go_loop [9, 30] (fun kk i => ∃ j : Nat, j ≤ qa ∧ i = .int .i64 j ∧ kk = .int .i64 ((((dueS a2 (x0 ++ [a1])).take j).filter (fun k => k != n0)).length : Nat)) (fun _ i => qa - (intOf i).toNat)
        case atStart => exact ⟨0, Nat.zero_le _, rfl, rfl⟩
        case round =>
          obtain ⟨j, hj, rfl, rfl⟩ := hrel
          by_cases hlt : j < qa
          · obtain ⟨b, off, k, rfl, hk, k1⟩ := nat_at' s1 j hlt
            have HT := Lib.hid (filter_take (fun k => k != n0) _ j k hk)
            by_cases hkn : k = n0
            · subst hkn
              clear hk
              go_wp2
              go_round
              case rel => exact ⟨j + 1, by omega, by go_num, by rw [HT.out]; simp⟩
              case measure => simp [intOf]; omega
            · have HN := Lib.hid (filter_nth (fun k => k != n0) _ j k hk (by simpa using hkn))
              rw [HDM.out] at HN
              have d1 : ((k : Int) == (n0 : Int)) = false := beq_eq_false_iff_ne.2 (by omega)
              generalize hc : (((dueS a2 (x0 ++ [a1])).take j).filter (fun k => k != n0)).length = c at *
              have HC := Lib.hid hc
              clear hk hc
              have hcs : c < qs := by rw [← QS.out]; exact (List.getElem?_eq_some_iff.1 HN.out).1
              obtain ⟨b', off', k', rfl, hk', k2⟩ := nat_at' s2 c hcs
              rw [HN.out] at hk'
              injection hk' with hk'
              subst hk'
              have hk3 : k ≠ n0 := hkn
              have HK3 := Lib.hid hk3
              clear hkn hk3
              go_wp2
              go_round
              case rel => exact ⟨j + 1, by omega, by go_num, by rw [HT.out, if_pos (by simpa using HK3.out)]; go_num⟩
              case measure => simp [intOf]; omega
          · have hjq : j = qa := by omega
            have hcc : (((dueS a2 (x0 ++ [a1])).take j).filter (fun k => k != n0)).length = qs := by
              rw [List.take_of_length_le (by rw [QA.out]; omega), HDM.out]; exact QS.out
            rw [hcc]
            clear hcc
            subst hjq
            go_wp2_with fail
            refine (HS.out.right a1 _ _ HT1.out).mono ?_
            rintro e v3 ⟨rfl, b_⟩
            clear s1
            clear s2
            clear r0
            replace bb := bl_trans bb b_
            clear b_
            go_wp2_with fail
            refine (awake_any HS.out _).mono ?_
            rintro e v4 ⟨rfl, b_⟩
            replace bb := bl_trans bb b_
            clear b_
            go_wp2_with fail
            go_ret
            exact ⟨rfl, bb⟩
    · have ht' : timeB a1 = false := by simpa using ht
      have HT1 := Lib.hid ht'
      have hql : qa = qs := by rw [HDL, if_neg (by simp [ht'])]; rfl
      have dq : ((qa : Int) == (qs : Int) + 1) = false := beq_eq_false_iff_ne.2 (by omega)
      clear HDL ht ht' hql
      go_enter Try.func7, Try.ntmps7
      go_wp2_with (first
        | (at_builtin; refine append_rd rfl (.tmp 18) (.tmp 19) 22 rfl tInt w _ _ _ rfl (Own.empty w _ _) A0 n0 c0 (zs x0) rfl (r0.alloc _) (zs_one x0) (by omega) (by omega) ?_; intro va wa oa hga)
        | (at_builtin; refine append_rd rfl (.tmp 20) (.tmp 22) 22 rfl tInt w va _ _ rfl (oa.alloc _) _ 1 1 [.int .i64 a1] rfl (Rd.built _ 1 1 [.int .i64 a1] _ rfl) (one_cons rfl one_nil) (by omega) (by omega) ?_; intro vb wb ob hgb))
      obtain ⟨Bb, db, rfl, qb⟩ := ob.form
      replace r0 := r0.below ob.2
      have bb := ob.2
      have qb' : Rd wb 1 Bb (0 + n0 + 1) (zs (x0 ++ [a1])) := by rw [zs_app]; exact qb
      clear qb ob hgb oa hga
      refine (HS.out.due (x0 ++ [a1]) _ _ _ a2 _ _ qa qb' (by omega) rfl QA.out).mono ?_
      rintro e v1 ⟨B1, d1, rfl, s1, b_⟩
      replace r0 := r0.below b_
      replace bb := bl_trans bb b_
      clear b_
      go_wp2_with fail
      refine (HS.out.due x0 _ _ _ a2 _ _ qs r0 (by omega) rfl QS.out).mono ?_
      rintro e v2 ⟨B2, d2, rfl, s2, b_⟩
      replace r0 := r0.below b_
      replace s1 := s1.below b_
      replace bb := bl_trans bb b_
      clear b_
      go_wp2
      go_loop [9, 30] (fun kk i => ∃ j : Nat, j ≤ qa ∧ i = .int .i64 j ∧ kk = .int .i64 ((((dueS a2 (x0 ++ [a1])).take j).filter (fun k => k != n0)).length : Nat)) (fun _ i => qa - (intOf i).toNat)
      case atStart => exact ⟨0, Nat.zero_le _, rfl, rfl⟩
      case round =>
        obtain ⟨j, hj, rfl, rfl⟩ := hrel
        by_cases hlt : j < qa
        · obtain ⟨b, off, k, rfl, hk, k1⟩ := nat_at' s1 j hlt
          have HT := Lib.hid (filter_take (fun k => k != n0) _ j k hk)
          by_cases hkn : k = n0
          · subst hkn
            clear hk
            go_wp2
            go_round
            case rel => exact ⟨j + 1, by omega, by go_num, by rw [HT.out]; simp⟩
            case measure => simp [intOf]; omega
          · have HN := Lib.hid (filter_nth (fun k => k != n0) _ j k hk (by simpa using hkn))
            rw [HDM.out] at HN
            have d1 : ((k : Int) == (n0 : Int)) = false := beq_eq_false_iff_ne.2 (by omega)
            generalize hc : (((dueS a2 (x0 ++ [a1])).take j).filter (fun k => k != n0)).length = c at *
            have HC := Lib.hid hc
            clear hk hc
            have hcs : c < qs := by rw [← QS.out]; exact (List.getElem?_eq_some_iff.1 HN.out).1
            obtain ⟨b', off', k', rfl, hk', k2⟩ := nat_at' s2 c hcs
            rw [HN.out] at hk'
            injection hk' with hk'
            subst hk'
            have hk3 : k ≠ n0 := hkn
            have HK3 := Lib.hid hk3
            clear hkn hk3
            go_wp2
            go_round
            case rel => exact ⟨j + 1, by omega, by go_num, by rw [HT.out, if_pos (by simpa using HK3.out)]; go_num⟩
            case measure => simp [intOf]; omega
        · have hjq : j = qa := by omega
          have hcc : (((dueS a2 (x0 ++ [a1])).take j).filter (fun k => k != n0)).length = qs := by
            rw [List.take_of_length_le (by rw [QA.out]; omega), HDM.out]; exact QS.out
          rw [hcc]
          clear hcc
          subst hjq
          go_wp2_with fail
          refine (HS.out.right a1 _ _ HT1.out).mono ?_
          rintro e v3 ⟨rfl, b_⟩
          clear s1
          clear s2
          clear r0
          replace bb := bl_trans bb b_
          clear b_
          go_wp2_with fail
          refine (awake_any HS.out _).mono ?_
          rintro e v4 ⟨rfl, b_⟩
          replace bb := bl_trans bb b_
          clear b_
          go_wp2_with fail
          go_ret
          exact ⟨rfl, bb⟩
  · have g' : 40 < n0 := by omega
    clear g
    go_enter Try.func7, Try.ntmps7
    go_wp2_with (go_at_call 9; refine (awake_any HS.out _).mono ?_; rintro e w2 ⟨rfl, b2⟩)
    all_goals
      go_ret
      exact ⟨rfl, by assumption⟩
end Go.Proofs.Ytdbgpmfdiljopaa.Tick
