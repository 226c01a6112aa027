/-
  WHAT THE DOCUMENT'S ANSWER FOR LAYER 8 RETURNS: Check, Deep, Cells.
-/
import Derived.Test.YtcjooibadbhjaaaCodeRef2
namespace Go.Proofs.Ytcjooibadbhjaaa.Code
open Go.ChangeShapes Go.WideShapes Go.ChangeAt Go.RowKit Mem

/-- What is returned: a number. -/
def RetI (w : World) (v : Int) (e : Ending) (w' : World) : Prop := e = .returned (.int .i64 v) ∧ Below w.heap.size w w'
/-- No term is too long. -/
def Lim (l : List Raw) : Prop := ∀ r ∈ l, r.n ≤ 1000000

set_option maxRecDepth 100000 in
set_option maxHeartbeats 1000000 in
theorem refcheck (l : List Raw) (A : Option Addr) (n c : Nat) (w : World) (v : Int) (hat : At w A n l) (hlim : Lim l) (hn : n ≤ 1000000) (hv : checkS (ss l) = v) :
    Calls Try.prog 13 #[.slice A n c] w (RetI w v) := by
  have HL := Lib.hid hat.len
  have HA := Lib.hid hat
  have HV := Lib.hid hv
  have HM := Lib.hid hlim
  clear hat hv hlim
  by_cases h24 : 24 < n
  · have HF : Hid (v = 1) := Lib.hid (by rw [← HV.out]; exact check_many _ (by rw [ss_len, HL.out]; exact h24))
    go_enter Try.func13, Try.ntmps13
    go_wp2
    go_ret
    exact ⟨ret_int HF.out.symm, Below.refl _ _⟩
  · go_enter Try.func13, Try.ntmps13
    go_wp2
    go_loopw [3] (fun i wr => ∃ k : Nat, k ≤ n ∧ i = .int .i64 k ∧ Hid (Below w.heap.size w wr) ∧ Hid (((ss l).take k).all oneB = true)) (fun i _ => n - (intOf i).toNat)
    case atStart => exact ⟨0, Nat.zero_le _, rfl, Lib.hid (Below.refl _ _), Lib.hid rfl⟩
    case round =>
      obtain ⟨k, hk, rfl, bb, HALL⟩ := hrel
      generalize wr = w1 at *
      by_cases hlt : k < n
      · obtain ⟨b, off, ⟨⟨sd, sa, sb, st⟩, T, tn, tc⟩, rfl, hx, c0, c1, c2, c3, hrd, _⟩ := (HA.out.below bb.out).at_ k hlt
        simp only at c0 c1 c2 c3
        have hs := Lib.hid (take_all (ss l) oneB k _ (ss_at l k _ hx))
        have HX := Lib.hid hx
        have htn : tn ≤ 1000000 := HM.out _ (List.mem_of_getElem? hx)
        have HRD := Lib.hid hrd
        obtain ⟨ov, hov⟩ : ∃ x, oneB ⟨sd, sa, sb, st⟩ = x := ⟨_, rfl⟩
        have HOV := Lib.hid hov
        clear hx hrd hov
        go_wp2_with fail
        refine (refone ⟨⟨sd, sa, sb, st⟩, T, tn, tc⟩ _ ov HRD.out htn HOV.out).mono ?_
        rintro e w2 ⟨rfl, b2⟩
        have HB2 := Lib.hid (bl_trans bb.out b2)
        clear b2
        cases ov with
        | true =>
          go_wp2
          go_roundw
          case rel => exact ⟨k + 1, by omega, by go_num, HB2, Lib.hid (by rw [hs.out, HALL.out, HOV.out]; rfl)⟩
          case measure => simp [intOf]; omega
        | false =>
          have HF : Hid (v = 1) := Lib.hid (by rw [← HV.out]; exact check_bad _ k _ (ss_at l k _ HX.out) HOV.out)
          go_wp2
          go_ret
          exact ⟨ret_int HF.out.symm, HB2.out⟩
      · have HO : Hid ((ss l).all oneB = true) := Lib.hid (by have := HALL.out; rwa [List.take_of_length_le (by rw [ss_len, HL.out]; omega)] at this)
        obtain ⟨⟨dp, wl⟩, hw⟩ : ∃ x, wellP (ss l) = x := ⟨_, rfl⟩
        have hdp : dp ≤ 24 := by have := well_deep _ (ss l) (Nat.le_refl _) HO.out; rw [hw, ss_len, HL.out] at this; simp only at this; omega
        have HW := Lib.hid hw
        have HCV : Hid (v = if wl = true then (if 6 < dp then 5 else 0) else 2) := Lib.hid (by
          rw [← HV.out]; unfold checkS; rw [if_pos (by rw [HO.out, ss_len, HL.out]; simp; omega), hw])
        clear hw HALL
        go_wp2_with fail
        refine (refwell l.length [] l [] l _ n c 0 n _ (dp, wl) (Nat.le_refl _) (HA.out.below bb.out) (by omega) (by simp) rfl (by simp [HL.out]) HO.out HW.out _ _ rfl rfl).mono ?_
        rintro e w2 ⟨rfl, b2⟩
        have HB2 := Lib.hid (bl_trans bb.out b2)
        clear b2
        cases wl with
        | false =>
          go_wp2
          go_ret
          exact ⟨ret_int (by rw [HCV.out]; rfl), HB2.out⟩
        | true =>
          by_cases h6 : 6 < dp
          · go_wp2
            go_ret
            exact ⟨ret_int (by rw [HCV.out]; simp [h6]), HB2.out⟩
          · go_wp2
            go_ret
            exact ⟨ret_int (by rw [HCV.out]; simp [h6]), HB2.out⟩

theorem refdeep (l : List Raw) (A : Option Addr) (n c : Nat) (w : World) (v : Nat) (hat : At w A n l) (hlim : Lim l) (hn : n ≤ 1000000) (hv : deepS (ss l) = v) :
    Calls Try.prog 15 #[.slice A n c] w (RetI w (v : Int)) := by
  have HL := Lib.hid hat.len
  have HA := Lib.hid hat
  have HM := Lib.hid hlim
  clear hat hlim
  by_cases h0 : checkS (ss l) = 0
  · have H0 := Lib.hid h0
    obtain ⟨g1, g2, g3, g4⟩ := check_ok _ h0
    have HW : Hid (wellP (ss l) = (v, true)) := Lib.hid (by rw [← hv]; unfold deepS; rw [if_pos h0, ← g3])
    have hn24 : n ≤ 24 := by rw [← HL.out, ← ss_len]; exact g1
    have HO := Lib.hid g2
    clear h0 hv g1 g2 g3 g4
    go_enter Try.func15, Try.ntmps15
    go_wp2_with fail
    refine (refcheck l _ _ _ _ 0 HA.out HM.out hn H0.out).mono ?_
    rintro e w1 ⟨rfl, b1⟩
    have bb := Lib.hid b1
    clear b1
    go_wp2_with fail
    refine (refwell l.length [] l [] l _ n c 0 n _ (v, true) (Nat.le_refl _) (HA.out.below bb.out) (by omega) (by simp) rfl (by simp [HL.out]) HO.out HW.out _ _ rfl rfl).mono ?_
    rintro e w2 ⟨rfl, b2⟩
    have HB2 := Lib.hid (bl_trans bb.out b2)
    clear b2
    go_wp2
    go_ret
    exact ⟨rfl, HB2.out⟩
  · have HF : Hid (v = 0) := Lib.hid (by rw [← hv]; unfold deepS; rw [if_neg h0])
    obtain rfl := HF.out
    obtain ⟨ck, hck⟩ : ∃ x, checkS (ss l) = x := ⟨_, rfl⟩
    have HC := Lib.hid hck
    have hne : (ck != 0) = true := by rw [← hck]; simpa using h0
    clear h0 hv hck
    go_enter Try.func15, Try.ntmps15
    go_wp2_with fail
    refine (refcheck l _ _ _ _ ck HA.out HM.out hn HC.out).mono ?_
    rintro e w1 ⟨rfl, b1⟩
    go_wp2
    go_ret
    exact ⟨rfl, b1⟩

theorem names_take (c : List Step) (n k : Nat) (x : Step) (hk : c[k]? = some x) : namesB (c.take (k + 1)) n = (namesB (c.take k) n || ((decide (x.d = 1) && decide (x.b = (n : Int))) || (decide (x.d = 3) && decide (x.a = (n : Int))))) :=
  take_any c (fun s => (decide (s.d = 1) && decide (s.b = (n : Int))) || (decide (s.d = 3) && decide (s.a = (n : Int)))) k x hk
set_option maxRecDepth 100000 in
set_option maxHeartbeats 1000000 in
theorem refcells (l : List Raw) (A : Option Addr) (n c : Nat) (w : World) (r : List Int) (q : Nat) (hat : At w A n l) (hlim : Lim l) (hn : n ≤ 1000000) (hv : cellsS (ss l) = r) (hq : r.length = q) :
    Calls Try.prog 18 #[.slice A n c] w (RetS w 1 q (zs r)) := by
  have HL := Lib.hid hat.len
  have HA := Lib.hid hat
  have HQ := Lib.hid hq
  have HM := Lib.hid hlim
  clear hat hq hlim
  by_cases h0 : checkS (ss l) = 0
  · have H0 := Lib.hid h0
    have HF : Hid (r = pick (namesB (ss l)) 64) := Lib.hid (by rw [← hv]; unfold cellsS; rw [if_pos h0])
    clear h0 hv
    go_enter Try.func18, Try.ntmps18
    go_wp2_with fail
    refine (refcheck l _ _ _ _ 0 HA.out HM.out hn H0.out).mono ?_
    rintro e w1 ⟨rfl, b1⟩
    have HB := Lib.hid b1
    clear b1
    go_wp2
    go_loopw [3, 4] (fun v i wr => ∃ k : Nat, k ≤ 64 ∧ i = .int .i64 k ∧ Own w1 wr 3 1 v (pick (namesB (ss l)) k).length (zs (pick (namesB (ss l)) k))) (fun _ i _ => 64 - (intOf i).toNat)
    case atStart => exact ⟨0, Nat.zero_le _, rfl, Own.nil_ (Below.refl _ _)⟩
    case round =>
      obtain ⟨k, hk, rfl, hown⟩ := hrel
      generalize wr = w2 at *
      by_cases hlt : k < 64
      · have HO := Lib.hid hown
        clear hown
        go_wp2
        go_loop [5, 6] (fun bv i => ∃ j : Nat, j ≤ n ∧ i = .int .i64 j ∧ bv = .bool (namesB ((ss l).take j) k)) (fun _ i => n - (intOf i).toNat)
        case atStart => exact ⟨0, Nat.zero_le _, rfl, rfl⟩
        case round =>
          obtain ⟨j, hj, rfl, rfl⟩ := hrel
          by_cases hjt : j < n
          · obtain ⟨b, off, ⟨⟨sd, sa, sb, st⟩, T, tn, tc⟩, rfl, hx, c0, c1, c2, c3, _, _⟩ := ((HA.out.below HB.out).below HO.out.2).at_ j hjt
            simp only at c0 c1 c2 c3
            have hs := Lib.hid (names_take (ss l) k j _ (ss_at l j _ hx))
            clear hx
            obtain ⟨nv, hnv⟩ : ∃ x, namesB ((ss l).take j) k = x := ⟨_, rfl⟩
            have HNV := Lib.hid hnv
            rw [hnv]
            clear hnv
            rcases (by omega : sd = 1 ∨ sd = 3 ∨ (sd ≠ 1 ∧ sd ≠ 3)) with rfl | rfl | ⟨e1, e3⟩
            · cases h1 : (sb == (k : Int))
              all_goals
                have HN : Hid (namesB ((ss l).take (j + 1)) k = (nv || (sb == (k : Int)))) := Lib.hid (by rw [hs.out, HNV.out]; simp; rfl)
                rw [h1] at HN
                cases nv
                all_goals
                  go_wp2
                  go_round
                  case rel => exact ⟨j + 1, by omega, by go_num, by rw [HN.out]; rfl⟩
                  case measure => simp [intOf]; omega
            · cases h1 : (sa == (k : Int))
              all_goals
                have HN : Hid (namesB ((ss l).take (j + 1)) k = (nv || (sa == (k : Int)))) := Lib.hid (by rw [hs.out, HNV.out]; simp; rfl)
                rw [h1] at HN
                cases nv
                all_goals
                  go_wp2
                  go_round
                  case rel => exact ⟨j + 1, by omega, by go_num, by rw [HN.out]; rfl⟩
                  case measure => simp [intOf]; omega
            · have HN : Hid (namesB ((ss l).take (j + 1)) k = nv) := Lib.hid (by rw [hs.out, HNV.out]; simp [e1, e3])
              have g1 : (sd == 1) = false := beq_eq_false_iff_ne.2 e1
              have g3 : (sd == 3) = false := beq_eq_false_iff_ne.2 e3
              clear e1 e3
              cases nv
              all_goals
                go_wp2
                go_round
                case rel => exact ⟨j + 1, by omega, by go_num, by rw [HN.out]⟩
                case measure => simp [intOf]; omega
          · have HT : Hid ((ss l).take j = ss l) := Lib.hid (List.take_of_length_le (by rw [ss_len, HL.out]; omega))
            rw [HT.out]
            have hpl := pick_len (namesB (ss l)) k
            cases hb : namesB (ss l) k with
            | true =>
              have HP := Lib.hid (pick_yes (namesB (ss l)) k hb)
              obtain ⟨u, hu⟩ : ∃ u, (pick (namesB (ss l)) k).length = u := ⟨_, rfl⟩
              rw [hu] at HO hpl
              have HPL : Hid ((pick (namesB (ss l)) (k + 1)).length = u + 1) := Lib.hid (by rw [HP.out, List.length_append, hu]; rfl)
              have HU := Lib.hid hu
              clear hb hu
              go_wp2_with (at_builtin; refine append_rd rfl _ _ 31 rfl Mem.tInt w1 _ _ _ rfl (HO.out.alloc _) _ 1 1 [.int .i64 (k : Int)] rfl (Rd.built _ 1 1 [.int .i64 (k : Int)] _ rfl) (one_cons rfl one_nil) (by omega) (by omega) ?_; intro v' w' hown' hg; clear hg)
              go_roundw
              case rel => exact ⟨k + 1, by omega, by go_num, by rw [HPL.out, HP.out, zs_app]; exact hown'⟩
              case measure => simp [intOf]; omega
            | false =>
              have HP := Lib.hid (pick_no (namesB (ss l)) k hb)
              clear hb
              go_wp2
              go_roundw
              case rel => exact ⟨k + 1, by omega, by go_num, by rw [HP.out]; exact HO.out⟩
              case measure => simp [intOf]; omega
      · have hk64 : k = 64 := by omega
        obtain ⟨B, d, rfl, hrd⟩ := hown.form
        have HB2 := Lib.hid hown.2
        have HRD : Hid (Rd w2 1 B q (zs r)) := Lib.hid (by rw [← HQ.out, HF.out, ← hk64]; exact hrd)
        have HPQ : Hid ((pick (namesB (ss l)) k).length = q) := Lib.hid (by rw [← HQ.out, HF.out, ← hk64])
        clear hrd hown hk64
        go_wp2
        go_ret
        exact ⟨B, d, by rw [HPQ.out]; rfl, HRD.out, bl_trans HB.out HB2.out⟩
  · have HF : Hid (r = []) := Lib.hid (by rw [← hv]; unfold cellsS; rw [if_neg h0])
    have HN : Hid (q = 0) := Lib.hid (by rw [← HQ.out, HF.out]; rfl)
    obtain rfl := HN.out
    obtain ⟨ck, hck⟩ : ∃ x, checkS (ss l) = x := ⟨_, rfl⟩
    have HC := Lib.hid hck
    have hne : (ck != 0) = true := by rw [← hck]; simpa using h0
    clear h0 hv hck
    go_enter Try.func18, Try.ntmps18
    go_wp2_with fail
    refine (refcheck l _ _ _ _ ck HA.out HM.out hn HC.out).mono ?_
    rintro e w1 ⟨rfl, b1⟩
    have HB := Lib.hid b1
    clear b1
    go_wp2
    go_ret
    exact ⟨_, _, rfl, by rw [HF.out]; exact Rd.none_, HB.out⟩
end Go.Proofs.Ytcjooibadbhjaaa.Code
