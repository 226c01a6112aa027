/-
  THE WALK OF THE LAW CodeEither.
-/
import Derived.Test.YtcjooibadbhjaaaCodeAwake
import Derived.Test.YtcjooibadbhjaaaCodeJoin
namespace Go.Proofs.Ytcjooibadbhjaaa.Code
open Go.ChangeShapes Go.WideShapes Go.ChangeAt Go.RowKit Mem

set_option maxRecDepth 100000 in
set_option maxHeartbeats 2000000 in
theorem either_walk (S : Said) (A : Option Addr) (n c : Nat) (a : List Raw) (B : Option Addr) (q c2 : Nat) (b : List Raw) (w : World) (hnc : n ≤ c) (mn : n ≤ 9223372036854775807) (hat : At w A n a) (hqc : q ≤ c2) (mq : q ≤ 9223372036854775807) (hbt : At w B q b) :
    Calls Try.prog 4 #[.slice A n c, .slice B q c2] w (RetB w true) := by
  have HS := Lib.hid S
  clear S
  have HAL := Lib.hid hat.len
  have HBL := Lib.hid hbt.len
  have HA := Lib.hid hat
  have HB := Lib.hid hbt
  clear hat hbt
  have bb : Hid (Below w.heap.size w w) := Lib.hid (Below.refl _ _)
  cases hs : smallB a
  case false =>
    have SA := Lib.hid (small_neg a hs)
    clear hs
    go_enter Try.func4, Try.ntmps4
    go_wp2_with fail
    refine (small_c a _ _ _ _ (-1) (HA.out.below bb.out) mn SA.out).mono ?_
    rintro e w1 ⟨rfl, b_⟩
    replace bb := Lib.hid (bl_trans bb.out b_)
    clear b_
    go_wp2_with fail
    refine (awake_any HS.out _).mono ?_
    rintro e w2 ⟨rfl, b_⟩
    replace bb := Lib.hid (bl_trans bb.out b_)
    clear b_
    go_wp2
    go_ret
    exact ⟨rfl, bb.out⟩
  obtain ⟨hlim, h40⟩ := small_lim a hs
  have SA := Lib.hid (small_val a n HAL.out hs)
  have LA := Lib.hid hlim
  have hn40 : n ≤ 40 := by rw [← HAL.out]; exact h40
  clear hs hlim h40
  cases hs : smallB b
  case false =>
    have SB := Lib.hid (small_neg b hs)
    clear hs
    go_enter Try.func4, Try.ntmps4
    go_wp2_with fail
    refine (small_c a _ _ _ _ ((n : Int)) (HA.out.below bb.out) mn SA.out).mono ?_
    rintro e w1 ⟨rfl, b_⟩
    replace bb := Lib.hid (bl_trans bb.out b_)
    clear b_
    go_wp2_with fail
    refine (small_c b _ _ _ _ (-1) (HB.out.below bb.out) mq SB.out).mono ?_
    rintro e w2 ⟨rfl, b_⟩
    replace bb := Lib.hid (bl_trans bb.out b_)
    clear b_
    go_wp2_with fail
    refine (awake_any HS.out _).mono ?_
    rintro e w3 ⟨rfl, b_⟩
    replace bb := Lib.hid (bl_trans bb.out b_)
    clear b_
    go_wp2
    go_ret
    exact ⟨rfl, bb.out⟩
  obtain ⟨hlim, h40⟩ := small_lim b hs
  have SB := Lib.hid (small_val b q HBL.out hs)
  have LB := Lib.hid hlim
  have hq40 : q ≤ 40 := by rw [← HBL.out]; exact h40
  clear hs hlim h40
  by_cases n0 : n = 0
  · subst n0
    go_enter Try.func4, Try.ntmps4
    go_wp2_with fail
    refine (small_c a _ _ _ _ (((0 : Nat) : Int)) (HA.out.below bb.out) mn SA.out).mono ?_
    rintro e w1 ⟨rfl, b_⟩
    replace bb := Lib.hid (bl_trans bb.out b_)
    clear b_
    go_wp2_with fail
    refine (small_c b _ _ _ _ ((q : Int)) (HB.out.below bb.out) mq SB.out).mono ?_
    rintro e w2 ⟨rfl, b_⟩
    replace bb := Lib.hid (bl_trans bb.out b_)
    clear b_
    go_wp2_with fail
    refine (awake_any HS.out _).mono ?_
    rintro e w3 ⟨rfl, b_⟩
    replace bb := Lib.hid (bl_trans bb.out b_)
    clear b_
    go_wp2
    go_ret
    exact ⟨rfl, bb.out⟩
  have nz : ((n : Int) == 0) = false := by simpa using n0
  have np : 1 ≤ n := by omega
  clear n0
  by_cases q0 : q = 0
  · subst q0
    go_enter Try.func4, Try.ntmps4
    go_wp2_with fail
    refine (small_c a _ _ _ _ ((n : Int)) (HA.out.below bb.out) mn SA.out).mono ?_
    rintro e w1 ⟨rfl, b_⟩
    replace bb := Lib.hid (bl_trans bb.out b_)
    clear b_
    go_wp2_with fail
    refine (small_c b _ _ _ _ (((0 : Nat) : Int)) (HB.out.below bb.out) mq SB.out).mono ?_
    rintro e w2 ⟨rfl, b_⟩
    replace bb := Lib.hid (bl_trans bb.out b_)
    clear b_
    go_wp2_with fail
    refine (awake_any HS.out _).mono ?_
    rintro e w3 ⟨rfl, b_⟩
    replace bb := Lib.hid (bl_trans bb.out b_)
    clear b_
    go_wp2
    go_ret
    exact ⟨rfl, bb.out⟩
  have qz : ((q : Int) == 0) = false := by simpa using q0
  have qp : 1 ≤ q := by omega
  clear q0
  obtain ⟨ca, hca⟩ : ∃ x, checkS (ss a) = x := ⟨_, rfl⟩
  have CA := Lib.hid hca
  by_cases za : ca = 0
  case neg =>
    have q1 : (ca != 0) = true := by simpa using za
    clear hca za
    go_enter Try.func4, Try.ntmps4
    go_wp2_with fail
    refine (small_c a _ _ _ _ ((n : Int)) (HA.out.below bb.out) mn SA.out).mono ?_
    rintro e w1 ⟨rfl, b_⟩
    replace bb := Lib.hid (bl_trans bb.out b_)
    clear b_
    go_wp2_with fail
    refine (small_c b _ _ _ _ ((q : Int)) (HB.out.below bb.out) mq SB.out).mono ?_
    rintro e w2 ⟨rfl, b_⟩
    replace bb := Lib.hid (bl_trans bb.out b_)
    clear b_
    go_wp2_with fail
    refine (HS.out.check a _ _ _ _ ca (HA.out.below bb.out) hnc LA.out (by omega) CA.out).mono ?_
    rintro e w3 ⟨rfl, b_⟩
    replace bb := Lib.hid (bl_trans bb.out b_)
    clear b_
    go_wp2_with fail
    refine (awake_any HS.out _).mono ?_
    rintro e w4 ⟨rfl, b_⟩
    replace bb := Lib.hid (bl_trans bb.out b_)
    clear b_
    go_wp2
    go_ret
    exact ⟨rfl, bb.out⟩
  subst za
  clear hca
  obtain ⟨cb, hcb⟩ : ∃ x, checkS (ss b) = x := ⟨_, rfl⟩
  have CB := Lib.hid hcb
  by_cases zb : cb = 0
  case neg =>
    have q1 : (cb != 0) = true := by simpa using zb
    clear hcb zb
    go_enter Try.func4, Try.ntmps4
    go_wp2_with fail
    refine (small_c a _ _ _ _ ((n : Int)) (HA.out.below bb.out) mn SA.out).mono ?_
    rintro e w1 ⟨rfl, b_⟩
    replace bb := Lib.hid (bl_trans bb.out b_)
    clear b_
    go_wp2_with fail
    refine (small_c b _ _ _ _ ((q : Int)) (HB.out.below bb.out) mq SB.out).mono ?_
    rintro e w2 ⟨rfl, b_⟩
    replace bb := Lib.hid (bl_trans bb.out b_)
    clear b_
    go_wp2_with fail
    refine (HS.out.check a _ _ _ _ 0 (HA.out.below bb.out) hnc LA.out (by omega) CA.out).mono ?_
    rintro e w3 ⟨rfl, b_⟩
    replace bb := Lib.hid (bl_trans bb.out b_)
    clear b_
    go_wp2_with fail
    refine (HS.out.check b _ _ _ _ cb (HB.out.below bb.out) hqc LB.out (by omega) CB.out).mono ?_
    rintro e w4 ⟨rfl, b_⟩
    replace bb := Lib.hid (bl_trans bb.out b_)
    clear b_
    go_wp2_with fail
    refine (awake_any HS.out _).mono ?_
    rintro e w5 ⟨rfl, b_⟩
    replace bb := Lib.hid (bl_trans bb.out b_)
    clear b_
    go_wp2
    go_ret
    exact ⟨rfl, bb.out⟩
  subst zb
  clear hcb
  have HEC := Lib.hid (either_check (ss a) (ss b) n q (by rw [ss_len]; exact HAL.out) (by rw [ss_len]; exact HBL.out) np qp CA.out CB.out)
  obtain ⟨da, hda⟩ : ∃ x, deepS (ss a) = x := ⟨_, rfl⟩
  obtain ⟨db, hdb⟩ : ∃ x, deepS (ss b) = x := ⟨_, rfl⟩
  have da6 : da ≤ 6 := by rw [← hda]; exact deep_le _
  have db6 : db ≤ 6 := by rw [← hdb]; exact deep_le _
  rw [hda, hdb] at HEC
  have DA := Lib.hid hda
  have DB := Lib.hid hdb
  obtain ⟨dm, hdm⟩ : ∃ x, max da db = x := ⟨_, rfl⟩
  rw [hdm] at HEC
  have hmi : (if (db : Int) > (da : Int) then (db : Int) else (da : Int)) = (dm : Int) := by
    rw [← hdm]; split <;> omega
  have hdm6 : dm ≤ 6 := by omega
  clear hda hdb hdm
  by_cases hbig : 24 < 1 + n + q
  · have T0 := Lib.hid hbig
    have HE : Hid (checkS (⟨7, n, q, []⟩ :: (ss a ++ ss b)) = 1 ∧ deepS (⟨7, n, q, []⟩ :: (ss a ++ ss b)) = 0) := Lib.hid (HEC.out.1 hbig)
    clear HEC
    go_enter Try.func4, Try.ntmps4
    go_wp2_with fail
    refine (small_c a _ _ _ _ ((n : Int)) (HA.out.below bb.out) mn SA.out).mono ?_
    rintro e w1 ⟨rfl, b_⟩
    replace bb := Lib.hid (bl_trans bb.out b_)
    clear b_
    go_wp2_with fail
    refine (small_c b _ _ _ _ ((q : Int)) (HB.out.below bb.out) mq SB.out).mono ?_
    rintro e w2 ⟨rfl, b_⟩
    replace bb := Lib.hid (bl_trans bb.out b_)
    clear b_
    go_wp2_with fail
    refine (HS.out.check a _ _ _ _ 0 (HA.out.below bb.out) hnc LA.out (by omega) CA.out).mono ?_
    rintro e w3 ⟨rfl, b_⟩
    replace bb := Lib.hid (bl_trans bb.out b_)
    clear b_
    go_wp2_with fail
    refine (HS.out.check b _ _ _ _ 0 (HB.out.below bb.out) hqc LB.out (by omega) CB.out).mono ?_
    rintro e w4 ⟨rfl, b_⟩
    replace bb := Lib.hid (bl_trans bb.out b_)
    clear b_
    have T1 : Hid True := Lib.hid trivial
    have T2 : Hid True := Lib.hid trivial
    go_wp2_with (first
      | (at_builtin; clear T1; refine append_rd rfl _ _ 22 rfl tStep w4 _ (1) (rs (bares [(7, (n : Int), (q : Int))])) rfl (own_built _ _ 4 1 (rs (bares [(7, (n : Int), (q : Int))])) rfl (by decide)) _ (n) _ (rs (a)) rfl (((HA.out.below bb.out)).1.alloc _) (rs_one _) (by omega) (by omega) ?_; intro v1 p1 ho hg'; clear hg'; have HO := Lib.hid (own_eq ho (rs_app (bares [(7, (n : Int), (q : Int))]) (a)).symm); clear ho)
      | (at_builtin; clear T2; refine append_rd rfl _ _ 22 rfl tStep w4 _ (1 + n) (rs (bares [(7, (n : Int), (q : Int))] ++ a)) rfl (HO.out) _ (q) _ (rs (b)) rfl (((HB.out.below bb.out)).1.below HO.out.2) (rs_one _) (by omega) (by omega) ?_; intro v2 p2 ho hg'; clear hg'; replace HO := Lib.hid (own_eq ho (rs_app (bares [(7, (n : Int), (q : Int))] ++ a) (b)).symm); clear ho; obtain ⟨B_R1, d_R1, rfl, c_R1, r_⟩ := own_room HO.out; have R1 : Hid (At _ _ _ (bares [(7, (n : Int), (q : Int))] ++ a ++ b)) := Lib.hid ⟨r_, ((bares_terms _ _).app (((HA.out.below bb.out)).2.below HO.out.2)).app (((HB.out.below bb.out)).2.below HO.out.2)⟩; clear r_; replace bb := Lib.hid (bl_trans bb.out HO.out.2); clear HO))
    refine (HS.out.check (bares [(7, (n : Int), (q : Int))] ++ a ++ b) _ _ _ _ 1 (R1.out) c_R1 (((bares_lim _).app LA.out).app LB.out) (by omega) (by rw [show ss (bares [(7, (n : Int), (q : Int))] ++ a ++ b) = (⟨7, n, q, []⟩ :: (ss a ++ ss b)) from by rw [ss_app, ss_app]; rfl]; exact HE.out.1)).mono ?_
    rintro e w5 ⟨rfl, b_⟩
    replace R1 := Lib.hid ((R1.out).below b_)
    replace bb := Lib.hid (bl_trans bb.out b_)
    clear b_
    go_wp2_with fail
    refine (HS.out.deep a _ _ _ _ da (HA.out.below bb.out) hnc LA.out (by omega) DA.out).mono ?_
    rintro e w6 ⟨rfl, b_⟩
    replace R1 := Lib.hid ((R1.out).below b_)
    replace bb := Lib.hid (bl_trans bb.out b_)
    clear b_
    go_wp2_with fail
    refine (HS.out.deep b _ _ _ _ db (HB.out.below bb.out) hqc LB.out (by omega) DB.out).mono ?_
    rintro e w7 ⟨rfl, b_⟩
    replace R1 := Lib.hid ((R1.out).below b_)
    replace bb := Lib.hid (bl_trans bb.out b_)
    clear b_
    go_wp2_with fail
    refine (HS.out.deep (bares [(7, (n : Int), (q : Int))] ++ a ++ b) _ _ _ _ (0) (R1.out) c_R1 (((bares_lim _).app LA.out).app LB.out) (by omega) (by rw [show ss (bares [(7, (n : Int), (q : Int))] ++ a ++ b) = (⟨7, n, q, []⟩ :: (ss a ++ ss b)) from by rw [ss_app, ss_app]; rfl]; exact HE.out.2)).mono ?_
    rintro e w8 ⟨rfl, b_⟩
    clear R1
    replace bb := Lib.hid (bl_trans bb.out b_)
    clear b_
    go_wp2_with fail
    refine (awake_any HS.out _).mono ?_
    rintro e w9 ⟨rfl, b_⟩
    replace bb := Lib.hid (bl_trans bb.out b_)
    clear b_
    go_wp2
    go_ret
    exact ⟨rfl, bb.out⟩
  by_cases hdeep : 6 < 1 + dm
  · have T0 := Lib.hid hdeep
    have HE : Hid (checkS (⟨7, n, q, []⟩ :: (ss a ++ ss b)) = 5 ∧ deepS (⟨7, n, q, []⟩ :: (ss a ++ ss b)) = 0) := Lib.hid (HEC.out.2.1 hbig hdeep)
    clear HEC
    go_enter Try.func4, Try.ntmps4
    go_wp2_with fail
    refine (small_c a _ _ _ _ ((n : Int)) (HA.out.below bb.out) mn SA.out).mono ?_
    rintro e w1 ⟨rfl, b_⟩
    replace bb := Lib.hid (bl_trans bb.out b_)
    clear b_
    go_wp2_with fail
    refine (small_c b _ _ _ _ ((q : Int)) (HB.out.below bb.out) mq SB.out).mono ?_
    rintro e w2 ⟨rfl, b_⟩
    replace bb := Lib.hid (bl_trans bb.out b_)
    clear b_
    go_wp2_with fail
    refine (HS.out.check a _ _ _ _ 0 (HA.out.below bb.out) hnc LA.out (by omega) CA.out).mono ?_
    rintro e w3 ⟨rfl, b_⟩
    replace bb := Lib.hid (bl_trans bb.out b_)
    clear b_
    go_wp2_with fail
    refine (HS.out.check b _ _ _ _ 0 (HB.out.below bb.out) hqc LB.out (by omega) CB.out).mono ?_
    rintro e w4 ⟨rfl, b_⟩
    replace bb := Lib.hid (bl_trans bb.out b_)
    clear b_
    have T1 : Hid True := Lib.hid trivial
    have T2 : Hid True := Lib.hid trivial
    go_wp2_with (first
      | (at_builtin; clear T1; refine append_rd rfl _ _ 22 rfl tStep w4 _ (1) (rs (bares [(7, (n : Int), (q : Int))])) rfl (own_built _ _ 4 1 (rs (bares [(7, (n : Int), (q : Int))])) rfl (by decide)) _ (n) _ (rs (a)) rfl (((HA.out.below bb.out)).1.alloc _) (rs_one _) (by omega) (by omega) ?_; intro v1 p1 ho hg'; clear hg'; have HO := Lib.hid (own_eq ho (rs_app (bares [(7, (n : Int), (q : Int))]) (a)).symm); clear ho)
      | (at_builtin; clear T2; refine append_rd rfl _ _ 22 rfl tStep w4 _ (1 + n) (rs (bares [(7, (n : Int), (q : Int))] ++ a)) rfl (HO.out) _ (q) _ (rs (b)) rfl (((HB.out.below bb.out)).1.below HO.out.2) (rs_one _) (by omega) (by omega) ?_; intro v2 p2 ho hg'; clear hg'; replace HO := Lib.hid (own_eq ho (rs_app (bares [(7, (n : Int), (q : Int))] ++ a) (b)).symm); clear ho; obtain ⟨B_R1, d_R1, rfl, c_R1, r_⟩ := own_room HO.out; have R1 : Hid (At _ _ _ (bares [(7, (n : Int), (q : Int))] ++ a ++ b)) := Lib.hid ⟨r_, ((bares_terms _ _).app (((HA.out.below bb.out)).2.below HO.out.2)).app (((HB.out.below bb.out)).2.below HO.out.2)⟩; clear r_; replace bb := Lib.hid (bl_trans bb.out HO.out.2); clear HO))
    refine (HS.out.check (bares [(7, (n : Int), (q : Int))] ++ a ++ b) _ _ _ _ 5 (R1.out) c_R1 (((bares_lim _).app LA.out).app LB.out) (by omega) (by rw [show ss (bares [(7, (n : Int), (q : Int))] ++ a ++ b) = (⟨7, n, q, []⟩ :: (ss a ++ ss b)) from by rw [ss_app, ss_app]; rfl]; exact HE.out.1)).mono ?_
    rintro e w5 ⟨rfl, b_⟩
    replace R1 := Lib.hid ((R1.out).below b_)
    replace bb := Lib.hid (bl_trans bb.out b_)
    clear b_
    go_wp2_with fail
    refine (HS.out.deep a _ _ _ _ da (HA.out.below bb.out) hnc LA.out (by omega) DA.out).mono ?_
    rintro e w6 ⟨rfl, b_⟩
    replace R1 := Lib.hid ((R1.out).below b_)
    replace bb := Lib.hid (bl_trans bb.out b_)
    clear b_
    go_wp2_with fail
    refine (HS.out.deep b _ _ _ _ db (HB.out.below bb.out) hqc LB.out (by omega) DB.out).mono ?_
    rintro e w7 ⟨rfl, b_⟩
    replace R1 := Lib.hid ((R1.out).below b_)
    replace bb := Lib.hid (bl_trans bb.out b_)
    clear b_
    go_wp2_with fail
    refine (HS.out.deep (bares [(7, (n : Int), (q : Int))] ++ a ++ b) _ _ _ _ (0) (R1.out) c_R1 (((bares_lim _).app LA.out).app LB.out) (by omega) (by rw [show ss (bares [(7, (n : Int), (q : Int))] ++ a ++ b) = (⟨7, n, q, []⟩ :: (ss a ++ ss b)) from by rw [ss_app, ss_app]; rfl]; exact HE.out.2)).mono ?_
    rintro e w8 ⟨rfl, b_⟩
    clear R1
    replace bb := Lib.hid (bl_trans bb.out b_)
    clear b_
    go_wp2_with fail
    refine (awake_any HS.out _).mono ?_
    rintro e w9 ⟨rfl, b_⟩
    replace bb := Lib.hid (bl_trans bb.out b_)
    clear b_
    go_wp2
    go_ret
    exact ⟨rfl, bb.out⟩
  · have T0 := Lib.hid hdeep
    have HE : Hid (checkS (⟨7, n, q, []⟩ :: (ss a ++ ss b)) = 0 ∧ deepS (⟨7, n, q, []⟩ :: (ss a ++ ss b)) = 1 + dm) := Lib.hid (HEC.out.2.2 hbig hdeep)
    have q9 : (1 + (dm : Int) == 1 + (dm : Int)) = true := by simp
    clear HEC
    go_enter Try.func4, Try.ntmps4
    go_wp2_with fail
    refine (small_c a _ _ _ _ ((n : Int)) (HA.out.below bb.out) mn SA.out).mono ?_
    rintro e w1 ⟨rfl, b_⟩
    replace bb := Lib.hid (bl_trans bb.out b_)
    clear b_
    go_wp2_with fail
    refine (small_c b _ _ _ _ ((q : Int)) (HB.out.below bb.out) mq SB.out).mono ?_
    rintro e w2 ⟨rfl, b_⟩
    replace bb := Lib.hid (bl_trans bb.out b_)
    clear b_
    go_wp2_with fail
    refine (HS.out.check a _ _ _ _ 0 (HA.out.below bb.out) hnc LA.out (by omega) CA.out).mono ?_
    rintro e w3 ⟨rfl, b_⟩
    replace bb := Lib.hid (bl_trans bb.out b_)
    clear b_
    go_wp2_with fail
    refine (HS.out.check b _ _ _ _ 0 (HB.out.below bb.out) hqc LB.out (by omega) CB.out).mono ?_
    rintro e w4 ⟨rfl, b_⟩
    replace bb := Lib.hid (bl_trans bb.out b_)
    clear b_
    have T1 : Hid True := Lib.hid trivial
    have T2 : Hid True := Lib.hid trivial
    go_wp2_with (first
      | (at_builtin; clear T1; refine append_rd rfl _ _ 22 rfl tStep w4 _ (1) (rs (bares [(7, (n : Int), (q : Int))])) rfl (own_built _ _ 4 1 (rs (bares [(7, (n : Int), (q : Int))])) rfl (by decide)) _ (n) _ (rs (a)) rfl (((HA.out.below bb.out)).1.alloc _) (rs_one _) (by omega) (by omega) ?_; intro v1 p1 ho hg'; clear hg'; have HO := Lib.hid (own_eq ho (rs_app (bares [(7, (n : Int), (q : Int))]) (a)).symm); clear ho)
      | (at_builtin; clear T2; refine append_rd rfl _ _ 22 rfl tStep w4 _ (1 + n) (rs (bares [(7, (n : Int), (q : Int))] ++ a)) rfl (HO.out) _ (q) _ (rs (b)) rfl (((HB.out.below bb.out)).1.below HO.out.2) (rs_one _) (by omega) (by omega) ?_; intro v2 p2 ho hg'; clear hg'; replace HO := Lib.hid (own_eq ho (rs_app (bares [(7, (n : Int), (q : Int))] ++ a) (b)).symm); clear ho; obtain ⟨B_R1, d_R1, rfl, c_R1, r_⟩ := own_room HO.out; have R1 : Hid (At _ _ _ (bares [(7, (n : Int), (q : Int))] ++ a ++ b)) := Lib.hid ⟨r_, ((bares_terms _ _).app (((HA.out.below bb.out)).2.below HO.out.2)).app (((HB.out.below bb.out)).2.below HO.out.2)⟩; clear r_; replace bb := Lib.hid (bl_trans bb.out HO.out.2); clear HO))
    refine (HS.out.check (bares [(7, (n : Int), (q : Int))] ++ a ++ b) _ _ _ _ 0 (R1.out) c_R1 (((bares_lim _).app LA.out).app LB.out) (by omega) (by rw [show ss (bares [(7, (n : Int), (q : Int))] ++ a ++ b) = (⟨7, n, q, []⟩ :: (ss a ++ ss b)) from by rw [ss_app, ss_app]; rfl]; exact HE.out.1)).mono ?_
    rintro e w5 ⟨rfl, b_⟩
    replace R1 := Lib.hid ((R1.out).below b_)
    replace bb := Lib.hid (bl_trans bb.out b_)
    clear b_
    go_wp2_with fail
    refine (HS.out.deep a _ _ _ _ da (HA.out.below bb.out) hnc LA.out (by omega) DA.out).mono ?_
    rintro e w6 ⟨rfl, b_⟩
    replace R1 := Lib.hid ((R1.out).below b_)
    replace bb := Lib.hid (bl_trans bb.out b_)
    clear b_
    go_wp2_with fail
    refine (HS.out.deep b _ _ _ _ db (HB.out.below bb.out) hqc LB.out (by omega) DB.out).mono ?_
    rintro e w7 ⟨rfl, b_⟩
    replace R1 := Lib.hid ((R1.out).below b_)
    replace bb := Lib.hid (bl_trans bb.out b_)
    clear b_
    go_wp2_with fail
    refine (HS.out.deep (bares [(7, (n : Int), (q : Int))] ++ a ++ b) _ _ _ _ (1 + dm) (R1.out) c_R1 (((bares_lim _).app LA.out).app LB.out) (by omega) (by rw [show ss (bares [(7, (n : Int), (q : Int))] ++ a ++ b) = (⟨7, n, q, []⟩ :: (ss a ++ ss b)) from by rw [ss_app, ss_app]; rfl]; exact HE.out.2)).mono ?_
    rintro e w8 ⟨rfl, b_⟩
    clear R1
    replace bb := Lib.hid (bl_trans bb.out b_)
    clear b_
    go_wp2_with fail
    refine (awake_any HS.out _).mono ?_
    rintro e w9 ⟨rfl, b_⟩
    replace bb := Lib.hid (bl_trans bb.out b_)
    clear b_
    go_wp2
    go_ret
    exact ⟨rfl, bb.out⟩
end Go.Proofs.Ytcjooibadbhjaaa.Code
