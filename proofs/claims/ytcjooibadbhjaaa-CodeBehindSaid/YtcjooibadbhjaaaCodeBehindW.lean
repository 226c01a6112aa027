/-
  THE WALK OF THE LAW CodeBehind.
-/
import Derived.Test.YtcjooibadbhjaaaCodeAwake
import Derived.Test.YtcjooibadbhjaaaCodeJoin
namespace Go.Proofs.Ytcjooibadbhjaaa.Code
open Go.ChangeShapes Go.WideShapes Go.ChangeAt Go.RowKit Mem

set_option maxRecDepth 100000 in
set_option maxHeartbeats 2000000 in
theorem behind_walk (S : Said) (A : Option Addr) (n c : Nat) (a : List Raw) (B : Option Addr) (q c2 : Nat) (b : List Raw) (w : World) (hnc : n ≤ c) (mn : n ≤ 9223372036854775807) (hat : At w A n a) (hqc : q ≤ c2) (mq : q ≤ 9223372036854775807) (hbt : At w B q b) :
    Calls Try.prog 5 #[.slice A n c, .slice B q c2] w (RetB w true) := by
  have HS := Lib.hid S
  clear S
  have HAL := Lib.hid hat.len
  have HBL := Lib.hid hbt.len
  have HA := Lib.hid hat
  have HB := Lib.hid hbt
  clear hat hbt
  have bb : Hid (Below w.heap.size w w) := Lib.hid (Below.refl _ _)
  cases hs : smallB a
  case false =>
    have SA := Lib.hid (small_neg a hs)
    clear hs
    go_enter Try.func5, Try.ntmps5
    go_wp2_with fail
    refine (small_c a _ _ _ _ (-1) (HA.out.below bb.out) mn SA.out).mono ?_
    rintro e w1 ⟨rfl, b_⟩
    replace bb := Lib.hid (bl_trans bb.out b_)
    clear b_
    go_wp2_with fail
    refine (awake_any HS.out _).mono ?_
    rintro e w2 ⟨rfl, b_⟩
    replace bb := Lib.hid (bl_trans bb.out b_)
    clear b_
    go_wp2
    go_ret
    exact ⟨rfl, bb.out⟩
  obtain ⟨hlim, h40⟩ := small_lim a hs
  have SA := Lib.hid (small_val a n HAL.out hs)
  have LA := Lib.hid hlim
  have hn40 : n ≤ 40 := by rw [← HAL.out]; exact h40
  clear hs hlim h40
  cases hs : smallB b
  case false =>
    have SB := Lib.hid (small_neg b hs)
    clear hs
    go_enter Try.func5, Try.ntmps5
    go_wp2_with fail
    refine (small_c a _ _ _ _ ((n : Int)) (HA.out.below bb.out) mn SA.out).mono ?_
    rintro e w1 ⟨rfl, b_⟩
    replace bb := Lib.hid (bl_trans bb.out b_)
    clear b_
    go_wp2_with fail
    refine (small_c b _ _ _ _ (-1) (HB.out.below bb.out) mq SB.out).mono ?_
    rintro e w2 ⟨rfl, b_⟩
    replace bb := Lib.hid (bl_trans bb.out b_)
    clear b_
    go_wp2_with fail
    refine (awake_any HS.out _).mono ?_
    rintro e w3 ⟨rfl, b_⟩
    replace bb := Lib.hid (bl_trans bb.out b_)
    clear b_
    go_wp2
    go_ret
    exact ⟨rfl, bb.out⟩
  obtain ⟨hlim, h40⟩ := small_lim b hs
  have SB := Lib.hid (small_val b q HBL.out hs)
  have LB := Lib.hid hlim
  have hq40 : q ≤ 40 := by rw [← HBL.out]; exact h40
  clear hs hlim h40
  obtain ⟨ca, hca⟩ : ∃ x, checkS (ss a) = x := ⟨_, rfl⟩
  have CA := Lib.hid hca
  by_cases za : ca = 0
  case neg =>
    have q1 : (ca != 0) = true := by simpa using za
    clear hca za
    go_enter Try.func5, Try.ntmps5
    go_wp2_with fail
    refine (small_c a _ _ _ _ ((n : Int)) (HA.out.below bb.out) mn SA.out).mono ?_
    rintro e w1 ⟨rfl, b_⟩
    replace bb := Lib.hid (bl_trans bb.out b_)
    clear b_
    go_wp2_with fail
    refine (small_c b _ _ _ _ ((q : Int)) (HB.out.below bb.out) mq SB.out).mono ?_
    rintro e w2 ⟨rfl, b_⟩
    replace bb := Lib.hid (bl_trans bb.out b_)
    clear b_
    go_wp2_with fail
    refine (HS.out.check a _ _ _ _ ca (HA.out.below bb.out) hnc LA.out (by omega) CA.out).mono ?_
    rintro e w3 ⟨rfl, b_⟩
    replace bb := Lib.hid (bl_trans bb.out b_)
    clear b_
    go_wp2_with fail
    refine (awake_any HS.out _).mono ?_
    rintro e w4 ⟨rfl, b_⟩
    replace bb := Lib.hid (bl_trans bb.out b_)
    clear b_
    go_wp2
    go_ret
    exact ⟨rfl, bb.out⟩
  subst za
  clear hca
  obtain ⟨cb, hcb⟩ : ∃ x, checkS (ss b) = x := ⟨_, rfl⟩
  have CB := Lib.hid hcb
  by_cases zb : cb = 0
  case neg =>
    have q1 : (cb != 0) = true := by simpa using zb
    clear hcb zb
    go_enter Try.func5, Try.ntmps5
    go_wp2_with fail
    refine (small_c a _ _ _ _ ((n : Int)) (HA.out.below bb.out) mn SA.out).mono ?_
    rintro e w1 ⟨rfl, b_⟩
    replace bb := Lib.hid (bl_trans bb.out b_)
    clear b_
    go_wp2_with fail
    refine (small_c b _ _ _ _ ((q : Int)) (HB.out.below bb.out) mq SB.out).mono ?_
    rintro e w2 ⟨rfl, b_⟩
    replace bb := Lib.hid (bl_trans bb.out b_)
    clear b_
    go_wp2_with fail
    refine (HS.out.check a _ _ _ _ 0 (HA.out.below bb.out) hnc LA.out (by omega) CA.out).mono ?_
    rintro e w3 ⟨rfl, b_⟩
    replace bb := Lib.hid (bl_trans bb.out b_)
    clear b_
    go_wp2_with fail
    refine (HS.out.check b _ _ _ _ cb (HB.out.below bb.out) hqc LB.out (by omega) CB.out).mono ?_
    rintro e w4 ⟨rfl, b_⟩
    replace bb := Lib.hid (bl_trans bb.out b_)
    clear b_
    go_wp2_with fail
    refine (awake_any HS.out _).mono ?_
    rintro e w5 ⟨rfl, b_⟩
    replace bb := Lib.hid (bl_trans bb.out b_)
    clear b_
    go_wp2
    go_ret
    exact ⟨rfl, bb.out⟩
  subst zb
  clear hcb
  by_cases hbig : 24 < n + q
  · have HE : Hid (checkS (ss (a ++ b)) = 1) := Lib.hid (check_many _ (by rw [ss_len, List.length_append, HAL.out, HBL.out]; exact hbig))
    go_enter Try.func5, Try.ntmps5
    go_wp2_with fail
    refine (small_c a _ _ _ _ ((n : Int)) (HA.out.below bb.out) mn SA.out).mono ?_
    rintro e w1 ⟨rfl, b_⟩
    replace bb := Lib.hid (bl_trans bb.out b_)
    clear b_
    go_wp2_with fail
    refine (small_c b _ _ _ _ ((q : Int)) (HB.out.below bb.out) mq SB.out).mono ?_
    rintro e w2 ⟨rfl, b_⟩
    replace bb := Lib.hid (bl_trans bb.out b_)
    clear b_
    go_wp2_with fail
    refine (HS.out.check a _ _ _ _ 0 (HA.out.below bb.out) hnc LA.out (by omega) CA.out).mono ?_
    rintro e w3 ⟨rfl, b_⟩
    replace bb := Lib.hid (bl_trans bb.out b_)
    clear b_
    go_wp2_with fail
    refine (HS.out.check b _ _ _ _ 0 (HB.out.below bb.out) hqc LB.out (by omega) CB.out).mono ?_
    rintro e w4 ⟨rfl, b_⟩
    replace bb := Lib.hid (bl_trans bb.out b_)
    clear b_
    have T1 : Hid True := Lib.hid trivial
    have T2 : Hid True := Lib.hid trivial
    go_wp2_with (first
      | (at_builtin; clear T1; refine append_rd rfl _ _ 22 rfl tStep w4 _ (0) ([]) rfl (Own.empty _ _ _) _ (n) _ (rs (a)) rfl (((HA.out.below bb.out)).1.alloc _) (rs_one _) (by omega) (by omega) ?_; intro v1 p1 ho hg'; clear hg'; have HO := Lib.hid (own_zero ho); clear ho)
      | (at_builtin; clear T2; refine append_rd rfl _ _ 22 rfl tStep w4 _ (n) (rs (a)) rfl (HO.out) _ (q) _ (rs (b)) rfl (((HB.out.below bb.out)).1.below HO.out.2) (rs_one _) (by omega) (by omega) ?_; intro v2 p2 ho hg'; clear hg'; replace HO := Lib.hid (own_eq ho (rs_app (a) (b)).symm); clear ho; obtain ⟨B_R1, d_R1, rfl, c_R1, r_⟩ := own_room HO.out; have R1 : Hid (At _ _ _ (a ++ b)) := Lib.hid ⟨r_, (((HA.out.below bb.out)).2.below HO.out.2).app (((HB.out.below bb.out)).2.below HO.out.2)⟩; clear r_; replace bb := Lib.hid (bl_trans bb.out HO.out.2); clear HO))
    refine (HS.out.check (a ++ b) _ _ _ _ 1 (R1.out) c_R1 (LA.out.app LB.out) (by omega) HE.out).mono ?_
    rintro e w5 ⟨rfl, b_⟩
    clear R1
    replace bb := Lib.hid (bl_trans bb.out b_)
    clear b_
    go_wp2_with fail
    refine (awake_any HS.out _).mono ?_
    rintro e w6 ⟨rfl, b_⟩
    replace bb := Lib.hid (bl_trans bb.out b_)
    clear b_
    go_wp2
    go_ret
    exact ⟨rfl, bb.out⟩
  have HBC := Lib.hid (behind_check (ss a) (ss b) CA.out CB.out (by rw [ss_len, ss_len, HAL.out, HBL.out]; omega))
  rw [← ss_app] at HBC
  obtain ⟨da, hda⟩ : ∃ x, deepS (ss a) = x := ⟨_, rfl⟩
  obtain ⟨db, hdb⟩ : ∃ x, deepS (ss b) = x := ⟨_, rfl⟩
  have DA := Lib.hid hda
  have DB := Lib.hid hdb
  obtain ⟨dm, hdm⟩ : ∃ x, max da db = x := ⟨_, rfl⟩
  have hmi : (if (db : Int) > (da : Int) then (db : Int) else (da : Int)) = (dm : Int) := by
    rw [← hdm]; split <;> omega
  have DC : Hid (deepS (ss (a ++ b)) = dm) := Lib.hid (by rw [HBC.out.2.1, hda, hdb]; exact hdm)
  obtain ⟨za, hza⟩ : ∃ x, cellsS (ss a) = x := ⟨_, rfl⟩
  obtain ⟨zb, hzb⟩ : ∃ x, cellsS (ss b) = x := ⟨_, rfl⟩
  obtain ⟨zc', hzc⟩ : ∃ x, cellsS (ss (a ++ b)) = x := ⟨_, rfl⟩
  obtain ⟨qa, hqa⟩ : ∃ x, za.length = x := ⟨_, rfl⟩
  obtain ⟨qb, hqb⟩ : ∃ x, zb.length = x := ⟨_, rfl⟩
  obtain ⟨qc, hqc'⟩ : ∃ x, zc'.length = x := ⟨_, rfl⟩
  have qa64 : qa ≤ 64 := by rw [← hqa, ← hza]; exact cells_le _
  have qb64 : qb ≤ 64 := by rw [← hqb, ← hzb]; exact cells_le _
  have qc64 : qc ≤ 64 := by rw [← hqc', ← hzc]; exact cells_le _
  have hqaqc : qa ≤ qc := by have := HBC.out.2.2.2; rw [hza, hzc, hqa, hqc'] at this; exact this
  have HIN : Hid (∀ z, z ∈ zc' → z ∈ za ++ zb) := Lib.hid (by have := HBC.out.2.2.1; rw [hza, hzb, hzc] at this; exact this)
  have ZA := Lib.hid hza
  have ZB := Lib.hid hzb
  have ZC := Lib.hid hzc
  have QA := Lib.hid hqa
  have QB := Lib.hid hqb
  have QC := Lib.hid hqc'
  have HC0 := Lib.hid HBC.out.1
  have q1 : ((dm : Int) == (dm : Int)) = true := by simp
  clear hda hdb hdm hza hzb hzc hqa hqb hqc' HBC
  go_enter Try.func5, Try.ntmps5
  go_wp2_with fail
  refine (small_c a _ _ _ _ ((n : Int)) (HA.out.below bb.out) mn SA.out).mono ?_
  rintro e w1 ⟨rfl, b_⟩
  replace bb := Lib.hid (bl_trans bb.out b_)
  clear b_
  go_wp2_with fail
  refine (small_c b _ _ _ _ ((q : Int)) (HB.out.below bb.out) mq SB.out).mono ?_
  rintro e w2 ⟨rfl, b_⟩
  replace bb := Lib.hid (bl_trans bb.out b_)
  clear b_
  go_wp2_with fail
  refine (HS.out.check a _ _ _ _ 0 (HA.out.below bb.out) hnc LA.out (by omega) CA.out).mono ?_
  rintro e w3 ⟨rfl, b_⟩
  replace bb := Lib.hid (bl_trans bb.out b_)
  clear b_
  go_wp2_with fail
  refine (HS.out.check b _ _ _ _ 0 (HB.out.below bb.out) hqc LB.out (by omega) CB.out).mono ?_
  rintro e w4 ⟨rfl, b_⟩
  replace bb := Lib.hid (bl_trans bb.out b_)
  clear b_
  have T1 : Hid True := Lib.hid trivial
  have T2 : Hid True := Lib.hid trivial
  go_wp2_with (first
    | (at_builtin; clear T1; refine append_rd rfl _ _ 22 rfl tStep w4 _ (0) ([]) rfl (Own.empty _ _ _) _ (n) _ (rs (a)) rfl (((HA.out.below bb.out)).1.alloc _) (rs_one _) (by omega) (by omega) ?_; intro v1 p1 ho hg'; clear hg'; have HO := Lib.hid (own_zero ho); clear ho)
    | (at_builtin; clear T2; refine append_rd rfl _ _ 22 rfl tStep w4 _ (n) (rs (a)) rfl (HO.out) _ (q) _ (rs (b)) rfl (((HB.out.below bb.out)).1.below HO.out.2) (rs_one _) (by omega) (by omega) ?_; intro v2 p2 ho hg'; clear hg'; replace HO := Lib.hid (own_eq ho (rs_app (a) (b)).symm); clear ho; obtain ⟨B_R1, d_R1, rfl, c_R1, r_⟩ := own_room HO.out; have R1 : Hid (At _ _ _ (a ++ b)) := Lib.hid ⟨r_, (((HA.out.below bb.out)).2.below HO.out.2).app (((HB.out.below bb.out)).2.below HO.out.2)⟩; clear r_; replace bb := Lib.hid (bl_trans bb.out HO.out.2); clear HO))
  refine ((HS.out.cells (a ++ b) _ _ _ _ zc' qc (R1.out) c_R1 (LA.out.app LB.out) (by omega) ZC.out QC.out).mono (fun _ _ => RetO.toS)).mono ?_
  rintro e w5 ⟨B3, d3, rfl, r3, b_⟩
  replace R1 := Lib.hid ((R1.out).below b_)
  replace bb := Lib.hid (bl_trans bb.out b_)
  have R3 := Lib.hid r3
  clear r3
  clear b_
  go_wp2
  go_loopw [47] (fun i wr => ∃ k : Nat, k ≤ qc ∧ i = .int .i64 k ∧ Hid (Below w.heap.size w wr) ∧ Hid (Rd wr 1 B3 qc (zs zc')) ∧ Hid (At wr B_R1 (n + q) (a ++ b))) (fun i _ => qc - (intOf i).toNat)
  case atStart => exact ⟨0, Nat.zero_le _, rfl, bb, R3, R1⟩
  case round =>
    obtain ⟨k, hk, rfl, bb, R3, R1⟩ := hrel
    generalize wr = w8 at *
    by_cases hlt : k < qc
    · obtain ⟨b3, off3, z, rfl, hx, c0⟩ := at_z R3.out k hlt
      have HZM : Hid (z ∈ za ++ zb) := Lib.hid (HIN.out z (List.mem_of_getElem? hx))
      clear hx
      go_wp2_with fail
      refine (HS.out.cells a _ _ _ _ za qa ((HA.out.below bb.out).alloc _) hnc LA.out (by omega) ZA.out QA.out).mono ?_
      rintro e w9 ⟨v9, rfl, r9⟩
      have HE0 : Hid (Own w8 w9 3 1 _ 0 []) := Lib.hid ((Own.empty w8 3 1).below r9.2)
      obtain ⟨B9, d9, rfl, r9'⟩ := r9.form
      have R9 := Lib.hid r9'
      clear r9' r9
      go_wp2_with (at_builtin; refine append_rd rfl _ _ 31 rfl Mem.tInt w8 _ 0 [] rfl HE0.out _ qa _ (zs za) rfl R9.out (zs_one _) (by omega) (by omega) ?_; intro v' w' ho' hg'; have HO1 := Lib.hid (own_zero ho'); clear ho' hg')
      refine (HS.out.cells b _ _ _ _ zb qb (HB.out.below (bl_trans bb.out HO1.out.2)) hqc LB.out (by omega) ZB.out QB.out).mono ?_
      rintro e w10 ⟨v10, rfl, r10⟩
      replace HO1 := Lib.hid (HO1.out.below r10.2)
      obtain ⟨B10, d10, rfl, r10'⟩ := r10.form
      have R10 := Lib.hid r10'
      clear r10' r10 HE0 R9
      go_wp2_with (at_builtin; refine append_rd rfl _ _ 31 rfl Mem.tInt w8 _ qa (zs za) rfl HO1.out _ qb _ (zs zb) rfl R10.out (zs_one _) (by omega) (by omega) ?_; intro v2 w11 ho' hg'; obtain ⟨B11, d11, rfl, r11⟩ := ho'.form; have R11 := Lib.hid (show Rd w11 1 B11 (qa + qb) (zs (za ++ zb)) by rw [zs_app]; exact r11); have b11 := Lib.hid ho'.2; clear ho' hg' r11)
      replace bb := Lib.hid (bl_trans bb.out b11.out)
      replace R1 := Lib.hid (R1.out.below b11.out)
      replace R3 := Lib.hid (R3.out.below b11.out)
      clear b11 R10 HO1
      go_loop [8, 59] (fun bv i => ∃ j : Nat, j ≤ qa + qb ∧ i = .int .i64 j ∧ bv = .bool (((za ++ zb).take j).any (fun u => u == z))) (fun _ i => qa + qb - (intOf i).toNat)
      case atStart => exact ⟨0, Nat.zero_le _, rfl, rfl⟩
      case round =>
        obtain ⟨j, hj, rfl, rfl⟩ := hrel
        by_cases hjt : j < qa + qb
        · obtain ⟨b4, off4, u, rfl, hx, c4⟩ := at_z R11.out j hjt
          have hs := Lib.hid (take_any (za ++ zb) (fun u => u == z) j _ hx)
          clear hx
          obtain ⟨nv, hnv⟩ : ∃ x, ((za ++ zb).take j).any (fun u => u == z) = x := ⟨_, rfl⟩
          have HNV := Lib.hid hnv
          rw [hnv]
          clear hnv
          cases hu : (u == z)
          all_goals
            have HN : Hid (((za ++ zb).take (j + 1)).any (fun u => u == z) = (nv || (u == z))) := Lib.hid (by rw [hs.out, HNV.out])
            rw [hu] at HN
            cases nv
            all_goals
              go_wp2
              go_round
              case rel => exact ⟨j + 1, by omega, by go_num, by rw [HN.out]; rfl⟩
              case measure => simp [intOf]; omega
        · have HT : Hid (((za ++ zb).take j).any (fun u => u == z) = true) := Lib.hid (by
            rw [List.take_of_length_le (by rw [List.length_append, QA.out, QB.out]; omega), List.any_eq_true]
            exact ⟨z, HZM.out, by simp⟩)
          rw [HT.out]
          clear HT
          go_wp2
          go_roundw
          case rel => exact ⟨k + 1, by omega, by go_num, bb, R3, R1⟩
          case measure => simp [intOf]; omega
    · clear R3
      go_wp2_with fail
      refine (HS.out.check (a ++ b) _ _ _ _ 0 (R1.out) c_R1 (LA.out.app LB.out) (by omega) HC0.out).mono ?_
      rintro e w9 ⟨rfl, b_⟩
      replace R1 := Lib.hid ((R1.out).below b_)
      replace bb := Lib.hid (bl_trans bb.out b_)
      clear b_
      go_wp2_with fail
      refine (HS.out.deep (a ++ b) _ _ _ _ dm (R1.out) c_R1 (LA.out.app LB.out) (by omega) DC.out).mono ?_
      rintro e w10 ⟨rfl, b_⟩
      replace R1 := Lib.hid ((R1.out).below b_)
      replace bb := Lib.hid (bl_trans bb.out b_)
      clear b_
      go_wp2_with fail
      refine (HS.out.deep a _ _ _ _ da (HA.out.below bb.out) hnc LA.out (by omega) DA.out).mono ?_
      rintro e w11 ⟨rfl, b_⟩
      replace R1 := Lib.hid ((R1.out).below b_)
      replace bb := Lib.hid (bl_trans bb.out b_)
      clear b_
      go_wp2_with fail
      refine (HS.out.deep b _ _ _ _ db (HB.out.below bb.out) hqc LB.out (by omega) DB.out).mono ?_
      rintro e w12 ⟨rfl, b_⟩
      replace R1 := Lib.hid ((R1.out).below b_)
      replace bb := Lib.hid (bl_trans bb.out b_)
      clear b_
      go_wp2_with fail
      refine ((HS.out.cells (a ++ b) _ _ _ _ zc' qc (R1.out) c_R1 (LA.out.app LB.out) (by omega) ZC.out QC.out).mono (fun _ _ => RetO.toS)).mono ?_
      rintro e w13 ⟨B13, d13, rfl, r13, b_⟩
      clear R1
      replace bb := Lib.hid (bl_trans bb.out b_)
      clear b_
      go_wp2_with fail
      refine ((HS.out.cells a _ _ _ _ za qa (HA.out.below bb.out) hnc LA.out (by omega) ZA.out QA.out).mono (fun _ _ => RetO.toS)).mono ?_
      rintro e w14 ⟨B14, d14, rfl, r14, b_⟩
      replace bb := Lib.hid (bl_trans bb.out b_)
      clear b_
      go_wp2_with fail
      refine (awake_any HS.out _).mono ?_
      rintro e w15 ⟨rfl, b_⟩
      replace bb := Lib.hid (bl_trans bb.out b_)
      clear b_
      go_wp2
      go_ret
      exact ⟨rfl, bb.out⟩
end Go.Proofs.Ytcjooibadbhjaaa.Code
