/-
  THE WALK OF THE LAW CodeTells.
-/
import Derived.Test.YtcjooibadbhjaaaCodeAwake
import Derived.Test.YtcjooibadbhjaaaCodeJoin
namespace Go.Proofs.Ytcjooibadbhjaaa.Code
open Go.ChangeShapes Go.WideShapes Go.ChangeAt Go.RowKit Mem

set_option maxRecDepth 100000 in
set_option maxHeartbeats 2000000 in
theorem tells_walk (S : Said) (A : Option Addr) (n c : Nat) (l : List Raw) (w : World) (hnc : n ≤ c) (mn : n ≤ 9223372036854775807) (hat : At w A n l) :
    Calls Try.prog 3 #[.slice A n c] w (RetB w true) := by
  have HS := Lib.hid S
  clear S
  have HL := Lib.hid hat.len
  have HA := Lib.hid hat
  clear hat
  have bb : Hid (Below w.heap.size w w) := Lib.hid (Below.refl _ _)
  cases hs : smallB l with
  | false =>
    have HSM := Lib.hid (small_neg l hs)
    clear hs
    go_enter Try.func3, Try.ntmps3
    go_wp2_with fail
    refine (small_c l _ _ _ _ (-1) (HA.out.below bb.out) mn HSM.out).mono ?_
    rintro e w1 ⟨rfl, b_⟩
    replace bb := Lib.hid (bl_trans bb.out b_)
    clear b_
    go_wp2_with fail
    refine (awake_any HS.out _).mono ?_
    rintro e w2 ⟨rfl, b_⟩
    replace bb := Lib.hid (bl_trans bb.out b_)
    clear b_
    go_wp2
    go_ret
    exact ⟨rfl, bb.out⟩
  | true =>
    obtain ⟨hlim, h40⟩ := small_lim l hs
    have HSM := Lib.hid (small_val l n HL.out hs)
    have HLM := Lib.hid hlim
    have hn40 : n ≤ 40 := by rw [← HL.out]; exact h40
    obtain ⟨ck, hck⟩ : ∃ a, checkS (ss l) = a := ⟨_, rfl⟩
    have HC := Lib.hid hck
    obtain ⟨cz, hcz⟩ : ∃ a, cellsS (ss l) = a := ⟨_, rfl⟩
    obtain ⟨cq, hcq⟩ : ∃ a, cz.length = a := ⟨_, rfl⟩
    have HZ := Lib.hid hcz
    have HQ := Lib.hid hcq
    have hq : cq ≤ 64 := by rw [← hcq, ← hcz]; exact cells_le _
    obtain ⟨dp, hdp⟩ : ∃ a, deepS (ss l) = a := ⟨_, rfl⟩
    have HD := Lib.hid hdp
    have q1 : (ck == ck) = true := by simp
    have q2 : ((dp : Int) == (dp : Int)) = true := by simp
    clear hck hcz hcq hdp hs h40 hlim
    go_enter Try.func3, Try.ntmps3
    go_wp2_with fail
    refine (small_c l _ _ _ _ (n : Int) (HA.out.below bb.out) mn HSM.out).mono ?_
    rintro e w1 ⟨rfl, b_⟩
    replace bb := Lib.hid (bl_trans bb.out b_)
    clear b_
    go_wp2_with fail
    refine (ref_c l _ _ _ _ (HA.out.below bb.out) HLM.out (by omega)).mono ?_
    rintro e w2 ⟨B1, d1, m, rfl, r1, hsm, hlm, b_⟩
    have HSM2 := Lib.hid hsm
    have HLM2 := Lib.hid hlm
    clear hsm hlm
    replace bb := Lib.hid (bl_trans bb.out b_)
    have R1 := Lib.hid r1
    clear r1
    clear b_
    go_wp2_with fail
    refine (HS.out.check l _ _ _ _ ck (HA.out.below bb.out) hnc HLM.out (by omega) HC.out).mono ?_
    rintro e w3 ⟨rfl, b_⟩
    replace R1 := Lib.hid ((R1.out).below b_)
    replace bb := Lib.hid (bl_trans bb.out b_)
    clear b_
    go_wp2_with fail
    refine (refcheck m _ _ _ _ ck (R1.out) HLM2.out (by omega) (by rw [HSM2.out]; exact HC.out)).mono ?_
    rintro e w4 ⟨rfl, b_⟩
    replace R1 := Lib.hid ((R1.out).below b_)
    replace bb := Lib.hid (bl_trans bb.out b_)
    clear b_
    go_wp2_with fail
    refine (HS.out.deep l _ _ _ _ dp (HA.out.below bb.out) hnc HLM.out (by omega) HD.out).mono ?_
    rintro e w5 ⟨rfl, b_⟩
    replace R1 := Lib.hid ((R1.out).below b_)
    replace bb := Lib.hid (bl_trans bb.out b_)
    clear b_
    go_wp2_with fail
    refine (refdeep m _ _ _ _ dp (R1.out) HLM2.out (by omega) (by rw [HSM2.out]; exact HD.out)).mono ?_
    rintro e w6 ⟨rfl, b_⟩
    replace R1 := Lib.hid ((R1.out).below b_)
    replace bb := Lib.hid (bl_trans bb.out b_)
    clear b_
    go_wp2_with fail
    refine ((HS.out.cells l _ _ _ _ cz cq (HA.out.below bb.out) hnc HLM.out (by omega) HZ.out HQ.out).mono (fun _ _ => RetO.toS)).mono ?_
    rintro e w7 ⟨B3, d3, rfl, r3, b_⟩
    replace R1 := Lib.hid ((R1.out).below b_)
    replace bb := Lib.hid (bl_trans bb.out b_)
    have R3 := Lib.hid r3
    clear r3
    clear b_
    go_wp2_with fail
    refine (refcells m _ _ _ _ cz cq (R1.out) HLM2.out (by omega) (by rw [HSM2.out]; exact HZ.out) HQ.out).mono ?_
    rintro e w8 ⟨B5, d5, rfl, r5, b_⟩
    clear R1
    replace R3 := Lib.hid ((R3.out).below b_)
    replace bb := Lib.hid (bl_trans bb.out b_)
    have R5 := Lib.hid r5
    clear r5
    clear b_
    go_wp2_with fail
    refine (Mem.numbers_b cz cz _ _ _ _ _ _ _ true (R3.out) (R5.out) (by omega) (by omega) (decide_eq_true rfl)).mono ?_
    rintro e w9 ⟨rfl, b_⟩
    clear R3
    clear R5
    replace bb := Lib.hid (bl_trans bb.out b_)
    clear b_
    go_wp2_with fail
    refine (awake_any HS.out _).mono ?_
    rintro e w10 ⟨rfl, b_⟩
    replace bb := Lib.hid (bl_trans bb.out b_)
    clear b_
    go_wp2
    go_ret
    exact ⟨rfl, bb.out⟩
end Go.Proofs.Ytcjooibadbhjaaa.Code
