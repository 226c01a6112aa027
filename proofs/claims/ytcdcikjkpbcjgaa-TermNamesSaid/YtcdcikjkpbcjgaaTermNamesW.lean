/-
  THE WALK OF THE LAW TermNames.
-/
import Derived.Test.YtcdcikjkpbcjgaaTermLaw
import Derived.Test.YtcdcikjkpbcjgaaTermMore
namespace Go.Proofs.Ytcdcikjkpbcjgaa.Term
open Go.ChangeShapes Go.WideShapes Go.ChangeAt Go.RowKit Mem

set_option maxRecDepth 100000 in
set_option maxHeartbeats 2000000 in
theorem names_walk (A : Option Addr) (n c : Nat) (l : List Op) (D : Option Addr) (m d : Nat) (h : List Heap.Cell) (E : Option Addr) (x y : Nat) (rg : List Int) (at_ va : Int) (w : World) (mn : n ≤ 9223372036854775807) (hr : Rd w 2 A n (ops l)) (mm : m ≤ 9223372036854775807) (hh : Rd w 2 D m (Heap.cs h)) (mx : x ≤ 9223372036854775807) (hg : Rd w 1 E x (zs rg)) (hat : 0 ≤ at_ ∧ at_ ≤ 255) (hva : -2147483648 ≤ va ∧ va ≤ 2147483647) :
    Calls Try.prog 4 #[.slice A n c, .slice D m d, .slice E x y, .int .u8 at_, .int .i32 va] w (RetB w true) := by
  have HL := Lib.hid (ops_len hr)
  have HR := Lib.hid hr
  have HH := Lib.hid hh
  have HG := Lib.hid hg
  clear hr hh hg
  by_cases h1 : 12 < n
  · go_enter Try.func4, Try.ntmps4
    go_wp2_with fail
    refine (awake_any _).mono ?_
    rintro e v1 ⟨rfl, b1⟩
    go_wp2
    go_ret
    exact ⟨rfl, b1⟩
  by_cases h2 : 64 < m
  · go_enter Try.func4, Try.ntmps4
    go_wp2_with fail
    refine (awake_any _).mono ?_
    rintro e v1 ⟨rfl, b1⟩
    go_wp2
    go_ret
    exact ⟨rfl, b1⟩
  by_cases h0 : m = 0
  · subst h0
    go_enter Try.func4, Try.ntmps4
    go_wp2_with fail
    refine (awake_any _).mono ?_
    rintro e v1 ⟨rfl, b1⟩
    go_wp2
    go_ret
    exact ⟨rfl, b1⟩
  by_cases h3 : 20 < x
  · go_enter Try.func4, Try.ntmps4
    go_wp2_with fail
    refine (awake_any _).mono ?_
    rintro e v1 ⟨rfl, b1⟩
    go_wp2
    go_ret
    exact ⟨rfl, b1⟩
  have HM := Lib.hid (show h.length = m by have := HH.out.1; rw [Heap.cs_len] at this; omega)
  obtain ⟨at0, at1⟩ := hat
  obtain ⟨an, rfl⟩ := Int.eq_ofNat_of_zero_le at0
  obtain ⟨k, hk⟩ : ∃ k : Nat, an % m = k := ⟨_, rfl⟩
  have hki : (an : Int) % (m : Int) = (k : Int) := by rw [← hk]; rfl
  have hkm : k < m := by rw [← hk]; exact Nat.mod_lt _ (by omega)
  have hn0 : (m == 0) = false := beq_eq_false_iff_ne.2 h0
  have hm0 : ((m : Int) == 0) = false := by simpa using h0
  have hva1 : Heap.cellB ⟨true, va⟩ = true := by unfold Heap.cellB Heap.vB; simp; exact hva
  have HVA := Lib.hid hva1
  obtain ⟨⟨v, e0⟩, hev⟩ : ∃ a, evalS l h rg = a := ⟨_, rfl⟩
  have HE := Lib.hid hev
  obtain ⟨cz, hcz⟩ : ∃ a, cellsS l = a := ⟨_, rfl⟩
  obtain ⟨cq, hcq⟩ : ∃ a, cz.length = a := ⟨_, rfl⟩
  have HZ := Lib.hid hcz
  have HQ := Lib.hid hcq
  have hq : cq ≤ 64 := by
    rw [← hcq, ← hcz]; unfold cellsS; split
    · exact pick_len _ _
    · exact Nat.zero_le _
  have bb : Hid (Below w.heap.size w w) := Lib.hid (Below.refl _ _)
  clear hev hcz hcq hk hva1 at0
  go_enter Try.func4, Try.ntmps4
  go_wp2_with fail
  refine ((cells_c l _ _ _ _ cz cq (HR.out.below bb.out) (by omega) HZ.out HQ.out).mono (fun _ _ => RetO.toS)).mono ?_
  rintro e w1 ⟨B3, d3, rfl, r3, b_⟩
  replace bb := Lib.hid (bl_trans bb.out b_)
  have R3 := Lib.hid r3
  clear r3
  clear b_
  go_wp2
  go_loop [46] (fun i => ∃ j : Nat, j ≤ cq ∧ i = .int .i64 j ∧ Hid (∀ z ∈ cz.take j, z ≠ (k : Int))) (fun i => cq - (intOf i).toNat)
  case atStart => exact ⟨0, Nat.zero_le _, rfl, Lib.hid (by simp)⟩
  case round =>
    obtain ⟨j, hj, rfl, HJ⟩ := hrel
    by_cases hlt : j < cq
    · obtain ⟨b, off, z, rfl, hx, c0⟩ := at_z R3.out j hlt
      have HT := Lib.hid (show cz.take (j + 1) = cz.take j ++ [z] by rw [List.take_add_one, hx]; rfl)
      clear hx
      by_cases hz : z = (k : Int)
      · subst hz
        go_wp2_with fail
        refine (awake_any _).mono ?_
        rintro e w2 ⟨rfl, b_⟩
        clear R3
        replace bb := Lib.hid (bl_trans bb.out b_)
        clear b_
        go_wp2
        go_ret
        exact ⟨rfl, bb.out⟩
      · have hz1 : (z == (k : Int)) = false := beq_eq_false_iff_ne.2 hz
        have HJ2 : Hid (∀ z ∈ cz.take (j + 1), z ≠ (k : Int)) := Lib.hid (by
          rw [HT.out]; intro u hu; rcases List.mem_append.1 hu with hu | hu
          · exact HJ.out u hu
          · rw [List.mem_singleton.1 hu]; exact hz)
        clear hz
        go_wp2
        go_round
        case rel => exact ⟨j + 1, by omega, by go_num, HJ2⟩
        case measure => simp [intOf]; omega
    · have HK : Hid ((k : Int) ∉ cellsS l) := Lib.hid (by
        rw [HZ.out]; intro hk; have := HJ.out _ (by rw [List.take_of_length_le (by rw [HQ.out]; omega)]; exact hk); exact this rfl)
      have HO := Lib.hid (names_other l h rg k ⟨true, va⟩ HVA.out HK.out (by omega))
      rw [HE.out] at HO
      obtain ⟨⟨v2, e2⟩, hev⟩ : ∃ a, evalS l (h.set k ⟨true, va⟩) rg = a := ⟨_, rfl⟩
      rw [hev] at HO
      have HE2 := Lib.hid hev
      clear hev HJ HK
      go_wp2_with fail
      refine (eval_c l h rg _ _ _ _ _ _ _ _ _ _ (v, e0) (HR.out.below bb.out) (HH.out.below bb.out) (HG.out.below bb.out) (by omega) (by omega) HE.out).mono ?_
      rintro e w2 ⟨rfl, b_⟩
      clear R3
      replace bb := Lib.hid (bl_trans bb.out b_)
      clear b_
      go_wp2_with (at_builtin; refine append_rd rfl _ _ 23 rfl Heap.tCell w2 _ 0 [] rfl (Own.empty _ _ _) _ m d (Heap.cs h) rfl ((HH.out.below bb.out).alloc _) (Heap.cs_one h) (by omega) (by omega) ?_; intro v' w' hown' hg'; clear hg'; have HOW := own_zero hown'; clear hown'; obtain ⟨gb, cap, rfl⟩ := own_lay HOW (by omega); have f0 := HOW.1.frozenAt (k * 2); have f1 := HOW.1.frozenAt (k * 2 + 1); have d0 := (HOW.1.cellAt (k * 2) (by omega)).trans (Heap.cs_0 _ k (by rw [HM.out]; exact hkm)); have d1 := (HOW.1.cellAt (k * 2 + 1) (by omega)).trans (Heap.cs_1 _ k (by rw [HM.out]; exact hkm)); have HOW2 := Lib.hid HOW; clear HOW)
      have HO5 := Lib.hid (own_set (own_set HOW2.out (k * 2) (.bool true)) (k * 2 + 1) (.int .i64 va))
      rw [show ((Heap.cs h).set (k * 2) (.bool true)).set (k * 2 + 1) (.int .i64 va) = Heap.cs (h.set k ⟨true, va⟩) from Heap.cs_set h k ⟨true, va⟩] at HO5
      clear f0 f1 d0 d1 HOW2
      generalize (w'.setCell ⟨gb, k * 2, none⟩ (.bool true)).setCell ⟨gb, k * 2 + 1, none⟩ (.int .i64 va) = w9 at *
      replace bb := Lib.hid (bl_trans bb.out HO5.out.2)
      have RG := Lib.hid (own_rd HO5.out)
      clear HO5
      refine (eval_c l (h.set k ⟨true, va⟩) rg _ _ _ _ _ _ _ _ _ _ (v2, e2) (HR.out.below bb.out) (RG.out) (HG.out.below bb.out) (by omega) (by omega) HE2.out).mono ?_
      rintro e w3 ⟨rfl, b_⟩
      clear RG
      replace bb := Lib.hid (bl_trans bb.out b_)
      clear b_
      cases hc : (e0 == 1)
      · have hve : v2 = v ∧ e2 = e0 := by
          rcases HO.out with h9 | h9
          · have : e0 = 1 := h9; rw [this] at hc; cases hc
          · exact ⟨congrArg Prod.fst h9, congrArg Prod.snd h9⟩
        obtain ⟨rfl, rfl⟩ := hve
        have q1 : (v2 == v2) = true := by simp
        have q2 : (e2 == e2) = true := by simp
        go_wp2_with fail
        refine (awake_any _).mono ?_
        rintro e w4 ⟨rfl, b_⟩
        replace bb := Lib.hid (bl_trans bb.out b_)
        clear b_
        go_wp2
        go_ret
        exact ⟨rfl, bb.out⟩
      · have T1 := Lib.hid trivial
        go_wp2_with fail
        refine (awake_any _).mono ?_
        rintro e w4 ⟨rfl, b_⟩
        replace bb := Lib.hid (bl_trans bb.out b_)
        clear b_
        go_wp2
        go_ret
        exact ⟨rfl, bb.out⟩
end Go.Proofs.Ytcdcikjkpbcjgaa.Term
