/-
  TWO STRETCHES THAT LIE SIDE BY SIDE CHANGE PLACES (slices.rotateCmpFunc). No conditions beyond those that the theorem states.
-/
import Derived.Test.YtdbgpmfdiljopaaTickRow
namespace Go.Proofs.Ytdbgpmfdiljopaa.Tick
open Go.ChangeShapes Go.WideShapes Go.ChangeAt Go.RowKit Mem

set_option maxRecDepth 100000 in
set_option maxHeartbeats 4000000 in
theorem rotate_c (w0 : World) (g q cap a m b : Nat) (P U V Q : List Nat) (fv : Value) (W : World) (hR : Rw w0 g q cap (P ++ (U ++ (V ++ Q))) W) (hq : q ≤ 1000000)
    (ha : P.length = a) (hm : P.length + U.length = m) (hb : P.length + U.length + V.length = b) (hu : 0 < U.length) (hv : 0 < V.length) :
    Calls Try.prog 27 #[.slice (some ⟨g, 0, none⟩) q cap, .int .i64 a, .int .i64 m, .int .i64 b, fv] W fun e w' => e = .returned (.tuple #[]) ∧ Rw w0 g q cap (P ++ (V ++ (U ++ Q))) w' := by
  obtain ⟨G, hG⟩ : ∃ G, G = P ++ (V ++ (U ++ Q)) := ⟨_, rfl⟩
  rw [← hG]
  obtain ⟨i0, hi0⟩ : ∃ i0, U.length = i0 := ⟨_, rfl⟩
  obtain ⟨j0, hj0⟩ : ∃ j0, V.length = j0 := ⟨_, rfl⟩
  have hbq : b ≤ q := by have := hR.len; simp at this; omega
  have e1 : (m : Int) - (a : Int) = (i0 : Int) := by omega
  have e2 : (b : Int) - (m : Int) = (j0 : Int) := by omega
  have HS : Hid (∃ P' U' V' Q' : List Nat, U'.length = i0 ∧ V'.length = j0 ∧ P'.length + i0 = m ∧ 0 < i0 ∧ 0 < j0 ∧ m + j0 ≤ q ∧ P' ++ (V' ++ (U' ++ Q')) = G ∧ Rw w0 g q cap (P' ++ (U' ++ (V' ++ Q'))) W) :=
    Lib.hid ⟨P, U, V, Q, hi0, hj0, by omega, by omega, by omega, by omega, hG.symm, hR⟩
  clear hR hG ha hm hb hu hv hi0 hj0
  go_enter Try.func27, Try.ntmps27
  go_wp2
  go_loopw [10, 11] (fun s t wr => ∃ i j : Nat, s = .int .i64 i ∧ t = .int .i64 j ∧ Hid (∃ P' U' V' Q' : List Nat, U'.length = i ∧ V'.length = j ∧ P'.length + i = m ∧ 0 < i ∧ 0 < j ∧ m + j ≤ q ∧ P' ++ (V' ++ (U' ++ Q')) = G ∧ Rw w0 g q cap (P' ++ (U' ++ (V' ++ Q'))) wr)) (fun s t _ => (intOf s).toNat + (intOf t).toNat)
  case atStart => exact ⟨i0, j0, rfl, rfl, HS⟩
  case round =>
    obtain ⟨i, j, rfl, rfl, HI⟩ := hrel
    clear HS e1 e2
    obtain ⟨P', U', V', Q', lu, lv, lp, hi, hj, hmj, hG, hR⟩ := HI.out
    clear HI
    obtain ⟨p, hp⟩ : ∃ p, P'.length = p := ⟨_, rfl⟩
    have ep : (m : Int) - (i : Int) = (p : Int) := by omega
    by_cases hne : i = j
    · subst hne
      have HR : Hid (Rw w0 g q cap (P' ++ (U' ++ ([] ++ (V' ++ Q')))) wr) := Lib.hid hR
      have HG := Lib.hid hG
      have HA : Hid (P'.length = p ∧ P'.length + i + ([] : List Nat).length = m ∧ U'.length = i ∧ V'.length = i) := Lib.hid ⟨hp, by simp; omega, lu, lv⟩
      clear hR hG lu lv lp hp
      go_wp2_with fail
      refine (swap_c w0 g q cap p m i P' U' [] V' Q' fv _ HR.out hq HA.out.1 HA.out.2.1 HA.out.2.2.1 HA.out.2.2.2).mono ?_
      rintro e w' ⟨rfl, h2⟩
      have H2 := Lib.hid h2
      clear h2
      go_wp2_with fail
      go_end0
      exact ⟨rfl, by rw [← HG.out]; exact H2.out⟩
    · have t0 : ((i : Int) != (j : Int)) = true := by
        have : ¬ (i : Int) = (j : Int) := by omega
        simpa using this
      by_cases hgt : j < i
      · have hgz : (j : Int) < (i : Int) := by omega
        obtain ⟨k, hk⟩ : ∃ k, j + k = i := ⟨i - j, by omega⟩
        have ek : (i : Int) - (j : Int) = (k : Int) := by omega
        have HX : Hid ((U'.take j).length = j) := Lib.hid (by simp; omega)
        have HY : Hid ((U'.drop j).length = k) := Lib.hid (by simp; omega)
        have HR : Hid (Rw w0 g q cap (P' ++ (U'.take j ++ (U'.drop j ++ (V' ++ Q')))) wr) := Lib.hid (by
          have e : U'.take j ++ (U'.drop j ++ (V' ++ Q')) = U' ++ (V' ++ Q') := by rw [← List.append_assoc, List.take_append_drop]
          rw [e]; exact hR)
        have HG : Hid ((P' ++ V') ++ (U'.take j ++ (U'.drop j ++ Q')) = G) := Lib.hid (by
          rw [← hG, ← List.append_assoc (U'.take j), List.take_append_drop]; simp)
        have HA : Hid (P'.length = p ∧ P'.length + j + (U'.drop j).length = m ∧ V'.length = j) := Lib.hid ⟨hp, by rw [HY.out]; omega, lv⟩
        have HPV : Hid ((P' ++ V').length + k = m) := Lib.hid (by simp; omega)
        clear hR hG lu lv lp hp hne
        go_wp2_with fail
        refine (swap_c w0 g q cap p m j P' (U'.take j) (U'.drop j) V' Q' fv _ HR.out hq HA.out.1 HA.out.2.1 HX.out HA.out.2.2).mono ?_
        rintro e w' ⟨rfl, h2⟩
        have H2 : Hid (Rw w0 g q cap ((P' ++ V') ++ (U'.drop j ++ (U'.take j ++ Q'))) w') := Lib.hid (by simpa using h2)
        clear h2
        go_wp2_with fail
        go_roundw
        case rel => exact ⟨k, j, by go_num, rfl, Lib.hid ⟨P' ++ V', U'.drop j, U'.take j, Q', HY.out, HX.out, HPV.out, by omega, hj, hmj, HG.out, H2.out⟩⟩
        case measure => simp [intOf]; omega
      · have hgz : ¬ (j : Int) < (i : Int) := by omega
        obtain ⟨k, hk⟩ : ∃ k, i + k = j := ⟨j - i, by omega⟩
        have ek : (j : Int) - (i : Int) = (k : Int) := by omega
        obtain ⟨t, ht⟩ : ∃ t, m + j = t + i := ⟨m + j - i, by omega⟩
        have et : (m : Int) + (j : Int) - (i : Int) = (t : Int) := by omega
        have HY : Hid ((V'.take k).length = k) := Lib.hid (by simp; omega)
        have HZ : Hid ((V'.drop k).length = i) := Lib.hid (by simp; omega)
        have HR : Hid (Rw w0 g q cap (P' ++ (U' ++ (V'.take k ++ (V'.drop k ++ Q')))) wr) := Lib.hid (by
          have e : V'.take k ++ (V'.drop k ++ Q') = V' ++ Q' := by rw [← List.append_assoc, List.take_append_drop]
          rw [e]; exact hR)
        have HG : Hid (P' ++ (V'.take k ++ (V'.drop k ++ (U' ++ Q'))) = G) := Lib.hid (by
          rw [← hG, ← List.append_assoc (V'.take k), List.take_append_drop])
        have HA : Hid (P'.length = p ∧ P'.length + i + (V'.take k).length = t ∧ U'.length = i) := Lib.hid ⟨hp, by rw [HY.out]; omega, lu⟩
        have HPZ : Hid (P'.length + i = m) := Lib.hid lp
        have hk0 : 0 < k := by omega
        clear hR hG lu lv lp hp hne
        go_wp2_with fail
        refine (swap_c w0 g q cap p t i P' U' (V'.take k) (V'.drop k) Q' fv _ HR.out hq HA.out.1 HA.out.2.1 HA.out.2.2 HZ.out).mono ?_
        rintro e w' ⟨rfl, h2⟩
        have H2 := Lib.hid h2
        clear h2
        go_wp2_with fail
        go_roundw
        case rel => exact ⟨i, k, rfl, by go_num, Lib.hid ⟨P', V'.drop k, V'.take k, U' ++ Q', HZ.out, HY.out, HPZ.out, hi, hk0, by omega, HG.out, H2.out⟩⟩
        case measure => simp [intOf]; omega
end Go.Proofs.Ytdbgpmfdiljopaa.Tick
