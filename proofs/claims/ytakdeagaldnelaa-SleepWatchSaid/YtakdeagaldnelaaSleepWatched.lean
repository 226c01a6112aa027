/-
  WHAT THE FUNCTION Watched OF THE LAYER sleep RETURNS, AS IT IS WRITTEN, AND WHAT THE DOCUMENT'S ANSWER RETURNS FOR IT.
-/
import Derived.Test.YtakdeagaldnelaaSleepMem
import Derived.Test.YtakdeagaldnelaaReadsB
import Derived.Test.YtakdeagaldnelaaReadsA
import Derived.Test.YtakdeagaldnelaaWritesA
import Derived.Test.YtakdeagaldnelaaMemA
namespace Go.Proofs.Ytakdeagaldnelaa.Sleep
open Go.ChangeShapes Go.WideShapes Go.ChangeAt Go.RowKit Mem
open Heap (Write)

theorem cells_found (l : List Reads.Read) (k : Nat) (c : Int) (h : (Reads.cellsS l)[k]? = some c) : ∃ x, Reads.rightB l = true ∧ Reads.findS l c = some x ∧ x.cell = c ∧ valOf l c = x.value := by
  cases hr : Reads.rightB l
  · unfold Reads.cellsS at h; rw [hr] at h; simp at h
  · have hm := List.mem_of_getElem? h
    unfold Reads.cellsS at hm
    rw [if_pos hr] at hm
    have h2 := (Reads.sort_perm _).mem_iff.1 hm
    obtain ⟨y, hy, hyc⟩ := List.mem_map.1 h2
    have h3 : Reads.hasB l c = true := by unfold Reads.hasB; rw [List.any_eq_true]; exact ⟨y, hy, by simpa using hyc⟩
    rw [← Reads.find_has] at h3
    cases hf : Reads.findS l c with
    | none => rw [hf] at h3; cases h3
    | some x => exact ⟨x, rfl, rfl, (Reads.find_some l c x hf).2, by unfold valOf; rw [hf]⟩
def wOf (l : List Reads.Read) (c : Int) : Write := ⟨c, valOf l c⟩
theorem watched_map (l : List Reads.Read) : watchedS l = (Reads.cellsS l).map (wOf l) := rfl
theorem wmap_take (l : List Reads.Read) (C : List Int) (k : Nat) (c : Int) (h : C[k]? = some c) : (C.take (k + 1)).map (wOf l) = (C.take k).map (wOf l) ++ [wOf l c] := by
  rw [List.take_add_one, h]; simp
theorem ws_app (a b : List Write) : Heap.ws (a ++ b) = Heap.ws a ++ Heap.ws b := by unfold Heap.ws; rw [List.flatMap_append]
set_option maxRecDepth 100000 in
set_option maxHeartbeats 4000000 in
theorem watched_c (l : List Reads.Read) (A : Option Addr) (n c : Nat) (w : World) (q : Nat) (hr : Rd w 3 A n (Reads.ds l)) (hnc : n ≤ c) (hn : n ≤ 1000000) (hq : (watchedS l).length = q) :
    Calls Try.prog 26 #[.slice A n c] w (RetO w 62 2 q (Heap.ws (watchedS l))) := by
  obtain ⟨C, hC⟩ : ∃ C, Reads.cellsS l = C := ⟨_, rfl⟩
  have HC := Lib.hid hC
  have HWS : Hid (watchedS l = C.map (wOf l)) := Lib.hid (by rw [watched_map, hC])
  have HCQ : Hid (C.length = q) := Lib.hid (by rw [← hq, HWS.out, List.length_map])
  have HR := Lib.hid hr
  have HQN : q ≤ 1000000 := by
    have h1 := Reads.cells_len l
    have h2 := Reads.ds_len hr
    rw [hC, HCQ.out] at h1; omega
  have HCC := Lib.hid (Reads.cells_c l A n c w C q hr hnc hn hC HCQ.out)
  clear hr hq hC
  go_enter Try.func26, Try.ntmps26
  go_wp2_with fail
  refine HCC.out.mono ?_
  rintro e w1 ⟨E, d, rfl, hE, hb⟩
  have HB1 := Lib.hid hb
  have HE := Lib.hid hE
  clear hb hE HCC
  go_wp2
  go_loopw [3, 11] (fun v i wr => ∃ k : Nat, k ≤ q ∧ i = .int .i64 k ∧ Own w1 wr 62 2 v k (Heap.ws ((C.take k).map (wOf l)))) (fun _ i _ => q - (intOf i).toNat)
  case atStart => exact ⟨0, Nat.zero_le _, rfl, Own.nil_ (Below.refl _ _)⟩
  case round =>
    obtain ⟨k, hk, rfl, hown⟩ := hrel
    generalize wr = w2 at *
    by_cases hlt : k < q
    · obtain ⟨b, off, z, rfl, hx, c0⟩ := at_z (HE.out.below hown.2) k hlt
      have HT := Lib.hid (wmap_take l C k z hx)
      obtain ⟨⟨xc, xv, xl⟩, h1, h2, h3, h4⟩ := cells_found l k z (by rw [HC.out]; exact hx)
      have HF : Hid (Reads.findR l z = (⟨xc, xv, xl⟩, true)) := Lib.hid (by unfold Reads.findR; rw [if_pos h1, h2])
      have HXZ : Hid (xc = z) := Lib.hid h3
      have HVL : Hid (wOf l z = ⟨z, xl⟩) := Lib.hid (by unfold wOf; rw [h4])
      have HFC := Lib.hid (Reads.findR_c l A n c z w2 _ (HR.out.below (bl_trans HB1.out hown.2)) hnc hn HF.out)
      clear hx h1 h2 h3 h4
      go_wp2_with fail
      refine HFC.out.mono ?_
      rintro e w3 ⟨rfl, b3⟩
      have hown3 := hown.below b3
      clear b3 HFC hown
      go_wp2_with (at_builtin; refine append_rd rfl _ _ 23 rfl Writes.tWrite w1 _ _ _ rfl ((hown3.alloc _).alloc _) _ 1 1 [.int .i64 xc, .int .i64 xl] rfl (Rd.builtAt _ 2 1 [.int .i64 xc, .int .i64 xl] _ rfl (by simp)) (one_cons rfl (one_cons rfl one_nil)) (by omega) (by omega) ?_; intro v' w' hown' hg; clear hg)
      go_roundw
      case rel => exact ⟨k + 1, by omega, by go_num, by rw [HT.out, HVL.out, ws_app]; have h9 := hown'; rw [HXZ.out] at h9; exact h9⟩
      case measure => simp [intOf]; omega
    · have ho := hown
      rw [List.take_of_length_le (by rw [HCQ.out]; omega), ← HWS.out] at ho
      obtain rfl : k = q := by omega
      have HO := Lib.hid ho
      clear hown ho
      go_wp2
      go_ret
      exact ⟨_, rfl, HO.out.wide HB1.out⟩

set_option maxRecDepth 100000 in
set_option maxHeartbeats 4000000 in
theorem refwatched (l : List Reads.Read) (A : Option Addr) (n c : Nat) (w : World) (q : Nat) (hr : Rd w 3 A n (Reads.ds l)) (hn : n ≤ 1000000) (hq : (watchedS l).length = q) :
    Calls Try.prog 28 #[.slice A n c] w (RetO w 62 2 q (Heap.ws (watchedS l))) := by
  have HL := Lib.hid (Reads.ds_len hr)
  have HR := Lib.hid hr
  have HQ := Lib.hid hq
  clear hr hq
  obtain ⟨b1, h1⟩ : ∃ b, Reads.rightB l = b := ⟨_, rfl⟩
  have H1 := Lib.hid h1
  have HRC := Lib.hid (Reads.right_g l A n c w b1 HR.out hn h1)
  clear h1
  go_enter Try.func28, Try.ntmps28
  go_wp2_with fail
  refine HRC.out.mono ?_
  rintro e w1 ⟨rfl, g1⟩
  have HB1 := Lib.hid g1.below
  clear g1 HRC
  cases b1
  · have HF : Hid (watchedS l = []) := Lib.hid (by unfold watchedS Reads.cellsS; rw [H1.out]; rfl)
    have HN : Hid (q = 0) := Lib.hid (by rw [← HQ.out, HF.out]; rfl)
    obtain rfl := HN.out
    go_wp2
    go_ret
    exact ⟨_, rfl, by rw [HF.out]; exact Own.nil_ HB1.out⟩
  · obtain ⟨C, hC⟩ : ∃ C, Reads.cellsS l = C := ⟨_, rfl⟩
    have HC := Lib.hid hC
    have HWS : Hid (watchedS l = C.map (wOf l)) := Lib.hid (by rw [watched_map, hC])
    have HSC : Hid (Reads.sortZ (l.map Reads.Read.cell) = C) := Lib.hid (by rw [← hC]; unfold Reads.cellsS; rw [if_pos H1.out])
    have HCN : Hid (C.length = n) := Lib.hid (by rw [← HSC.out, Reads.sort_len, List.length_map, HL.out])
    have HNQ : Hid (n = q) := Lib.hid (by rw [← HQ.out, HWS.out, List.length_map, HCN.out])
    obtain rfl := HNQ.out
    have HCC := Lib.hid (Reads.refcells l A n c w1 C (HR.out.below HB1.out) hn H1.out HSC.out)
    clear hC
    go_wp2_with fail
    refine HCC.out.mono ?_
    rintro e w2 ⟨E, d, rfl, hE, hb⟩
    have HB2 := Lib.hid (bl_trans HB1.out hb)
    have HE := Lib.hid hE
    clear hb hE HCC
    go_wp2
    go_loopw [3, 6] (fun v i wr => ∃ k : Nat, k ≤ n ∧ i = .int .i64 k ∧ Own w2 wr 62 2 v k (Heap.ws ((C.take k).map (wOf l)))) (fun _ i _ => n - (intOf i).toNat)
    case atStart => exact ⟨0, Nat.zero_le _, rfl, Own.nil_ (Below.refl _ _)⟩
    case round =>
      obtain ⟨k, hk, rfl, hown⟩ := hrel
      generalize wr = w3 at *
      obtain ⟨Bv, dv, rfl, _⟩ := hown.form
      have HOWN := Lib.hid hown
      clear hown
      by_cases hlt : k < n
      · obtain ⟨b, off, z, rfl, hx, c0⟩ := at_z (HE.out.below HOWN.out.2) k hlt
        have HT := Lib.hid (wmap_take l C k z hx)
        obtain ⟨x0, h1, h2, h3, h4⟩ := cells_found l k z (by rw [HC.out]; exact hx)
        have HB3 := Lib.hid (bl_trans HB2.out HOWN.out.2)
        have HFC := Lib.hid (Reads.find_p l A n c z w3.drew (HR.out.below HB3.out).drew hn)
        -- the place of it
        obtain ⟨j, y, hjy, hfy⟩ : ∃ (j : Nat) (y : Reads.Read), l[j]? = some y ∧ Reads.findS l z = some y ∧ ∀ p, Reads.IsPlace l z p → p = (j : Int) := by
          obtain ⟨j, hj, hjl⟩ := List.getElem_of_mem (Reads.find_some l z x0 h2).1
          refine ⟨j, x0, by rw [List.getElem?_eq_getElem hj, hjl], h2, fun p hp => ?_⟩
          rcases hp with ⟨-, hp⟩ | ⟨j2, x2, rfl, hx2, hf2⟩
          · rw [h2] at hp; cases hp
          · rw [h2] at hf2
            injection hf2 with hf2
            subst hf2
            congr 1
            have hnd := Reads.right_nodup l h1
            have e1 : (l.map Reads.Read.cell)[j]? = some x0.cell := by rw [List.getElem?_map, List.getElem?_eq_getElem hj, hjl]; rfl
            have e2 : (l.map Reads.Read.cell)[j2]? = some x0.cell := by rw [List.getElem?_map, hx2]; rfl
            obtain ⟨a1, a2⟩ := List.getElem?_eq_some_iff.1 e1
            obtain ⟨a3, a4⟩ := List.getElem?_eq_some_iff.1 e2
            exact (List.getElem_inj hnd).1 (a4.trans a2.symm)
        obtain ⟨hfy, hpl⟩ := hfy
        have hyx : x0 = y := by rw [h2] at hfy; injection hfy
        subst hyx
        have hjn : j < n := by have := (List.getElem?_eq_some_iff.1 hjy).1; rw [HL.out] at this; exact this
        obtain ⟨b2, off2, ⟨yc, yv, yl⟩, rfl, hy, d0, d1, d2⟩ := Reads.at_read (HR.out.below HB3.out) j hjn
        have hyy : (⟨yc, yv, yl⟩ : Reads.Read) = x0 := by rw [hjy] at hy; injection hy with hy; exact hy.symm
        have HVL : Hid (wOf l z = ⟨z, yl⟩) := Lib.hid (by unfold wOf; rw [h4, ← hyy])
        have HPL := Lib.hid hpl
        have HFC2 : Hid (Calls Try.prog 44 #[.slice (some ⟨b2, off2, none⟩) n c, .int .i64 z] w3.drew fun e w' => e = .returned (.int .i64 (j : Int)) ∧ w3.drew = w') := Lib.hid (HFC.out.mono (by
          rintro e w' ⟨p, rfl, hp, rfl⟩
          exact ⟨by rw [HPL.out p hp], rfl⟩))
        have hb1 : (k + 1) * 16 ≤ 140737488355328 := by omega
        have hb2 : k + 1 ≤ 9223372036854775807 := by omega
        clear hx h1 h2 h3 h4 hjy hfy hpl hy hyy HFC
        go_wp2_with fail
        go_region_law
          (first
          | (refine call_step ?_ 44 #[.slice (some ⟨b2, off2, none⟩) n c, .int .i64 z] (.int .i64 (j : Int)) HFC2.out ?_ ?_; (focus rfl); (focus (go_simp; done)))
          | (refine append_step (by rfl) _ _ 23 (by rfl) Writes.tWrite w2 (.slice Bv k dv) k (Heap.ws ((C.take k).map (wOf l))) (by rfl) (HOWN.out.alloc _).drew _ 1 1 [.int .i64 z, .int .i64 yl] (by rfl) (Rd.built w3 2 1 [.int .i64 z, .int .i64 yl] _ rfl).drew (one_cons rfl (one_cons rfl one_nil)) hb1 hb2 ?_
             intro v5 w5 ho5 hg5 hat5
             have HO5 := Lib.hid ho5
             clear ho5 hg5 hat5))
        all_goals
          go_wp2
          go_roundw
          case rel => exact ⟨k + 1, by omega, by go_num, by rw [HT.out, HVL.out, ws_app]; exact HO5.out⟩
          case measure => simp [intOf]; omega
      · have ho := HOWN.out
        rw [List.take_of_length_le (by rw [HCN.out]; omega), ← HWS.out] at ho
        obtain rfl : k = n := by omega
        have HO := Lib.hid ho
        clear ho
        go_wp2
        go_ret
        exact ⟨_, rfl, HO.out.wide HB2.out⟩
end Go.Proofs.Ytakdeagaldnelaa.Sleep
