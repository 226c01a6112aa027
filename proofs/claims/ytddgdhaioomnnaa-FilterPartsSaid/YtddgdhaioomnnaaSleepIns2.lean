/-
  THE LIBRARY'S slices.Insert OF ONE sleep.Sleeper INTO A SLICE OF THE CALL'S OWN, where there is room: walked as it is written.
-/
import Derived.Test.YtddgdhaioomnnaaSleepIns
namespace Go.Proofs.Ytddgdhaioomnnaa.Sleep
open Go.ChangeShapes Go.WideShapes Go.ChangeAt Go.RowKit Mem

set_option maxRecDepth 100000 in
theorem info_sleeper : (Try.prog.info? 36).map (·.size) = some 5 := by kernel_rfl
set_option maxRecDepth 100000 in
theorem size_sleeper (w : World) : (Go.sizeOf 36).run Try.prog w = .ok 5 w := by
  have h := info_sleeper
  cases hi : Try.prog.info? 36 with
  | none => rw [hi] at h; cases h
  | some i =>
    rw [hi] at h
    injection h with h
    simp [Go.sizeOf, typeInfo, hi, h]
set_option maxRecDepth 100000 in
theorem overlaps_w (W : World) (g vb o lb cb vc : Nat) (cells : Array Value) (hne : vb ≠ g) (hb : Blk W g 36 cells) (hs : cells.size ≠ 0) (xs : Array Value) (hx : Blk W vb 36 xs) :
    (callFunc 70 #[.slice (some ⟨vb, 0, none⟩) 1 vc, .slice (some ⟨g, o, none⟩) lb cb]).run Try.prog W = .ok (.value (.bool false)) W := by
  rw [run_callFunc_extern Try.func70 (by kernel_rfl) (by kernel_rfl) (by kernel_rfl) (e := Extern.SlicesOverlaps.overlaps #[22, 22] #[4]) (by kernel_rfl),
    Lib.run_overlaps_apart W 22 4 36 Try.underlying22 5 size_sleeper ⟨vb, 0, none⟩ ⟨g, o, none⟩ 1 vc lb cb hne 36 36 xs.size cells.size
      (by unfold Blk at hx; simp [World.shape?, hx]) (by unfold Blk at hb; simp [World.shape?, hb]) hs (hx.frozen 0) (hx.frozen _)]
  rfl

set_option maxRecDepth 100000 in
set_option maxHeartbeats 4000000 in
theorem insert_room (w0 W : World) (g n c i : Nat) (L : List RawS) (x : RawS) (vb vc : Nat) (R : List Value) (hb : Blk W g 36 (ss L ++ R).toArray) (hl : L.length = n) (hR : R.length = (c - n) * 5) (hc : c ≤ maxLen)
    (hroom : n + 1 ≤ c) (hi : i < n) (hn : n ≤ 1000000) (hx : Blk W vb 36 (sc x).toArray) (hne : vb ≠ g) (hw0 : Below w0.heap.size w0 W) (hg : w0.heap.size ≤ g) :
    Calls Try.prog 54 #[.slice (some ⟨g, 0, none⟩) n c, .int .i64 i, .slice (some ⟨vb, 0, none⟩) 1 vc] W (RetOw w0 W (some g) (n + 1) (L.take i ++ x :: L.drop i)) := by
  have hov : ∀ o lb cb, (callFunc 70 #[.slice (some ⟨vb, 0, none⟩) 1 vc, .slice (some ⟨g, o, none⟩) lb cb]).run Try.prog W = .ok (.value (.bool false)) W := fun o lb cb =>
    overlaps_w W g vb o lb cb vc _ hne hb (by simp [ss_len]; omega) _ hx
  have HBK := Lib.hid hb
  have HX := Lib.hid hx
  have HLN := Lib.hid hl
  have HRL := Lib.hid hR
  have hz2 : ¬ ((i : Int) = (n : Int)) := by omega
  have hb2 : ¬ (c = i + 1) := by omega
  have hb4 : ¬ (c = i) := by omega
  have hin : i ≤ n := by omega
  have hic : i ≤ c := by omega
  have hin1 : i + 1 ≤ n + 1 := by omega
  have hc63 : c ≤ 9223372036854775807 := hc
  have hw1 : IntKind.i64.wrap ((i : Int) + 1) = (i : Int) + 1 := by rw [IntKind.wrap_i64]; omega
  have hb1 : (0 : Int) ≤ (i : Int) + 1 := by omega
  have htn : ((i : Int) + 1).toNat = i + 1 := by omega
  have hb3 : (i : Int) ≤ (n : Int) + 1 := by omega
  have hb5 : (i : Int) ≤ (n : Int) := by omega
  clear hb hx hl hR hc
  go_enter Try.func54, Try.ntmps54
  go_wp2_with (simp only [hov])
  have HS1 : Hid ((ss (L.drop i)).length = (n - i) * 5) := Lib.hid (by rw [ss_len, List.length_drop, HLN.out])
  have HLL : Hid ((ss L ++ R).length = c * 5) := Lib.hid (by rw [List.length_append, ss_len, HLN.out, HRL.out]; omega)
  have HSRC : Hid (∀ j v, (ss (L.drop i))[j]? = some v → W.cell? ⟨g, i * 5 + j, none⟩ = some v) := Lib.hid (fun j v hj => by
    refine HBK.out.cell _ v ?_
    have e1 : ss L = ss (L.take i) ++ ss (L.drop i) := by unfold ss; rw [← List.flatMap_append, List.take_append_drop]
    have l1 : (ss (L.take i)).length = i * 5 := by rw [ss_len, List.length_take, HLN.out]; omega
    have hlt := (List.getElem?_eq_some_iff.1 hj).1
    rw [List.getElem?_toArray, e1, List.append_assoc, List.getElem?_append_right (by omega), l1, Nat.add_sub_cancel_left, List.getElem?_append_left hlt]
    exact hj)
  obtain ⟨D, hD⟩ : ∃ D, ss (L.drop i) = D := ⟨_, rfl⟩
  obtain ⟨C0, hC0⟩ : ∃ C0, ss L ++ R = C0 := ⟨_, rfl⟩
  have HD := Lib.hid hD
  have HC0 := Lib.hid hC0
  have HD1 : Hid (∀ v ∈ D, v.oneCell' = true) := Lib.hid (by rw [← hD]; exact ss_one _)
  rw [hD] at HS1 HSRC
  rw [hC0] at HBK HLL
  clear hD hC0
  obtain ⟨C1, hC1⟩ : ∃ C1, splice C0 ((i + 1) * 5) D = C1 := ⟨_, rfl⟩
  have HC1 := Lib.hid hC1
  have HL1 : Hid (C1.length = c * 5) := Lib.hid (by rw [← hC1, length_splice _ _ _ (by rw [HS1.out, HLL.out]; omega), HLL.out])
  have HW1 : Hid (W.setRow g (splice C0 ((i + 1) * 5) D).toArray = W.setRow g C1.toArray) := Lib.hid (by rw [hC1])
  clear hC1
  go_region_law (refine step_copy_k rfl (.tmp 73) (.tmp 76) 22 22 rfl 36 Try.underlying22 5 info_sleeper g ((i + 1) * 5) (n + 1 - (i + 1)) (c - (i + 1)) ⟨g, i * 5, none⟩ (n + 1 - i) (c - i) (by simp [Act.eval, Act.put]) (by simp [Act.eval, Act.put]) C0 36 HBK.out D (n - i) (by show min _ _ = _; omega) HS1.out (fun j v hj => by rw [Mem.add_plain]; exact HSRC.out j v hj) (by rw [HS1.out, HLL.out]; omega) HD1.out ?_)
  have KG : Hid (Blk (W.drew.setRow g (splice C0 ((i + 1) * 5) D).toArray) g 36 C1.toArray) := Lib.hid (by
    rw [← HC1.out]
    exact setRow_heap W.drew g C0.toArray _ 36 _ HBK.out)
  have KX : Hid (Blk (W.drew.setRow g (splice C0 ((i + 1) * 5) D).toArray) vb 36 (sc x).toArray) := Lib.hid ((setRow_other W.drew g vb _ hne).trans HX.out)
  have B1 : Hid (Below w0.heap.size w0 (W.drew.setRow g (splice C0 ((i + 1) * 5) D).toArray)) := Lib.hid (below_setRow hw0.drew hg _)
  have HGA : Hid (W.grownBy (W.drew.setRow g (splice C0 ((i + 1) * 5) D).toArray) (some g)) := Lib.hid (by have h := setRow_grown W.drew g (splice C0 ((i + 1) * 5) D).toArray; exact ⟨h.os, h.tape, h.output, h.size, h.block⟩)
  clear HW1 HBK HX hov
  generalize W.drew.setRow g (splice C0 ((i + 1) * 5) D).toArray = W1 at *
  have HV1 : Hid (∀ j v, (sc x)[j]? = some v → W1.cell? ⟨vb, 0 + j, none⟩ = some v) := Lib.hid (fun j v hj => by
    rw [Nat.zero_add]
    exact KX.out.cell j v (by simpa using hj))
  have hcp := run_copy_k (P := Try.prog) W1 22 22 3 36 5 g (i * 5) (n + 1 - i) (c - i) ⟨vb, 0, none⟩ 1 vc C1 36 (sc x) Try.underlying22 info_sleeper KG.out 1 (by show min _ _ = _; omega) rfl (fun j v hj => by rw [Mem.add_plain]; exact HV1.out j v hj) (by rw [HL1.out]; show i * 5 + 5 ≤ _; omega) (sc_one _)
  have HEND : Hid (Own w0 (W1.setRow g (splice C1 (i * 5) (sc x)).toArray) 36 5 (.slice (some ⟨g, 0, none⟩) (n + 1) c) (n + 1) (ss (L.take i ++ x :: L.drop i))) := Lib.hid (by
    refine ⟨⟨by rw [ss_len]; simp [HLN.out]; omega, .inr ⟨g, c, (splice C1 (i * 5) (sc x)).toArray, rfl, hg, setRow_heap W1 g C1.toArray _ 36 _ KG.out, hroom, hc63, ?_, ?_⟩⟩, below_setRow B1.out hg _⟩
    · rw [List.size_toArray, length_splice _ _ _ (by rw [HL1.out]; show i * 5 + 5 ≤ _; omega), HL1.out]
    · rw [← HC1.out, ← HC0.out, ← HD.out, ins_cells L x i n R HLN.out hi (by rw [HRL.out]; omega)]
      rw [List.take_append_of_le_length (by rw [ss_len]; simp [HLN.out]; omega), List.take_of_length_le (by rw [ss_len]; simp [HLN.out]; omega)])
  have HGB := Lib.hid (grown_trans HGA.out (setRow_grown W1 g (splice C1 (i * 5) (sc x)).toArray))
  generalize W1.setRow g (splice C1 (i * 5) (sc x)).toArray = W2 at *
  go_wp2
  go_ret
  exact ⟨_, rfl, HEND.out, HGB.out⟩
end Go.Proofs.Ytddgdhaioomnnaa.Sleep
