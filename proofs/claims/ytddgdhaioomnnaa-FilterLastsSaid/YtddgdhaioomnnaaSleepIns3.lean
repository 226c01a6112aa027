/-
  THE LIBRARY'S slices.Insert OF ONE sleep.Sleeper INTO A SLICE OF THE CALL'S OWN, where there is no room; and all its ways together.
-/
import Derived.Test.YtddgdhaioomnnaaSleepIns2
namespace Go.Proofs.Ytddgdhaioomnnaa.Sleep
open Go.ChangeShapes Go.WideShapes Go.ChangeAt Go.RowKit Mem

set_option maxRecDepth 100000 in
set_option maxHeartbeats 4000000 in
theorem insert_grow (w0 W : World) (g n c i : Nat) (L : List RawS) (x : RawS) (vb vc : Nat) (R : List Value) (hb : Blk W g 36 (ss L ++ R).toArray) (hl : L.length = n)
    (hnc : n ≤ c) (hroom : c < n + 1) (hi : i < n) (hn : n ≤ 1000000) (hx : Blk W vb 36 (sc x).toArray) (hw0 : Below w0.heap.size w0 W) :
    Calls Try.prog 54 #[.slice (some ⟨g, 0, none⟩) n c, .int .i64 i, .slice (some ⟨vb, 0, none⟩) 1 vc] W (RetOw w0 W (some g) (n + 1) (L.take i ++ x :: L.drop i)) := by
  have HBK := Lib.hid hb
  have HX := Lib.hid hx
  have HLN := Lib.hid hl
  have hgw := hb.lt
  have hvw := hx.lt
  have hinfo : (Try.prog.info? 36).map (fun i => (i.zero, i.size, i.bytes)) = some (some (.agg #[.int .i64 0, .int .i64 0, .int .i64 0, .slice none 0 0, .slice none 0 0]), 5, 72) := by kernel_rfl
  obtain ⟨i0, hi0, hz0, hzs, hzb⟩ := info_parts hinfo
  clear hinfo
  have hik : i + (n + 1 - i) = n + 1 := by omega
  have hcells : ∀ j v, (ss L)[j]? = some v → W.cell? ⟨g, j, none⟩ = some v := fun j v hj => hb.cell j v (by
    rw [List.getElem?_toArray, List.getElem?_append_left (List.getElem?_eq_some_iff.1 hj).1]; exact hj)
  have e1 : ss L = ss (L.take i) ++ ss (L.drop i) := by unfold ss; rw [← List.flatMap_append, List.take_append_drop]
  have l1 : (ss (L.take i)).length = i * 5 := by rw [ss_len, List.length_take, hl]; omega
  have l2 : (ss (L.drop i)).length = (n - i) * 5 := by rw [ss_len, List.length_drop, hl]
  have hold : (Builtin.firstCells i0.size i (.slice (some ⟨g, 0, none⟩) i c)).run Try.prog W.drew = .ok (ss (L.take i)).toArray W.drew := by
    rw [hzs]
    exact run_firstCells_some W.drew 5 i ⟨g, 0, none⟩ i c (ss (L.take i)) l1 (fun j v hj => by
      rw [Mem.add_plain, Nat.zero_add]
      exact hcells j v (by rw [e1, List.getElem?_append_left (List.getElem?_eq_some_iff.1 hj).1]; exact hj))
  have hrz := Lib.run_append_grow_zeros W 22 3 22 36 i0 _ .i64 .i64 Try.underlying22 Try.underlying3 hi0 hz0 (some ⟨g, 0, none⟩) i c (ss (L.take i)) hold (n + 1 - i) (by omega) (by omega) (by omega) (by omega) (by rw [hzb]; omega) (by rw [hzb, hik]; exact growslice_fits hroom (by omega))
  have hGn : n + 1 ≤ grownCap W (n + 1) c 36 := grownCap_ge W _ _ _
  have hGm : grownCap W (n + 1) c 36 ≤ maxLen := grownCap_le_maxLen W _ _ _ (by unfold maxLen; omega)
  rw [hik] at hrz
  generalize grownCap W (n + 1) c 36 = G at *
  obtain ⟨Z, hZ⟩ : ∃ Z : List Value, Z = (Builtin.zeroCells (Value.agg #[.int .i64 0, .int .i64 0, .int .i64 0, .slice none 0 0, .slice none 0 0]).cells (n + 1 - i)).toList ++ (Builtin.zeroCells (Value.agg #[.int .i64 0, .int .i64 0, .int .i64 0, .slice none 0 0, .slice none 0 0]).cells (G - (n + 1))).toList := ⟨_, rfl⟩
  have hZl : Z.length = (G - i) * 5 := by
    rw [hZ, List.length_append, Array.length_toList, Array.length_toList, size_zeroCells, size_zeroCells]
    show (n + 1 - i) * 5 + (G - (n + 1)) * 5 = _
    omega
  have hrow : (ss (L.take i)).toArray ++ Builtin.zeroCells (Value.agg #[.int .i64 0, .int .i64 0, .int .i64 0, .slice none 0 0, .slice none 0 0]).cells (n + 1 - i) ++ Builtin.zeroCells (Value.agg #[.int .i64 0, .int .i64 0, .int .i64 0, .slice none 0 0, .slice none 0 0]).cells (G - (n + 1)) = (ss (L.take i) ++ Z).toArray := by
    rw [hZ]; apply Array.ext'; simp
  rw [hrow] at hrz
  clear hrow hZ hold hcells
  obtain ⟨Wa, hWa⟩ : ∃ Wa, W.drew.alloc (.cells (ss (L.take i) ++ Z).toArray 36) = Wa := ⟨_, rfl⟩
  rw [hWa] at hrz
  obtain ⟨h, hh⟩ : ∃ h, W.heap.size = h := ⟨_, rfl⟩
  have KA : Hid (Blk Wa h 36 (ss (L.take i) ++ Z).toArray) := Lib.hid (by rw [← hWa, ← hh]; exact Blk.new W.drew _ _)
  have BA : Hid (Below W.heap.size W Wa) := Lib.hid (by rw [← hWa]; exact bl_alloc (Below.refl _ W).drew _)
  have hwh : Hid (w0.heap.size ≤ h) := Lib.hid (by rw [← hh]; exact hw0.size)
  rw [hh] at hrz hgw hvw
  have hgh : g ≠ h := by omega
  have hvh : vb ≠ h := by omega
  have HKG : Hid (Blk Wa g 36 (ss L ++ R).toArray) := Lib.hid (HBK.out.below BA.out)
  have HKX : Hid (Blk Wa vb 36 (sc x).toArray) := Lib.hid (HX.out.below BA.out)
  have HB0 : Hid (Below w0.heap.size w0 Wa) := Lib.hid (bl_trans hw0 BA.out)
  have hcA := run_copy_k (P := Try.prog) Wa 22 22 3 36 5 h (i * 5) (n + 1 - i) (G - i) ⟨vb, 0, none⟩ 1 vc (ss (L.take i) ++ Z) 36 (sc x) Try.underlying22 info_sleeper KA.out 1 (by show min _ _ = _; omega) rfl (fun j v hj => by rw [Mem.add_plain, Nat.zero_add]; exact HKX.out.cell j v (by simpa using hj)) (by rw [List.length_append, l1, hZl]; show i * 5 + 5 ≤ _; omega) (sc_one _)
  obtain ⟨Wb, hWb⟩ : ∃ Wb, Wa.setRow h (splice (ss (L.take i) ++ Z) (i * 5) (sc x)).toArray = Wb := ⟨_, rfl⟩
  rw [hWb] at hcA
  obtain ⟨C1, hC1⟩ : ∃ C1, splice (ss (L.take i) ++ Z) (i * 5) (sc x) = C1 := ⟨_, rfl⟩
  have KB : Hid (Blk Wb h 36 C1.toArray) := Lib.hid (by rw [← hWb, ← hC1]; exact setRow_heap Wa h _ _ 36 _ KA.out)
  have KGB : Hid (Blk Wb g 36 (ss L ++ R).toArray) := Lib.hid (by rw [← hWb]; exact (setRow_other Wa h g _ hgh).trans HKG.out)
  have HBW : Hid (Below W.heap.size W Wb) := Lib.hid (by rw [← hWb]; exact below_setRow BA.out (Nat.le_of_eq hh) _)
  have HHH := Lib.hid hh
  have BB : Hid (Below w0.heap.size w0 Wb) := Lib.hid (by rw [← hWb]; exact below_setRow HB0.out hwh.out _)
  have HL1 : Hid (C1.length = G * 5) := Lib.hid (by
    rw [← hC1, length_splice _ _ _ (by rw [List.length_append, l1, hZl]; show i * 5 + 5 ≤ _; omega), List.length_append, l1, hZl]; omega)
  have HEND : Hid (∀ W', Blk W' h 36 (splice C1 ((i + 1) * 5) (ss (L.drop i))).toArray → Below w0.heap.size w0 W' → Own w0 W' 36 5 (.slice (some ⟨h, 0, none⟩) (n + 1) G) (n + 1) (ss (L.take i ++ x :: L.drop i))) := Lib.hid (fun W' hk hbl => by
    refine ⟨⟨by rw [ss_len]; simp [HLN.out]; omega, .inr ⟨h, G, _, rfl, hwh.out, hk, hGn, hGm, ?_, ?_⟩⟩, hbl⟩
    · rw [List.size_toArray, length_splice _ _ _ (by rw [HL1.out, l2]; omega), HL1.out]
    · have e3 : ss (L.take i ++ x :: L.drop i) = ss (L.take i) ++ (sc x ++ ss (L.drop i)) := by unfold ss; simp
      have e4 := grow_cells (ss (L.take i)) (ss (L.drop i)) Z (sc x) rfl
      rw [l1] at e4
      rw [e3, ← hC1, show (i + 1) * 5 = i * 5 + 5 by omega, e4]
      have l5 : (ss (L.take i) ++ (sc x ++ ss (L.drop i))).length = (n + 1) * 5 := by
        rw [List.length_append, List.length_append, l1, l2]; show i * 5 + (5 + _) = _; omega
      rw [List.take_append_of_le_length (by rw [l5]; exact Nat.le_refl _), List.take_of_length_le (by rw [l5]; exact Nat.le_refl _)])
  have HSRC : Hid (∀ j v, (ss (L.drop i))[j]? = some v → Wb.cell? ⟨g, i * 5 + j, none⟩ = some v) := Lib.hid (fun j v hj => by
    refine KGB.out.cell _ v ?_
    have hlt := (List.getElem?_eq_some_iff.1 hj).1
    rw [List.getElem?_toArray, e1, List.append_assoc, List.getElem?_append_right (by omega), l1, Nat.add_sub_cancel_left, List.getElem?_append_left hlt]
    exact hj)
  obtain ⟨D, hD⟩ : ∃ D, ss (L.drop i) = D := ⟨_, rfl⟩
  have HS1 : Hid (D.length = (n - i) * 5) := Lib.hid (by rw [← hD]; exact l2)
  have HD1 : Hid (∀ v ∈ D, v.oneCell' = true) := Lib.hid (by rw [← hD]; exact ss_one _)
  rw [hD] at HSRC HEND
  clear hWa hWb hC1 hD e1 l1 l2 hZl hh BA KA HKG HKX HB0 HBK HX hb hx hi0 hz0 hzs hzb
  have hkk : (n : Int) + 1 - (i : Int) = ((n + 1 - i : Nat) : Int) := by omega
  have hz2 : ¬ ((i : Int) = (n : Int)) := by omega
  have hz3 : (c : Int) < (n : Int) + 1 := by omega
  have hci : ¬ (c = i) := by omega
  have hGi : ¬ (G = i) := by omega
  have hGi1 : ¬ (G = i + 1) := by omega
  have hin : i ≤ n := by omega
  have hic : i ≤ c := by omega
  have hG63 : G ≤ 9223372036854775807 := hGm
  have hw1 : IntKind.i64.wrap ((i : Int) + 1) = (i : Int) + 1 := by rw [IntKind.wrap_i64]; omega
  have hb1 : (0 : Int) ≤ (i : Int) + 1 := by omega
  have htn : ((i : Int) + 1).toNat = i + 1 := by omega
  have hb3 : (i : Int) ≤ (n : Int) + 1 := by omega
  have hb5 : (i : Int) ≤ (n : Int) := by omega
  rw [← hkk] at hrz
  clear hkk hik
  go_enter Try.func54, Try.ntmps54
  go_wp2_with (at_builtin; refine Lib.wpList_append_run _ rfl _ _ _ _ rfl _ _ rfl rfl _ _ hrz ?_)
  go_region_law (refine step_copy_k rfl (.tmp 50) (.tmp 53) 22 22 rfl 36 Try.underlying22 5 info_sleeper h ((i + 1) * 5) (n + 1 - (i + 1)) (G - (i + 1)) ⟨g, i * 5, none⟩ (n - i) (c - i) (by simp [Act.eval, Act.put]) (by simp [Act.eval, Act.put]) C1 36 KB.out D (n - i) (by show min _ _ = _; omega) HS1.out (fun j v hj => by rw [Mem.add_plain]; exact HSRC.out j v hj) (by rw [HS1.out, HL1.out]; omega) HD1.out ?_)
  have HE2 := Lib.hid (HEND.out (Wb.drew.setRow h (splice C1 ((i + 1) * 5) D).toArray) (setRow_heap Wb.drew h C1.toArray _ 36 _ KB.out) (below_setRow BB.out.drew hwh.out _))
  clear HEND
  have HGW : Hid (W.grownBy (Wb.drew.setRow h (splice C1 ((i + 1) * 5) D).toArray) (some g)) := Lib.hid (below_grown (below_setRow HBW.out.drew (Nat.le_of_eq HHH.out) _))
  generalize Wb.drew.setRow h (splice C1 ((i + 1) * 5) D).toArray = W2 at *
  go_wp2
  go_ret
  exact ⟨_, rfl, HE2.out, HGW.out⟩

/-- One more, at whatever place. -/
theorem insert_c (w0 W : World) (v : Value) (n i : Nat) (L : List RawS) (x : RawS) (vb vc : Nat) (ho : Own w0 W 36 5 v n (ss L)) (hi : i ≤ n) (hn : n ≤ 1000000)
    (hx : Blk W vb 36 (sc x).toArray) (hne : v.ownBlock ≠ some vb) :
    Calls Try.prog 54 #[v, .int .i64 i, .slice (some ⟨vb, 0, none⟩) 1 vc] W (RetOw w0 W v.ownBlock (n + 1) (L.take i ++ x :: L.drop i)) := by
  have hl : L.length = n := by have := ho.1.1; rw [ss_len] at this; omega
  by_cases hin : i = n
  · subst hin
    have e : L.take i ++ (x : RawS) :: L.drop i = L ++ [x] := by rw [List.take_of_length_le (by omega), List.drop_of_length_le (by omega)]
    rw [e]
    refine insert_end w0 W v i L x vb vc ho hn ⟨rfl, fun _ => ⟨vb, 0, rfl, fun j u hu => ?_⟩⟩
    rw [Nat.zero_add]
    exact hx.cell j u (by simpa using hu)
  · rcases ho.1.2 with ⟨_, h0⟩ | ⟨g, c, cur, rfl, hg, hh, hnc, hcm, hsz, htk⟩
    · omega
    · have hcur : cur = (ss L ++ cur.toList.drop (n * 5)).toArray := by
        rw [← htk, List.take_append_drop]
      have hb : Blk W g 36 (ss L ++ cur.toList.drop (n * 5)).toArray := by rw [← hcur]; exact hh
      by_cases hr : n + 1 ≤ c
      · exact insert_room w0 W g n c i L x vb vc _ hb hl (by rw [List.length_drop, Array.length_toList, hsz]; omega) hcm hr (by omega) hn hx (fun e => hne (by rw [e]; rfl)) ho.2 hg
      · exact insert_grow w0 W g n c i L x vb vc _ hb hl hnc (by omega) (by omega) hn hx ho.2
end Go.Proofs.Ytddgdhaioomnnaa.Sleep
