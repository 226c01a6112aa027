/-
  THE WALK OF THE LAW SleepReads.
-/
import Derived.Test.YtakdeagaldnelaaSleepAwake
import Derived.Test.YtakdeagaldnelaaReadsA
import Derived.Test.YtakdeagaldnelaaWritesA
namespace Go.Proofs.Ytakdeagaldnelaa.Sleep
open Go.ChangeShapes Go.WideShapes Go.ChangeAt Go.RowKit Mem
open Heap (Write)

theorem watched_cells (l : List Reads.Read) : (watchedS l).map Write.cell = Reads.cellsS l := by
  unfold watchedS
  rw [List.map_map]
  exact List.map_id _
theorem watched_len (l : List Reads.Read) : (watchedS l).length ≤ 24 := by
  unfold watchedS
  rw [List.length_map]
  unfold Reads.cellsS
  split
  · rename_i h
    rw [Reads.sort_len, List.length_map]
    exact Reads.right_len l h
  · simp
theorem watched_right (l : List Reads.Read) (hh : l.all (fun r => decide (r.cell ≤ 63)) = true) : watchB (watchedS l) = true := by
  unfold watchB goodW
  rw [decide_eq_true (watched_len l), Bool.true_and, Bool.and_eq_true]
  constructor
  · rw [List.all_eq_true]
    intro w hw
    obtain ⟨k, hk, e⟩ := List.getElem_of_mem hw
    have hc : (Reads.cellsS l)[k]? = some w.cell := by
      rw [← watched_cells l, List.getElem?_map, List.getElem?_eq_getElem hk, e]; rfl
    obtain ⟨x, h1, h2, h3, h4⟩ := cells_found l k w.cell hc
    have hx := (Reads.find_some l w.cell x h2).1
    have ho := Reads.right_one l h1 x hx
    rw [List.all_eq_true] at hh
    have h63 := hh x hx
    rw [decide_eq_true_eq] at h63
    have hv : w.value = x.value := by
      rw [← h4]
      have : w = ⟨w.cell, valOf l w.cell⟩ := by
        have h5 : (watchedS l)[k]? = some (⟨w.cell, valOf l w.cell⟩ : Write) := by
          rw [watched_map, List.getElem?_map, hc]; rfl
        rw [List.getElem?_eq_getElem hk, e] at h5
        injection h5
      exact congrArg Write.value this
    unfold wOk
    rw [hv]
    unfold Reads.oneB at ho
    rw [Bool.and_eq_true, Bool.and_eq_true, decide_eq_true_eq] at ho
    rw [ho.2.2, decide_eq_true ⟨by omega, by omega⟩]; rfl
  · unfold upB
    rw [watched_cells, decide_eq_true_eq]
    unfold Reads.cellsS
    split
    · rename_i h
      exact Reads.sort_strict _ (Reads.right_nodup l h)
    · exact List.Pairwise.nil
theorem watched_add (l : List Reads.Read) (k : Int) (h1 : 1 ≤ k) (h8 : k ≤ 8) (hh : l.all (fun r => decide (r.cell ≤ 63)) = true) : (addS [] ⟨k, 1, 0, watchedS l, []⟩).2 = 0 := by
  have ho : oneB ⟨k, 1, 0, watchedS l, []⟩ = true := by
    unfold oneB
    dsimp only
    rw [decide_eq_true ⟨h1, h8⟩, watched_right l hh]
    rfl
  have : addS [] ⟨k, 1, 0, watchedS l, []⟩ = (insS [] ⟨k, 1, 0, watchedS l, []⟩, 0) := by
    show (if (rightB [] && oneB _) = true then _ else _) = _
    rw [ho]; rfl
  rw [this]
set_option maxRecDepth 100000 in
set_option maxHeartbeats 4000000 in
theorem reads_walk (A : Option Addr) (n c : Nat) (l : List Reads.Read) (u : Int) (w : World) (hnc : n ≤ c) (mn : n ≤ 9223372036854775807) (hr : Rd w 3 A n (Reads.ds l)) (hu : 0 ≤ u ∧ u ≤ 255) :
    Calls Try.prog 4 #[.slice A n c, .int .u8 u] w (RetB w true) := by
  have HL := Lib.hid (Reads.ds_len hr)
  have HR := Lib.hid hr
  obtain ⟨u0, u1⟩ := hu
  obtain ⟨un, rfl⟩ := Int.eq_ofNat_of_zero_le u0
  clear hr
  by_cases h40 : 40 < n
  · go_enter Try.func4, Try.ntmps4
    go_wp2_with fail
    refine (awake_any _).mono ?_
    rintro e w1 ⟨rfl, b1⟩
    go_wp2
    go_ret
    exact ⟨rfl, b1⟩
  · have hn : n ≤ 40 := by omega
    obtain ⟨q, hq⟩ : ∃ q, (watchedS l).length = q := ⟨_, rfl⟩
    have HQ := Lib.hid hq
    have hq24 : q ≤ 24 := by rw [← hq]; exact watched_len l
    have F1 := Lib.hid (watched_c l A n c w q HR.out hnc (by omega) hq)
    clear hq
    go_enter Try.func4, Try.ntmps4
    go_wp2_with fail
    refine F1.out.mono ?_
    rintro e w1 ⟨v1, rfl, o1⟩
    obtain ⟨B1, d1, rfl, r1⟩ := o1.form
    have B1' := Lib.hid o1.2
    have R1 := Lib.hid r1
    clear o1 r1 F1
    go_wp2
    go_loopw [6, 19] (fun v i wr => ∃ (k : Nat) (hi : Bool), k ≤ n ∧ v = .bool hi ∧ i = .int .i64 k ∧ Hid (Below w1.heap.size w1 wr) ∧ Hid ((l.take k).all (fun r => decide (r.cell ≤ 63)) = !hi)) (fun _ i _ => n - (intOf i).toNat)
    case atStart => exact ⟨0, false, Nat.zero_le _, rfl, rfl, Lib.hid (Below.refl _ _), Lib.hid rfl⟩
    case round =>
      obtain ⟨k, hi, hk, rfl, rfl, HB, hall⟩ := hrel
      generalize wr = w2 at *
      have HBW := Lib.hid (bl_trans B1'.out HB.out)
      by_cases hlt : k < n
      · obtain ⟨b, off, ⟨cl, vr, vl⟩, rfl, hx, c0, c1, c2⟩ := Reads.at_read (HR.out.below HBW.out) k hlt
        have HS := Lib.hid (take_all l (fun r => decide (r.cell ≤ 63)) k _ hx)
        clear hx
        cases hi
        · by_cases h63 : 63 < cl
          · have HN : Hid ((l.take (k + 1)).all (fun r => decide (r.cell ≤ 63)) = false) := Lib.hid (by rw [HS.out, decide_eq_false (by show ¬ cl ≤ 63; omega), Bool.and_false])
            go_wp2
            go_roundw
            case rel => exact ⟨k + 1, true, by omega, by first | rfl | simp [h63], by go_num, Lib.hid (bl_alloc HB.out _), HN⟩
            case measure => simp [intOf]; omega
          · have HN : Hid ((l.take (k + 1)).all (fun r => decide (r.cell ≤ 63)) = true) := Lib.hid (by rw [HS.out, hall.out, decide_eq_true (by show cl ≤ 63; omega)]; rfl)
            go_wp2
            go_roundw
            case rel => exact ⟨k + 1, false, by omega, by first | rfl | (simp; omega) | simp, by go_num, Lib.hid (bl_alloc HB.out _), HN⟩
            case measure => simp [intOf]; omega
        · have HN : Hid ((l.take (k + 1)).all (fun r => decide (r.cell ≤ 63)) = false) := Lib.hid (by rw [HS.out, hall.out]; rfl)
          go_wp2
          go_roundw
          case rel => exact ⟨k + 1, true, by omega, rfl, by go_num, Lib.hid (bl_alloc HB.out _), HN⟩
          case measure => simp [intOf]; omega
      · have HALL : Hid (l.all (fun r => decide (r.cell ≤ 63)) = !hi) := Lib.hid (by have h5 := hall.out; rwa [List.take_of_length_le (by rw [HL.out]; omega)] at h5)
        obtain ⟨m8, hm8⟩ : ∃ m, un % 8 = m := ⟨_, rfl⟩
        have hm : m8 < 8 := by omega
        have hmod : (un : Int) % 8 = (m8 : Int) := by rw [← hm8]; rfl
        have hw1 : IntKind.i64.wrap (m8 : Int) = (m8 : Int) := by rw [IntKind.wrap_i64]; omega
        have hw3 : IntKind.i64.wrap (1 + (m8 : Int)) = 1 + (m8 : Int) := by rw [IntKind.wrap_i64]; omega
        clear hm8
        obtain ⟨⟨R, er⟩, hre⟩ : ∃ r, addS [] ⟨1 + (m8 : Int), 1, 0, watchedS l, []⟩ = r := ⟨_, rfl⟩
        have HOK : Hid (er = 0 ∨ hi = true) := Lib.hid (by
          cases hi
          · left
            have := watched_add l (1 + (m8 : Int)) (by omega) (by omega) HALL.out
            rw [hre] at this; exact this
          · right; rfl)
        have F2 := Lib.hid (add_c [] ⟨1 + (m8 : Int), 1, 0, B1, q, d1, watchedS l, none, 0, 0, []⟩ none 0 0 w2 (R, er) Sls.none_ (by decide) Lim.nil_ ⟨R1.out.below HB.out, Rd.none_⟩ ⟨by show q ≤ 1000000; omega, by show (0 : Nat) ≤ 1000000; decide⟩ hre)
        simp only [cS] at F2
        clear hre
        go_wp2_with fail
        refine F2.out.mono ?_
        rintro e w3 ⟨B3, m3, d3, L3, rfl, -, -, -, b3⟩
        have HB13 := Lib.hid (HB.out.trans (b3.mono HB.out.size))
        have HBW3 := Lib.hid (bl_trans HBW.out b3)
        have F3 := Lib.hid (refwatched l A n c w3 q (HR.out.below HBW3.out) (by omega) HQ.out)
        clear b3 F2
        go_wp2_with fail
        refine F3.out.mono ?_
        rintro e w4 ⟨v4, rfl, o4⟩
        obtain ⟨B4, d4, rfl, r4⟩ := o4.form
        have F4 := Lib.hid (Writes.list_b (watchedS l) (watchedS l) B1 B4 q q d1 d4 w4 true ((R1.out.below HB13.out).below o4.2) r4 (by omega) (by omega) (by simp))
        have HBW4 := Lib.hid (bl_trans HBW3.out o4.2)
        clear o4 r4 F3
        by_cases he : er = 0
        · subst he
          go_wp2_with fail
          refine F4.out.mono ?_
          rintro e w5 ⟨rfl, b5⟩
          have HBW5 := Lib.hid (bl_trans HBW4.out b5)
          clear b5 F4
          go_wp2_with fail
          refine (awake_any _).mono ?_
          rintro e w6 ⟨rfl, b6⟩
          go_wp2
          go_ret
          exact ⟨rfl, bl_trans HBW5.out b6⟩
        · have he2 : (er == 0) = false := by simpa using he
          have hhi : hi = true := by
            rcases HOK.out with h | h
            · exact absurd h he
            · exact h
          subst hhi
          clear he
          go_wp2_with fail
          refine F4.out.mono ?_
          rintro e w5 ⟨rfl, b5⟩
          have HBW5 := Lib.hid (bl_trans HBW4.out b5)
          clear b5 F4
          go_wp2_with fail
          refine (awake_any _).mono ?_
          rintro e w6 ⟨rfl, b6⟩
          go_wp2
          go_ret
          exact ⟨rfl, bl_trans HBW5.out b6⟩
end Go.Proofs.Ytakdeagaldnelaa.Sleep
