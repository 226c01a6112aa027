/-
  THE WALK OF THE LAW SleepWatch.
-/
import Derived.Test.YtakdeagaldnelaaSleepReadsW
import Derived.Test.YtakdeagaldnelaaReadsMore3
import Derived.Test.YtakdeagaldnelaaReadsB
import Derived.Laws.StructEq
namespace Go.Proofs.Ytakdeagaldnelaa.Sleep
open Go.ChangeShapes Go.WideShapes Go.ChangeAt Go.RowKit Mem
open Heap (Write)
open Reads (turned place)

theorem read_uniq (l : List Reads.Read) (h : Reads.rightB l = true) (x y : Reads.Read) (hx : x ∈ l) (hy : y ∈ l) (e : x.cell = y.cell) : x = y := by
  have hn := Reads.right_nodup l h
  obtain ⟨i, hi, rfl⟩ := List.getElem_of_mem hx
  obtain ⟨j, hj, rfl⟩ := List.getElem_of_mem hy
  have h1 : (l.map Reads.Read.cell)[i]'(by simpa using hi) = (l.map Reads.Read.cell)[j]'(by simpa using hj) := by simpa using e
  have := (List.getElem_inj hn).1 h1
  subst this; rfl
theorem val_at (l : List Reads.Read) (h : Reads.rightB l = true) (r : Reads.Read) (hr : r ∈ l) : valOf l r.cell = r.value := by
  have h3 : Reads.hasB l r.cell = true := by unfold Reads.hasB; rw [List.any_eq_true]; exact ⟨r, hr, by simp⟩
  rw [← Reads.find_has] at h3
  cases hf : Reads.findS l r.cell with
  | none => rw [hf] at h3; cases h3
  | some x =>
    obtain ⟨h1, h2⟩ := Reads.find_some l r.cell x hf
    have : x = r := read_uniq l h x r h1 hr h2
    unfold valOf; rw [hf, this]
theorem watched_mem (l : List Reads.Read) (h : Reads.rightB l = true) (r : Reads.Read) (hr : r ∈ l) : (⟨r.cell, r.value⟩ : Write) ∈ watchedS l := by
  unfold watchedS
  rw [List.mem_map]
  refine ⟨r.cell, ?_, by rw [val_at l h r hr]⟩
  unfold Reads.cellsS
  rw [if_pos h]
  exact (Reads.sort_perm _).mem_iff.2 (List.mem_map.2 ⟨r, hr, rfl⟩)
theorem watched_turned (l : List Reads.Read) (b : Nat) (h : Reads.rightB l = true) : watchedS (turned l b l.length) = watchedS l := by
  have hp := Reads.turned_perm l b (Reads.right_nodup_self l h)
  have hr2 : Reads.rightB (turned l b l.length) = true := by rw [Reads.right_perm _ _ hp]; exact h
  unfold watchedS
  rw [Reads.turned_cells l b h]
  refine List.map_congr_left (fun c hc => ?_)
  have hc2 : c ∈ l.map Reads.Read.cell := by
    unfold Reads.cellsS at hc
    rw [if_pos h] at hc
    exact (Reads.sort_perm _).mem_iff.1 hc
  obtain ⟨r, hr, rfl⟩ := List.mem_map.1 hc2
  rw [val_at l h r hr, val_at _ hr2 r (hp.mem_iff.2 hr)]
theorem watched_full (l : List Reads.Read) (h : Reads.rightB l = true) : (watchedS l).length = l.length := by
  unfold watchedS Reads.cellsS
  rw [if_pos h, List.length_map, Reads.sort_len, List.length_map]
theorem watched_none (l : List Reads.Read) (h : Reads.rightB l = false) : watchedS l = [] := by
  unfold watchedS Reads.cellsS; rw [h]; rfl
theorem mod_nat_ (n : Nat) (x : Int) (y : Nat) (hx : x = (y : Int)) : x % (n : Int) = ((y % n : Nat) : Int) := by subst hx; rfl
def isB (r : Reads.Read) (w : Write) : Bool := decide (w = ⟨r.cell, r.value⟩)
set_option maxRecDepth 100000 in
set_option maxHeartbeats 8000000 in
theorem watch_walk (A : Option Addr) (n c : Nat) (l : List Reads.Read) (by_ : Int) (w : World) (hnc : n ≤ c) (mn : n ≤ 9223372036854775807) (hr : Rd w 3 A n (Reads.ds l)) (hby : 0 ≤ by_ ∧ by_ ≤ 255) :
    Calls Try.prog 8 #[.slice A n c, .int .u8 by_] w (RetB w true) := by
  have HL := Lib.hid (Reads.ds_len hr)
  have HR := Lib.hid hr
  obtain ⟨by0, by1⟩ := hby
  obtain ⟨bn, rfl⟩ := Int.eq_ofNat_of_zero_le by0
  by_cases h24 : 24 < n
  · clear hr
    go_enter Try.func8, Try.ntmps8
    go_wp2_with fail
    refine (awake_any _).mono ?_
    rintro e w1 ⟨rfl, b1⟩
    go_wp2
    go_ret
    exact ⟨rfl, b1⟩
  by_cases hn0 : n = 0
  · subst hn0
    clear hr
    go_enter Try.func8, Try.ntmps8
    go_wp2_with fail
    refine (awake_any _).mono ?_
    rintro e w1 ⟨rfl, b1⟩
    go_wp2
    go_ret
    exact ⟨rfl, b1⟩
  have hn : n ≤ 24 := by omega
  have hdn : ((n : Int) == 0) = false := beq_eq_false_iff_ne.2 (by omega)
  have hn1 : 0 < n := by omega
  clear hn0
  obtain ⟨ab, ao, rfl, -⟩ := hr.2 hn1
  clear hr
  obtain ⟨q, hq⟩ : ∃ q, (watchedS l).length = q := ⟨_, rfl⟩
  have HQ := Lib.hid hq
  have hq24 : q ≤ 24 := by rw [← hq]; exact watched_len l
  clear hq
  go_enter Try.func8, Try.ntmps8
  go_wp2_with fail
  go_loopw [5, 24] (fun v i wr => ∃ j : Nat, j ≤ n ∧ i = .int .i64 j ∧ Hid (Own w wr 57 3 v j (Reads.ds (turned l bn j)))) (fun _ i _ => n - (intOf i).toNat)
  case atStart => exact ⟨0, Nat.zero_le _, rfl, Lib.hid (Own.nil_ (Below.refl _ _))⟩
  case round =>
    obtain ⟨j, hj, rfl, HOWN⟩ := hrel
    generalize wr = w1 at *
    obtain ⟨BT, dT, rfl, hcapT, rT⟩ := own_room HOWN.out
    have RT := Lib.hid rT
    clear rT
    by_cases hlt : j < n
    · obtain ⟨pl, hpl⟩ : ∃ p, place n bn j = p := ⟨_, rfl⟩
      have hplt : pl < n := by rw [← hpl]; exact Reads.place_lt n bn j hlt
      have hnum : (0 : Int) ≤ (n : Int) - (j : Int) + (bn : Int) := by omega
      have hmod : ((n : Int) - (j : Int) + (bn : Int)) % (n : Int) = (pl : Int) := by
        rw [mod_nat_ n _ (n - j + bn) (by omega), ← hpl]; rfl
      obtain ⟨b, off, ⟨cx, vx, lx⟩, e5, hx, c0, c1, c2⟩ := Reads.at_read (HR.out.below HOWN.out.2) pl hplt
      injection e5 with e5
      injection e5 with e6 e7
      subst e6 e7
      have HT := Lib.hid (Reads.turned_succ l bn j ⟨cx, vx, lx⟩ (by rw [HL.out, hpl]; exact hx))
      clear hx hpl
      go_wp2_with (at_builtin; refine append_rd rfl _ _ 54 rfl Reads.tRead w _ _ _ rfl (HOWN.out.alloc _) _ 1 1 [.int .i64 cx, .int .i64 vx, .int .i64 lx] rfl (Rd.builtAt _ 3 1 [.int .i64 cx, .int .i64 vx, .int .i64 lx] _ rfl (by simp)) (one_cons rfl (one_cons rfl (one_cons rfl one_nil))) (by omega) (by omega) ?_; intro v' w' hown' hg; have HO2 := Lib.hid hown'; clear hown' hg)
      go_roundw
      case rel => exact ⟨j + 1, by omega, by go_num, Lib.hid (by rw [HT.out, Reads.ds_app]; exact HO2.out)⟩
      case measure => simp [intOf]; omega
    · obtain rfl : j = n := by omega
      have bb := Lib.hid HOWN.out.2
      have HR1 := Lib.hid (HR.out.below bb.out)
      have C1 := Lib.hid (watched_c l _ j c w1 q HR1.out hnc (by omega) HQ.out)
      clear HOWN hlt hj
      go_wp2_with fail
      refine C1.out.mono ?_
      rintro e w2 ⟨v2, rfl, o2⟩
      obtain ⟨BW, dW, rfl, rW⟩ := o2.form
      have RW := Lib.hid rW
      replace bb := Lib.hid (bl_trans bb.out o2.2)
      replace HR1 := Lib.hid (HR1.out.below o2.2)
      replace RT := Lib.hid (RT.out.below o2.2)
      clear o2 rW C1
      cases hb : Reads.rightB l
      · have hq0 : q = 0 := by rw [← HQ.out, watched_none l hb]; rfl
        subst hq0
        have C2 := Lib.hid (Reads.right_c l _ j c w2 false HR1.out hnc (by omega) hb)
        go_wp2_with fail
        refine C2.out.mono ?_
        rintro e w3 ⟨rfl, b3⟩
        replace bb := Lib.hid (bl_trans bb.out b3)
        clear b3 C2
        go_wp2_with fail
        refine (awake_any _).mono ?_
        rintro e w4 ⟨rfl, b4⟩
        go_wp2
        go_ret
        exact ⟨rfl, bl_trans bb.out b4⟩
      · have HB := Lib.hid hb
        have hqj : q = j := by rw [← HQ.out, watched_full l hb, HL.out]
        subst hqj
        clear hb
        go_wp2
        go_loopw [57] (fun i wr => ∃ k : Nat, k ≤ q ∧ i = .int .i64 k ∧ Hid (Below w2.heap.size w2 wr)) (fun i _ => q - (intOf i).toNat)
        case atStart => exact ⟨0, Nat.zero_le _, rfl, Lib.hid (Below.refl _ _)⟩
        case round =>
          obtain ⟨k, hk, rfl, HBK⟩ := hrel
          generalize wr = w3 at *
          by_cases hlt : k < q
          · obtain ⟨b, off, ⟨cx, vx, lx⟩, e5, hx, c0, c1, c2⟩ := Reads.at_read (HR1.out.below HBK.out) k hlt
            injection e5 with e5
            injection e5 with e6 e7
            subst e6 e7
            have HMEM : Hid ((watchedS l).any (isB ⟨cx, vx, lx⟩) = true) := Lib.hid (by
              rw [List.any_eq_true]
              exact ⟨_, watched_mem l HB.out ⟨cx, vx, lx⟩ (List.mem_of_getElem? hx), by unfold isB; simp⟩)
            have KR := Lib.hid (Blk.new w3 57 #[.int .i64 cx, .int .i64 vx, .int .i64 lx])
            have HBN := Lib.hid (bl_alloc HBK.out (.cells #[.int .i64 cx, .int .i64 vx, .int .i64 lx] 57))
            clear hx
            go_wp2_with fail
            clear c0 c1 c2
            generalize w3.alloc (.cells #[.int .i64 cx, .int .i64 vx, .int .i64 lx] 57) = w4 at *
            go_loopw [10, 63] (fun v i wr => ∃ (p : Nat) (met : Bool), p ≤ q ∧ v = .bool met ∧ i = .int .i64 p ∧ Hid (Below w4.heap.size w4 wr) ∧ Hid (((watchedS l).take p).any (isB ⟨cx, vx, lx⟩) = met)) (fun _ i _ => q - (intOf i).toNat)
            case atStart => exact ⟨0, false, Nat.zero_le _, rfl, rfl, Lib.hid (Below.refl _ _), Lib.hid rfl⟩
            case round =>
              obtain ⟨p, met, hp, rfl, rfl, HB5, HMET⟩ := hrel
              generalize wr = w5 at *
              have r0 := (KR.out.below HB5.out).cell 0 _ rfl
              have r2 := (KR.out.below HB5.out).cell 2 _ rfl
              by_cases hlp : p < q
              · obtain ⟨b7, off7, ⟨cl, vl⟩, rfl, hy, d0, d1⟩ := Heap.at_write ((RW.out.below HBN.out).below HB5.out) p hlp
                have HS := Lib.hid (take_any (watchedS l) (isB ⟨cx, vx, lx⟩) p _ hy)
                have r0' := ((bl_alloc (Below.refl w5.heap.size w5) (.cells #[.int .i64 cl, .int .i64 vl] 62)).cell (cell_lt r0)).trans r0
                have r2' := ((bl_alloc (Below.refl w5.heap.size w5) (.cells #[.int .i64 cl, .int .i64 vl] 62)).cell (cell_lt r2)).trans r2
                clear hy
                cases met
                · by_cases heq : cl = cx ∧ vl = lx
                  · obtain ⟨rfl, rfl⟩ := heq
                    have HN : Hid (((watchedS l).take (p + 1)).any (isB ⟨cl, vx, vl⟩) = true) := Lib.hid (by rw [HS.out, HMET.out]; unfold isB; simp)
                    go_wp2
                    go_roundw
                    case rel => exact ⟨p + 1, true, by omega, by first | rfl | simp, by go_num, Lib.hid (bl_alloc HB5.out _), HN⟩
                    case measure => simp [intOf]; omega
                  · have HN : Hid (((watchedS l).take (p + 1)).any (isB ⟨cx, vx, lx⟩) = false) := Lib.hid (by rw [HS.out, HMET.out]; unfold isB; simp only [Bool.false_or]; exact decide_eq_false (by intro e; injection e with e0 e1; exact heq ⟨e0, e1⟩))
                    by_cases h0 : cl = cx
                    · subst h0
                      have h1 : ¬ vl = lx := fun e => heq ⟨rfl, e⟩
                      clear heq
                      go_wp2
                      go_roundw
                      case rel => exact ⟨p + 1, false, by omega, by first | rfl | simp [h1], by go_num, Lib.hid (bl_alloc HB5.out _), HN⟩
                      case measure => simp [intOf]; omega
                    · clear heq
                      go_wp2
                      go_roundw
                      case rel => exact ⟨p + 1, false, by omega, by first | rfl | simp [h0], by go_num, Lib.hid (bl_alloc HB5.out _), HN⟩
                      case measure => simp [intOf]; omega
                · have HN : Hid (((watchedS l).take (p + 1)).any (isB ⟨cx, vx, lx⟩) = true) := Lib.hid (by rw [HS.out, HMET.out]; rfl)
                  go_wp2
                  go_roundw
                  case rel => exact ⟨p + 1, true, by omega, rfl, by go_num, Lib.hid (bl_alloc HB5.out _), HN⟩
                  case measure => simp [intOf]; omega
              · have hmt : met = true := by
                  have h5 := HMET.out
                  rw [List.take_of_length_le (by rw [HQ.out]; omega), HMEM.out] at h5; exact h5.symm
                subst hmt
                have HBZ := Lib.hid (bl_trans HBN.out HB5.out)
                go_wp2
                go_roundw
                case rel => exact ⟨k + 1, by omega, by go_num, HBZ⟩
                case measure => simp [intOf]; omega
          · replace bb := Lib.hid (bl_trans bb.out HBK.out)
            replace RW := Lib.hid (RW.out.below HBK.out)
            replace RT := Lib.hid (RT.out.below HBK.out)
            have HWT : Hid (watchedS (turned l bn q) = watchedS l) := Lib.hid (by rw [← HL.out]; exact watched_turned l bn HB.out)
            have C3 := Lib.hid (watched_c (turned l bn q) BT q dT w3 q RT.out hcapT (by omega) (by rw [HWT.out]; exact HQ.out))
            have tqq : ((q : Int) == (q : Int)) = true := by simp
            go_wp2_with fail
            refine C3.out.mono ?_
            rintro e w4 ⟨v4, rfl, o4⟩
            obtain ⟨B4, d4, rfl, r4⟩ := o4.form
            have C4 := Lib.hid (Writes.list_b (watchedS (turned l bn q)) (watchedS l) B4 BW q q d4 dW w4 true r4 (RW.out.below o4.2) (by omega) (by omega) (decide_eq_true HWT.out))
            replace bb := Lib.hid (bl_trans bb.out o4.2)
            clear o4 r4 C3
            go_wp2_with fail
            refine C4.out.mono ?_
            rintro e w5 ⟨rfl, b5⟩
            replace bb := Lib.hid (bl_trans bb.out b5)
            clear b5 C4
            go_wp2_with fail
            refine (awake_any _).mono ?_
            rintro e w6 ⟨rfl, b6⟩
            go_wp2
            go_ret
            exact ⟨rfl, bl_trans bb.out b6⟩
end Go.Proofs.Ytakdeagaldnelaa.Sleep
