/-
  WHAT EACH FUNCTION OF THE LAYER reads RETURNS, AS IT IS WRITTEN: Right, Find, Add.
-/
import Derived.Test.YthgmjmecedhkoaaReadsCode
import Derived.Deep.RegionHeld3
namespace Go.Proofs.Ythgmjmecedhkoaa.Reads
open Go.ChangeShapes Go.WideShapes Go.ChangeAt Go.RowKit Mem

set_option maxRecDepth 100000 in
set_option maxHeartbeats 4000000 in
theorem right_c (l : List Read) (A : Option Addr) (n c : Nat) (w : World) (b : Bool) (hr : Rd w 3 A n (ds l)) (hnc : n ≤ c) (hn : n ≤ 1000000) (hb : rightB l = b) :
    Calls Try.prog 27 #[.slice A n c] w (RetB w b) := by
  subst hb
  have HL := Lib.hid (ds_len hr)
  have HR := Lib.hid hr
  clear hr
  by_cases hlen : 24 < n
  · have HF : Hid (rightB l = false) := Lib.hid (by
      unfold rightB; rw [HL.out, Bool.and_eq_false_iff]; left; simp; omega)
    go_enter Try.func27, Try.ntmps27
    go_wp2
    go_ret
    exact ⟨ret_bool HF.out.symm, Below.refl _ _⟩
  · go_enter Try.func27, Try.ntmps27
    go_wp2
    go_loopw [12] (fun i wr => ∃ k : Nat, k ≤ n ∧ i = .int .i64 k ∧ Hid (Below w.heap.size w wr) ∧ Hid (goodB (l.take k) = true)) (fun i _ => n - (intOf i).toNat)
    case atStart => exact ⟨0, Nat.zero_le _, rfl, Lib.hid (Below.refl _ _), Lib.hid rfl⟩
    case round =>
      obtain ⟨k, hk, rfl, HB, hall⟩ := hrel
      by_cases hlt : k < n
      · have hkc : k ≤ c := by omega
        obtain ⟨b, off, ⟨cl, vr, vl⟩, rfl, hx, c0, c1, c2⟩ := at_read (HR.out.below HB.out) k hlt
        have hs := Lib.hid (good_take l k _ hx)
        clear hx
        have HK0 : Hid (Blk (wr.alloc (.cells #[.int .i64 cl, .int .i64 vr, .int .i64 vl] 43)) wr.heap.size 43 #[.int .i64 cl, .int .i64 vr, .int .i64 vl]) := Lib.hid (Blk.new _ _ _)
        cases ho : oneB ⟨cl, vr, vl⟩ with
        | false =>
          have HO := Lib.hid ho
          clear ho HK0
          have HF : Hid (rightB l = false) := Lib.hid (right_bad l (k + 1) (by rw [hs.out, HO.out]; simp))
          go_wp2_with fail
          refine (read_any _ _ _ _ false HO.out).mono ?_
          rintro e w1 ⟨rfl, g1⟩
          have HB1 := Lib.hid (bl_trans (bl_alloc HB.out _) g1.below)
          clear g1 c0 c1 c2
          go_wp2_with fail
          go_ret
          exact ⟨ret_bool HF.out.symm, HB1.out⟩
        | true =>
          have HO := Lib.hid ho
          clear ho
          go_wp2_with fail
          refine (read_any _ _ _ _ true HO.out).mono ?_
          rintro e w1 ⟨rfl, g1⟩
          have HB1 := Lib.hid (bl_trans (bl_alloc HB.out _) g1.below)
          have q0 := (HK0.out.below g1.below).cell 0 _ rfl
          have HBS := Lib.hid HB1.out.size
          clear g1 c0 c1 c2 HK0
          obtain ⟨⟨⟨cx, vx, lx⟩, bt⟩, hx⟩ : ∃ y, orNo (findS (l.take k) cl) = y := ⟨_, rfl⟩
          have HBT : Hid (hasB (l.take k) cl = bt) := Lib.hid (by
            have h1 := find_has (l.take k) cl
            cases h2 : findS (l.take k) cl with
            | none => rw [h2] at hx h1; injection hx with _ h3; rw [← h1, ← h3]; rfl
            | some x => rw [h2] at hx h1; injection hx with _ h3; rw [← h1, ← h3]; rfl)
          have HX := Lib.hid hx
          clear hx
          go_wp2_with fail
          have ne1 := World.new_ne w1 _ q0
          have hq : ∀ o, (w1.drew.alloc o).cell? ⟨wr.heap.size, 0, none⟩ = some (.int .i64 cl) := fun o => (Below.cell (bl_alloc (Below.refl _ w1.drew) o) (cell_lt q0)).trans q0
          go_region_held3 (fun w' => w'.cell? ⟨wr.heap.size, 0, none⟩ = some (.int .i64 cl)) (first | exact qk | exact hq _ | go_keep)
            (first | (go_at_call 36; refine (find_c (l.take k) _ _ _ _ _ _ (by first | exact (rd_take (HR.out.below HB1.out) k hk).drew | exact (rd_take (HR.out.below HB1.out) k hk).drew.alloc _) (by omega) HX.out).mono ?_; rintro e w2 ⟨rfl, b2⟩
                      have qk : w2.cell? ⟨wr.heap.size, 0, none⟩ = some (.int .i64 cl) := by first | exact (b2.cell (cell_lt q0)).trans q0 | exact (b2.cell (cell_lt (hq _))).trans (hq _)
                      have ne2 := World.new_ne w2 _ qk
                      have HB2 : Hid (Below w.heap.size w w2) := Lib.hid (by first | exact bl_trans HB1.out.drew b2 | exact bl_trans (bl_alloc HB1.out.drew _) b2)
                      try (have hk9 : Blk w2 w1.heap.size 43 #[.int .i64 0, .int .i64 0, .int .i64 0] := (Blk.new w1.drew _ _).below b2
                           have f9 := hk9.frozen
                           have z0 := hk9.cell 0 _ rfl
                           have z1 := hk9.cell 1 _ rfl
                           have z2 := hk9.cell 2 _ rfl
                           clear hk9)
                      clear b2))
          all_goals
            cases bt with
            | true =>
              have HF : Hid (rightB l = false) := Lib.hid (right_bad l (k + 1) (by rw [hs.out, HBT.out]; simp))
              go_wp2
              go_ret
              exact ⟨ret_bool HF.out.symm, by first | exact bl_alloc HB2.out _ | exact bl_set (bl_set (bl_set HB2.out HBS.out _) HBS.out _) HBS.out _⟩
            | false =>
              go_wp2
              go_roundw
              case rel => exact ⟨k + 1, by omega, by go_num, Lib.hid (by first | exact bl_alloc HB2.out _ | exact bl_set (bl_set (bl_set HB2.out HBS.out _) HBS.out _) HBS.out _), Lib.hid (by rw [hs.out, hall.out, HO.out, HBT.out]; rfl)⟩
              case measure => simp [intOf]; omega
      · have HF : Hid (rightB l = true) := Lib.hid (by
          have := hall.out
          rw [List.take_of_length_le (by rw [HL.out]; omega)] at this
          unfold rightB; rw [this, HL.out]; simp; omega)
        go_wp2
        go_ret
        exact ⟨ret_bool HF.out.symm, HB.out⟩
end Go.Proofs.Ythgmjmecedhkoaa.Reads
