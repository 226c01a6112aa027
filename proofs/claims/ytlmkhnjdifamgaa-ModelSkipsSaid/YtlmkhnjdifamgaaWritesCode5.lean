/-
  Last, AS IT IS WRITTEN: its answer is of the call's own. No conditions beyond those that the theorem states.
-/
import Derived.Test.YtlmkhnjdifamgaaWritesB
namespace Go.Proofs.Ytlmkhnjdifamgaa.Writes
open Go.ChangeShapes Go.WideShapes Go.ChangeAt Go.RowKit Mem
open Heap (Write wc ws ws_len vB at_write)

set_option maxRecDepth 100000 in
set_option maxHeartbeats 4000000 in
theorem last_o (l : Log) (A B : Option Addr) (n c m d : Nat) (w : World) (r : List Write) (q : Nat) (hl : LogAt w A n c B m d l) (hn : n ≤ 1000000) (hm : m ≤ 1000000) (hr : lastS l = r) (hq : r.length = q) :
    Calls Try.prog 22 #[.agg #[.slice A n c, .slice B m d]] w (Mem.RetO w 67 2 q (ws r)) := by
  have HR := Lib.hid hr
  have HQ := Lib.hid hq
  have HL := Lib.hid hl
  have LN := Lib.hid hl.ln
  clear hr hl hq
  have K0 : Hid (Blk (w.alloc (.cells #[.slice A n c, .slice B m d] 57)) w.heap.size 57 #[.slice A n c, .slice B m d]) := Lib.hid (Blk.new _ _ _)
  cases h1 : rightB l with
  | false =>
    have H1 := Lib.hid h1
    have HF : Hid (r = []) := Lib.hid (by rw [← HR.out]; unfold lastS; rw [h1]; rfl)
    have HQ0 : Hid (q = 0) := Lib.hid (by rw [← HQ.out, HF.out]; rfl)
    clear h1
    obtain rfl := HQ0.out
    go_enter Try.func22, Try.ntmps22
    go_wp2_with fail
    refine (right_c l _ _ _ _ _ _ _ false (HL.out.alloc _) hn hm H1.out).mono ?_
    rintro e w1 ⟨rfl, b1⟩
    go_wp2
    go_ret
    exact ⟨_, rfl, by rw [HF.out]; exact Own.nil_ (bl_trans (bl_alloc (Below.refl _ _) _) b1)⟩
  | true =>
    have H1 := Lib.hid h1
    have HF : Hid (lastL l.list = r) := Lib.hid (by rw [← HR.out]; unfold lastS; rw [if_pos h1])
    clear h1
    go_enter Try.func22, Try.ntmps22
    go_wp2_with fail
    refine (right_c l _ _ _ _ _ _ _ true (HL.out.alloc _) hn hm H1.out).mono ?_
    rintro e w1 ⟨rfl, b1⟩
    have p0 := (K0.out.below b1).cell 0 _ rfl
    have HB1 := Lib.hid (bl_trans (bl_alloc (Below.refl w.heap.size w) _) b1)
    clear b1
    go_wp2
    clear p0
    go_loopw [3, 14] (fun so i wr => ∃ k z : Nat, k ≤ n ∧ i = .int .i64 k ∧ z ≤ k ∧ Hid (Own w1 wr 67 2 so z (ws (lastL (l.list.take k)))) ∧ Hid ((lastL (l.list.take k)).length = z)) (fun _ i _ => n - (intOf i).toNat)
    case atStart => exact ⟨0, 0, Nat.zero_le _, rfl, Nat.le_refl _, Lib.hid (Own.nil_ (Below.refl _ _)), Lib.hid rfl⟩
    case round =>
      obtain ⟨k, z, hk, rfl, hzk, HO, HZ⟩ := hrel
      obtain ⟨D, dd, rfl, hzd, hrd⟩ := own_room HO.out
      have HRD := Lib.hid hrd
      clear hrd
      generalize wr = w2 at *
      by_cases hlt : k < n
      · obtain ⟨b1, off, ⟨cx, vx⟩, rfl, hx, c0, c1⟩ := at_write ((HL.out.rl.below HB1.out).below HO.out.2) k hlt
        have HT := Lib.hid (last_take l.list k _ hx)
        have HRS := Lib.hid (last_rise (l.list.take k))
        have KX : Hid (Blk (w2.alloc (.cells #[.int .i64 cx, .int .i64 vx] 67)) w2.heap.size 67 #[.int .i64 cx, .int .i64 vx]) := Lib.hid (Blk.new _ _ _)
        clear hx
        obtain ⟨LL, hLL⟩ : ∃ LL, lastL (l.list.take k) = LL := ⟨_, rfl⟩
        rw [hLL] at HT HRS HO HZ HRD
        clear hLL
        go_wp2_with fail
        refine (search_g LL _ _ _ cx vx _ #[] rfl (HRD.out.alloc _) (by omega) HRS.out).mono ?_
        rintro e w5 ⟨p, f, rfl, hf, g5⟩
        have HFD := Lib.hid hf
        have hpz : p ≤ z := by have := hf.1; rw [HZ.out] at this; exact this
        have KX5 := Lib.hid (KX.out.below g5.below)
        have HO5 := Lib.hid ((HO.out.alloc _).below g5.below)
        clear hf g5 c0 c1 KX HRD
        have x0 := KX5.out.cell 0 _ rfl
        have x1 := KX5.out.cell 1 _ rfl
        cases f with
        | true =>
          obtain ⟨hpl, hup⟩ := found_yes LL ⟨cx, vx⟩ p HFD.out
          rw [HZ.out] at hpl
          obtain ⟨g, cap, hv⟩ := own_lay HO5.out (by omega)
          injection hv with hv1 _ hv3
          subst hv1 hv3
          have HU := Lib.hid hup
          have f0 := HO5.out.1.frozenAt (p * 2)
          have f1 := HO5.out.1.frozenAt (p * 2 + 1)
          have c0 := HO5.out.1.cellAt (p * 2) (by omega)
          have c1 := HO5.out.1.cellAt (p * 2 + 1) (by omega)
          have HWL : Hid ((ws LL).length = z * 2) := Lib.hid HO5.out.1.1
          rw [List.getElem?_eq_getElem (by rw [HWL.out]; omega)] at c0 c1
          generalize (ws LL)[p * 2]'(by rw [HWL.out]; omega) = u0 at c0
          generalize (ws LL)[p * 2 + 1]'(by rw [HWL.out]; omega) = u1 at c1
          have HE : Hid (Own w1 ((w5.setCell ⟨g, p * 2, none⟩ (.int .i64 cx)).setCell ⟨g, p * 2 + 1, none⟩ (.int .i64 vx)) 67 2 (.slice (some ⟨g, 0, none⟩) z dd) z (ws (lastL (l.list.take (k + 1))))) := Lib.hid (by
            have h9 := own_set (own_set HO5.out (p * 2) (.int .i64 cx)) (p * 2 + 1) (.int .i64 vx)
            rw [ws_set LL p ⟨cx, vx⟩, ← HU.out, ← HT.out] at h9
            exact h9)
          have HZ2 : Hid ((lastL (l.list.take (k + 1))).length = z) := Lib.hid (by rw [HT.out, HU.out, List.length_set]; exact HZ.out)
          clear hup
          go_wp2
          go_roundw
          case rel => exact ⟨k + 1, z, by omega, by go_num, by omega, HE, HZ2⟩
          case measure => simp [intOf]; omega
        | false =>
          have HU := Lib.hid (found_no LL ⟨cx, vx⟩ p HFD.out)
          go_wp2_with fail
          refine (insert_c w1 _ (.slice D z dd) z p LL cx vx w5.heap.size _ (HO5.out.alloc _) hpz (by omega) (Blk.new _ _ _) (fun e => by have := HO5.out.lt _ e; omega)).mono ?_
          rintro e w6 ⟨v6, rfl, o6⟩
          have HE : Hid (Own w1 w6 67 2 v6 (z + 1) (ws (lastL (l.list.take (k + 1))))) := Lib.hid (by rw [HT.out, HU.out]; exact o6)
          have HZ2 : Hid ((lastL (l.list.take (k + 1))).length = z + 1) := Lib.hid (by rw [HT.out, HU.out]; simp; rw [HZ.out]; omega)
          clear o6 x0 x1
          go_wp2
          go_roundw
          case rel => exact ⟨k + 1, z + 1, by omega, by go_num, by omega, HE, HZ2⟩
          case measure => simp [intOf]; omega
      · have HE : Hid (lastL (l.list.take k) = r) := Lib.hid (by rw [List.take_of_length_le (by rw [LN.out]; omega)]; exact HF.out)
        have HZQ : Hid (z = q) := Lib.hid (by rw [← HZ.out, HE.out]; exact HQ.out)
        go_wp2
        go_ret
        obtain rfl := HZQ.out
        exact ⟨_, rfl, by rw [← HE.out]; exact HO.out.wide HB1.out⟩
end Go.Proofs.Ytlmkhnjdifamgaa.Writes
