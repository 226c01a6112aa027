/-
  WHAT THE DOCUMENT'S ANSWER FOR LAYER 6 RETURNS: Right, Get.
-/
import Derived.Test.YtjmilnfemjnhoaaWritesRef
namespace Go.Proofs.Ytjmilnfemjnhoaa.Writes
open Go.ChangeShapes Go.WideShapes Go.ChangeAt Go.RowKit Mem
open Heap (Write wc ws ws_len vB at_write)

theorem right_g (l : Log) (A B : Option Addr) (n c m d : Nat) (w : World) (b : Bool) (hl : LogAt w A n c B m d l) (hn : n ≤ 1000000) (hm : m ≤ 1000000) (hb : rightB l = b) :
    Calls Try.prog 20 #[.agg #[.slice A n c, .slice B m d]] w (RetBG w b) := by
  have HB := Lib.hid hb
  have HL := Lib.hid hl
  have LN := Lib.hid hl.ln
  have LM := Lib.hid hl.lm
  clear hb hl
  have K0 : Hid (Blk (w.alloc (.cells #[.slice A n c, .slice B m d] 30)) w.heap.size 30 #[.slice A n c, .slice B m d]) := Lib.hid (Blk.new _ _ _)
  have G0 : Hid (Grew w (w.alloc (.cells #[.slice A n c, .slice B m d] 30))) := Lib.hid ((Grew.refl w).alloc _)
  go_enter Try.func20, Try.ntmps20
  go_wp2
  generalize w.alloc (.cells #[.slice A n c, .slice B m d] 30) = w0 at *
  go_loopw [3] (fun i wr => ∃ k : Nat, k ≤ n ∧ i = .int .i64 k ∧ Hid (Grew w0 wr) ∧ Hid ((l.list.take k).all oneB = true)) (fun i _ => n - (intOf i).toNat)
  case atStart => exact ⟨0, Nat.zero_le _, rfl, Lib.hid (Grew.refl _), Lib.hid rfl⟩
  case round =>
    obtain ⟨k, hk, rfl, HG, hall⟩ := hrel
    generalize wr = w2 at *
    have p0 := (K0.out.below HG.out.below).cell 0 _ rfl
    by_cases hlt : k < n
    · obtain ⟨b1, off, ⟨cl, vl⟩, rfl, hx, c0, c1⟩ := at_write ((HL.out.rl.below G0.out.below).below HG.out.below) k hlt
      have hs := Lib.hid (take_all l.list oneB k _ hx)
      have HX := Lib.hid hx
      clear hx
      cases ho : oneB ⟨cl, vl⟩ with
      | false =>
        have HO := Lib.hid ho
        have HF : Hid (b = false) := Lib.hid (by
          rw [← HB.out]
          unfold rightB listB
          rw [all_bad l.list oneB k _ HX.out ho]; simp)
        clear ho
        go_wp2_with fail
        refine (one_g _ _ _ false HO.out).mono ?_
        rintro e w1 ⟨rfl, g1⟩
        have HG1 := Lib.hid ((G0.out.trans HG.out).trans g1)
        clear g1 c0 c1
        go_wp2_with fail
        go_ret
        exact ⟨ret_bool HF.out.symm, HG1.out⟩
      | true =>
        have HO := Lib.hid ho
        clear ho
        go_wp2_with fail
        refine (one_g _ _ _ true HO.out).mono ?_
        rintro e w1 ⟨rfl, g1⟩
        have HG1 := Lib.hid (HG.out.trans g1)
        clear g1 c0 c1
        go_wp2_with fail
        go_roundw
        case rel => exact ⟨k + 1, by omega, by go_num, HG1, Lib.hid (by rw [hs.out, hall.out, HO.out]; rfl)⟩
        case measure => simp [intOf]; omega
    · have HA : Hid (l.list.all oneB = true) := Lib.hid (by
        have := hall.out
        rwa [List.take_of_length_le (by rw [LN.out]; omega)] at this)
      go_wp2
      go_loopw [5, 6] (fun s i wq => ∃ k z : Nat, ∃ lo : Int, k ≤ m ∧ s = .int .i64 lo ∧ i = .int .i64 k ∧ wq = w2.drewN z ∧ Hid (marksB (n : Int) 0 l.marks = marksB (n : Int) lo (l.marks.drop k))) (fun _ i _ => m - (intOf i).toNat)
      case atStart => exact ⟨0, 0, 0, Nat.zero_le _, rfl, rfl, rfl, Lib.hid rfl⟩
      case round =>
        obtain ⟨j, z, lo, hj, rfl, rfl, rfl, hmk⟩ := hrel
        have p1 : ∀ z, (w2.drewN z).cell? ⟨w.heap.size, 1, none⟩ = some (.slice B m d) := fun z => (K0.out.below HG.out.below).cell 1 _ rfl
        have p0z : ∀ z, (w2.drewN z).cell? ⟨w.heap.size, 0, none⟩ = some (.slice A n c) := fun z => p0
        by_cases hjm : j < m
        · obtain ⟨b1, off, zx, rfl, hx, c0⟩ := at_z ((HL.out.rm.below G0.out.below).below HG.out.below) j hjm
          have hs := Lib.hid (marks_drop (n : Int) lo l.marks j _ hx)
          clear hx
          have c0z : ∀ z, (w2.drewN z).cell? ⟨b1, off + j, none⟩ = some (.int .i64 zx) := fun z => c0
          by_cases h1 : zx < lo
          · have HF : Hid (b = false) := Lib.hid (by
              rw [← HB.out]
              unfold rightB markB
              rw [LN.out, hmk.out, hs.out, decide_eq_false (p := lo ≤ zx) (by omega)]; simp)
            go_wp2
            go_quiet (fail)
            go_wp2
            go_ret
            exact ⟨ret_bool HF.out.symm, by first | exact ((G0.out.trans HG.out).drewN _).drewN _ | exact (G0.out.trans HG.out).drewN _⟩
          · by_cases h2 : (n : Int) < zx
            · have HF : Hid (b = false) := Lib.hid (by
                rw [← HB.out]
                unfold rightB markB
                rw [LN.out, hmk.out, hs.out, decide_eq_false (p := zx ≤ (n : Int)) (by omega)]; simp)
              go_wp2
              go_quiet (fail)
              go_wp2
              go_ret
              exact ⟨ret_bool HF.out.symm, by first | exact ((G0.out.trans HG.out).drewN _).drewN _ | exact (G0.out.trans HG.out).drewN _⟩
            · have HN : Hid (marksB (n : Int) 0 l.marks = marksB (n : Int) zx (l.marks.drop (j + 1))) := Lib.hid (by
                rw [hmk.out, hs.out, decide_eq_true (p := lo ≤ zx) (by omega), decide_eq_true (p := zx ≤ (n : Int)) (by omega)]; rfl)
              go_wp2
              go_quiet (fail)
              go_wp2
              go_roundw
              case rel => exact ⟨j + 1, _, zx, by omega, rfl, by go_num, rfl, HN⟩
              case measure => simp [intOf]; omega
        · have HF : Hid (b = (decide (n < 25) && decide (m < 7))) := Lib.hid (by
            have h1 := hmk.out
            rw [List.drop_of_length_le (by rw [LM.out]; omega)] at h1
            rw [← HB.out]
            unfold rightB listB markB
            rw [LN.out, LM.out, HA.out, h1]
            rw [Bool.eq_iff_iff]; simp [marksB]; omega)
          by_cases h1 : n < 25
          all_goals by_cases h2 : m < 7
          all_goals
            go_wp2
            go_ret
            exact ⟨ret_bool (by rw [HF.out]; simp [h1, h2]; try omega), by first | exact (G0.out.trans HG.out).drewN _ | exact G0.out.trans HG.out⟩

theorem refget (l : Log) (A B : Option Addr) (n c m d : Nat) (cl : Int) (w : World) (r : Int × Bool) (hl : LogAt w A n c B m d l) (hn : n ≤ 1000000) (hr : orNo (getL l.list cl) = r) :
    Calls Try.prog 21 #[.agg #[.slice A n c, .slice B m d], .int .i64 cl] w (RetV w r) := by
  have HR := Lib.hid hr
  have HL := Lib.hid hl
  have LN := Lib.hid hl.ln
  clear hr hl
  have K0 : Hid (Blk (w.alloc (.cells #[.slice A n c, .slice B m d] 30)) w.heap.size 30 #[.slice A n c, .slice B m d]) := Lib.hid (Blk.new _ _ _)
  have G0 : Hid (Below w.heap.size w (w.alloc (.cells #[.slice A n c, .slice B m d] 30))) := Lib.hid (bl_alloc (Below.refl _ _) _)
  go_enter Try.func21, Try.ntmps21
  go_wp2
  generalize w.alloc (.cells #[.slice A n c, .slice B m d] 30) = w0 at *
  have p0 := K0.out.cell 0 _ rfl
  go_loop [6, 7, 8] (fun v o i => ∃ k : Nat, k ≤ n ∧ i = .int .i64 k ∧ ∃ a : Int × Bool, v = .int .i64 a.1 ∧ o = .bool a.2 ∧ Hid (orNo (getL (l.list.take k) cl) = a)) (fun _ _ i => n - (intOf i).toNat)
  case atStart => exact ⟨0, Nat.zero_le _, rfl, (0, false), rfl, rfl, Lib.hid rfl⟩
  case round =>
    obtain ⟨k, hk, rfl, ⟨av, ao⟩, rfl, rfl, ha⟩ := hrel
    by_cases hlt : k < n
    · obtain ⟨b1, off, ⟨cx, vl⟩, rfl, hx, c0, c1⟩ := at_write (HL.out.rl.below G0.out) k hlt
      have hs := Lib.hid (get_take l.list k _ cl hx)
      clear hx
      by_cases heq : cx = cl
      · have HN : Hid (orNo (getL (l.list.take (k + 1)) cl) = (vl, true)) := Lib.hid (by rw [hs.out, if_pos heq]; rfl)
        go_wp2
        go_round
        case rel => exact ⟨k + 1, by omega, by go_num, (vl, true), rfl, rfl, HN⟩
        case measure => simp [intOf]; omega
      · have HN : Hid (orNo (getL (l.list.take (k + 1)) cl) = (av, ao)) := Lib.hid (by rw [hs.out, if_neg heq]; exact ha.out)
        go_wp2
        go_round
        case rel => exact ⟨k + 1, by omega, by go_num, (av, ao), rfl, rfl, HN⟩
        case measure => simp [intOf]; omega
    · have HF : Hid (r = (av, ao)) := Lib.hid (by
        have := ha.out
        rw [List.take_of_length_le (by rw [LN.out]; omega)] at this
        rw [← HR.out]; exact this)
      go_wp2
      go_ret2
      exact ⟨by rw [HF.out]; rfl, G0.out⟩
end Go.Proofs.Ytjmilnfemjnhoaa.Writes
