/-
  WHAT EACH FUNCTION OF THE LAYER writes RETURNS, AS IT IS WRITTEN: rightWrite, rightList, rightMarks, Right, Get.
-/
import Derived.Test.YtjmilnfemjnhoaaWritesMem
import Derived.Test.YtjmilnfemjnhoaaMem3
import Derived.Deep.LoopGhost
namespace Go.Proofs.Ytjmilnfemjnhoaa.Writes
open Go.ChangeShapes Go.WideShapes Go.ChangeAt Go.RowKit Mem
open Heap (Write wc ws ws_len vB at_write)

theorem write_c (cl vl : Int) (w : World) (b : Bool) (hb : oneB ⟨cl, vl⟩ = b) :
    Calls Try.prog 29 #[.agg #[.int .i64 cl, .int .i64 vl]] w (RetBG w b) := by
  have HB := Lib.hid hb
  clear hb
  by_cases h3 : 0 ≤ cl
  all_goals cases h2 : vB vl
  all_goals
    have HF : Hid (b = _) := Lib.hid (by have := HB.out; unfold oneB at this; simp only [h2, h3, decide_true, decide_false] at this; exact this.symm)
    go_enter Try.func29, Try.ntmps29
    go_wp2_with (go_at_call 40; refine (Heap.spanright_any _ _).mono ?_; rintro e w' ⟨rfl, rfl⟩)
    go_ret
    exact ⟨ret_bool (by rw [HF.out]; first | rfl | (simp; omega)), (Grew.refl w).alloc _⟩

theorem list_c (l : List Write) (A : Option Addr) (n c : Nat) (w : World) (b : Bool) (hr : Rd w 2 A n (ws l)) (hn : n ≤ 1000000) (hb : listB l = b) :
    Calls Try.prog 31 #[.slice A n c] w (RetB w b) := by
  have HB := Lib.hid hb
  have LN := Lib.hid (ws_n hr)
  have HR := Lib.hid hr
  clear hr hb
  by_cases hlen : 24 < n
  · have HF : Hid (b = false) := Lib.hid (by
      rw [← HB.out]; unfold listB; rw [LN.out, Bool.and_eq_false_iff]; left; simp; omega)
    go_enter Try.func31, Try.ntmps31
    go_wp2
    go_ret
    exact ⟨ret_bool HF.out.symm, Below.refl _ _⟩
  · go_enter Try.func31, Try.ntmps31
    go_wp2
    go_loopw [10] (fun i wr => ∃ k : Nat, k ≤ n ∧ i = .int .i64 k ∧ Hid (Below w.heap.size w wr) ∧ Hid ((l.take k).all oneB = true)) (fun i _ => n - (intOf i).toNat)
    case atStart => exact ⟨0, Nat.zero_le _, rfl, Lib.hid (Below.refl _ _), Lib.hid rfl⟩
    case round =>
      obtain ⟨k, hk, rfl, HB1, hall⟩ := hrel
      by_cases hlt : k < n
      · obtain ⟨b1, off, ⟨cl, vl⟩, rfl, hx, c0, c1⟩ := at_write (HR.out.below HB1.out) k hlt
        have hs := Lib.hid (take_all l oneB k _ hx)
        have HX := Lib.hid hx
        clear hx
        cases ho : oneB ⟨cl, vl⟩ with
        | false =>
          have HO := Lib.hid ho
          have HF : Hid (b = false) := Lib.hid (by rw [← HB.out]; unfold listB; rw [all_bad l oneB k _ HX.out ho, Bool.and_false])
          clear ho
          go_wp2_with fail
          refine (write_c _ _ _ false HO.out).mono ?_
          rintro e w1 ⟨rfl, g1⟩
          have HB2 := Lib.hid (bl_trans (bl_alloc HB1.out _) g1.below)
          clear g1
          go_wp2_with fail
          go_ret
          exact ⟨ret_bool HF.out.symm, HB2.out⟩
        | true =>
          have HO := Lib.hid ho
          clear ho
          go_wp2_with fail
          refine (write_c _ _ _ true HO.out).mono ?_
          rintro e w1 ⟨rfl, g1⟩
          have HB2 := Lib.hid (bl_trans (bl_alloc HB1.out _) g1.below)
          clear g1
          go_wp2_with fail
          go_roundw
          case rel => exact ⟨k + 1, by omega, by go_num, HB2, Lib.hid (by rw [hs.out, hall.out, HO.out]; rfl)⟩
          case measure => simp [intOf]; omega
      · have HF : Hid (b = true) := Lib.hid (by
          have := hall.out
          rw [List.take_of_length_le (by rw [LN.out]; omega)] at this
          rw [← HB.out]; unfold listB; rw [this, LN.out]; simp; omega)
        go_wp2
        go_ret
        exact ⟨ret_bool HF.out.symm, HB1.out⟩

theorem marks_c (l : List Int) (A : Option Addr) (n c z : Nat) (w : World) (b : Bool) (hr : Rd w 1 A n (zs l)) (hn : n ≤ 1000000) (hb : markB (z : Int) l = b) :
    Calls Try.prog 32 #[.slice A n c, .int .i64 z] w (RetB w b) := by
  have HB := Lib.hid hb
  have LN := Lib.hid (zs_len hr)
  have HR := Lib.hid hr
  clear hr hb
  by_cases hlen : 6 < n
  · have HF : Hid (b = false) := Lib.hid (by
      rw [← HB.out]; unfold markB; rw [LN.out, Bool.and_eq_false_iff]; left; simp; omega)
    go_enter Try.func32, Try.ntmps32
    go_wp2
    go_ret
    exact ⟨ret_bool HF.out.symm, Below.refl _ _⟩
  · go_enter Try.func32, Try.ntmps32
    go_wp2
    go_loop [5, 13] (fun s i => ∃ k : Nat, ∃ lo : Int, k ≤ n ∧ s = .int .i64 lo ∧ i = .int .i64 k ∧ Hid (marksB (z : Int) 0 l = marksB (z : Int) lo (l.drop k))) (fun _ i => n - (intOf i).toNat)
    case atStart => exact ⟨0, 0, Nat.zero_le _, rfl, rfl, Lib.hid rfl⟩
    case round =>
      obtain ⟨k, lo, hk, rfl, rfl, hmk⟩ := hrel
      by_cases hlt : k < n
      · obtain ⟨b1, off, zx, rfl, hx, c0⟩ := at_z HR.out k hlt
        have hs := Lib.hid (marks_drop (z : Int) lo l k _ hx)
        clear hx
        by_cases h1 : zx < lo
        · have HF : Hid (b = false) := Lib.hid (by
            rw [← HB.out]; unfold markB; rw [hmk.out, hs.out, decide_eq_false (p := lo ≤ zx) (by omega)]; simp)
          go_wp2
          go_ret
          exact ⟨ret_bool HF.out.symm, Below.refl _ _⟩
        · by_cases h2 : (z : Int) < zx
          · have HF : Hid (b = false) := Lib.hid (by
              rw [← HB.out]; unfold markB; rw [hmk.out, hs.out, decide_eq_false (p := zx ≤ (z : Int)) (by omega)]; simp)
            go_wp2
            go_ret
            exact ⟨ret_bool HF.out.symm, Below.refl _ _⟩
          · have HN : Hid (marksB (z : Int) 0 l = marksB (z : Int) zx (l.drop (k + 1))) := Lib.hid (by
              rw [hmk.out, hs.out, decide_eq_true (p := lo ≤ zx) (by omega), decide_eq_true (p := zx ≤ (z : Int)) (by omega)]; rfl)
            go_wp2
            go_round
            case rel => exact ⟨k + 1, zx, by omega, rfl, by go_num, HN⟩
            case measure => simp [intOf]; omega
      · have HF : Hid (b = true) := Lib.hid (by
          have h1 := hmk.out
          rw [List.drop_of_length_le (by rw [LN.out]; omega)] at h1
          rw [← HB.out]; unfold markB; rw [LN.out, h1]; simp [marksB]; omega)
        go_wp2
        go_ret
        exact ⟨ret_bool HF.out.symm, Below.refl _ _⟩

theorem right_c (l : Log) (A B : Option Addr) (n c m d : Nat) (w : World) (b : Bool) (hl : LogAt w A n c B m d l) (hn : n ≤ 1000000) (hm : m ≤ 1000000) (hb : rightB l = b) :
    Calls Try.prog 23 #[.agg #[.slice A n c, .slice B m d]] w (RetB w b) := by
  have HB := Lib.hid hb
  have LN := Lib.hid hl.ln
  have HL := Lib.hid hl
  clear hb hl
  have K0 : Hid (Blk (w.alloc (.cells #[.slice A n c, .slice B m d] 25)) w.heap.size 25 #[.slice A n c, .slice B m d]) := Lib.hid (Blk.new _ _ _)
  cases h1 : listB l.list with
  | false =>
    have H1 := Lib.hid h1
    have HF : Hid (b = false) := Lib.hid (by rw [← HB.out]; unfold rightB; rw [h1]; rfl)
    clear h1
    go_enter Try.func23, Try.ntmps23
    go_wp2_with fail
    refine (list_c l.list _ _ _ _ false (HL.out.rl.alloc _) hn H1.out).mono ?_
    rintro e w1 ⟨rfl, b1⟩
    go_wp2
    go_ret
    exact ⟨ret_bool HF.out.symm, bl_trans (bl_alloc (Below.refl _ _) _) b1⟩
  | true =>
    have H1 := Lib.hid h1
    have HF : Hid (markB (n : Int) l.marks = b) := Lib.hid (by rw [← HB.out]; unfold rightB; rw [h1, LN.out]; rfl)
    clear h1
    go_enter Try.func23, Try.ntmps23
    go_wp2_with fail
    refine (list_c l.list _ _ _ _ true (HL.out.rl.alloc _) hn H1.out).mono ?_
    rintro e w1 ⟨rfl, b1⟩
    have p0 := (K0.out.below b1).cell 0 _ rfl
    have p1 := (K0.out.below b1).cell 1 _ rfl
    have HB1 := Lib.hid (bl_trans (bl_alloc (Below.refl w.heap.size w) _) b1)
    clear b1
    go_wp2_with fail
    refine (marks_c l.marks _ _ _ _ _ b (HL.out.rm.below HB1.out) hm HF.out).mono ?_
    rintro e w2 ⟨rfl, b2⟩
    clear p0 p1
    cases b
    all_goals
      go_wp2
      go_ret
      exact ⟨rfl, bl_trans HB1.out b2⟩

theorem get_c (l : Log) (A B : Option Addr) (n c m d : Nat) (cl : Int) (w : World) (r : Int × Bool) (hl : LogAt w A n c B m d l) (hn : n ≤ 1000000) (hm : m ≤ 1000000) (hr : getS l cl = r) :
    Calls Try.prog 19 #[.agg #[.slice A n c, .slice B m d], .int .i64 cl] w (RetV w r) := by
  have HR := Lib.hid hr
  have LN := Lib.hid hl.ln
  have HL := Lib.hid hl
  clear hr hl
  have K0 : Hid (Blk (w.alloc (.cells #[.slice A n c, .slice B m d] 25)) w.heap.size 25 #[.slice A n c, .slice B m d]) := Lib.hid (Blk.new _ _ _)
  cases h1 : rightB l with
  | false =>
    have H1 := Lib.hid h1
    have HF : Hid (r = (0, false)) := Lib.hid (by rw [← HR.out]; unfold getS; rw [h1]; rfl)
    clear h1
    go_enter Try.func19, Try.ntmps19
    go_wp2_with fail
    refine (right_c l _ _ _ _ _ _ _ false (HL.out.alloc _) hn hm H1.out).mono ?_
    rintro e w1 ⟨rfl, b1⟩
    go_wp2
    go_ret2
    exact ⟨by rw [HF.out]; rfl, bl_trans (bl_alloc (Below.refl _ _) _) b1⟩
  | true =>
    have H1 := Lib.hid h1
    have HF : Hid (r = orNo (getL l.list cl)) := Lib.hid (by rw [← HR.out]; unfold getS; rw [if_pos h1])
    clear h1
    go_enter Try.func19, Try.ntmps19
    go_wp2_with fail
    refine (right_c l _ _ _ _ _ _ _ true (HL.out.alloc _) hn hm H1.out).mono ?_
    rintro e w1 ⟨rfl, b1⟩
    have p0 := (K0.out.below b1).cell 0 _ rfl
    have HB1 := Lib.hid (bl_trans (bl_alloc (Below.refl w.heap.size w) _) b1)
    clear b1
    go_wp2
    go_loopg [6] n (fun kx i wr => ∃ k : Nat, k ≤ n ∧ k ≤ kx ∧ i = .int .i64 ((k : Int) - 1) ∧ wr = w1 ∧ Hid (getL l.list cl = getL (l.list.take k) cl))
    case atStart => exact ⟨n, Nat.le_refl _, Nat.le_refl _, rfl, rfl, Lib.hid (by rw [List.take_of_length_le (by rw [LN.out]; omega)])⟩
    case round =>
      obtain ⟨k, hk, hkx, rfl, rfl, hg⟩ := hrel
      cases k with
      | zero =>
        have HG : Hid (r = (0, false)) := Lib.hid (by rw [HF.out, hg.out]; rfl)
        go_wp2
        go_ret2
        exact ⟨by rw [HG.out]; rfl, HB1.out⟩
      | succ k =>
        have hkn : k < n := by omega
        have e1 : (((k + 1 : Nat) : Int) - 1) = (k : Int) := by omega
        obtain ⟨b1, off, ⟨cx, vx⟩, rfl, hx, c0, c1⟩ := at_write (HL.out.rl.below HB1.out) k hkn
        have hs := Lib.hid (get_take l.list k _ cl hx)
        clear hx
        by_cases heq : cx = cl
        · have HG : Hid (r = (vx, true)) := Lib.hid (by rw [HF.out, hg.out, hs.out, if_pos heq]; rfl)
          rw [e1]
          go_wp2
          go_ret2
          exact ⟨by rw [HG.out]; rfl, HB1.out⟩
        · have HN : Hid (getL l.list cl = getL (l.list.take k) cl) := Lib.hid (by rw [hg.out, hs.out, if_neg heq])
          rw [e1]
          go_wp2
          go_roundg k
          case measure => omega
          case rel => exact ⟨k, by omega, Nat.le_refl _, by go_num, rfl, HN⟩
end Go.Proofs.Ytjmilnfemjnhoaa.Writes
