/-
  WHAT EACH FUNCTION OF THE LAYER reads RETURNS, AS IT IS WRITTEN: rightRead, find.
-/
import Derived.Test.YthgmjmecedhkoaaReadsLaw
import Derived.Test.YthgmjmecedhkoaaHeapCode
namespace Go.Proofs.Ythgmjmecedhkoaa.Reads
open Go.ChangeShapes Go.WideShapes Go.ChangeAt Go.RowKit Mem

set_option maxRecDepth 100000 in
theorem tick_any (n : Int) (w : World) : Calls Try.prog 15 #[.int .i64 n] w fun e w' => e = .returned (.bool (timeB n)) ∧ w = w' := by
  by_cases h1 : 0 ≤ n
  all_goals by_cases h2 : n ≤ 2147483647
  all_goals
    go_enter Try.func15, Try.ntmps15
    go_wp2
    go_ret
    exact ⟨ret_bool (by unfold timeB; simp [h1, h2]), rfl⟩

set_option maxRecDepth 100000 in
theorem read_any (cl vr vl : Int) (w : World) (b : Bool) (hb : oneB ⟨cl, vr, vl⟩ = b) :
    Calls Try.prog 35 #[.agg #[.int .i64 cl, .int .i64 vr, .int .i64 vl]] w (RetBG w b) := by
  have HB := Lib.hid hb
  clear hb
  by_cases h3 : 0 ≤ cl
  all_goals cases h1 : timeB vr
  all_goals cases h2 : Heap.vB vl
  all_goals
    have HF : Hid (b = _) := Lib.hid (by have := HB.out; unfold oneB at this; simp only [h1, h2, h3, decide_true, decide_false] at this; exact this.symm)
    go_enter Try.func35, Try.ntmps35
    go_wp2_with (first
      | (go_at_call 15; refine (tick_any _ _).mono ?_; rintro e w' ⟨rfl, rfl⟩)
      | (go_at_call 29; refine (Heap.spanright_any _ _).mono ?_; rintro e w' ⟨rfl, rfl⟩))
    go_ret
    exact ⟨ret_bool (by rw [HF.out]; first | rfl | (simp; omega)), (Grew.refl w).alloc _⟩

def orNo : Option Read → Read × Bool
  | some x => (x, true)
  | none => (⟨0, 0, 0⟩, false)
theorem findR_yes (l : List Read) (c : Int) (h : rightB l = true) : findR l c = orNo (findS l c) := by
  unfold findR; rw [if_pos h]; cases findS l c <;> rfl
theorem findR_no (l : List Read) (c : Int) (h : rightB l = false) : findR l c = orNo none := by
  unfold findR; rw [h]; rfl

set_option maxRecDepth 100000 in
theorem find_c (l : List Read) (A : Option Addr) (n c : Nat) (cl : Int) (w : World) (r : Read × Bool) (hr : Rd w 3 A n (ds l)) (hn : n ≤ 1000000) (hf : orNo (findS l cl) = r) :
    Calls Try.prog 36 #[.slice A n c, .int .i64 cl] w (RetR w r) := by
  have HL := Lib.hid (ds_len hr)
  have HR := Lib.hid hr
  have HF := Lib.hid hf
  clear hr hf
  go_enter Try.func36, Try.ntmps36
  go_wp2
  have HB0 : Hid (Blk (w.alloc (.cells #[.int .i64 0, .int .i64 0, .int .i64 0] 43)) w.heap.size 43 #[.int .i64 0, .int .i64 0, .int .i64 0]) := Lib.hid (Blk.new _ _ _)
  go_loopw [10] (fun i wr => ∃ k : Nat, k ≤ n ∧ i = .int .i64 k ∧ Hid (Below w.heap.size w wr) ∧ Hid (Blk wr w.heap.size 43 #[.int .i64 0, .int .i64 0, .int .i64 0]) ∧ Hid (hasB (l.take k) cl = false)) (fun i _ => n - (intOf i).toNat)
  case atStart => exact ⟨0, Nat.zero_le _, rfl, Lib.hid (bl_alloc (Below.refl _ _) _), HB0, Lib.hid rfl⟩
  case round =>
    clear HB0
    obtain ⟨k, hk, rfl, HB, HK, hno⟩ := hrel
    have hfz : ∀ o i, (wr.alloc o).frozen? ⟨w.heap.size, i, none⟩ = false := fun o i => (HK.out.alloc o).frozen i
    have hc0 : ∀ o, (wr.alloc o).cell? ⟨w.heap.size, 0, none⟩ = some (.int .i64 0) := fun o => (HK.out.alloc o).cell 0 _ rfl
    have hc1 : ∀ o, (wr.alloc o).cell? ⟨w.heap.size, 1, none⟩ = some (.int .i64 0) := fun o => (HK.out.alloc o).cell 1 _ rfl
    have hc2 : ∀ o, (wr.alloc o).cell? ⟨w.heap.size, 2, none⟩ = some (.int .i64 0) := fun o => (HK.out.alloc o).cell 2 _ rfl
    by_cases hlt : k < n
    · obtain ⟨b, off, ⟨cl2, vr, vl⟩, rfl, hx, c0, c1, c2⟩ := at_read (HR.out.below HB.out) k hlt
      have hs := Lib.hid (has_take l k _ cl hx)
      have HX := Lib.hid hx
      clear hx
      by_cases heq : cl2 = cl
      · subst heq
        have HFD : Hid (r = (⟨cl2, vr, vl⟩, true)) := Lib.hid (by rw [← HF.out, find_at l k _ cl2 HX.out rfl hno.out]; rfl)
        go_wp2
        have hk := (((HK.out.alloc (.cells #[.int .i64 cl2, .int .i64 vr, .int .i64 vl] 43)).set_ 0 (.int .i64 cl2)).set_ 1 (.int .i64 vr)).set_ 2 (.int .i64 vl)
        have q0 := hk.cell 0 _ rfl
        have q1 := hk.cell 1 _ rfl
        have q2 := hk.cell 2 _ rfl
        have bb := bl_set (bl_set (bl_set (bl_alloc HB.out (.cells #[.int .i64 cl2, .int .i64 vr, .int .i64 vl] 43)) (p := ⟨w.heap.size, 0, none⟩) (Nat.le_refl _) (.int .i64 cl2)) (p := ⟨w.heap.size, 1, none⟩) (Nat.le_refl _) (.int .i64 vr)) (p := ⟨w.heap.size, 2, none⟩) (Nat.le_refl _) (.int .i64 vl)
        clear hk
        (try simp only [Exit.inBlock, Exit.then])
        refine bodyPost_ret (v := .tuple #[.agg #[.int .i64 cl2, .int .i64 vr, .int .i64 vl], .bool true]) (by simp [results, Try.results36, go_sem, q0, q1, q2]) rfl ⟨by rw [HFD.out], bb⟩
      · have t1 : (cl2 == cl) = false := beq_eq_false_iff_ne.2 heq
        clear heq
        go_wp2
        go_roundw
        case rel => exact ⟨k + 1, by omega, by go_num, Lib.hid (bl_alloc HB.out _), Lib.hid (HK.out.alloc _), Lib.hid (by rw [hs.out, hno.out, t1]; rfl)⟩
        case measure => simp [intOf]; omega
    · have HFD : Hid (r = (⟨0, 0, 0⟩, false)) := Lib.hid (by rw [← HF.out, find_none l cl (by
          have := hno.out
          rwa [List.take_of_length_le (by rw [HL.out]; omega)] at this)]; rfl)
      have hfz' : ∀ i, wr.frozen? ⟨w.heap.size, i, none⟩ = false := fun i => HK.out.frozen i
      have hd0 := HK.out.cell 0 _ rfl
      have hd1 := HK.out.cell 1 _ rfl
      have hd2 := HK.out.cell 2 _ rfl
      go_wp2
      have hk := ((HK.out.set_ 0 (.int .i64 0)).set_ 1 (.int .i64 0)).set_ 2 (.int .i64 0)
      have q0 := hk.cell 0 _ rfl
      have q1 := hk.cell 1 _ rfl
      have q2 := hk.cell 2 _ rfl
      have bb := bl_set (bl_set (bl_set HB.out (p := ⟨w.heap.size, 0, none⟩) (Nat.le_refl _) (.int .i64 0)) (p := ⟨w.heap.size, 1, none⟩) (Nat.le_refl _) (.int .i64 0)) (p := ⟨w.heap.size, 2, none⟩) (Nat.le_refl _) (.int .i64 0)
      clear hk
      (try simp only [Exit.inBlock, Exit.then])
      refine bodyPost_ret (v := .tuple #[.agg #[.int .i64 0, .int .i64 0, .int .i64 0], .bool false]) (by simp [results, Try.results36, go_sem, q0, q1, q2]) rfl ⟨by rw [HFD.out], bb⟩
end Go.Proofs.Ythgmjmecedhkoaa.Reads
