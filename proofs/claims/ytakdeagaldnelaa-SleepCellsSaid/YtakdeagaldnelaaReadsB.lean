/-
  WHAT EACH FUNCTION OF THE LAYER reads RETURNS, AS IT IS WRITTEN: Cells, Same.
-/
import Derived.Test.YtakdeagaldnelaaReadsA
import Derived.Test.YtakdeagaldnelaaHeapA
import Derived.Deep.RegionHeld3
import Derived.Test.YtakdeagaldnelaaSort
import Derived.Sort.OwnSortedInts
namespace Go.Proofs.Ytakdeagaldnelaa.Reads
open Go.ChangeShapes Go.WideShapes Go.ChangeAt Go.RowKit Mem

/-- A read, as a value. -/
def rv (x : Read) : Value := .agg #[.int .i64 x.cell, .int .i64 x.version, .int .i64 x.value]
/-- What is returned: a read, and whether there is one. -/
def RetR (w : World) (r : Read × Bool) (e : Ending) (w' : World) : Prop :=
  e = .returned (.tuple #[.agg #[.int .i64 r.1.cell, .int .i64 r.1.version, .int .i64 r.1.value], .bool r.2]) ∧ Below w.heap.size w w'
/-- What is returned: a slice that reads as a list of cells and has room for it, and an error's number. -/
def RetSEC (w : World) (K n : Nat) (xs : List Value) (f : Int) (e : Ending) (w' : World) : Prop :=
  ∃ B d, n ≤ d ∧ e = .returned (.tuple #[.slice B n d, .int .i64 f]) ∧ Rd w' K B n xs ∧ Below w.heap.size w w'

theorem cells_one : cellsS [⟨3, 4, 5⟩] = [3] := by
  unfold cellsS
  rw [if_pos (by decide)]
  exact sort_of _ _ (List.Perm.refl _) (by simp)


set_option maxRecDepth 100000 in
theorem trod_read {H : Type} {enc : TypeId × Value → H} {W : World} {fuel : Nat} {cs' : List Value} {x : DataW H × List MemPlace} (hl : cs'.length = 3)
    (ht : DataW.trod enc Try.prog W 0 (fun _ => true) true fuel 57 cs' = some x) : ∃ y : Read, cs' = dc y ∧ (Fits y.cell ∧ Fits y.version ∧ Fits y.value) := by
  obtain ⟨xs, n', _, _, _, hxl, hf⟩ := DataW.trod_struct Try.underlying57 ht
  match cs', hl with
  | [c0, c1, c2], _ =>
    have g0 := hf 0 _ rfl
    have g1 := hf 1 _ rfl
    have g2 := hf 2 _ rfl
    have k3 : Try.prog.cellsOf 3 = 1 := by kernel_rfl
    match xs, hxl with
    | [y0, y1, y2], _ =>
      simp [k3] at g0 g1 g2
      obtain ⟨m0, e0, _, wf0⟩ := DataW.trod_int Try.underlying3 g0
      obtain ⟨m1, e1, _, wf1⟩ := DataW.trod_int Try.underlying3 g1
      obtain ⟨m2, e2, _, wf2⟩ := DataW.trod_int Try.underlying3 g2
      simp at e0 e1 e2
      subst e0 e1 e2
      exact ⟨⟨m0, m1, m2⟩, rfl, bounds_i64 wf0, bounds_i64 wf1, bounds_i64 wf2⟩
set_option maxRecDepth 100000 in
theorem open_reads {H : Type} {enc : TypeId × Value → H} {W : World} {A : Option Addr} {n c : Nat} {d : DataW H} {p : List MemPlace}
    (h : DataW.Trod enc Try.prog W 0 (fun _ => true) true 54 (.slice A n c) d p) :
    n ≤ c ∧ c ≤ 9223372036854775807 ∧ ∃ xs : List Read, Rd W 3 A n (ds xs) ∧ xs.length = n ∧ ∀ x ∈ xs, Fits x.cell ∧ Fits x.version ∧ Fits x.value :=
  open_rows Try.underlying54 3 (by kernel_rfl) (by decide) dc (fun _ => rfl) (fun x => Fits x.cell ∧ Fits x.version ∧ Fits x.value) (fun _ _ _ hl ht => trod_read hl ht) h
set_option maxRecDepth 100000 in
theorem open_read {H : Type} {enc : TypeId × Value → H} {W : World} {r : Reach} {base : Nat} {v : Value} {d : DataW H} {p : List MemPlace} (hv : Value.okWide Try.prog W r base 57 v)
    (h : DataW.Trod enc Try.prog W 0 (fun _ => true) true 57 v d p) :
    ∃ x : Read, v = .agg #[.int .i64 x.cell, .int .i64 x.version, .int .i64 x.value] ∧ (Fits x.cell ∧ Fits x.version ∧ Fits x.value) := by
  obtain ⟨cs, rfl, hsz⟩ := okWide_struct Try.underlying57 hv
  have k3 : Try.prog.cellsOf 57 = 3 := by kernel_rfl
  obtain ⟨fuel, hf⟩ := h
  obtain ⟨y, e, hy⟩ := trod_read (cs' := cs.toList) (by rw [Array.length_toList, hsz, k3]) (by simpa [Value.cells] using hf)
  refine ⟨y, ?_, hy⟩
  have : cs = (dc y).toArray := by rw [← e]
  rw [this]; rfl
end Go.Proofs.Ytakdeagaldnelaa.Reads

namespace Go.Proofs.Ytakdeagaldnelaa.Reads
open Go.ChangeShapes Go.WideShapes Go.ChangeAt Go.RowKit Mem

set_option maxRecDepth 100000 in
theorem tick_any (n : Int) (w : World) : Calls Try.prog 49 #[.int .i64 n] w fun e w' => e = .returned (.bool (timeB n)) ∧ w = w' := by
  by_cases h1 : 0 ≤ n
  all_goals by_cases h2 : n ≤ 2147483647
  all_goals
    go_enter Try.func49, Try.ntmps49
    go_wp2
    go_ret
    exact ⟨ret_bool (by unfold timeB; simp [h1, h2]), rfl⟩

set_option maxRecDepth 100000 in
theorem read_any (cl vr vl : Int) (w : World) (b : Bool) (hb : oneB ⟨cl, vr, vl⟩ = b) :
    Calls Try.prog 45 #[.agg #[.int .i64 cl, .int .i64 vr, .int .i64 vl]] w (RetBG w b) := by
  have HB := Lib.hid hb
  clear hb
  by_cases h3 : 0 ≤ cl
  all_goals cases h1 : timeB vr
  all_goals cases h2 : Heap.vB vl
  all_goals
    have HF : Hid (b = _) := Lib.hid (by have := HB.out; unfold oneB at this; simp only [h1, h2, h3, decide_true, decide_false] at this; exact this.symm)
    go_enter Try.func45, Try.ntmps45
    go_wp2_with (first
      | (go_at_call 49; refine (tick_any _ _).mono ?_; rintro e w' ⟨rfl, rfl⟩)
      | (go_at_call 68; refine (Heap.spanright_any _ _).mono ?_; rintro e w' ⟨rfl, rfl⟩))
    go_ret
    exact ⟨ret_bool (by rw [HF.out]; first | rfl | (simp; omega)), (Grew.refl w).alloc _⟩

def orNo : Option Read → Read × Bool
  | some x => (x, true)
  | none => (⟨0, 0, 0⟩, false)
theorem findR_yes (l : List Read) (c : Int) (h : rightB l = true) : findR l c = orNo (findS l c) := by
  unfold findR; rw [if_pos h]; cases findS l c <;> rfl
theorem findR_no (l : List Read) (c : Int) (h : rightB l = false) : findR l c = orNo none := by
  unfold findR; rw [h]; rfl

set_option maxRecDepth 100000 in
theorem find_c (l : List Read) (A : Option Addr) (n c : Nat) (cl : Int) (w : World) (r : Read × Bool) (hr : Rd w 3 A n (ds l)) (hn : n ≤ 1000000) (hf : orNo (findS l cl) = r) :
    Calls Try.prog 46 #[.slice A n c, .int .i64 cl] w (RetR w r) := by
  have HL := Lib.hid (ds_len hr)
  have HR := Lib.hid hr
  have HF := Lib.hid hf
  clear hr hf
  go_enter Try.func46, Try.ntmps46
  go_wp2
  have HB0 : Hid (Blk (w.alloc (.cells #[.int .i64 0, .int .i64 0, .int .i64 0] 57)) w.heap.size 57 #[.int .i64 0, .int .i64 0, .int .i64 0]) := Lib.hid (Blk.new _ _ _)
  go_loopw [10] (fun i wr => ∃ k : Nat, k ≤ n ∧ i = .int .i64 k ∧ Hid (Below w.heap.size w wr) ∧ Hid (Blk wr w.heap.size 57 #[.int .i64 0, .int .i64 0, .int .i64 0]) ∧ Hid (hasB (l.take k) cl = false)) (fun i _ => n - (intOf i).toNat)
  case atStart => exact ⟨0, Nat.zero_le _, rfl, Lib.hid (bl_alloc (Below.refl _ _) _), HB0, Lib.hid rfl⟩
  case round =>
    clear HB0
    obtain ⟨k, hk, rfl, HB, HK, hno⟩ := hrel
    have hfz : ∀ o i, (wr.alloc o).frozen? ⟨w.heap.size, i, none⟩ = false := fun o i => (HK.out.alloc o).frozen i
    have hc0 : ∀ o, (wr.alloc o).cell? ⟨w.heap.size, 0, none⟩ = some (.int .i64 0) := fun o => (HK.out.alloc o).cell 0 _ rfl
    have hc1 : ∀ o, (wr.alloc o).cell? ⟨w.heap.size, 1, none⟩ = some (.int .i64 0) := fun o => (HK.out.alloc o).cell 1 _ rfl
    have hc2 : ∀ o, (wr.alloc o).cell? ⟨w.heap.size, 2, none⟩ = some (.int .i64 0) := fun o => (HK.out.alloc o).cell 2 _ rfl
    by_cases hlt : k < n
    · obtain ⟨b, off, ⟨cl2, vr, vl⟩, rfl, hx, c0, c1, c2⟩ := at_read (HR.out.below HB.out) k hlt
      have hs := Lib.hid (has_take l k _ cl hx)
      have HX := Lib.hid hx
      clear hx
      by_cases heq : cl2 = cl
      · subst heq
        have HFD : Hid (r = (⟨cl2, vr, vl⟩, true)) := Lib.hid (by rw [← HF.out, find_at l k _ cl2 HX.out rfl hno.out]; rfl)
        go_wp2
        have hk := (((HK.out.alloc (.cells #[.int .i64 cl2, .int .i64 vr, .int .i64 vl] 57)).set_ 0 (.int .i64 cl2)).set_ 1 (.int .i64 vr)).set_ 2 (.int .i64 vl)
        have q0 := hk.cell 0 _ rfl
        have q1 := hk.cell 1 _ rfl
        have q2 := hk.cell 2 _ rfl
        have bb := bl_set (bl_set (bl_set (bl_alloc HB.out (.cells #[.int .i64 cl2, .int .i64 vr, .int .i64 vl] 57)) (p := ⟨w.heap.size, 0, none⟩) (Nat.le_refl _) (.int .i64 cl2)) (p := ⟨w.heap.size, 1, none⟩) (Nat.le_refl _) (.int .i64 vr)) (p := ⟨w.heap.size, 2, none⟩) (Nat.le_refl _) (.int .i64 vl)
        clear hk
        (try simp only [Exit.inBlock, Exit.then])
        refine bodyPost_ret (v := .tuple #[.agg #[.int .i64 cl2, .int .i64 vr, .int .i64 vl], .bool true]) (by simp [results, Try.results46, go_sem, q0, q1, q2]) rfl ⟨by rw [HFD.out], bb⟩
      · have t1 : (cl2 == cl) = false := beq_eq_false_iff_ne.2 heq
        clear heq
        go_wp2
        go_roundw
        case rel => exact ⟨k + 1, by omega, by go_num, Lib.hid (bl_alloc HB.out _), Lib.hid (HK.out.alloc _), Lib.hid (by rw [hs.out, hno.out, t1]; rfl)⟩
        case measure => simp [intOf]; omega
    · have HFD : Hid (r = (⟨0, 0, 0⟩, false)) := Lib.hid (by rw [← HF.out, find_none l cl (by
          have := hno.out
          rwa [List.take_of_length_le (by rw [HL.out]; omega)] at this)]; rfl)
      have hfz' : ∀ i, wr.frozen? ⟨w.heap.size, i, none⟩ = false := fun i => HK.out.frozen i
      have hd0 := HK.out.cell 0 _ rfl
      have hd1 := HK.out.cell 1 _ rfl
      have hd2 := HK.out.cell 2 _ rfl
      go_wp2
      have hk := ((HK.out.set_ 0 (.int .i64 0)).set_ 1 (.int .i64 0)).set_ 2 (.int .i64 0)
      have q0 := hk.cell 0 _ rfl
      have q1 := hk.cell 1 _ rfl
      have q2 := hk.cell 2 _ rfl
      have bb := bl_set (bl_set (bl_set HB.out (p := ⟨w.heap.size, 0, none⟩) (Nat.le_refl _) (.int .i64 0)) (p := ⟨w.heap.size, 1, none⟩) (Nat.le_refl _) (.int .i64 0)) (p := ⟨w.heap.size, 2, none⟩) (Nat.le_refl _) (.int .i64 0)
      clear hk
      (try simp only [Exit.inBlock, Exit.then])
      refine bodyPost_ret (v := .tuple #[.agg #[.int .i64 0, .int .i64 0, .int .i64 0], .bool false]) (by simp [results, Try.results46, go_sem, q0, q1, q2]) rfl ⟨by rw [HFD.out], bb⟩
end Go.Proofs.Ytakdeagaldnelaa.Reads

namespace Go.Proofs.Ytakdeagaldnelaa.Reads
open Go.ChangeShapes Go.WideShapes Go.ChangeAt Go.RowKit Mem

set_option maxRecDepth 100000 in
set_option maxHeartbeats 4000000 in
theorem right_c (l : List Read) (A : Option Addr) (n c : Nat) (w : World) (b : Bool) (hr : Rd w 3 A n (ds l)) (hnc : n ≤ c) (hn : n ≤ 1000000) (hb : rightB l = b) :
    Calls Try.prog 29 #[.slice A n c] w (RetB w b) := by
  subst hb
  have HL := Lib.hid (ds_len hr)
  have HR := Lib.hid hr
  clear hr
  by_cases hlen : 24 < n
  · have HF : Hid (rightB l = false) := Lib.hid (by
      unfold rightB; rw [HL.out, Bool.and_eq_false_iff]; left; simp; omega)
    go_enter Try.func29, Try.ntmps29
    go_wp2
    go_ret
    exact ⟨ret_bool HF.out.symm, Below.refl _ _⟩
  · go_enter Try.func29, Try.ntmps29
    go_wp2
    go_loopw [12] (fun i wr => ∃ k : Nat, k ≤ n ∧ i = .int .i64 k ∧ Hid (Below w.heap.size w wr) ∧ Hid (goodB (l.take k) = true)) (fun i _ => n - (intOf i).toNat)
    case atStart => exact ⟨0, Nat.zero_le _, rfl, Lib.hid (Below.refl _ _), Lib.hid rfl⟩
    case round =>
      obtain ⟨k, hk, rfl, HB, hall⟩ := hrel
      by_cases hlt : k < n
      · have hkc : k ≤ c := by omega
        obtain ⟨b, off, ⟨cl, vr, vl⟩, rfl, hx, c0, c1, c2⟩ := at_read (HR.out.below HB.out) k hlt
        have hs := Lib.hid (good_take l k _ hx)
        clear hx
        have HK0 : Hid (Blk (wr.alloc (.cells #[.int .i64 cl, .int .i64 vr, .int .i64 vl] 57)) wr.heap.size 57 #[.int .i64 cl, .int .i64 vr, .int .i64 vl]) := Lib.hid (Blk.new _ _ _)
        cases ho : oneB ⟨cl, vr, vl⟩ with
        | false =>
          have HO := Lib.hid ho
          clear ho HK0
          have HF : Hid (rightB l = false) := Lib.hid (right_bad l (k + 1) (by rw [hs.out, HO.out]; simp))
          go_wp2_with fail
          refine (read_any _ _ _ _ false HO.out).mono ?_
          rintro e w1 ⟨rfl, g1⟩
          have HB1 := Lib.hid (bl_trans (bl_alloc HB.out _) g1.below)
          clear g1 c0 c1 c2
          go_wp2_with fail
          go_ret
          exact ⟨ret_bool HF.out.symm, HB1.out⟩
        | true =>
          have HO := Lib.hid ho
          clear ho
          go_wp2_with fail
          refine (read_any _ _ _ _ true HO.out).mono ?_
          rintro e w1 ⟨rfl, g1⟩
          have HB1 := Lib.hid (bl_trans (bl_alloc HB.out _) g1.below)
          have q0 := (HK0.out.below g1.below).cell 0 _ rfl
          have HBS := Lib.hid HB1.out.size
          clear g1 c0 c1 c2 HK0
          obtain ⟨⟨⟨cx, vx, lx⟩, bt⟩, hx⟩ : ∃ y, orNo (findS (l.take k) cl) = y := ⟨_, rfl⟩
          have HBT : Hid (hasB (l.take k) cl = bt) := Lib.hid (by
            have h1 := find_has (l.take k) cl
            cases h2 : findS (l.take k) cl with
            | none => rw [h2] at hx h1; injection hx with _ h3; rw [← h1, ← h3]; rfl
            | some x => rw [h2] at hx h1; injection hx with _ h3; rw [← h1, ← h3]; rfl)
          have HX := Lib.hid hx
          clear hx
          go_wp2_with fail
          have ne1 := World.new_ne w1 _ q0
          have hq : ∀ o, (w1.drew.alloc o).cell? ⟨wr.heap.size, 0, none⟩ = some (.int .i64 cl) := fun o => (Below.cell (bl_alloc (Below.refl _ w1.drew) o) (cell_lt q0)).trans q0
          go_region_held3 (fun w' => w'.cell? ⟨wr.heap.size, 0, none⟩ = some (.int .i64 cl)) (first | exact qk | exact hq _ | go_keep)
            (first | (go_at_call 46; refine (find_c (l.take k) _ _ _ _ _ _ (by first | exact (rd_take (HR.out.below HB1.out) k hk).drew | exact (rd_take (HR.out.below HB1.out) k hk).drew.alloc _) (by omega) HX.out).mono ?_; rintro e w2 ⟨rfl, b2⟩
                      have qk : w2.cell? ⟨wr.heap.size, 0, none⟩ = some (.int .i64 cl) := by first | exact (b2.cell (cell_lt q0)).trans q0 | exact (b2.cell (cell_lt (hq _))).trans (hq _)
                      have ne2 := World.new_ne w2 _ qk
                      have HB2 : Hid (Below w.heap.size w w2) := Lib.hid (by first | exact bl_trans HB1.out.drew b2 | exact bl_trans (bl_alloc HB1.out.drew _) b2)
                      try (have hk9 : Blk w2 w1.heap.size 57 #[.int .i64 0, .int .i64 0, .int .i64 0] := (Blk.new w1.drew _ _).below b2
                           have f9 := hk9.frozen
                           have z0 := hk9.cell 0 _ rfl
                           have z1 := hk9.cell 1 _ rfl
                           have z2 := hk9.cell 2 _ rfl
                           clear hk9)
                      clear b2))
          all_goals
            cases bt with
            | true =>
              have HF : Hid (rightB l = false) := Lib.hid (right_bad l (k + 1) (by rw [hs.out, HBT.out]; simp))
              go_wp2
              go_ret
              exact ⟨ret_bool HF.out.symm, by first | exact bl_alloc HB2.out _ | exact bl_set (bl_set (bl_set HB2.out HBS.out _) HBS.out _) HBS.out _⟩
            | false =>
              go_wp2
              go_roundw
              case rel => exact ⟨k + 1, by omega, by go_num, Lib.hid (by first | exact bl_alloc HB2.out _ | exact bl_set (bl_set (bl_set HB2.out HBS.out _) HBS.out _) HBS.out _), Lib.hid (by rw [hs.out, hall.out, HO.out, HBT.out]; rfl)⟩
              case measure => simp [intOf]; omega
      · have HF : Hid (rightB l = true) := Lib.hid (by
          have := hall.out
          rw [List.take_of_length_le (by rw [HL.out]; omega)] at this
          unfold rightB; rw [this, HL.out]; simp; omega)
        go_wp2
        go_ret
        exact ⟨ret_bool HF.out.symm, HB.out⟩
end Go.Proofs.Ytakdeagaldnelaa.Reads

namespace Go.Proofs.Ytakdeagaldnelaa.Reads
open Go.ChangeShapes Go.WideShapes Go.ChangeAt Go.RowKit Mem

set_option maxRecDepth 100000 in
theorem findR_c (l : List Read) (A : Option Addr) (n c : Nat) (cl : Int) (w : World) (r : Read × Bool) (hr : Rd w 3 A n (ds l)) (hnc : n ≤ c) (hn : n ≤ 1000000) (hf : findR l cl = r) :
    Calls Try.prog 41 #[.slice A n c, .int .i64 cl] w (RetR w r) := by
  have HR := Lib.hid hr
  have HF := Lib.hid hf
  clear hr hf
  have HB0 : Hid (Blk (w.alloc (.cells #[.int .i64 0, .int .i64 0, .int .i64 0] 57)) w.heap.size 57 #[.int .i64 0, .int .i64 0, .int .i64 0]) := Lib.hid (Blk.new _ _ _)
  cases h1 : rightB l
  · have H1 := Lib.hid h1
    have HFD : Hid (r = (⟨0, 0, 0⟩, false)) := Lib.hid (by rw [← HF.out, findR_no _ _ h1]; rfl)
    clear h1
    go_enter Try.func41, Try.ntmps41
    go_wp2_with fail
    refine (right_c l _ _ _ _ false (HR.out.alloc _) hnc hn H1.out).mono ?_
    rintro e w1 ⟨rfl, b1⟩
    have HK := Lib.hid (HB0.out.below b1)
    have HB := Lib.hid (bl_trans (bl_alloc (Below.refl w.heap.size w) _) b1)
    clear b1
    have hfz := HK.out.frozen
    have hd0 := HK.out.cell 0 _ rfl
    have hd1 := HK.out.cell 1 _ rfl
    have hd2 := HK.out.cell 2 _ rfl
    go_wp2
    have hk := ((HK.out.set_ 0 (.int .i64 0)).set_ 1 (.int .i64 0)).set_ 2 (.int .i64 0)
    have q0 := hk.cell 0 _ rfl
    have q1 := hk.cell 1 _ rfl
    have q2 := hk.cell 2 _ rfl
    have bb := bl_set (bl_set (bl_set HB.out (p := ⟨w.heap.size, 0, none⟩) (Nat.le_refl _) (.int .i64 0)) (p := ⟨w.heap.size, 1, none⟩) (Nat.le_refl _) (.int .i64 0)) (p := ⟨w.heap.size, 2, none⟩) (Nat.le_refl _) (.int .i64 0)
    clear hk
    (try simp only [Exit.inBlock, Exit.then])
    refine bodyPost_ret (v := .tuple #[.agg #[.int .i64 0, .int .i64 0, .int .i64 0], .bool false]) (by simp [results, Try.results41, go_sem, q0, q1, q2]) rfl ⟨by rw [HFD.out], bb⟩
  · have H1 := Lib.hid h1
    have HFD : Hid (orNo (findS l cl) = r) := Lib.hid (by rw [← HF.out, findR_yes _ _ h1])
    clear h1
    obtain ⟨⟨cx, vx, lx⟩, bt⟩ := r
    go_enter Try.func41, Try.ntmps41
    go_wp2_with fail
    refine (right_c l _ _ _ _ true (HR.out.alloc _) hnc hn H1.out).mono ?_
    rintro e w1 ⟨rfl, b1⟩
    have HK1 := Lib.hid (HB0.out.below b1)
    have HB1 := Lib.hid (bl_trans (bl_alloc (Below.refl w.heap.size w) _) b1)
    clear b1
    go_wp2_with fail
    refine (find_c l _ _ _ _ _ _ (HR.out.below HB1.out) hn HFD.out).mono ?_
    rintro e w2 ⟨rfl, b2⟩
    have HK := Lib.hid (HK1.out.below b2)
    have HB := Lib.hid (bl_trans HB1.out b2)
    clear b2
    have hfz := HK.out.frozen
    have hd0 := HK.out.cell 0 _ rfl
    have hd1 := HK.out.cell 1 _ rfl
    have hd2 := HK.out.cell 2 _ rfl
    go_wp2
    have hk := ((HK.out.set_ 0 (.int .i64 cx)).set_ 1 (.int .i64 vx)).set_ 2 (.int .i64 lx)
    have q0 := hk.cell 0 _ rfl
    have q1 := hk.cell 1 _ rfl
    have q2 := hk.cell 2 _ rfl
    have bb := bl_set (bl_set (bl_set HB.out (p := ⟨w.heap.size, 0, none⟩) (Nat.le_refl _) (.int .i64 cx)) (p := ⟨w.heap.size, 1, none⟩) (Nat.le_refl _) (.int .i64 vx)) (p := ⟨w.heap.size, 2, none⟩) (Nat.le_refl _) (.int .i64 lx)
    clear hk
    (try simp only [Exit.inBlock, Exit.then])
    refine bodyPost_ret (v := .tuple #[.agg #[.int .i64 cx, .int .i64 vx, .int .i64 lx], .bool bt]) (by simp [results, Try.results41, go_sem, q0, q1, q2]) rfl ⟨rfl, bb⟩


theorem own_room {w0 w : World} {e size n : Nat} {v : Value} {xs : List Value} (h : Own w0 w e size v n xs) : ∃ B d, v = .slice B n d ∧ n ≤ d ∧ Rd w size B n xs := by
  obtain ⟨B, d, hv, hr⟩ := h.form
  refine ⟨B, d, hv, ?_, hr⟩
  rcases h.1.2 with ⟨h1, h2⟩ | ⟨g, cap, cur, h1, _, _, h2, _⟩
  · omega
  · rw [hv] at h1; injection h1 with _ _ h3; omega

end Go.Proofs.Ytakdeagaldnelaa.Reads

namespace Go.Proofs.Ytakdeagaldnelaa.Reads
open Go.ChangeShapes Go.WideShapes Go.ChangeAt Go.RowKit Mem

theorem zs_map (l : List Int) : zs l = l.map (Value.int .i64) := by
  induction l with
  | nil => rfl
  | cons x l ih => unfold zs at *; rw [List.flatMap_cons, ih]; rfl
/-- The library's sort, on a slice of the call's own. -/
theorem sort_own (w0 w : World) (v : Value) (n : Nat) (l : List Int) (ho : Own w0 w 3 1 v n (zs l)) (hn : n ≤ 1000000) :
    Calls Try.prog 66 #[v] w fun e w' => e = .returned (.tuple #[]) ∧ Own w0 w' 3 1 v n (zs (sortZ l)) := by
  have hl : l.length = n := by have := ho.1.1; rw [zs_map, List.length_map] at this; omega
  rcases ho.1.2 with ⟨rfl, rfl⟩ | ⟨g, cap, cur, rfl, hbase, hb, hnc, hcap, hsz, htk⟩
  · obtain rfl : l = [] := List.eq_nil_of_length_eq_zero hl
    refine (Srt.slices_Sort_int_none _ _ w).mono ?_
    rintro e w' ⟨rfl, rfl⟩
    exact ⟨rfl, by rw [sort_of [] [] (List.Perm.refl _) List.Pairwise.nil]; exact ho⟩
  · subst hl
    rw [zs_map, Nat.mul_one] at htk
    have hg : g < w.heap.size := (Array.getElem?_eq_some_iff.1 hb).1
    refine (Srt.slices_Sort_int g 0 cap l w (holds_of_blockI hb htk) hg (by omega)).mono ?_
    rintro e w' ⟨rfl, q, os, rfl⟩
    refine ⟨rfl, ?_, ?_⟩
    · rw [zs_map]
      exact ownsRow_sortedI (ts := sortZ l) (sort_len l) hbase hb hnc hcap (by rw [hsz])
    · exact ho.grown (grownBy_sortedI (w := w) (g := g) (n := q) (os := os) _)

set_option maxRecDepth 100000 in
theorem cells_c (l : List Read) (A : Option Addr) (n c : Nat) (w : World) (r : List Int) (q : Nat) (hr : Rd w 3 A n (ds l)) (hnc : n ≤ c) (hn : n ≤ 1000000) (hcs : cellsS l = r) (hq : r.length = q) :
    Calls Try.prog 40 #[.slice A n c] w (RetS w 1 q (zs r)) := by
  have HC := Lib.hid hcs
  have HQ := Lib.hid hq
  have HL := Lib.hid (ds_len hr)
  have HR := Lib.hid hr
  clear hr hcs hq
  cases h1 : rightB l
  · have H1 := Lib.hid h1
    have HF : Hid (r = []) := Lib.hid (by rw [← HC.out]; unfold cellsS; rw [h1]; rfl)
    have HN : Hid (q = 0) := Lib.hid (by rw [← HQ.out, HF.out]; rfl)
    obtain rfl := HN.out
    clear h1
    go_enter Try.func40, Try.ntmps40
    go_wp2_with fail
    refine (right_c l _ _ _ _ false HR.out hnc hn H1.out).mono ?_
    rintro e w1 ⟨rfl, b1⟩
    go_wp2
    go_ret
    exact ⟨_, _, rfl, by rw [HF.out]; exact Rd.none_, b1⟩
  · have H1 := Lib.hid h1
    have HF : Hid (r = sortZ (l.map Read.cell)) := Lib.hid (by rw [← HC.out]; unfold cellsS; rw [if_pos h1])
    have HN : Hid (q = n) := Lib.hid (by rw [← HQ.out, HF.out, sort_len, List.length_map]; exact HL.out)
    obtain rfl := HN.out
    clear h1
    go_enter Try.func40, Try.ntmps40
    go_wp2_with fail
    refine (right_c l _ _ _ _ true HR.out hnc hn H1.out).mono ?_
    rintro e w1 ⟨rfl, b1⟩
    have HB1 := Lib.hid b1
    clear b1
    go_wp2
    go_loopw [3, 11] (fun v i wr => ∃ k : Nat, k ≤ q ∧ i = .int .i64 k ∧ Own w1 wr 3 1 v k (zs ((l.map Read.cell).take k))) (fun _ i _ => q - (intOf i).toNat)
    case atStart => exact ⟨0, Nat.zero_le _, rfl, Own.nil_ (Below.refl _ _)⟩
    case round =>
      obtain ⟨k, hk, rfl, hown⟩ := hrel
      by_cases hlt : k < q
      · obtain ⟨b, off, ⟨cl, vr, vl⟩, rfl, hx, c0, c1, c2⟩ := at_read ((HR.out.below HB1.out).below hown.2) k hlt
        have HT := Lib.hid (zs_take (l.map Read.cell) k cl (by rw [List.getElem?_map, hx]; rfl))
        clear hx
        go_wp2_with (at_builtin; refine append_rd rfl _ _ 27 rfl Mem.tInt w1 _ _ _ rfl ((hown.alloc _).alloc _) _ 1 1 [.int .i64 cl] rfl (Rd.builtAt _ 1 1 [.int .i64 cl] _ rfl (by simp)) (one_cons rfl one_nil) (by omega) (by omega) ?_; intro v' w' hown' hg; clear hg)
        go_roundw
        case rel => exact ⟨k + 1, by omega, by go_num, by rw [HT.out]; exact hown'⟩
        case measure => simp [intOf]; omega
      · obtain rfl : k = q := by omega
        have ho := hown
        rw [List.take_of_length_le (by rw [List.length_map, HL.out]; exact Nat.le_refl _)] at ho
        have HO := Lib.hid ho
        clear hown ho
        go_wp2_with fail
        refine (sort_own w1 _ _ _ _ HO.out hn).mono ?_
        rintro e w2 ⟨rfl, ho2⟩
        obtain ⟨B, d, rfl, hrd⟩ := ho2.form
        go_wp2
        go_ret
        exact ⟨B, d, rfl, by rw [HF.out]; exact hrd, bl_trans HB1.out ho2.2⟩

theorem get_still (h : List Heap.Cell) (x : Read) (hr : Heap.rightB h = true) (r : Int × Int) (hg : Heap.getS h x.cell = r) : stillB h x = (decide (r.2 = 0) && (r.1 == x.value)) := by
  subst hg
  unfold Heap.getS stillB
  rw [if_pos hr]
  cases Heap.liveAt h x.cell
  · rfl
  · rfl
end Go.Proofs.Ytakdeagaldnelaa.Reads
