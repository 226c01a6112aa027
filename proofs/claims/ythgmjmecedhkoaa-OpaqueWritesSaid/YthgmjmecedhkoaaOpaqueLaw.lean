/-
  WHAT THE LAWS OF LAYER 13 NEED BESIDES: the opened argument, small, awake.
-/
import Derived.Test.YthgmjmecedhkoaaOpaqueAt2
namespace Go.Proofs.Ythgmjmecedhkoaa.Opaque
open Go.ChangeShapes Go.WideShapes Go.ChangeAt Go.RowKit Go.Deep Mem

set_option maxRecDepth 100000 in
theorem slice_cell {H : Type} {enc : TypeId × Value → H} {P : Program} {W : World} {fuel : Nat} {t e : TypeId} {c0 : Value} {x : DataW H × List MemPlace} (ht : P.underlying t = some (.slice e))
    (hf : DataW.trod enc P W 0 (fun _ => true) true fuel t [c0] = some x) : ∃ A n c, c0 = .slice A n c := by
  rcases open_slice ht hf with ⟨hcs, _⟩ | ⟨a, len, cap, m, n', D, Pl, hcs, _⟩
  · simp at hcs
    exact ⟨_, _, _, hcs⟩
  · simp at hcs
    exact ⟨_, _, _, hcs⟩
/-- What a heap with its version that came in keeps. -/
def Good (W : World) (y : RawS) : Prop := Inner W y ∧ Heap.Fits y.v
set_option maxRecDepth 100000 in
theorem trod_state {H : Type} {enc : TypeId × Value → H} {W : World} {fuel : Nat} {cs' : List Value} {x : DataW H × List MemPlace} (hl : cs'.length = 2)
    (ht : DataW.trod enc Try.prog W 0 (fun _ => true) true fuel 39 cs' = some x) : ∃ y : RawS, cs' = sc y ∧ Good W y := by
  obtain ⟨xs, n', _, _, _, hxl, hf⟩ := DataW.trod_struct Try.underlying39 ht
  match cs', hl with
  | [c0, c1], _ =>
    have g0 := hf 0 _ rfl
    have g1 := hf 1 _ rfl
    have k3 : Try.prog.cellsOf 3 = 1 := by kernel_rfl
    have k4 : Try.prog.cellsOf 29 = 1 := by kernel_rfl
    match xs, hxl with
    | [y0, y1], _ =>
      simp [k3, k4] at g0 g1
      obtain ⟨m0, e0, _, wf0⟩ := DataW.trod_int Try.underlying3 g0
      obtain ⟨A, n, c, rfl⟩ := slice_cell Try.underlying29 g1
      obtain ⟨hnc, hc, lst, hr, _, _⟩ := Heap.open_cells (A := A) (n := n) (c := c) (d := y1.1) (p := y1.2) ⟨_, g1⟩
      simp at e0
      subst e0
      exact ⟨⟨m0, A, n, c, lst⟩, rfl, hr, bounds_i64 wf0⟩
set_option maxRecDepth 100000 in
theorem open_past {H : Type} {enc : TypeId × Value → H} {W : World} {A : Option Addr} {n c : Nat} {d : DataW H} {p : List MemPlace}
    (h : DataW.Trod enc Try.prog W 0 (fun _ => true) true 22 (.slice A n c) d p) :
    n ≤ c ∧ c ≤ 9223372036854775807 ∧ ∃ xs : List RawS, Rd W 2 A n (ss xs) ∧ xs.length = n ∧ ∀ x ∈ xs, Good W x :=
  open_rows Try.underlying22 2 (by kernel_rfl) (by decide) sc sc_len (Good W) (fun _ _ _ hl ht => trod_state hl ht) h
theorem good_past {W : World} {A : Option Addr} {n : Nat} {xs : List RawS} (hr : Rd W 2 A n (ss xs)) (hg : ∀ x ∈ xs, Good W x) : Past W A n xs := ⟨hr, fun x hx => (hg x hx).1⟩

def smallB (L : List RawS) : Bool := L.all (fun x => decide (x.n ≤ 80)) && decide (L.length ≤ 30)
theorem small_lim (L : List RawS) (h : smallB L = true) : Lim L ∧ L.length ≤ 30 := by
  unfold smallB at h
  rw [Bool.and_eq_true, decide_eq_true_eq, List.all_eq_true] at h
  exact ⟨fun x hx => by have := h.1 x hx; rw [decide_eq_true_eq] at this; omega, h.2⟩
set_option maxRecDepth 100000 in
theorem small_c (L : List RawS) (A : Option Addr) (n c : Nat) (w : World) (b : Bool) (hr : Past w A n L) (mn : n ≤ 9223372036854775807) (hb : smallB L = b) :
    Calls Try.prog 5 #[.slice A n c] w (RetB w b) := by
  subst hb
  have HL := Lib.hid hr.len
  have HR := Lib.hid hr
  clear hr
  go_enter Try.func5, Try.ntmps5
  go_wp2
  go_loopw [7] (fun i wr => ∃ k : Nat, k ≤ n ∧ i = .int .i64 k ∧ Hid (Below w.heap.size w wr) ∧ Hid ((L.take k).all (fun x => decide (x.n ≤ 80)) = true)) (fun i _ => n - (intOf i).toNat)
  case atStart => exact ⟨0, Nat.zero_le _, rfl, Lib.hid (Below.refl _ _), Lib.hid rfl⟩
  case round =>
    obtain ⟨k, hk, rfl, HB, hall⟩ := hrel
    by_cases hlt : k < n
    · obtain ⟨b1, off, ⟨xv, xA, xn, xc, xh⟩, rfl, hx, c0, c1, hin⟩ := (HR.out.below HB.out).at_ k hlt
      have hs := Lib.hid (take_all L (fun x => decide (x.n ≤ 80)) k _ hx)
      have HX := Lib.hid hx
      clear hx hin
      by_cases h80 : 80 < xn
      · have HF : Hid (smallB L = false) := Lib.hid (by
          unfold smallB; rw [all_bad L (fun x => decide (x.n ≤ 80)) k _ HX.out (by simp; omega)]; rfl)
        go_wp2
        go_ret
        exact ⟨ret_bool HF.out.symm, bl_alloc HB.out _⟩
      · go_wp2
        go_roundw
        case rel => exact ⟨k + 1, by omega, by go_num, Lib.hid (bl_alloc HB.out _), Lib.hid (by rw [hs.out, hall.out]; simp; omega)⟩
        case measure => simp [intOf]; omega
    · have HO : Hid (L.all (fun x => decide (x.n ≤ 80)) = true) := Lib.hid (by have := hall.out; rwa [List.take_of_length_le (by rw [HL.out]; omega)] at this)
      by_cases h30 : n ≤ 30
      · have HF : Hid (smallB L = true) := Lib.hid (by unfold smallB; rw [HO.out, HL.out, decide_eq_true h30]; rfl)
        go_wp2
        go_ret
        exact ⟨ret_bool (by rw [HF.out]; simp; omega), HB.out⟩
      · have HF : Hid (smallB L = false) := Lib.hid (by unfold smallB; rw [HO.out, HL.out, decide_eq_false h30]; rfl)
        go_wp2
        go_ret
        exact ⟨ret_bool (by rw [HF.out]; simp; omega), HB.out⟩

theorem past_count {w : World} {A : Option Addr} {n : Nat} {L : List RawS} {S : List St} (h : Past w A n L) (e : cc L = S) : n = S.length := by
  rw [← h.len, ← cc_len L, e]
def p0 : List St := [⟨0, [⟨true, 1⟩]⟩]
def p1 : List St := [⟨0, [⟨true, 1⟩]⟩, ⟨5, [⟨true, 2⟩]⟩]
set_option maxRecDepth 100000 in
set_option maxHeartbeats 4000000 in
theorem awake_any (w : World) : Calls Try.prog 6 #[] w (RetB w true) := by
  have Z : Hid ((1 : Nat) ≤ 1) := Lib.hid (Nat.le_refl _)
  have bb : Below w.heap.size w w := Below.refl _ _
  go_enter Try.func6, Try.ntmps6
  go_wp2_with fail
  refine (begin_c 0 [⟨true, 1⟩] _ _ _ _ (p0, 0) (Rd.built w 2 1 (Heap.cs [⟨true, 1⟩]) _ rfl) (by decide) (by decide)).mono ?_
  rintro e v1 ⟨B1, m1, d1, L1, rfl, s1, t1, l1, b_⟩
  obtain rfl : m1 = 1 := past_count s1 t1
  replace bb := bl_trans (bl_alloc bb _) b_
  clear b_
  have T1 := Lib.hid t1
  clear t1
  go_wp2_with fail
  refine (next_c L1 [⟨0, 2⟩] _ _ _ _ _ _ 5 _ (p1, 0) (s1.alloc _) (by decide) l1 (Rd.built v1 2 1 (Heap.ws [⟨0, 2⟩]) _ rfl) (by decide) (by rw [T1.out]; decide)).mono ?_
  rintro e v2 ⟨B2, m2, d2, L2, rfl, s2, t2, l2, b_⟩
  obtain rfl : m2 = 2 := past_count s2 t2
  replace bb := bl_trans (bl_alloc bb _) b_
  clear b_ s1 T1 l1
  have T2 := Lib.hid t2
  clear t2
  go_wp2_with fail
  refine (at_c L2 _ _ _ 4 _ ([⟨true, 1⟩], 0) 1 s2 (by decide) l2 (by rw [T2.out]; decide) rfl).mono ?_
  rintro e v3 ⟨B3, d3, rfl, s3, b_⟩
  replace s2 := s2.below b_
  replace bb := bl_trans bb b_
  clear b_
  go_wp2_with fail
  refine (at_c L2 _ _ _ (-1) _ ([], 3) 0 s2 (by decide) l2 (by rw [T2.out]; decide) rfl).mono ?_
  rintro e v4 ⟨B4, d4, rfl, s4, b_⟩
  replace s2 := s2.below b_
  replace s3 := s3.below b_
  replace bb := bl_trans bb b_
  clear b_ s4
  go_wp2_with fail
  have s5 := Rd.built v4 3 1 (Reads.ds [⟨0, 0, 2⟩]) 43 rfl
  refine (next_c L2 [] _ _ _ _ _ _ 5 _ (p1, 1) (s2.alloc _) (by decide) l2 Rd.none_ (by decide) (by rw [T2.out]; decide)).mono ?_
  rintro e v5 ⟨B5, m5, d5, L5, rfl, -, -, -, b_⟩
  replace s2 := (s2.alloc _).below b_
  replace s3 := (s3.alloc _).below b_
  replace s5 := s5.below b_
  replace bb := bl_trans (bl_alloc bb _) b_
  clear b_
  obtain ⟨hb, hoff, hx, rfl, hxx, q0, q1⟩ := Heap.at_cell s3 0 (by decide)
  obtain rfl : (⟨true, 1⟩ : Heap.Cell) = hx := by simpa using hxx
  have q2 : v5.cell? ⟨hb, hoff + 1, none⟩ = some (.int .i64 1) := by simpa using q1
  clear hxx q0 q1 s3
  go_wp2_with fail
  refine (holds_c at_c L2 [⟨0, 0, 2⟩] _ _ _ _ _ _ 9 _ true s2 (by decide) l2 s5 Z.out (by decide) (by rw [T2.out]; decide)).mono ?_
  rintro e v6 ⟨rfl, b_⟩
  replace s2 := s2.below b_
  replace s5 := s5.below b_
  replace bb := bl_trans bb b_
  clear b_ q2
  go_wp2_with fail
  refine (holds_c at_c L2 [⟨0, 0, 2⟩] _ _ _ _ _ _ 4 _ false s2 (by decide) l2 s5 Z.out (by decide) (by rw [T2.out]; decide)).mono ?_
  rintro e v7 ⟨rfl, b_⟩
  replace s2 := s2.below b_
  replace s5 := s5.below b_
  replace bb := bl_trans bb b_
  clear b_
  go_wp2_with fail
  refine (span_c L2 [⟨0, 0, 2⟩] _ _ _ _ _ _ _ [5] 1 s2 (by decide) l2 s5 Z.out (by decide) (by rw [T2.out]; decide) rfl).mono ?_
  rintro e v8 ⟨B8, d8, rfl, s8, b_⟩
  replace s2 := s2.below b_
  replace bb := bl_trans bb b_
  clear b_ s5
  go_wp2_with fail
  refine (Mem.numbers_b [5] [5] _ _ _ _ _ _ _ true (s8.alloc _) (Rd.built _ 1 1 (zs [5]) _ rfl) (by decide) (by decide) (by decide)).mono ?_
  rintro e v9 ⟨rfl, b_⟩
  replace s2 := (s2.alloc _).below b_
  replace bb := bl_trans (bl_alloc bb _) b_
  clear b_ s8
  go_wp2_with fail
  refine (right_c L2 _ _ _ _ true s2 (by decide) l2 (by rw [T2.out]; decide)).mono ?_
  rintro e v10 ⟨rfl, b_⟩
  replace bb := bl_trans bb b_
  clear b_ s2
  go_wp2_with fail
  go_ret
  exact ⟨rfl, bb⟩
end Go.Proofs.Ythgmjmecedhkoaa.Opaque
