/-
  WHAT THE TAKER'S CALL step RETURNS, or that it panics. No conditions beyond those that each theorem states.
-/
import Derived.Test.YtilfkohckmknkaaShapeOp
namespace Go.Proofs.Ytilfkohckmknkaa.Shape
open Go.ChangeShapes Go.WideShapes Go.ChangeAt Go.RowKit Mem Go.Proofs.Ytilfkohckmknkaa.Code

/-- A step that has just been taken: its term is new since w. -/
def NewR (w w' : World) (r : Raw) : Prop := (Rd w' 2 r.T r.n (Term.ops r.s.t) ∧ r.n ≤ r.c ∧ r.c ≤ 9223372036854775807) ∧ r.n ≤ 255 ∧ ∀ b off, r.T = some ⟨b, off, none⟩ → 0 < r.n → w.heap.size ≤ b
theorem row_room {w : World} {base e size n d m : Nat} {B : Option Addr} {xs : List Value} (h : w.ownsRow base e size (.slice B n d) m xs) : n = m ∧ n ≤ d ∧ d ≤ 9223372036854775807 ∧ Rd w size B n xs ∧ ∀ b off, B = some ⟨b, off, none⟩ → base ≤ b := by
  obtain ⟨A, c, hv, hr⟩ := own_form h
  injection hv with e1 e2 e3
  subst e1 e2 e3
  refine ⟨rfl, ?_⟩
  rcases h.2 with ⟨hv, hn⟩ | ⟨g, cap, cur, hv, hb, hc, hnc, hm, hs, ht⟩
  · injection hv with e1 e2 e3
    subst e1 e2 e3
    exact ⟨Nat.le_refl _, by omega, hr, fun b off e => by cases e⟩
  · injection hv with e1 e2 e3
    subst e1 e3
    unfold maxLen at hm
    exact ⟨hnc, by omega, hr, fun b off e => by injection e with e; injection e with e e2; omega⟩
set_option maxRecDepth 100000 in
set_option maxHeartbeats 1000000 in
theorem step_ok (T : Nat) (dd aa bb : Int) (n : Nat) (l q : List Int) (t : List Term.Op) (w : World) (h : Tk w T (dd :: aa :: bb :: (n : Int) :: l)) (hn : n ≤ 255) (ho : manyT opT n l = some (t, q)) :
    Calls Try.prog 49 #[.pointer (some ⟨T, 0, none⟩)] w fun e w' => ∃ r : Raw, r.s = ⟨dd, aa, bb, t⟩ ∧ e = .returned (.agg #[.int .i64 dd, .int .i64 aa, .int .i64 bb, .slice r.T r.n r.c]) ∧ NewR w w' r ∧ Tk w' T q ∧ w.grownBy w' (some T) := by
  have HT := Lib.hid h
  have HO := Lib.hid ho
  have hlt := h.lt
  have hne : w.heap.size ≠ T := by omega
  have hmf : ∀ (fn : Fn) (first cap : Array Value) (w : World), (Instr.makeFunc fn first cap).run Try.prog w = .ok (.func fn first cap) w := fun _ _ _ _ => rfl
  have HB0 : Hid (Blk (w.alloc (.cells #[.int .i64 0, .int .i64 0, .int .i64 0, .slice none 0 0] 53)) w.heap.size 53 #[.int .i64 0, .int .i64 0, .int .i64 0, .slice none 0 0]) := Lib.hid (Blk.new _ _ _)
  have T1 : True := trivial
  have T2 : True := trivial
  have T3 : True := trivial
  have T4 : True := trivial
  clear h ho
  go_enter Try.func49, Try.ntmps49
  go_wp2_with (first
    | (go_at_call 38; clear T1; refine (one_ok T dd _ _ (HT.out.alloc _)).mono ?_; rintro e w2 ⟨rfl, ht2, hg2⟩; have HT2 := Lib.hid ht2; have HG2 := Lib.hid (bl_kept (bl_alloc (Below.refl w.heap.size w) _) hg2); have HB2 := Lib.hid (blk_kept HB0.out hg2 hne); clear ht2 hg2)
    | (go_at_call 38; clear T2; refine (one_ok T aa _ _ HT2.out).mono ?_; rintro e w3 ⟨rfl, ht3, hg3⟩; have HT3 := Lib.hid ht3; have HG3 := Lib.hid (kept_trans HG2.out hg3); have HB3 := Lib.hid (blk_kept HB2.out hg3 hne); clear ht3 hg3)
    | (go_at_call 38; clear T3; refine (one_ok T bb _ _ HT3.out).mono ?_; rintro e w4 ⟨rfl, ht4, hg4⟩; have HT4 := Lib.hid ht4; have HG4 := Lib.hid (kept_trans HG3.out hg4); have HB4 := Lib.hid (blk_kept HB3.out hg4 hne); clear ht4 hg4)
    | (go_at_call 38; clear T4; refine (one_ok T (n : Int) _ _ HT4.out).mono ?_; rintro e w5 ⟨rfl, ht5, hg5⟩; have HT5 := Lib.hid ht5; have HG5 := Lib.hid (kept_trans HG4.out hg5); have HB5 := Lib.hid (blk_kept HB4.out hg5 hne); clear ht5 hg5)
    | (go_at_call 54; refine (sevop_some T n l q t _ HT5.out hn HO.out).mono ?_; rintro e w6 ⟨B, d, rfl, ho6, ht6, hg6⟩; have HO6 := Lib.hid ho6; have HT6 := Lib.hid ht6; have HG6 := Lib.hid (kept_trans HG5.out hg6); have HB6 := Lib.hid (blk_kept HB5.out hg6 hne); have c0 := HB6.out.cell 0 _ rfl; have c1 := HB6.out.cell 1 _ rfl; have c2 := HB6.out.cell 2 _ rfl; have c3 := HB6.out.cell 3 _ rfl; have z0 := HB6.out.frozen 0; have z1 := HB6.out.frozen 1; have z2 := HB6.out.frozen 2; have z3 := HB6.out.frozen 3; clear ht6 hg6 ho6))
  have hlt5 := HB5.out.lt
  have HBZ := (((HB6.out.set_ 0 (.int .i64 dd)).set_ 1 (.int .i64 aa)).set_ 2 (.int .i64 bb)).set_ 3 (.slice B n d)
  have q0 := HBZ.cell 0 _ rfl
  have q1 := HBZ.cell 1 _ rfl
  have q2 := HBZ.cell 2 _ rfl
  have q3 := HBZ.cell 3 _ rfl
  obtain ⟨_, hnd, hd, hrd, hbs⟩ := row_room HO6.out
  have hnb : ∀ b off, B = some ⟨b, off, none⟩ → b ≠ w.heap.size := fun b off e => by have := hbs b off e; omega
  refine bodyPost_ret (v := .agg #[.int .i64 dd, .int .i64 aa, .int .i64 bb, .slice B n d]) (by simp [results, Try.results49, go_sem, q0, q1, q2, q3]) rfl ⟨⟨⟨dd, aa, bb, t⟩, B, n, d⟩, rfl, rfl, ⟨⟨?_, hnd, hd⟩, hn, ?_⟩, ?_, ?_⟩
  · exact (((hrd.set_other hnb 0 _).set_other hnb 1 _).set_other hnb 2 _).set_other hnb 3 _
  · intro b off e _
    have := hbs b off e
    omega
  · exact (((HT6.out.set hlt 0 _).set hlt 1 _).set hlt 2 _).set hlt 3 _
  · exact kept_store (kept_store (kept_store (kept_store HG6.out (Nat.le_refl _) 0 _) (Nat.le_refl _) 1 _) (Nat.le_refl _) 2 _) (Nat.le_refl _) 3 _
set_option maxRecDepth 100000 in
theorem step_bad0 (T : Nat)  (w : World) (h : Tk w T []) :
    Calls Try.prog 49 #[.pointer (some ⟨T, 0, none⟩)] w (Pan w T) := by
  have HT := Lib.hid h
  have hlt := h.lt
  have hne : w.heap.size ≠ T := by omega
  have hmf : ∀ (fn : Fn) (first cap : Array Value) (w : World), (Instr.makeFunc fn first cap).run Try.prog w = .ok (.func fn first cap) w := fun _ _ _ _ => rfl
  have HB0 : Hid (Blk (w.alloc (.cells #[.int .i64 0, .int .i64 0, .int .i64 0, .slice none 0 0] 53)) w.heap.size 53 #[.int .i64 0, .int .i64 0, .int .i64 0, .slice none 0 0]) := Lib.hid (Blk.new _ _ _)
  clear h
  go_enter Try.func49, Try.ntmps49
  go_wp2_with (first
    | (go_at_call 38; refine (one_bad T _ (HT.out.alloc _)).mono ?_; rintro e wz ⟨rfl, hg⟩; have HGZ := Lib.hid (bl_kept (bl_alloc (Below.refl w.heap.size w) _) hg); clear hg))
  exact ⟨rfl, rfl, HGZ.out⟩
set_option maxRecDepth 100000 in
theorem step_bad1 (T : Nat) (dd : Int) (w : World) (h : Tk w T [dd]) :
    Calls Try.prog 49 #[.pointer (some ⟨T, 0, none⟩)] w (Pan w T) := by
  have HT := Lib.hid h
  have hlt := h.lt
  have hne : w.heap.size ≠ T := by omega
  have hmf : ∀ (fn : Fn) (first cap : Array Value) (w : World), (Instr.makeFunc fn first cap).run Try.prog w = .ok (.func fn first cap) w := fun _ _ _ _ => rfl
  have HB0 : Hid (Blk (w.alloc (.cells #[.int .i64 0, .int .i64 0, .int .i64 0, .slice none 0 0] 53)) w.heap.size 53 #[.int .i64 0, .int .i64 0, .int .i64 0, .slice none 0 0]) := Lib.hid (Blk.new _ _ _)
  have T1 : True := trivial
  clear h
  go_enter Try.func49, Try.ntmps49
  go_wp2_with (first
    | (go_at_call 38; clear T1; refine (one_ok T dd _ _ (HT.out.alloc _)).mono ?_; rintro e w2 ⟨rfl, ht2, hg2⟩; have HT2 := Lib.hid ht2; have HG2 := Lib.hid (bl_kept (bl_alloc (Below.refl w.heap.size w) _) hg2); have HB2 := Lib.hid (blk_kept HB0.out hg2 hne); clear ht2 hg2)
    | (go_at_call 38; refine (one_bad T _ HT2.out).mono ?_; rintro e wz ⟨rfl, hg⟩; have HGZ := Lib.hid (kept_trans HG2.out hg); clear hg))
  exact ⟨rfl, rfl, HGZ.out⟩
set_option maxRecDepth 100000 in
theorem step_bad2 (T : Nat) (dd aa : Int) (w : World) (h : Tk w T [dd, aa]) :
    Calls Try.prog 49 #[.pointer (some ⟨T, 0, none⟩)] w (Pan w T) := by
  have HT := Lib.hid h
  have hlt := h.lt
  have hne : w.heap.size ≠ T := by omega
  have hmf : ∀ (fn : Fn) (first cap : Array Value) (w : World), (Instr.makeFunc fn first cap).run Try.prog w = .ok (.func fn first cap) w := fun _ _ _ _ => rfl
  have HB0 : Hid (Blk (w.alloc (.cells #[.int .i64 0, .int .i64 0, .int .i64 0, .slice none 0 0] 53)) w.heap.size 53 #[.int .i64 0, .int .i64 0, .int .i64 0, .slice none 0 0]) := Lib.hid (Blk.new _ _ _)
  have T1 : True := trivial
  have T2 : True := trivial
  clear h
  go_enter Try.func49, Try.ntmps49
  go_wp2_with (first
    | (go_at_call 38; clear T1; refine (one_ok T dd _ _ (HT.out.alloc _)).mono ?_; rintro e w2 ⟨rfl, ht2, hg2⟩; have HT2 := Lib.hid ht2; have HG2 := Lib.hid (bl_kept (bl_alloc (Below.refl w.heap.size w) _) hg2); have HB2 := Lib.hid (blk_kept HB0.out hg2 hne); clear ht2 hg2)
    | (go_at_call 38; clear T2; refine (one_ok T aa _ _ HT2.out).mono ?_; rintro e w3 ⟨rfl, ht3, hg3⟩; have HT3 := Lib.hid ht3; have HG3 := Lib.hid (kept_trans HG2.out hg3); have HB3 := Lib.hid (blk_kept HB2.out hg3 hne); clear ht3 hg3)
    | (go_at_call 38; refine (one_bad T _ HT3.out).mono ?_; rintro e wz ⟨rfl, hg⟩; have HGZ := Lib.hid (kept_trans HG3.out hg); clear hg))
  exact ⟨rfl, rfl, HGZ.out⟩
set_option maxRecDepth 100000 in
theorem step_bad3 (T : Nat) (dd aa bb : Int) (w : World) (h : Tk w T [dd, aa, bb]) :
    Calls Try.prog 49 #[.pointer (some ⟨T, 0, none⟩)] w (Pan w T) := by
  have HT := Lib.hid h
  have hlt := h.lt
  have hne : w.heap.size ≠ T := by omega
  have hmf : ∀ (fn : Fn) (first cap : Array Value) (w : World), (Instr.makeFunc fn first cap).run Try.prog w = .ok (.func fn first cap) w := fun _ _ _ _ => rfl
  have HB0 : Hid (Blk (w.alloc (.cells #[.int .i64 0, .int .i64 0, .int .i64 0, .slice none 0 0] 53)) w.heap.size 53 #[.int .i64 0, .int .i64 0, .int .i64 0, .slice none 0 0]) := Lib.hid (Blk.new _ _ _)
  have T1 : True := trivial
  have T2 : True := trivial
  have T3 : True := trivial
  clear h
  go_enter Try.func49, Try.ntmps49
  go_wp2_with (first
    | (go_at_call 38; clear T1; refine (one_ok T dd _ _ (HT.out.alloc _)).mono ?_; rintro e w2 ⟨rfl, ht2, hg2⟩; have HT2 := Lib.hid ht2; have HG2 := Lib.hid (bl_kept (bl_alloc (Below.refl w.heap.size w) _) hg2); have HB2 := Lib.hid (blk_kept HB0.out hg2 hne); clear ht2 hg2)
    | (go_at_call 38; clear T2; refine (one_ok T aa _ _ HT2.out).mono ?_; rintro e w3 ⟨rfl, ht3, hg3⟩; have HT3 := Lib.hid ht3; have HG3 := Lib.hid (kept_trans HG2.out hg3); have HB3 := Lib.hid (blk_kept HB2.out hg3 hne); clear ht3 hg3)
    | (go_at_call 38; clear T3; refine (one_ok T bb _ _ HT3.out).mono ?_; rintro e w4 ⟨rfl, ht4, hg4⟩; have HT4 := Lib.hid ht4; have HG4 := Lib.hid (kept_trans HG3.out hg4); have HB4 := Lib.hid (blk_kept HB3.out hg4 hne); clear ht4 hg4)
    | (go_at_call 38; refine (one_bad T _ HT4.out).mono ?_; rintro e wz ⟨rfl, hg⟩; have HGZ := Lib.hid (kept_trans HG4.out hg); clear hg))
  exact ⟨rfl, rfl, HGZ.out⟩
set_option maxRecDepth 100000 in
theorem step_bad4 (T : Nat) (dd aa bb : Int) (n : Nat) (l : List Int) (w : World) (h : Tk w T (dd :: aa :: bb :: (n : Int) :: l)) (hn : n ≤ 255) (ho : manyT opT n l = none) :
    Calls Try.prog 49 #[.pointer (some ⟨T, 0, none⟩)] w (Pan w T) := by
  have HT := Lib.hid h
  have hlt := h.lt
  have hne : w.heap.size ≠ T := by omega
  have hmf : ∀ (fn : Fn) (first cap : Array Value) (w : World), (Instr.makeFunc fn first cap).run Try.prog w = .ok (.func fn first cap) w := fun _ _ _ _ => rfl
  have HB0 : Hid (Blk (w.alloc (.cells #[.int .i64 0, .int .i64 0, .int .i64 0, .slice none 0 0] 53)) w.heap.size 53 #[.int .i64 0, .int .i64 0, .int .i64 0, .slice none 0 0]) := Lib.hid (Blk.new _ _ _)
  have T1 : True := trivial
  have T2 : True := trivial
  have T3 : True := trivial
  have T4 : True := trivial
  have HO := Lib.hid ho
  clear h ho
  go_enter Try.func49, Try.ntmps49
  go_wp2_with (first
    | (go_at_call 38; clear T1; refine (one_ok T dd _ _ (HT.out.alloc _)).mono ?_; rintro e w2 ⟨rfl, ht2, hg2⟩; have HT2 := Lib.hid ht2; have HG2 := Lib.hid (bl_kept (bl_alloc (Below.refl w.heap.size w) _) hg2); have HB2 := Lib.hid (blk_kept HB0.out hg2 hne); clear ht2 hg2)
    | (go_at_call 38; clear T2; refine (one_ok T aa _ _ HT2.out).mono ?_; rintro e w3 ⟨rfl, ht3, hg3⟩; have HT3 := Lib.hid ht3; have HG3 := Lib.hid (kept_trans HG2.out hg3); have HB3 := Lib.hid (blk_kept HB2.out hg3 hne); clear ht3 hg3)
    | (go_at_call 38; clear T3; refine (one_ok T bb _ _ HT3.out).mono ?_; rintro e w4 ⟨rfl, ht4, hg4⟩; have HT4 := Lib.hid ht4; have HG4 := Lib.hid (kept_trans HG3.out hg4); have HB4 := Lib.hid (blk_kept HB3.out hg4 hne); clear ht4 hg4)
    | (go_at_call 38; clear T4; refine (one_ok T (n : Int) _ _ HT4.out).mono ?_; rintro e w5 ⟨rfl, ht5, hg5⟩; have HT5 := Lib.hid ht5; have HG5 := Lib.hid (kept_trans HG4.out hg5); have HB5 := Lib.hid (blk_kept HB4.out hg5 hne); clear ht5 hg5)
    | (go_at_call 54; refine (sevop_none T n l _ HT5.out hn HO.out).mono ?_; rintro e wz ⟨rfl, hg⟩; have HGZ := Lib.hid (kept_trans HG5.out hg); clear hg))
  exact ⟨rfl, rfl, HGZ.out⟩
theorem step_some (T : Nat) (l q : List Int) (s : Step) (w : World) (h : Tk w T l) (ho : stepT l = some (s, q)) :
    Calls Try.prog 49 #[.pointer (some ⟨T, 0, none⟩)] w fun e w' => ∃ r : Raw, r.s = s ∧ e = .returned (.agg #[.int .i64 r.s.d, .int .i64 r.s.a, .int .i64 r.s.b, .slice r.T r.n r.c]) ∧ NewR w w' r ∧ Tk w' T q ∧ w.grownBy w' (some T) := by
  unfold stepT at ho
  split at ho
  · rename_i hl
    match l, hl, h with
    | dd :: aa :: bb :: z :: r, _, h =>
      have e0 : hd ((dd :: aa :: bb :: z :: r).drop 3) = z := rfl
      have e1 : (dd :: aa :: bb :: z :: r).drop 4 = r := rfl
      rw [e0, e1] at ho
      have hz := h.bb.tail.tail.tail.head
      cases e : manyT opT z.toNat r with
      | none => rw [e] at ho; cases ho
      | some p =>
        obtain ⟨t, r'⟩ := p
        rw [e] at ho
        injection ho with ho
        injection ho with h4 h5
        subst h4 h5
        have e3 : ((z.toNat : Nat) : Int) = z := by omega
        refine (step_ok T dd aa bb z.toNat r r' t w (by rw [e3]; exact h) (by omega) e).mono ?_
        rintro e2 w2 ⟨⟨⟨d1, a1, b1, t1⟩, TT, nn, cc⟩, hs, rfl, h6⟩
        injection hs with i1 i2 i3 i4
        subst i1 i2 i3 i4
        exact ⟨_, rfl, rfl, h6⟩
  · cases ho
theorem step_none (T : Nat) (l : List Int) (w : World) (h : Tk w T l) (ho : stepT l = none) :
    Calls Try.prog 49 #[.pointer (some ⟨T, 0, none⟩)] w (Pan w T) := by
  match l, ho, h with
  | [], _, h => exact step_bad0 T w h
  | [a], _, h => exact step_bad1 T a w h
  | [a, b], _, h => exact step_bad2 T a b w h
  | [a, b, c], _, h => exact step_bad3 T a b c w h
  | dd :: aa :: bb :: z :: r, ho, h =>
    have hz := h.bb.tail.tail.tail.head
    unfold stepT at ho
    rw [if_pos (by simp only [List.length_cons]; omega)] at ho
    have e0 : hd ((dd :: aa :: bb :: z :: r).drop 3) = z := rfl
    have e1 : (dd :: aa :: bb :: z :: r).drop 4 = r := rfl
    rw [e0, e1] at ho
    have e3 : ((z.toNat : Nat) : Int) = z := by omega
    refine step_bad4 T dd aa bb z.toNat r w (by rw [e3]; exact h) (by omega) ?_
    cases e : manyT opT z.toNat r with
    | none => rfl
    | some p => rw [e] at ho; cases ho
end Go.Proofs.Ytilfkohckmknkaa.Shape
