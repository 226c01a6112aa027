/-
  WHAT THE DOCUMENT'S ANSWER FOR LAYER 5 RETURNS: one, Right, Find, Same.
-/
import Derived.Test.YtemfkjcfafenjaaRef02c
import Derived.Test.YtemfkjcfafenjaaRef03
import Derived.Test.YtemfkjcfafenjaaReadsPlain
import Derived.Test.YtemfkjcfafenjaaMem2
import Derived.StillTailTactics
import Derived.Shelf.SlSortCmp.QuietGrown
namespace Go.Proofs.Ytemfkjcfafenjaa.Reads
open Go.ChangeShapes Go.WideShapes Go.ChangeAt Go.RowKit Mem

theorem tRead : SliceT Try.prog 22 24 3 24 := SliceT.mk_ (z := .agg #[.int .i64 0, .int .i64 0, .int .i64 0]) Try.underlying22 (by kernel_rfl) rfl (by decide)

/-- The world has drawn, and has new blocks behind it: nothing else. -/
def Grew (w w' : World) : Prop := ∃ q os, w' = Sort.grow (w.drewN q) os
theorem Grew.refl (w : World) : Grew w w := ⟨0, #[], by rw [Sort.grow_empty]; rfl⟩
theorem Grew.alloc {w w1 : World} (h : Grew w w1) (o : Obj) : Grew w (w1.alloc o) := by
  obtain ⟨q, os, rfl⟩ := h
  exact ⟨q, os ++ #[o], by rw [Sort.alloc_eq_grow, Sort.grow_grow]⟩
theorem Grew.drewN {w w1 : World} (h : Grew w w1) (m : Nat) : Grew w (w1.drewN m) := by
  obtain ⟨q, os, rfl⟩ := h
  refine ⟨q + m, os, ?_⟩
  show Sort.grow ((w.drewN q).drewN m) os = _
  rw [World.drewN_drewN]
theorem Grew.trans {w w1 w2 : World} (h : Grew w w1) (k : Grew w1 w2) : Grew w w2 := by
  obtain ⟨q, os, rfl⟩ := k
  obtain ⟨q', os', e⟩ := h.drewN q
  exact ⟨q', os' ++ os, by rw [e, Sort.grow_grow]⟩
theorem Grew.below {w w' : World} (h : Grew w w') : Below w.heap.size w w' := by
  obtain ⟨q, os, rfl⟩ := h
  exact ⟨rfl, rfl, rfl, by simp [Sort.grow], fun i hi => by exact Sort.heap_grow_old (w.drewN q) os hi⟩
/-- What is returned: a truth; the world has grown. -/
def RetBG (w : World) (b : Bool) (e : Ending) (w' : World) : Prop := e = .returned (.bool b) ∧ Grew w w'
theorem RetBG.toB {w : World} {b : Bool} {e : Ending} {w' : World} (h : RetBG w b e w') : RetB w b e w' := ⟨h.1, h.2.below⟩

theorem reftime_any (n : Int) (w : World) : Calls Try.prog 50 #[.int .i64 n] w fun e w' => e = .returned (.bool (timeB n)) ∧ w' = w := by
  by_cases h1 : 0 ≤ n
  all_goals by_cases h2 : n ≤ 2147483647
  all_goals
    go_enter Try.func50, Try.ntmps50
    go_wp2
    go_ret
    exact ⟨ret_bool (by unfold timeB; simp [h1, h2]), rfl⟩
theorem refval_any (n : Int) (w : World) : Calls Try.prog 51 #[.int .i64 n] w fun e w' => e = .returned (.bool (Heap.vB n)) ∧ w' = w :=
  (Heap.ref01right_any n w).mono fun _ _ h => ⟨h.1, h.2.symm⟩

theorem one_g (cl vr vl : Int) (w : World) (b : Bool) (hb : oneB ⟨cl, vr, vl⟩ = b) :
    Calls Try.prog 30 #[.agg #[.int .i64 cl, .int .i64 vr, .int .i64 vl]] w (RetBG w b) := by
  have HB := Lib.hid hb
  clear hb
  cases h1 : timeB vr
  all_goals cases h2 : Heap.vB vl
  all_goals by_cases h3 : 0 ≤ cl
  all_goals
    have HF : Hid (b = _) := Lib.hid (by have := HB.out; unfold oneB at this; simp only [h1, h2, h3, decide_true, decide_false] at this; exact this.symm)
    go_enter Try.func30, Try.ntmps30
    go_wp2_with fail
    go_quiet (first
      | (go_at_call 50; refine Calls.quiet_of_same (reftime_any _ _))
      | (go_at_call 51; refine Calls.quiet_of_same (refval_any _ _)))
    go_wp2
    go_ret
    exact ⟨ret_bool (by rw [HF.out]; first | rfl | (simp; omega)), ((Grew.refl w).alloc _).drewN _⟩

theorem cells_read {w : World} {b off n : Nat} {l : List Read} (hr : Rd w 3 (some ⟨b, off, none⟩) n (ds l)) {k : Nat} {x : Read} (hx : l[k]? = some x) :
    w.cell? ⟨b, off + k * 3, none⟩ = some (.int .i64 x.cell) ∧ w.cell? ⟨b, off + k * 3 + 1, none⟩ = some (.int .i64 x.version) ∧ w.cell? ⟨b, off + k * 3 + 2, none⟩ = some (.int .i64 x.value) := by
  have hl := ds_len hr
  obtain ⟨b', off', y, e, hy, h0, h1, h2⟩ := at_read hr k (by have := (List.getElem?_eq_some_iff.1 hx).1; omega)
  injection e with e
  injection e with e1 e2
  subst e1 e2
  rw [hx] at hy
  injection hy with hy
  subst hy
  exact ⟨h0, h1, h2⟩
theorem has_at (l : List Read) (j k : Nat) (y : Read) (hy : l[j]? = some y) (hj : j < k) : hasB (l.take k) y.cell = true := by
  unfold hasB
  rw [List.any_eq_true]
  exact ⟨y, List.mem_of_getElem? (i := j) (by rw [List.getElem?_take_of_lt hj]; exact hy), by simp⟩

theorem right_g (l : List Read) (A : Option Addr) (n c : Nat) (w : World) (b : Bool) (hr : Rd w 3 A n (ds l)) (hn : n ≤ 1000000) (hb : rightB l = b) :
    Calls Try.prog 13 #[.slice A n c] w (RetBG w b) := by
  subst hb
  have HL := Lib.hid (ds_len hr)
  have HR := Lib.hid hr
  clear hr
  go_enter Try.func13, Try.ntmps13
  go_wp2
  go_loopw [3] (fun i wr => ∃ k : Nat, k ≤ n ∧ i = .int .i64 k ∧ Hid (Grew w wr) ∧ Hid (goodB (l.take k) = true)) (fun i _ => n - (intOf i).toNat)
  case atStart => exact ⟨0, Nat.zero_le _, rfl, Lib.hid (Grew.refl _), Lib.hid rfl⟩
  case round =>
    obtain ⟨k, hk, rfl, HG, hall⟩ := hrel
    generalize wr = w2 at *
    by_cases hlt : k < n
    · obtain ⟨b, off, ⟨cl, vr, vl⟩, rfl, hx, c0, c1, c2⟩ := at_read (HR.out.below HG.out.below) k hlt
      have HX := Lib.hid hx
      have hs := Lib.hid (good_take l k _ hx)
      clear hx
      cases ho : oneB ⟨cl, vr, vl⟩ with
      | false =>
        have HO := Lib.hid ho
        clear ho
        have HF : Hid (rightB l = false) := Lib.hid (right_bad l (k + 1) (by rw [hs.out, HO.out]; simp))
        go_wp2_with fail
        refine (one_g _ _ _ _ false HO.out).mono ?_
        rintro e w1 ⟨rfl, g1⟩
        have HG1 := Lib.hid (HG.out.trans g1)
        clear g1 c0 c1 c2
        go_wp2_with fail
        go_ret
        exact ⟨ret_bool HF.out.symm, HG1.out⟩
      | true =>
        have HO := Lib.hid ho
        clear ho
        go_wp2_with fail
        refine (one_g _ _ _ _ true HO.out).mono ?_
        rintro e w1 ⟨rfl, g1⟩
        have HG1 := Lib.hid (HG.out.trans g1)
        clear g1 c0 c1 c2
        go_wp2_with fail
        go_loopw [5] (fun i wq => ∃ j : Nat, j ≤ k ∧ i = .int .i64 j ∧ Hid (Grew w wq) ∧ Hid (hasB (l.take j) cl = false)) (fun i _ => k - (intOf i).toNat)
        case atStart => exact ⟨0, Nat.zero_le _, rfl, HG1, Lib.hid rfl⟩
        case round =>
          obtain ⟨j, hj, rfl, HGq, hno⟩ := hrel
          by_cases hjk : j < k
          · obtain ⟨⟨cl2, vr2, vl2⟩, hy⟩ : ∃ y, l[j]? = some y := ⟨_, List.getElem?_eq_getElem (by rw [HL.out]; omega)⟩
            obtain ⟨d0, d1, d2⟩ := cells_read (HR.out.below HGq.out.below) hy
            obtain ⟨c0, c1, c2⟩ := cells_read (HR.out.below HGq.out.below) HX.out
            have HY := Lib.hid hy
            have hs2 := Lib.hid (has_take l j _ cl hy)
            clear hy
            by_cases heq : cl2 = cl
            · subst heq
              have HF : Hid (rightB l = false) := Lib.hid (right_bad l (k + 1) (by rw [hs.out, has_at l j k _ HY.out hjk]; simp))
              go_wp2_with fail
              go_quiet (fail)
              go_wp2
              go_ret
              exact ⟨ret_bool HF.out.symm, HGq.out.drewN _⟩
            · have t1 : (cl2 == cl) = false := beq_eq_false_iff_ne.2 heq
              clear heq
              go_wp2_with fail
              go_quiet (fail)
              go_wp2
              go_roundw
              case rel => exact ⟨j + 1, by omega, by go_num, Lib.hid (HGq.out.drewN _), Lib.hid (by rw [hs2.out, hno.out, t1]; rfl)⟩
              case measure => simp [intOf]; omega
          · have hjk' : j = k := by omega
            subst hjk'
            go_wp2
            go_roundw
            case rel => exact ⟨j + 1, by omega, by go_num, HGq, Lib.hid (by rw [hs.out, hall.out, HO.out, hno.out]; rfl)⟩
            case measure => simp [intOf]; omega
    · have hkn : k = n := by omega
      have HF : Hid (rightB l = decide (n < 25)) := Lib.hid (by
        have := hall.out
        rw [hkn, ← HL.out, List.take_length] at this
        unfold rightB; rw [this, HL.out, Bool.and_true, Bool.eq_iff_iff]; simp; omega)
      clear hkn
      by_cases h2 : n < 25
      all_goals
        go_wp2
        go_ret
        exact ⟨ret_bool (by rw [HF.out]; simp [h2]; omega), HG.out⟩

theorem find_p (l : List Read) (A : Option Addr) (n c : Nat) (cl : Int) (w : World) (hr : Rd w 3 A n (ds l)) (hn : n ≤ 1000000) :
    Calls Try.prog 14 #[.slice A n c, .int .i64 cl] w fun e w' => ∃ p, e = .returned (.int .i64 p) ∧ IsPlace l cl p ∧ w = w' := by
  have HL := Lib.hid (ds_len hr)
  have HR := Lib.hid hr
  clear hr
  go_enter Try.func14, Try.ntmps14
  go_wp2
  go_loop [5] (fun i => ∃ k : Nat, k ≤ n ∧ i = .int .i64 k ∧ Hid (hasB (l.take k) cl = false)) (fun i => n - (intOf i).toNat)
  case atStart => exact ⟨0, Nat.zero_le _, rfl, Lib.hid rfl⟩
  case round =>
    obtain ⟨k, hk, rfl, hno⟩ := hrel
    by_cases hlt : k < n
    · obtain ⟨b, off, ⟨cl2, vr, vl⟩, rfl, hx, c0, c1, c2⟩ := at_read HR.out k hlt
      have HX := Lib.hid hx
      have hs := Lib.hid (has_take l k _ cl hx)
      clear hx
      by_cases heq : cl2 = cl
      · subst heq
        go_wp2
        go_ret
        exact ⟨_, rfl, .inr ⟨k, _, rfl, HX.out, find_at l k _ _ HX.out rfl hno.out⟩, rfl⟩
      · have t1 : (cl2 == cl) = false := beq_eq_false_iff_ne.2 heq
        clear heq
        go_wp2
        go_round
        case rel => exact ⟨k + 1, by omega, by go_num, Lib.hid (by rw [hs.out, hno.out, t1]; rfl)⟩
        case measure => simp [intOf]; omega
    · have HF : Hid (findS l cl = none) := Lib.hid (find_none l cl (by
        have := hno.out
        rwa [List.take_of_length_le (by rw [HL.out]; omega)] at this))
      go_wp2
      go_ret
      exact ⟨_, rfl, .inl ⟨rfl, HF.out⟩, rfl⟩

theorem same_b (x y : List Read) (A B : Option Addr) (n m c d : Nat) (w : World) (v : Bool) (hx : Rd w 3 A n (ds x)) (hy : Rd w 3 B m (ds y)) (hn : n ≤ 1000000) (hm : m ≤ 1000000) (hv : decide (x = y) = v) :
    Calls Try.prog 17 #[.slice A n c, .slice B m d] w (RetB w v) := by
  subst hv
  have HX := Lib.hid (ds_len hx)
  have HY := Lib.hid (ds_len hy)
  by_cases hnm : n = m
  · subst hnm
    go_enter Try.func17, Try.ntmps17
    go_wp2
    go_loopw [5] (fun i wr => ∃ k q : Nat, k ≤ n ∧ i = .int .i64 k ∧ wr = w.drewN q ∧ Hid (x.take k = y.take k)) (fun i _ => n - (intOf i).toNat)
    case atStart => exact ⟨0, 0, Nat.zero_le _, rfl, rfl, Lib.hid rfl⟩
    case round =>
      obtain ⟨k, q, hk, rfl, rfl, hall⟩ := hrel
      by_cases hlt : k < n
      · obtain ⟨b, off, ⟨cl, vr, vl⟩, rfl, gx, c0, c1, c2⟩ := at_read hx k hlt
        obtain ⟨b', off', ⟨cl', vr', vl'⟩, rfl, gy, c0', c1', c2'⟩ := at_read hy k hlt
        have GX := Lib.hid gx
        have GY := Lib.hid gy
        clear gx gy
        by_cases heq : cl = cl' ∧ vr = vr' ∧ vl = vl'
        · obtain ⟨rfl, rfl, rfl⟩ := heq
          have hs : Hid (x.take (k + 1) = y.take (k + 1)) := Lib.hid (take_eq x y k _ GX.out GY.out hall.out)
          go_wp2
          go_quiet (fail)
          go_wp2
          go_roundw
          case rel => exact ⟨k + 1, _, by omega, by go_num, rfl, hs⟩
          case measure => simp [intOf]; omega
        · have hf : Hid (decide (x = y) = false) := Lib.hid (take_ne x y k _ _ GX.out GY.out (by intro e; injection e with e0 e1 e2; exact heq ⟨e0, e1, e2⟩))
          by_cases h0 : cl = cl'
          · subst h0
            by_cases h1 : vr = vr'
            · subst h1
              have h2 : ¬ vl = vl' := fun e => heq ⟨rfl, rfl, e⟩
              clear heq
              go_wp2
              go_quiet (fail)
              go_wp2
              go_ret
              exact ⟨ret_bool hf.out.symm, by first | exact bl_drewN (bl_drewN (Below.refl _ _) _) _ | exact bl_drewN (Below.refl _ _) _⟩
            · clear heq
              go_wp2
              go_quiet (fail)
              go_wp2
              go_ret
              exact ⟨ret_bool hf.out.symm, by first | exact bl_drewN (bl_drewN (Below.refl _ _) _) _ | exact bl_drewN (Below.refl _ _) _⟩
          · clear heq
            go_wp2
            go_quiet (fail)
            go_wp2
            go_ret
            exact ⟨ret_bool hf.out.symm, by first | exact bl_drewN (bl_drewN (Below.refl _ _) _) _ | exact bl_drewN (Below.refl _ _) _⟩
      · have hf : Hid (decide (x = y) = true) := by
          refine Lib.hid (decide_eq_true ?_)
          have := hall.out
          rwa [List.take_of_length_le (by rw [HX.out]; omega), List.take_of_length_le (by rw [HY.out]; omega)] at this
        go_wp2
        go_ret
        exact ⟨ret_bool hf.out.symm, bl_drewN (Below.refl _ _) _⟩
  · have hf : Hid (decide (x = y) = false) := by
      refine Lib.hid (decide_eq_false ?_)
      intro e
      have l1 := HX.out
      have l2 := HY.out
      rw [e] at l1
      exact hnm (by omega)
    go_enter Try.func17, Try.ntmps17
    go_wp2
    go_ret
    exact ⟨ret_bool hf.out.symm, Below.refl _ _⟩
end Go.Proofs.Ytemfkjcfafenjaa.Reads
