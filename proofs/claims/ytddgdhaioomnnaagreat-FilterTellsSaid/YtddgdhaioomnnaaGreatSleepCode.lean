/-
  WHAT THE FUNCTIONS OF THE LAYER sleep RETURN, AS THEY ARE WRITTEN: rightWho, rightWatch, namesRegister, cellsOf, rightTerm, rightSleeper.
-/
import Derived.Test.YtddgdhaioomnnaaGreatSleepMem
import Derived.Test.YtddgdhaioomnnaaGreatTermB
import Derived.Test.YtddgdhaioomnnaaGreatReadsB
import Derived.Test.YtddgdhaioomnnaaGreatMemA
import Derived.Deep.RegionHeld3
namespace Go.Proofs.YtddgdhaioomnnaaGreat.Sleep
open Go.ChangeShapes Go.WideShapes Go.ChangeAt Go.RowKit Mem
open Heap (Write)

set_option maxRecDepth 100000 in
theorem who_c (n : Int) (w : World) :
    Calls Tryz.prog 60 #[.int .i64 n] w fun e w' => e = .returned (.bool (decide (1 ≤ n ∧ n ≤ 8))) ∧ w = w' := by
  by_cases h1 : 1 ≤ n
  all_goals by_cases h2 : n ≤ 8
  all_goals
    go_enter Tryz.func60, Tryz.ntmps60
    go_wp2
    go_ret
    exact ⟨ret_bool (by first | (simp; omega) | (symm; simp; omega) | (rw [Bool.eq_iff_iff]; simp; omega)), rfl⟩

set_option maxRecDepth 100000 in
theorem watch_c (W : List Write) (A : Option Addr) (n c : Nat) (w : World) (b : Bool) (hr : Rd w 2 A n (Heap.ws W)) (hb : watchB W = b) :
    Calls Tryz.prog 62 #[.slice A n c] w (RetB w b) := by
  have HL : Hid (W.length = n) := Lib.hid (by have := hr.1; rw [Heap.ws_len] at this; omega)
  have HR := Lib.hid hr
  have HB0 := Lib.hid hb
  clear hr hb
  by_cases h24 : 24 < n
  · have HF : Hid (b = false) := Lib.hid (by rw [← HB0.out]; unfold watchB; rw [decide_eq_false (by rw [HL.out]; omega)]; rfl)
    go_enter Tryz.func62, Tryz.ntmps62
    go_wp2
    go_ret
    exact ⟨ret_bool HF.out.symm, Below.refl _ _⟩
  · have hn : n ≤ 24 := by omega
    go_enter Tryz.func62, Tryz.ntmps62
    go_wp2
    go_loopw [3, 11] (fun v i wr => ∃ (k : Nat) (q : Int), k ≤ n ∧ v = .int .i64 (q + 1) ∧ i = .int .i64 k ∧ Hid (Below w.heap.size w wr) ∧ Hid (goodW (W.take k) = true) ∧ Hid (lastOr (-1) ((W.take k).map Write.cell) = q) ∧ -1 ≤ q) (fun _ i _ => n - (intOf i).toNat)
    case atStart => exact ⟨0, -1, Nat.zero_le _, rfl, rfl, Lib.hid (Below.refl _ _), Lib.hid rfl, Lib.hid rfl, by omega⟩
    case round =>
      obtain ⟨k, q, hk, rfl, rfl, HB, hall, HQ, hq⟩ := hrel
      generalize wr = w1 at *
      by_cases hlt : k < n
      · obtain ⟨b1, off, ⟨cl, vl⟩, rfl, hx, c0, c1⟩ := Heap.at_write (HR.out.below HB.out) k hlt
        have HS := Lib.hid (good_take W k _ hx)
        have HX := Lib.hid hx
        clear hx
        by_cases h1 : cl < q + 1
        · have HF : Hid (b = false) := Lib.hid (by
            rw [← HB0.out]; unfold watchB
            rw [good_bad W (k + 1) (by rw [HS.out, HQ.out, decide_eq_false (by show ¬ q < cl; omega)]; simp), Bool.and_false])
          go_wp2
          go_ret
          exact ⟨ret_bool HF.out.symm, bl_alloc HB.out _⟩
        · by_cases h2 : 64 ≤ cl
          · have HF : Hid (b = false) := Lib.hid (by
              rw [← HB0.out]; unfold watchB
              rw [good_bad W (k + 1) (by rw [HS.out]; unfold wOk; rw [decide_eq_false (by show ¬ (0 ≤ cl ∧ cl ≤ 63); omega)]; simp), Bool.and_false])
            go_wp2
            go_ret
            exact ⟨ret_bool HF.out.symm, bl_alloc HB.out _⟩
          · have hw1 : IntKind.i64.wrap (cl + 1) = cl + 1 := by rw [IntKind.wrap_i64]; omega
            cases h3 : Heap.vB vl
            · have H3 := Lib.hid h3
              have HF : Hid (b = false) := Lib.hid (by
                rw [← HB0.out]; unfold watchB
                rw [good_bad W (k + 1) (by rw [HS.out]; unfold wOk; dsimp only; rw [H3.out]; simp), Bool.and_false])
              go_wp2_with (go_at_call 59; refine (Heap.spanright_any _ _).mono ?_; rw [h3]; rintro e w' ⟨rfl, rfl⟩)
              go_ret
              exact ⟨ret_bool HF.out.symm, bl_alloc HB.out _⟩
            · have HG : Hid (goodW (W.take (k + 1)) = true) := Lib.hid (by
                rw [HS.out, hall.out, HQ.out]; unfold wOk; dsimp only; rw [h3, decide_eq_true (by omega), decide_eq_true (by omega)]; rfl)
              have HLA := Lib.hid (last_take Write.cell (-1) W k _ HX.out)
              go_wp2_with (go_at_call 59; refine (Heap.spanright_any _ _).mono ?_; rw [h3]; rintro e w' ⟨rfl, rfl⟩)
              go_roundw
              case rel => exact ⟨k + 1, cl, by omega, rfl, by go_num, Lib.hid (bl_alloc HB.out _), HG, HLA, by omega⟩
              case measure => simp [intOf]; omega
      · obtain rfl : k = n := by omega
        have HF : Hid (b = true) := Lib.hid (by
          rw [← HB0.out]; unfold watchB
          have h5 := hall.out
          rw [List.take_of_length_le (by rw [HL.out]; exact Nat.le_refl _)] at h5
          rw [h5, HL.out, decide_eq_true hn]; rfl)
        go_wp2
        go_ret
        exact ⟨ret_bool HF.out.symm, HB.out⟩

/-- What is returned: a number, at least 0 just if so. -/
def RetX (w : World) (b : Bool) (e : Ending) (w' : World) : Prop := ∃ p : Int, e = .returned (.int .i64 p) ∧ decide (0 ≤ p) = b ∧ Below w.heap.size w w'
def regB (T : List Term.Op) : Bool := T.any (fun o => decide (o.kind = 3))
set_option maxRecDepth 100000 in
theorem reg_f (kd nn : Int) (w : World) (b : Bool) (hb : decide (kd = 3) = b) :
    Calls Tryz.prog 95 #[.agg #[.int .i64 kd, .int .i64 nn]] w (RetB w b) := by
  subst hb
  by_cases h : kd = 3
  all_goals
    go_enter Tryz.func95, Tryz.ntmps95
    go_wp2
    go_ret
    exact ⟨ret_bool (by simp [h]), bl_alloc (Below.refl _ _) _⟩
set_option maxRecDepth 100000 in
theorem indext_c (T : List Term.Op) (A : Option Addr) (n c : Nat) (w : World) (b : Bool) (hr : Rd w 2 A n (Term.ops T)) (hn : n ≤ 1000000) (hb : regB T = b) :
    Calls Tryz.prog 103 #[.slice A n c, .func (.func 95) #[] #[]] w (RetX w b) := by
  have HL := Lib.hid (Term.ops_len hr)
  have HR := Lib.hid hr
  have HB0 := Lib.hid hb
  clear hr hb
  go_enter Tryz.func103, Tryz.ntmps103
  go_wp2
  go_loopw [8] (fun i wr => ∃ k : Nat, k ≤ n ∧ i = .int .i64 k ∧ Hid (Below w.heap.size w wr) ∧ Hid (regB (T.take k) = false)) (fun i _ => n - (intOf i).toNat)
  case atStart => exact ⟨0, Nat.zero_le _, rfl, Lib.hid (Below.refl _ _), Lib.hid rfl⟩
  case round =>
    obtain ⟨k, hk, rfl, HB, hall⟩ := hrel
    generalize wr = w1 at *
    by_cases hlt : k < n
    · obtain ⟨b1, off, ⟨kd, nn⟩, rfl, hx, c0, c1⟩ := Term.at_op (HR.out.below HB.out) k hlt
      have HS := Lib.hid (take_any T (fun o => decide (o.kind = 3)) k _ hx)
      have HX := Lib.hid hx
      clear hx
      by_cases h3 : kd = 3
      · have HF : Hid (b = true) := Lib.hid (by rw [← HB0.out]; exact any_good T _ k _ HX.out (by simpa using h3))
        have H3 : Hid (decide (kd = 3) = true) := Lib.hid (by simpa using h3)
        clear h3
        go_wp2_with fail
        refine (reg_f _ _ _ true H3.out).mono ?_
        rintro e w2 ⟨rfl, b2⟩
        go_wp2
        go_ret
        exact ⟨(k : Int), rfl, by rw [HF.out]; simp, bl_trans HB.out b2⟩
      · have H3 : Hid (decide (kd = 3) = false) := Lib.hid (by simpa using h3)
        clear h3
        go_wp2_with fail
        refine (reg_f _ _ _ false H3.out).mono ?_
        rintro e w2 ⟨rfl, b2⟩
        go_wp2
        go_roundw
        case rel => exact ⟨k + 1, by omega, by go_num, Lib.hid (bl_trans HB.out b2), Lib.hid (by have := HS.out; unfold regB at hall ⊢; rw [this, hall.out]; exact H3.out)⟩
        case measure => simp [intOf]; omega
    · obtain rfl : k = n := by omega
      have HF : Hid (b = false) := Lib.hid (by
        rw [← HB0.out]; have h5 := hall.out; rwa [List.take_of_length_le (by rw [HL.out]; exact Nat.le_refl _)] at h5)
      go_wp2
      go_ret
      exact ⟨-1, rfl, by rw [HF.out]; decide, HB.out⟩
set_option maxRecDepth 100000 in
theorem hast_c (T : List Term.Op) (A : Option Addr) (n c : Nat) (w : World) (b : Bool) (hr : Rd w 2 A n (Term.ops T)) (hn : n ≤ 1000000) (hb : regB T = b) :
    Calls Tryz.prog 94 #[.slice A n c, .func (.func 95) #[] #[]] w (RetB w b) := by
  have HI := Lib.hid (indext_c T A n c w b hr hn hb)
  clear hr hb
  go_enter Tryz.func94, Tryz.ntmps94
  go_wp2_with fail
  refine HI.out.mono ?_
  rintro e w2 ⟨p, rfl, h2, b2⟩
  have H2 := Lib.hid h2
  clear h2
  go_wp2
  go_ret
  exact ⟨ret_bool (by rw [← H2.out]), b2⟩
set_option maxRecDepth 100000 in
theorem reg_c (T : List Term.Op) (A : Option Addr) (n c : Nat) (w : World) (b : Bool) (hr : Rd w 2 A n (Term.ops T)) (hn : n ≤ 1000000) (hb : regB T = b) :
    Calls Tryz.prog 81 #[.slice A n c] w (RetB w b) := by
  have HI := Lib.hid (hast_c T A n c w b hr hn hb)
  clear hr hb
  go_enter Tryz.func81, Tryz.ntmps81
  go_wp2_with fail
  refine HI.out.mono ?_
  rintro e w2 ⟨rfl, b2⟩
  go_wp2
  go_ret
  exact ⟨rfl, b2⟩
set_option maxRecDepth 100000 in
theorem cellsof_c (W : List Write) (A : Option Addr) (n c : Nat) (w : World) (hr : Rd w 2 A n (Heap.ws W)) (hn : n ≤ 1000000) :
    Calls Tryz.prog 84 #[.slice A n c] w (RetO w 3 1 n (zs (W.map Write.cell))) := by
  have HL : Hid (W.length = n) := Lib.hid (by have := hr.1; rw [Heap.ws_len] at this; omega)
  have HR := Lib.hid hr
  clear hr
  go_enter Tryz.func84, Tryz.ntmps84
  go_wp2
  go_loopw [3, 8] (fun v i wr => ∃ k : Nat, k ≤ n ∧ i = .int .i64 k ∧ Own w wr 3 1 v k (zs ((W.take k).map Write.cell))) (fun _ i _ => n - (intOf i).toNat)
  case atStart => exact ⟨0, Nat.zero_le _, rfl, Own.nil_ (Below.refl _ _)⟩
  case round =>
    obtain ⟨k, hk, rfl, hown⟩ := hrel
    by_cases hlt : k < n
    · obtain ⟨b, off, ⟨cl, vl⟩, rfl, hx, c0, c1⟩ := Heap.at_write (HR.out.below hown.2) k hlt
      have HT := Lib.hid (map_take_succ Write.cell W k _ hx)
      clear hx
      go_wp2_with (at_builtin; refine append_rd rfl _ _ 32 rfl Mem.tInt w _ _ _ rfl ((hown.alloc _).alloc _) _ 1 1 [.int .i64 cl] rfl (Rd.builtAt _ 1 1 [.int .i64 cl] _ rfl (by simp)) (one_cons rfl one_nil) (by omega) (by omega) ?_; intro v' w' hown' hg; clear hg)
      go_roundw
      case rel => exact ⟨k + 1, by omega, by go_num, by rw [HT.out, zs_app]; exact hown'⟩
      case measure => simp [intOf]; omega
    · have ho := hown
      rw [List.take_of_length_le (by rw [HL.out]; omega)] at ho
      obtain rfl : k = n := by omega
      have HO := Lib.hid ho
      clear hown ho
      go_wp2
      go_ret
      exact ⟨_, rfl, HO.out⟩
set_option maxRecDepth 100000 in
theorem equal_c (x y : List Int) (A D : Option Addr) (n c m d : Nat) (w : World) (r : Bool) (hg : Rd w 1 A n (zs x)) (hh : Rd w 1 D m (zs y)) (hn : n ≤ 1000000) (hm : m ≤ 1000000) (hr : decide (x = y) = r) :
    Calls Tryz.prog 82 #[.slice A n c, .slice D m d] w (RetB w r) := by
  have HG := Lib.hid hg
  have HH := Lib.hid hh
  have HR := Lib.hid hr
  have HX := Lib.hid (zs_len hg)
  have HY := Lib.hid (zs_len hh)
  clear hg hh hr
  by_cases hne : n = m
  · subst hne
    go_enter Tryz.func82, Tryz.ntmps82
    go_wp2
    go_loopw [13] (fun i wr => ∃ k : Nat, k ≤ n ∧ i = .int .i64 k ∧ Hid (Below w.heap.size w wr) ∧ Hid (x.take k = y.take k)) (fun i _ => n - (intOf i).toNat)
    case atStart => exact ⟨0, Nat.zero_le _, rfl, Lib.hid (Below.refl _ _), Lib.hid rfl⟩
    case round =>
      obtain ⟨k, hk, rfl, HB, hall⟩ := hrel
      generalize wr = w1 at *
      by_cases hlt : k < n
      · obtain ⟨b, off, zx, rfl, hx, c0⟩ := at_z (HG.out.below HB.out) k hlt
        obtain ⟨b2, off2, zy, rfl, hy, d0⟩ := at_z (HH.out.below HB.out) k hlt
        have GX := Lib.hid hx
        have GY := Lib.hid hy
        clear hx hy
        by_cases he : zx = zy
        · subst he
          have HS : Hid (x.take (k + 1) = y.take (k + 1)) := Lib.hid (take_eq x y k _ GX.out GY.out hall.out)
          go_wp2_with fail
          go_quiet (fail)
          go_wp2
          go_roundw
          case rel => exact ⟨k + 1, by omega, by go_num, Lib.hid (bl_drewN HB.out _), HS⟩
          case measure => simp [intOf]; omega
        · have HF : Hid (r = false) := Lib.hid (by rw [← HR.out]; exact take_ne x y k _ _ GX.out GY.out he)
          have he2 : (zx != zy) = true := by simpa using he
          clear he
          go_wp2_with fail
          go_quiet (fail)
          go_wp2
          go_ret
          exact ⟨ret_bool HF.out.symm, bl_drewN HB.out _⟩
      · have HF : Hid (r = true) := Lib.hid (by
          rw [← HR.out]; have h5 := hall.out
          rw [List.take_of_length_le (by rw [HX.out]; omega), List.take_of_length_le (by rw [HY.out]; omega)] at h5
          simpa using h5)
        go_wp2
        go_ret
        exact ⟨ret_bool HF.out.symm, HB.out⟩
  · have HF : Hid (r = false) := Lib.hid (by
      rw [← HR.out]; refine decide_eq_false (fun e => hne ?_); rw [← HX.out, ← HY.out, e])
    have t1 : ((n : Int) != (m : Int)) = true := by simp; omega
    clear hne
    go_enter Tryz.func82, Tryz.ntmps82
    go_wp2
    go_ret
    exact ⟨ret_bool HF.out.symm, Below.refl _ _⟩
end Go.Proofs.YtddgdhaioomnnaaGreat.Sleep
