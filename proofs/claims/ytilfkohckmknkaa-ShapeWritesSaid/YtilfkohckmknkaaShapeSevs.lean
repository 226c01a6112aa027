/-
  WHAT several OF THE TAKER'S step RETURNS, or that it panics. No conditions beyond those that each theorem states.
-/
import Derived.Test.YtilfkohckmknkaaShapeStep
import Derived.Test.YtilfkohckmknkaaShapeMem
namespace Go.Proofs.Ytilfkohckmknkaa.Shape
open Go.ChangeShapes Go.WideShapes Go.ChangeAt Go.RowKit Mem Go.Proofs.Ytilfkohckmknkaa.Code

/-- The terms have been laid since so many blocks. -/
def Newer (base : Nat) (m : List Raw) : Prop := ∀ r ∈ m, ∀ b off, r.T = some ⟨b, off, none⟩ → 0 < r.n → base ≤ b
theorem Newer.nil_ {base : Nat} : Newer base [] := by intro r hr; cases hr
theorem Newer.app {base : Nat} {a b : List Raw} (h : Newer base a) (k : Newer base b) : Newer base (a ++ b) := by
  intro r hr
  rcases List.mem_append.1 hr with hr | hr
  · exact h r hr
  · exact k r hr
theorem Newer.one {base : Nat} {r : Raw} (h : ∀ b off, r.T = some ⟨b, off, none⟩ → 0 < r.n → base ≤ b) : Newer base [r] := by
  intro y hy; rw [List.mem_singleton] at hy; subst hy; exact h
theorem Newer.mono {a b : Nat} {m : List Raw} (h : Newer b m) (hab : a ≤ b) : Newer a m := fun r hr g off e hn => Nat.le_trans hab (h r hr g off e hn)
theorem Newer.off {base : Nat} {m : List Raw} {v : Value} (h : Newer base m) (hv : ∀ g, v.ownBlock = some g → g < base) : Off v m :=
  fun r hr b off e hn e2 => by have := h r hr b off e hn; have := hv b e2; omega
/-- A slice over a block, to name it. -/
def pin (T : Nat) : Value := .slice (some ⟨T, 0, none⟩) 0 0
theorem pin_own (T : Nat) : (pin T).ownBlock = some T := rfl
theorem pin_lt {T base : Nat} (h : T < base) : ∀ g, (pin T).ownBlock = some g → g < base := fun g e => by rw [pin_own] at e; injection e with e; omega
theorem Terms.one {w : World} {r : Raw} (h : Rd w 2 r.T r.n (Term.ops r.s.t) ∧ r.n ≤ r.c ∧ r.c ≤ 9223372036854775807) : Terms w [r] := by
  intro y hy; rw [List.mem_singleton] at hy; subst hy; exact h
theorem Terms.kept {w w1 : World} {T base : Nat} {m : List Raw} (h : Terms w m) (hn : Newer base m) (hT : T < base) (hg : w.grownBy w1 (some T)) : Terms w1 m :=
  Terms.grown (v := pin T) h (hn.off (pin_lt hT)) hg
/-- No term has more operations than a byte can tell. -/
def Few (m : List Raw) : Prop := ∀ r ∈ m, r.n ≤ 255
theorem Few.nil_ : Few [] := by intro r hr; cases hr
theorem Few.end_ {m : List Raw} {r : Raw} (h : Few m) (k : r.n ≤ 255) : Few (m ++ [r]) := by
  intro y hy
  rcases List.mem_append.1 hy with hy | hy
  · exact h y hy
  · rw [List.mem_singleton] at hy; subst hy; exact k
theorem Few.lim {m : List Raw} (h : Few m) : Lim m := fun r hr => Nat.le_trans (h r hr) (by decide)
theorem rs_end (m : List Raw) (r : Raw) : rs (m ++ [r]) = rs m ++ [.int .i64 r.s.d, .int .i64 r.s.a, .int .i64 r.s.b, .slice r.T r.n r.c] := by rw [rs_app]; rfl
set_option maxRecDepth 100000 in
set_option maxHeartbeats 1000000 in
theorem sevstep_some (T n : Nat) (l q : List Int) (c : List Step) (w : World) (h : Tk w T l) (hn : n ≤ 255) (ho : manyT stepT n l = some (c, q)) :
    Calls Try.prog 48 #[.int .i64 n, .func (.func 49) #[.pointer (some ⟨T, 0, none⟩)] #[]] w fun e w' => ∃ B d m, e = .returned (.slice B n d) ∧ ss m = c ∧ w'.ownsRow w.heap.size 53 4 (.slice B n d) n (rs m) ∧ Terms w' m ∧ Few m ∧ Newer w.heap.size m ∧ Tk w' T q ∧ w.grownBy w' (some T) := by
  have HT := Lib.hid h
  have HR : Hid (some (c, q) = (manyT stepT n l).map fun p => (([] : List Step) ++ p.1, p.2)) := Lib.hid (by rw [← many_begin, ho])
  have hTs := h.lt
  clear h ho
  go_enter Try.func48, Try.ntmps48
  go_wp2
  go_loopw [5, 7] (fun v i wr => ∃ (k j : Nat) (m : List Raw) (l1 : List Int), k + j = n ∧ i = .int .i64 k ∧ wr.ownsRow w.heap.size 53 4 v k (rs m) ∧ Hid (Terms wr m) ∧ Hid (Off v m) ∧ Hid (Few m) ∧ Hid (Newer w.heap.size m) ∧ Hid (Tk wr T l1) ∧ Hid (w.grownBy wr (some T)) ∧ Hid (some (c, q) = (manyT stepT j l1).map fun p => (ss m ++ p.1, p.2))) (fun _ i _ => n - (intOf i).toNat)
  case atStart => exact ⟨0, n, [], l, by omega, rfl, World.ownsRow_nil _ _ _ _, Lib.hid Terms.nil_, Lib.hid (by intro r hr; cases hr), Lib.hid Few.nil_, Lib.hid Newer.nil_, HT, Lib.hid (kept_refl _ _), HR⟩
  case round =>
    obtain ⟨k, j, m, l1, hkj, rfl, hown, HTE, HOF, HFW, HNW, HTK, HG, HM⟩ := hrel
    generalize wr = w1 at *
    have HOWN := Lib.hid hown
    clear hown
    cases j with
    | zero =>
      obtain rfl : k = n := by omega
      have hend := many_end HM.out
      injection hend with hend
      injection hend with h1 h2
      subst h1 h2
      obtain ⟨B, d, rfl, _⟩ := own_form HOWN.out
      go_wp2
      go_ret
      exact ⟨B, d, m, rfl, rfl, HOWN.out, HTE.out, HFW.out, HNW.out, HTK.out, HG.out⟩
    | succ j =>
      have hlt : k < n := by omega
      cases e : stepT l1 with
      | none => exact absurd (many_stop HM.out e) (by simp)
      | some r =>
        obtain ⟨s, l2⟩ := r
        have HN := Lib.hid (many_step HM.out e)
        have HE := Lib.hid e
        obtain ⟨B4, d4, rfl, _⟩ := own_form HOWN.out
        clear e
        go_wp2_with fail
        refine (step_some T l1 l2 _ _ HTK.out HE.out).mono ?_
        rintro e w2 ⟨⟨⟨sd, sa, sb, st⟩, TT, tn, tc⟩, hs, rfl, hnew, ht2, hg2⟩
        simp only at hs ⊢
        have HT2 := Lib.hid ht2
        have HG2 := Lib.hid (kept_trans HG.out hg2)
        have HO2 := Lib.hid (row_kept HOWN.out hTs hg2)
        have HTE2 : Hid (Terms w2 (m ++ [⟨⟨sd, sa, sb, st⟩, TT, tn, tc⟩])) := Lib.hid ((Terms.kept HTE.out HNW.out hTs hg2).app (Terms.one hnew.1))
        have hv1 : ∀ g, (Value.slice B4 k d4).ownBlock = some g → g < w1.heap.size := fun g e => (HOWN.out.lt g e).2
        have HOF2 : Hid (Off (.slice B4 k d4) (m ++ [⟨⟨sd, sa, sb, st⟩, TT, tn, tc⟩])) := Lib.hid (HOF.out.app ((Newer.one hnew.2.2).off hv1))
        have HFW2 : Hid (Few (m ++ [⟨⟨sd, sa, sb, st⟩, TT, tn, tc⟩])) := Lib.hid (HFW.out.end_ hnew.2.1)
        have HNW2 : Hid (Newer w.heap.size (m ++ [⟨⟨sd, sa, sb, st⟩, TT, tn, tc⟩])) := Lib.hid (HNW.out.app ((Newer.one hnew.2.2).mono HG.out.size))
        have HSS : Hid (ss (m ++ [⟨⟨sd, sa, sb, st⟩, TT, tn, tc⟩]) = ss m ++ [s]) := Lib.hid (by rw [ss_app, ← hs]; rfl)
        clear ht2 hg2 hnew hs hv1
        go_wp2_with (at_builtin; refine append_row rfl _ _ 33 rfl tStep w.heap.size (.slice B4 k d4) k (rs m) rfl (row_below HO2.out (bl_alloc (Below.refl _ _) _)) (kept_alloc HG2.out _).size _ 1 1 [.int .i64 sd, .int .i64 sa, .int .i64 sb, .slice TT tn tc] rfl (Rd.built _ 4 1 [.int .i64 sd, .int .i64 sa, .int .i64 sb, .slice TT tn tc] _ rfl) (one_cons rfl (one_cons rfl (one_cons rfl (one_cons rfl one_nil)))) (by omega) (by omega) ?_; intro v3 w3 ho3 hg3 hat3; have HO3 := Lib.hid ho3; have HT3 := Lib.hid ((HT2.out.alloc _).grown hg3 (fun g e => by have := row_base HO2.out g e; omega)); have HG3 := Lib.hid (kept_row (kept_alloc HG2.out _) hg3 (fun g e => .inr (row_base HO2.out g e))); have HTE3 := Lib.hid (Terms.grown (HTE2.out.below (bl_alloc (Below.refl _ _) _)) HOF2.out hg3); have HOF3 := Lib.hid (Off.grown (HTE2.out.below (bl_alloc (Below.refl _ _) _)) HOF2.out hat3); clear ho3 hg3 hat3)
        go_roundw
        case rel => exact ⟨k + 1, j, m ++ [⟨⟨sd, sa, sb, st⟩, TT, tn, tc⟩], l2, by omega, by go_num, by rw [rs_end]; exact HO3.out, HTE3, HOF3, HFW2, HNW2, HT3, HG3, by rw [HSS.out]; exact HN⟩
        case measure => simp [intOf]; omega
set_option maxRecDepth 100000 in
set_option maxHeartbeats 1000000 in
theorem sevstep_none (T n : Nat) (l : List Int) (w : World) (h : Tk w T l) (hn : n ≤ 255) (ho : manyT stepT n l = none) :
    Calls Try.prog 48 #[.int .i64 n, .func (.func 49) #[.pointer (some ⟨T, 0, none⟩)] #[]] w (Pan w T) := by
  have HT := Lib.hid h
  have HR : Hid (none = (manyT stepT n l).map fun p => (([] : List Step) ++ p.1, p.2)) := Lib.hid (by rw [← many_begin, ho])
  have hTs := h.lt
  clear h ho
  go_enter Try.func48, Try.ntmps48
  go_wp2
  go_loopw [5, 7] (fun v i wr => ∃ (k j : Nat) (xs : List Value) (m : List Step) (l1 : List Int), k + j = n ∧ i = .int .i64 k ∧ wr.ownsRow w.heap.size 53 4 v k xs ∧ Hid (Tk wr T l1) ∧ Hid (w.grownBy wr (some T)) ∧ Hid (none = (manyT stepT j l1).map fun p => (m ++ p.1, p.2))) (fun _ i _ => n - (intOf i).toNat)
  case atStart => exact ⟨0, n, [], [], l, by omega, rfl, World.ownsRow_nil _ _ _ _, HT, Lib.hid (kept_refl _ _), HR⟩
  case round =>
    obtain ⟨k, j, xs, m, l1, hkj, rfl, hown, HTK, HG, HM⟩ := hrel
    generalize wr = w1 at *
    have HOWN := Lib.hid hown
    clear hown
    cases j with
    | zero => exact absurd (many_end HM.out) (by simp)
    | succ j =>
      have hlt : k < n := by omega
      cases e : stepT l1 with
      | none =>
        have HE := Lib.hid e
        clear e
        go_wp2_with fail
        refine (step_none T l1 _ HTK.out HE.out).mono ?_
        rintro e w2 ⟨rfl, hg2⟩
        have HG2 := Lib.hid (kept_trans HG.out hg2)
        clear hg2
        go_wp2
        exact ⟨rfl, rfl, HG2.out⟩
      | some r =>
        obtain ⟨s, l2⟩ := r
        have HN := Lib.hid (many_step HM.out e)
        have HE := Lib.hid e
        obtain ⟨B4, d4, rfl, _⟩ := own_form HOWN.out
        clear e
        go_wp2_with fail
        refine (step_some T l1 l2 _ _ HTK.out HE.out).mono ?_
        rintro e w2 ⟨⟨⟨sd, sa, sb, st⟩, TT, tn, tc⟩, hs, rfl, hnew, ht2, hg2⟩
        simp only at hs ⊢
        have HT2 := Lib.hid ht2
        have HG2 := Lib.hid (kept_trans HG.out hg2)
        have HO2 := Lib.hid (row_kept HOWN.out hTs hg2)
        clear ht2 hg2 hnew hs
        go_wp2_with (at_builtin; refine append_row rfl _ _ 33 rfl tStep w.heap.size (.slice B4 k d4) k xs rfl (row_below HO2.out (bl_alloc (Below.refl _ _) _)) (kept_alloc HG2.out _).size _ 1 1 [.int .i64 sd, .int .i64 sa, .int .i64 sb, .slice TT tn tc] rfl (Rd.built _ 4 1 [.int .i64 sd, .int .i64 sa, .int .i64 sb, .slice TT tn tc] _ rfl) (one_cons rfl (one_cons rfl (one_cons rfl (one_cons rfl one_nil)))) (by omega) (by omega) ?_; intro v3 w3 ho3 hg3 hat3; have HO3 := Lib.hid ho3; have HT3 := Lib.hid ((HT2.out.alloc _).grown hg3 (fun g e => by have := row_base HO2.out g e; omega)); have HG3 := Lib.hid (kept_row (kept_alloc HG2.out _) hg3 (fun g e => .inr (row_base HO2.out g e))); clear ho3 hg3 hat3)
        go_roundw
        case rel => exact ⟨k + 1, j, _, m ++ [s], l2, by omega, by go_num, HO3.out, HT3, HG3, HN⟩
        case measure => simp [intOf]; omega
end Go.Proofs.Ytilfkohckmknkaa.Shape
