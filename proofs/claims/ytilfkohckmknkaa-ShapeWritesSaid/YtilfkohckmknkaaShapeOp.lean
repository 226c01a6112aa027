/-
  WHAT THE TAKER'S CALL op RETURNS, and several of it, or that they panic. No conditions beyond those that each theorem states.
-/
import Derived.Test.YtilfkohckmknkaaShapeNum
namespace Go.Proofs.Ytilfkohckmknkaa.Shape
open Go.ChangeShapes Go.WideShapes Go.ChangeAt Go.RowKit Mem Go.Proofs.Ytilfkohckmknkaa.Code

/-- A world without what is newer than so many blocks. -/
def trunc (w : World) (base : Nat) : World := { w with heap := w.heap.extract 0 base }
theorem trunc_size {w : World} {base : Nat} (h : base ≤ w.heap.size) : (trunc w base).heap.size = base := by
  show (w.heap.extract 0 base).size = base
  rw [Array.size_extract]; omega
theorem own_of_row {w : World} {base e size n : Nat} {v : Value} {xs : List Value} (h : w.ownsRow base e size v n xs) (hb : base ≤ w.heap.size) : Own (trunc w base) w e size v n xs := by
  refine ⟨by rw [trunc_size hb]; exact h, rfl, rfl, rfl, by rw [trunc_size hb]; exact hb, fun i hi => ?_⟩
  rw [trunc_size hb] at hi
  show w.heap[i]? = (w.heap.extract 0 base)[i]?
  rw [Array.getElem?_extract, if_pos (by omega), Nat.zero_add]
theorem row_of_own {w0 w : World} {e size n : Nat} {v : Value} {xs : List Value} (h : Own w0 w e size v n xs) : w.ownsRow w0.heap.size e size v n xs := h.1
theorem row_kept {w1 w2 : World} {base e size n T : Nat} {v : Value} {xs : List Value} (h : w1.ownsRow base e size v n xs) (hT : T < base) (hg : w1.grownBy w2 (some T)) : w2.ownsRow base e size v n xs :=
  h.kept hg (.inr fun e2 => by have := (h.lt T e2).1; omega)
theorem row_base {w : World} {base e size n : Nat} {v : Value} {xs : List Value} (h : w.ownsRow base e size v n xs) : ∀ g, v.ownBlock = some g → base ≤ g := fun g e2 => (h.lt g e2).1
theorem row_below {w w1 : World} {base e size n : Nat} {v : Value} {xs : List Value} (h : w.ownsRow base e size v n xs) (hb : Below w.heap.size w w1) : w1.ownsRow base e size v n xs :=
  h.kept (row := none) ⟨hb.os, hb.tape, hb.output, hb.size, fun i hi _ => hb.block i hi⟩ (by cases hv : v.ownBlock <;> simp)
theorem append_row {P : Program} {w : World} {ops : Array Oper} {rest : List Oper} {o : Oper} {a : Act} {Q : Exit → Act → World → Prop} (hgd : o.guard = none) (s x : Operand) (t : TypeId)
    (ho : o.op = .call { callee := .builtin .append, args := #[s, x], argTypes := #[t, t] })
    {e : TypeId} {size bytes : Nat} (hT : SliceT P t e size bytes) (base : Nat) (v : Value) (n : Nat) (xs : List Value) (hs : a.eval s = v) (hown : w.ownsRow base e size v n xs) (hbase : base ≤ w.heap.size)
    (A : Option Addr) (m c : Nat) (news : List Value) (hx : a.eval x = .slice A m c) (hr : Rd w size A m news) (h1 : ∀ u ∈ news, u.oneCell' = true)
    (hb : (n + m) * bytes ≤ 140737488355328) (h63 : n + m ≤ 9223372036854775807)
    (h : ∀ v' w', w'.ownsRow base e size v' (n + m) (xs ++ news) → w.grownBy w' v.ownBlock → (v'.ownBlock = v.ownBlock ∨ v'.ownBlock = some w.heap.size) → wpList P ops Q rest (a.put o.dst v') w') : wpList P ops Q (o :: rest) a w :=
  append_at hgd s x t ho hT (trunc w base) v n xs hs (own_of_row hown hbase) A m c news hx hr h1 hb h63 (fun v' w' ho' hg hat => h v' w' (by have := ho'.1; rwa [trunc_size hbase] at this) hg hat)
theorem tOps : SliceT Try.prog 51 50 2 16 := SliceT.mk_ (z := .agg #[.int .i64 0, .int .i64 0]) Try.underlying51 (by kernel_rfl) rfl (by decide)
theorem Tk.set {w : World} {T g : Nat} {l : List Int} (h : Tk w T l) (hg : T < g) (i : Nat) (u : Value) : Tk (w.setCell ⟨g, i, none⟩ u) T l :=
  h.grown (kept_set w g i u) (fun k e => by injection e with e; omega)
theorem kept_store {w w1 : World} {T g : Nat} (h : w.grownBy w1 (some T)) (hg : w.heap.size ≤ g) (i : Nat) (u : Value) : w.grownBy (w1.setCell ⟨g, i, none⟩ u) (some T) :=
  kept_row h (kept_set w1 g i u) (fun k e => by injection e with e; omega)
theorem bl_kept {w w1 w2 : World} {T : Nat} (h : Below w.heap.size w w1) (hg : w1.grownBy w2 (some T)) : w.grownBy w2 (some T) := below_kept h hg
set_option maxRecDepth 100000 in
theorem op_ok (T : Nat) (z : Int) (l : List Int) (w : World) (h : Tk w T (z :: l)) (h4 : 4 ≤ l.length) :
    Calls Try.prog 55 #[.pointer (some ⟨T, 0, none⟩)] w fun e w' => e = .returned (.agg #[.int .i64 z, .int .i64 (num l)]) ∧ Tk w' T (l.drop 4) ∧ w.grownBy w' (some T) := by
  have HT := Lib.hid h
  have HL := Lib.hid h4
  have hlt := h.lt
  have hne : w.heap.size ≠ T := by omega
  have HB0 : Hid (Blk (w.alloc (.cells #[.int .i64 0, .int .i64 0] 50)) w.heap.size 50 #[.int .i64 0, .int .i64 0]) := Lib.hid (Blk.new _ _ _)
  clear h h4
  go_enter Try.func55, Try.ntmps55
  go_wp2_with (first
    | (go_at_call 38; refine (one_ok T z l _ (HT.out.alloc _)).mono ?_; rintro e w2 ⟨rfl, ht2, hg2⟩; have HT2 := Lib.hid ht2; have HG2 := Lib.hid (bl_kept (bl_alloc (Below.refl w.heap.size w) _) hg2); have HB2 := Lib.hid (blk_kept HB0.out hg2 hne); clear ht2 hg2)
    | (go_at_call 61; refine (number_ok T l _ HT2.out HL.out).mono ?_; rintro e w3 ⟨rfl, ht3, hg3⟩; have HT3 := Lib.hid ht3; have HG3 := Lib.hid (kept_trans HG2.out hg3); have HB3 := Lib.hid (blk_kept HB2.out hg3 hne); have c0 := HB3.out.cell 0 _ rfl; have c1 := HB3.out.cell 1 _ rfl; have z0 := HB3.out.frozen 0; have z1 := HB3.out.frozen 1; clear ht3 hg3))
  have HB5 := (HB3.out.set_ 0 (.int .i64 z)).set_ 1 (.int .i64 (num l))
  have q0 := HB5.cell 0 _ rfl
  have q1 := HB5.cell 1 _ rfl
  exact bodyPost_ret (v := .agg #[.int .i64 z, .int .i64 (num l)]) (by simp [results, Try.results55, go_sem, q0, q1]) rfl ⟨rfl, (HT3.out.set hlt 0 _).set hlt 1 _, kept_store (kept_store HG3.out (Nat.le_refl _) 0 _) (Nat.le_refl _) 1 _⟩
set_option maxRecDepth 100000 in
theorem op_bad (T : Nat) (l : List Int) (w : World) (h : Tk w T l) (h5 : l.length < 5) :
    Calls Try.prog 55 #[.pointer (some ⟨T, 0, none⟩)] w (Pan w T) := by
  have HT := Lib.hid h
  cases l with
  | nil =>
    clear h h5
    go_enter Try.func55, Try.ntmps55
    go_wp2_with (go_at_call 38; refine (one_bad T _ (HT.out.alloc _)).mono ?_; rintro e w2 ⟨rfl, hg2⟩; have HG2 := Lib.hid (bl_kept (bl_alloc (Below.refl w.heap.size w) _) hg2); clear hg2)
    exact ⟨rfl, rfl, HG2.out⟩
  | cons z l =>
    have HL : Hid (l.length < 4) := Lib.hid (by rw [List.length_cons] at h5; omega)
    clear h h5
    go_enter Try.func55, Try.ntmps55
    go_wp2_with (first
      | (go_at_call 38; refine (one_ok T z l _ (HT.out.alloc _)).mono ?_; rintro e w2 ⟨rfl, ht2, hg2⟩; have HT2 := Lib.hid ht2; have HG2 := Lib.hid (bl_kept (bl_alloc (Below.refl w.heap.size w) _) hg2); clear ht2 hg2)
      | (go_at_call 61; refine (number_bad T l _ HT2.out HL.out).mono ?_; rintro e w3 ⟨rfl, hg3⟩; have HG3 := Lib.hid (kept_trans HG2.out hg3); clear hg3))
    exact ⟨rfl, rfl, HG3.out⟩
theorem op_some (T : Nat) (l q : List Int) (o : Term.Op) (w : World) (h : Tk w T l) (ho : opT l = some (o, q)) :
    Calls Try.prog 55 #[.pointer (some ⟨T, 0, none⟩)] w fun e w' => e = .returned (.agg #[.int .i64 o.kind, .int .i64 o.n]) ∧ Tk w' T q ∧ w.grownBy w' (some T) := by
  unfold opT at ho
  split at ho
  · rename_i hl
    cases l with
    | nil => simp at hl
    | cons z l =>
      injection ho with ho
      injection ho with h1 h2
      subst h1 h2
      exact op_ok T z l w h (by rw [List.length_cons] at hl; omega)
  · cases ho
theorem op_none (T : Nat) (l : List Int) (w : World) (h : Tk w T l) (ho : opT l = none) :
    Calls Try.prog 55 #[.pointer (some ⟨T, 0, none⟩)] w (Pan w T) := by
  refine op_bad T l w h ?_
  unfold opT at ho
  split at ho
  · cases ho
  · omega
/-- How far several have been taken. -/
theorem many_step {α : Type} {f : List Int → Option (α × List Int)} {j : Nat} {l l1 : List Int} {x : α} {m : List α} {r : Option (List α × List Int)} (hr : r = (manyT f (j + 1) l).map fun p => (m ++ p.1, p.2)) (h : f l = some (x, l1)) :
    r = (manyT f j l1).map fun p => ((m ++ [x]) ++ p.1, p.2) := by
  rw [hr, many_one h]
  cases manyT f j l1 with
  | none => rfl
  | some p => simp
theorem many_end {α : Type} {f : List Int → Option (α × List Int)} {l : List Int} {m : List α} {r : Option (List α × List Int)} (hr : r = (manyT f 0 l).map fun p => (m ++ p.1, p.2)) : r = some (m, l) := by
  rw [hr]; show some (m ++ [], l) = _; rw [List.append_nil]
theorem many_stop {α : Type} {f : List Int → Option (α × List Int)} {j : Nat} {l : List Int} {m : List α} {r : Option (List α × List Int)} (hr : r = (manyT f (j + 1) l).map fun p => (m ++ p.1, p.2)) (h : f l = none) : r = none := by
  rw [hr, many_none h]; rfl
theorem many_begin {α : Type} {f : List Int → Option (α × List Int)} {n : Nat} {l : List Int} : manyT f n l = (manyT f n l).map fun p => (([] : List α) ++ p.1, p.2) := by
  cases manyT f n l with
  | none => rfl
  | some p => rfl
set_option maxRecDepth 100000 in
theorem sevop_some (T n : Nat) (l q : List Int) (t : List Term.Op) (w : World) (h : Tk w T l) (hn : n ≤ 255) (ho : manyT opT n l = some (t, q)) :
    Calls Try.prog 54 #[.int .i64 n, .func (.func 55) #[.pointer (some ⟨T, 0, none⟩)] #[]] w fun e w' => ∃ B d, e = .returned (.slice B n d) ∧ w'.ownsRow w.heap.size 50 2 (.slice B n d) n (Term.ops t) ∧ Tk w' T q ∧ w.grownBy w' (some T) := by
  have HT := Lib.hid h
  have HR : Hid (some (t, q) = (manyT opT n l).map fun p => (([] : List Term.Op) ++ p.1, p.2)) := Lib.hid (by rw [← many_begin, ho])
  have hTs := h.lt
  clear h ho
  go_enter Try.func54, Try.ntmps54
  go_wp2
  go_loopw [5, 7] (fun v i wr => ∃ (k j : Nat) (m : List Term.Op) (l1 : List Int), k + j = n ∧ i = .int .i64 k ∧ wr.ownsRow w.heap.size 50 2 v k (Term.ops m) ∧ Hid (Tk wr T l1) ∧ Hid (w.grownBy wr (some T)) ∧ Hid (some (t, q) = (manyT opT j l1).map fun p => (m ++ p.1, p.2))) (fun _ i _ => n - (intOf i).toNat)
  case atStart => exact ⟨0, n, [], l, by omega, rfl, World.ownsRow_nil _ _ _ _, HT, Lib.hid (kept_refl _ _), HR⟩
  case round =>
    obtain ⟨k, j, m, l1, hkj, rfl, hown, HTK, HG, HM⟩ := hrel
    generalize wr = w1 at *
    have HOWN := Lib.hid hown
    clear hown
    cases j with
    | zero =>
      obtain rfl : k = n := by omega
      have hend := many_end HM.out
      injection hend with hend
      injection hend with h1 h2
      subst h1 h2
      obtain ⟨B, d, rfl, _⟩ := own_form HOWN.out
      go_wp2
      go_ret
      exact ⟨B, d, rfl, HOWN.out, HTK.out, HG.out⟩
    | succ j =>
      have hlt : k < n := by omega
      cases e : opT l1 with
      | none => exact absurd (many_stop HM.out e) (by simp)
      | some r =>
        obtain ⟨o, l2⟩ := r
        have HN := Lib.hid (many_step HM.out e)
        have HE := Lib.hid e
        obtain ⟨kd, nn⟩ := o
        obtain ⟨B4, d4, rfl, _⟩ := own_form HOWN.out
        clear e
        go_wp2_with fail
        refine (op_some T l1 l2 _ _ HTK.out HE.out).mono ?_
        rintro e w2 ⟨rfl, ht2, hg2⟩
        have HT2 := Lib.hid ht2
        have HG2 := Lib.hid (kept_trans HG.out hg2)
        have HO2 := Lib.hid (row_kept HOWN.out hTs hg2)
        clear ht2 hg2
        go_wp2_with (first
          | (at_builtin; refine append_row rfl _ _ 51 rfl tOps w.heap.size (.slice B4 k d4) k (Term.ops m) rfl (row_below HO2.out (bl_alloc (Below.refl _ _) _)) (kept_alloc HG2.out _).size _ 1 1 [.int .i64 kd, .int .i64 nn] rfl (Rd.built _ 2 1 [.int .i64 kd, .int .i64 nn] _ rfl) (one_cons rfl (one_cons rfl one_nil)) (by omega) (by omega) ?_; intro v3 w3 ho3 hg3 hat3; have HO3 := Lib.hid ho3; have HT3 := Lib.hid ((HT2.out.alloc _).grown hg3 (fun g e => by have := row_base HO2.out g e; omega)); have HG3 := Lib.hid (kept_row (kept_alloc HG2.out _) hg3 (fun g e => .inr (row_base HO2.out g e))); clear ho3 hg3 hat3))
        go_roundw
        case rel => exact ⟨k + 1, j, m ++ [⟨kd, nn⟩], l2, by omega, by go_num, by rw [Term.ops_app]; exact HO3.out, HT3, HG3, HN⟩
        case measure => simp [intOf]; omega
set_option maxRecDepth 100000 in
theorem sevop_none (T n : Nat) (l : List Int) (w : World) (h : Tk w T l) (hn : n ≤ 255) (ho : manyT opT n l = none) :
    Calls Try.prog 54 #[.int .i64 n, .func (.func 55) #[.pointer (some ⟨T, 0, none⟩)] #[]] w (Pan w T) := by
  have HT := Lib.hid h
  have HR : Hid (none = (manyT opT n l).map fun p => (([] : List Term.Op) ++ p.1, p.2)) := Lib.hid (by rw [← many_begin, ho])
  have hTs := h.lt
  clear h ho
  go_enter Try.func54, Try.ntmps54
  go_wp2
  go_loopw [5, 7] (fun v i wr => ∃ (k j : Nat) (m : List Term.Op) (l1 : List Int), k + j = n ∧ i = .int .i64 k ∧ wr.ownsRow w.heap.size 50 2 v k (Term.ops m) ∧ Hid (Tk wr T l1) ∧ Hid (w.grownBy wr (some T)) ∧ Hid (none = (manyT opT j l1).map fun p => (m ++ p.1, p.2))) (fun _ i _ => n - (intOf i).toNat)
  case atStart => exact ⟨0, n, [], l, by omega, rfl, World.ownsRow_nil _ _ _ _, HT, Lib.hid (kept_refl _ _), HR⟩
  case round =>
    obtain ⟨k, j, m, l1, hkj, rfl, hown, HTK, HG, HM⟩ := hrel
    generalize wr = w1 at *
    have HOWN := Lib.hid hown
    clear hown
    cases j with
    | zero =>
      exact absurd (many_end HM.out) (by simp)
    | succ j =>
      have hlt : k < n := by omega
      cases e : opT l1 with
      | none =>
        have HE := Lib.hid e
        clear e
        go_wp2_with fail
        refine (op_none T l1 _ HTK.out HE.out).mono ?_
        rintro e w2 ⟨rfl, hg2⟩
        have HG2 := Lib.hid (kept_trans HG.out hg2)
        clear hg2
        go_wp2
        exact ⟨rfl, rfl, HG2.out⟩
      | some r =>
        obtain ⟨o, l2⟩ := r
        have HN := Lib.hid (many_step HM.out e)
        have HE := Lib.hid e
        obtain ⟨kd, nn⟩ := o
        obtain ⟨B4, d4, rfl, _⟩ := own_form HOWN.out
        clear e
        go_wp2_with fail
        refine (op_some T l1 l2 _ _ HTK.out HE.out).mono ?_
        rintro e w2 ⟨rfl, ht2, hg2⟩
        have HT2 := Lib.hid ht2
        have HG2 := Lib.hid (kept_trans HG.out hg2)
        have HO2 := Lib.hid (row_kept HOWN.out hTs hg2)
        clear ht2 hg2
        go_wp2_with (first
          | (at_builtin; refine append_row rfl _ _ 51 rfl tOps w.heap.size (.slice B4 k d4) k (Term.ops m) rfl (row_below HO2.out (bl_alloc (Below.refl _ _) _)) (kept_alloc HG2.out _).size _ 1 1 [.int .i64 kd, .int .i64 nn] rfl (Rd.built _ 2 1 [.int .i64 kd, .int .i64 nn] _ rfl) (one_cons rfl (one_cons rfl one_nil)) (by omega) (by omega) ?_; intro v3 w3 ho3 hg3 hat3; have HO3 := Lib.hid ho3; have HT3 := Lib.hid ((HT2.out.alloc _).grown hg3 (fun g e => by have := row_base HO2.out g e; omega)); have HG3 := Lib.hid (kept_row (kept_alloc HG2.out _) hg3 (fun g e => .inr (row_base HO2.out g e))); clear ho3 hg3 hat3))
        go_roundw
        case rel => exact ⟨k + 1, j, m ++ [⟨kd, nn⟩], l2, by omega, by go_num, by rw [Term.ops_app]; exact HO3.out, HT3, HG3, HN⟩
        case measure => simp [intOf]; omega
end Go.Proofs.Ytilfkohckmknkaa.Shape
