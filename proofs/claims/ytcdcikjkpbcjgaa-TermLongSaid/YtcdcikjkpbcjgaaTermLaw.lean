/-
  WHAT THE LAWS OF LAYER 7 MAKE OF THE LAYER'S FUNCTIONS: the fixed answer awake; a term that came in, opened.
-/
import Derived.Test.YtcdcikjkpbcjgaaTermCode5
import Derived.Test.YtcdcikjkpbcjgaaHeapLaw
namespace Go.Proofs.Ytcdcikjkpbcjgaa.Term
open Go.ChangeShapes Go.WideShapes Go.ChangeAt Go.RowKit Mem

theorem cells_five : cellsS [⟨2, 5⟩] = [5] := by decide +kernel
set_option maxRecDepth 100000 in
set_option maxHeartbeats 1000000 in
theorem awake_any (w : World) : Calls Try.prog 9 #[] w (RetB w true) := by
  have HH : Hid (∀ o1, Rd ((w.alloc (.cells (Heap.cs [⟨true, 9⟩, ⟨false, 0⟩]).toArray 41)).alloc o1) 2 (some ⟨w.heap.size, 0, none⟩) 2 (Heap.cs [⟨true, 9⟩, ⟨false, 0⟩])) :=
    Lib.hid (fun _ => (Rd.builtAt _ 2 2 _ _ rfl rfl).alloc _)
  go_enter Try.func9, Try.ntmps9
  go_wp2_with fail
  refine (eval_c [⟨1, 2⟩, ⟨1, 5⟩, ⟨5, 0⟩] [⟨true, 9⟩, ⟨false, 0⟩] [] _ _ _ _ _ _ _ _ _ _ (-3, 0) (Rd.builtAt _ 2 3 (ops [⟨1, 2⟩, ⟨1, 5⟩, ⟨5, 0⟩]) _ rfl (by simp)) (HH.out _) Rd.none_ (by decide) (by decide) (by decide +kernel)).mono ?_
  rintro e w1 ⟨rfl, b_⟩
  have h1 := Lib.hid ((HH.out _).below b_)
  have bb := Lib.hid (bl_trans (bl_alloc (bl_alloc (Below.refl _ _) _) _) b_)
  clear b_ HH
  go_wp2_with fail
  refine (eval_c [⟨2, 0⟩, ⟨3, 1⟩, ⟨7, 0⟩, ⟨11, 0⟩] [⟨true, 9⟩, ⟨false, 0⟩] [0, 9] _ _ _ _ _ _ _ _ _ _ (0, 0) ((Rd.built _ 2 4 (ops [⟨2, 0⟩, ⟨3, 1⟩, ⟨7, 0⟩, ⟨11, 0⟩]) _ rfl).alloc _) ((h1.out.alloc _).alloc _) (Rd.builtAt _ 1 2 (zs [0, 9]) _ rfl (by simp)) (by decide) (by decide) (by decide +kernel)).mono ?_
  rintro e w2 ⟨rfl, b_⟩
  have h2 := Lib.hid (((h1.out.alloc _).alloc _).below b_)
  replace bb := Lib.hid (bl_trans (bl_alloc (bl_alloc bb.out _) _) b_)
  clear b_ h1
  go_wp2_with fail
  refine (eval_c [⟨2, 1⟩] [⟨true, 9⟩, ⟨false, 0⟩] [] _ _ _ _ _ _ _ _ _ _ (0, 3) (Rd.built _ 2 1 (ops [⟨2, 1⟩]) _ rfl) (h2.out.alloc _) Rd.none_ (by decide) (by decide) (by decide +kernel)).mono ?_
  rintro e w3 ⟨rfl, b_⟩
  replace bb := Lib.hid (bl_trans (bl_alloc bb.out _) b_)
  clear b_ h2
  go_wp2_with fail
  refine (check_c [⟨11, 0⟩] _ _ _ _ 2 (Rd.built _ 2 1 (ops [⟨11, 0⟩]) _ rfl) (by decide) (by decide +kernel)).mono ?_
  rintro e w4 ⟨rfl, b_⟩
  replace bb := Lib.hid (bl_trans (bl_alloc bb.out _) b_)
  clear b_
  go_wp2_with fail
  refine (check_c [] _ _ _ _ 1 Rd.none_ (by decide) (by decide +kernel)).mono ?_
  rintro e w5 ⟨rfl, b_⟩
  replace bb := Lib.hid (bl_trans bb.out b_)
  clear b_
  go_wp2_with fail
  refine (cells_c [⟨2, 5⟩] _ _ _ _ [5] 1 (Rd.built _ 2 1 (ops [⟨2, 5⟩]) _ rfl) (by decide) cells_five rfl).mono ?_
  rintro e w6 ⟨v6, rfl, ho⟩
  replace bb := Lib.hid (bl_trans (bl_alloc bb.out _) ho.2)
  obtain ⟨B6, d6, rfl, _⟩ := ho.form
  clear ho
  go_wp2_with fail
  refine (deep_c [⟨3, 0⟩] _ _ _ _ 1 (Rd.built _ 2 1 (ops [⟨3, 0⟩]) _ rfl) (by decide) (by decide +kernel)).mono ?_
  rintro e w7 ⟨rfl, b_⟩
  replace bb := Lib.hid (bl_trans (bl_alloc bb.out _) b_)
  clear b_
  go_wp2_with fail
  go_ret
  exact ⟨rfl, bb.out⟩

theorem trod_op {H : Type} {enc : TypeId × Value → H} {W : World} {fuel : Nat} {cs' : List Value} {x : DataW H × List MemPlace} (hl : cs'.length = 2)
    (ht : DataW.trod enc Try.prog W 0 (fun _ => true) true fuel 44 cs' = some x) : ∃ y : Op, cs' = oc y ∧ (Fits y.kind ∧ Fits y.n) := by
  obtain ⟨xs, n', _, _, _, hxl, hf⟩ := DataW.trod_struct Try.underlying44 ht
  match cs', hl with
  | [c0, c1], _ =>
    have g0 := hf 0 _ rfl
    have g1 := hf 1 _ rfl
    have k3 : Try.prog.cellsOf 3 = 1 := by kernel_rfl
    match xs, hxl with
    | [y0, y1], _ =>
      simp [k3] at g0 g1
      obtain ⟨m0, e0, _, wf0⟩ := DataW.trod_int Try.underlying3 g0
      obtain ⟨m1, e1, _, wf1⟩ := DataW.trod_int Try.underlying3 g1
      simp at e0 e1
      subst e0 e1
      exact ⟨⟨m0, m1⟩, rfl, bounds_i64 wf0, bounds_i64 wf1⟩
theorem open_ops {H : Type} {enc : TypeId × Value → H} {W : World} {A : Option Addr} {n c : Nat} {d : DataW H} {p : List MemPlace}
    (h : DataW.Trod enc Try.prog W 0 (fun _ => true) true 22 (.slice A n c) d p) :
    n ≤ c ∧ c ≤ 9223372036854775807 ∧ ∃ xs : List Op, Rd W 2 A n (ops xs) ∧ xs.length = n ∧ ∀ x ∈ xs, Fits x.kind ∧ Fits x.n :=
  open_rows Try.underlying22 2 (by kernel_rfl) (by decide) oc (fun _ => rfl) (fun x => Fits x.kind ∧ Fits x.n) (fun _ _ _ hl ht => trod_op hl ht) h
end Go.Proofs.Ytcdcikjkpbcjgaa.Term
