/-
  WHAT THE LAWS OF LAYER 5 ASK OF THE LAYER'S FUNCTIONS ('Said'), and what they make of it: the fixed answer awake.
-/
import Derived.Test.YtemfkjcfafenjaaReadsRef3
import Derived.Test.YtemfkjcfafenjaaHeapLaw
import Derived.Test.YtemfkjcfafenjaaStripeLaw
namespace Go.Proofs.Ytemfkjcfafenjaa.Reads
open Go.ChangeShapes Go.WideShapes Go.ChangeAt Go.RowKit Mem

/-- A read, as a value. -/
def rv (x : Read) : Value := .agg #[.int .i64 x.cell, .int .i64 x.version, .int .i64 x.value]
/-- What is returned: a read, and whether there is one. -/
def RetR (w : World) (r : Read × Bool) (e : Ending) (w' : World) : Prop :=
  e = .returned (.tuple #[.agg #[.int .i64 r.1.cell, .int .i64 r.1.version, .int .i64 r.1.value], .bool r.2]) ∧ Below w.heap.size w w'
/-- What is returned: a slice that reads as a list of cells and has room for it, and an error's number. -/
def RetSEC (w : World) (K n : Nat) (xs : List Value) (f : Int) (e : Ending) (w' : World) : Prop :=
  ∃ B d, n ≤ d ∧ e = .returned (.tuple #[.slice B n d, .int .i64 f]) ∧ Rd w' K B n xs ∧ Below w.heap.size w w'
/-- The layer's functions do what the chapter asks. -/
structure Said : Prop where
  right : ∀ (l : List Read) (A : Option Addr) (n c : Nat) (w : World) (b : Bool), Rd w 3 A n (ds l) → n ≤ c → n ≤ 1000000 → rightB l = b → Calls Try.prog 16 #[.slice A n c] w (RetB w b)
  add : ∀ (l : List Read) (A : Option Addr) (n c : Nat) (cl vr vl : Int) (w : World) (a : List Read × Int) (m : Nat), Rd w 3 A n (ds l) → n ≤ c → n ≤ 1000000 → addS l ⟨cl, vr, vl⟩ = a → a.1.length = m → Calls Try.prog 10 #[.slice A n c, .agg #[.int .i64 cl, .int .i64 vr, .int .i64 vl]] w (RetSEC w 3 m (ds a.1) a.2)
  find : ∀ (l : List Read) (A : Option Addr) (n c : Nat) (cl : Int) (w : World) (r : Read × Bool), Rd w 3 A n (ds l) → n ≤ c → n ≤ 1000000 → findR l cl = r → Calls Try.prog 12 #[.slice A n c, .int .i64 cl] w (RetR w r)
  cells : ∀ (l : List Read) (A : Option Addr) (n c : Nat) (w : World) (r : List Int) (q : Nat), Rd w 3 A n (ds l) → n ≤ c → n ≤ 1000000 → cellsS l = r → r.length = q → Calls Try.prog 19 #[.slice A n c] w (RetS w 1 q (zs r))
  valid : ∀ (l : List Read) (t : List Stripe.Rec) (A D : Option Addr) (n c m d : Nat) (who : Int) (w : World) (v : Int), Rd w 3 A n (ds l) → n ≤ c → Rd w 2 D m (Stripe.rs t) → n ≤ 1000000 → m ≤ 1000000 → validS l t who = v → Calls Try.prog 20 #[.slice A n c, .slice D m d, .int .i64 who] w (RetI w v)
  same : ∀ (l : List Read) (h : List Heap.Cell) (A D : Option Addr) (n c m d : Nat) (w : World) (v : Bool), Rd w 3 A n (ds l) → n ≤ c → Rd w 2 D m (Heap.cs h) → n ≤ 1000000 → m ≤ 1000000 → sameS l h = v → Calls Try.prog 22 #[.slice A n c, .slice D m d] w (RetB w v)

theorem cells_one : cellsS [⟨3, 4, 5⟩] = [3] := by
  unfold cellsS
  rw [if_pos (by decide)]
  exact sort_of _ _ (List.Perm.refl _) (by simp)

set_option maxRecDepth 100000 in
set_option maxHeartbeats 1000000 in
theorem awake_any (S : Said) (w : World) : Calls Try.prog 9 #[] w (RetB w true) := by
  have HS := Lib.hid S
  clear S
  go_enter Try.func9, Try.ntmps9
  go_wp2_with fail
  refine (HS.out.add [] _ _ _ 3 4 5 _ ([⟨3, 4, 5⟩], 0) 1 Rd.none_ (by decide) (by decide) (by decide) rfl).mono ?_
  rintro e v1 ⟨B1, d1, z1, rfl, s1, bb⟩
  have Z := Lib.hid z1
  clear z1
  go_wp2_with fail
  refine (HS.out.add [⟨3, 4, 5⟩] _ _ _ 3 4 5 _ ([⟨3, 4, 5⟩], 0) 1 s1 Z.out (by decide) (by decide) rfl).mono ?_
  rintro e v2 ⟨B2, d2, _, rfl, s2, b_⟩
  replace s1 := s1.below b_
  replace bb := bl_trans bb b_
  clear b_ s2
  go_wp2_with fail
  refine (HS.out.add [⟨3, 4, 5⟩] _ _ _ 3 5 5 _ ([⟨3, 4, 5⟩], 8) 1 s1 Z.out (by decide) (by decide) rfl).mono ?_
  rintro e v3 ⟨B3, d3, _, rfl, s3, b_⟩
  replace s1 := s1.below b_
  replace bb := bl_trans bb b_
  clear b_ s3
  go_wp2_with fail
  refine (HS.out.find [⟨3, 4, 5⟩] _ _ _ 3 _ (⟨3, 4, 5⟩, true) s1 Z.out (by decide) (by decide)).mono ?_
  rintro e v4 ⟨rfl, b_⟩
  replace s1 := s1.below b_
  replace bb := bl_trans bb b_
  clear b_
  have T : Hid (∀ o1 o2 o3, Rd ((((v4.alloc o1).alloc (.cells (Stripe.rs [⟨0, 0⟩, ⟨4, 0⟩]).toArray 56)).alloc o2).alloc o3) 2 (some ⟨v4.heap.size + 1, 0, none⟩) 2 (Stripe.rs [⟨0, 0⟩, ⟨4, 0⟩])) :=
    Lib.hid (fun _ _ _ => ((Rd.builtAt _ 2 2 _ _ rfl (by simp)).alloc _).alloc _)
  have U : Hid (∀ o1 o2 o3, Rd ((((v4.alloc o1).alloc o2).alloc (.cells (Stripe.rs [⟨0, 0⟩, ⟨4, 2⟩]).toArray 56)).alloc o3) 2 (some ⟨v4.heap.size + 1 + 1, 0, none⟩) 2 (Stripe.rs [⟨0, 0⟩, ⟨4, 2⟩])) :=
    Lib.hid (fun _ _ _ => (Rd.builtAt _ 2 2 _ _ rfl (by simp)).alloc _)
  have V : Hid (∀ o1 o2 o3, Rd ((((v4.alloc o1).alloc o2).alloc o3).alloc (.cells (Heap.cs [⟨false, 0⟩, ⟨false, 0⟩, ⟨false, 0⟩, ⟨true, 5⟩]).toArray 58)) 2 (some ⟨v4.heap.size + 1 + 1 + 1, 0, none⟩) 4 (Heap.cs [⟨false, 0⟩, ⟨false, 0⟩, ⟨false, 0⟩, ⟨true, 5⟩])) :=
    Lib.hid (fun _ _ _ => Rd.builtAt _ 2 4 _ _ rfl (by simp))
  go_wp2_with fail
  refine (HS.out.valid [⟨3, 4, 5⟩] [⟨0, 0⟩, ⟨4, 0⟩] _ _ _ _ _ _ 1 _ 0 ((((s1.alloc _).alloc _).alloc _).alloc _) Z.out (T.out _ _ _) (by decide) (by decide) (by decide)).mono ?_
  rintro e v5 ⟨rfl, b_⟩
  have u1 := (U.out _ _ _).below b_
  have h1 := (V.out _ _ _).below b_
  replace s1 := ((((s1.alloc _).alloc _).alloc _).alloc _).below b_
  replace bb := bl_trans (bl_alloc (bl_alloc (bl_alloc (bl_alloc bb _) _) _) _) b_
  clear b_ T U V
  go_wp2_with fail
  refine (HS.out.valid [⟨3, 4, 5⟩] [⟨0, 0⟩, ⟨4, 2⟩] _ _ _ _ _ _ 1 _ 8 s1 Z.out u1 (by decide) (by decide) (by decide)).mono ?_
  rintro e v6 ⟨rfl, b_⟩
  replace u1 := u1.below b_
  replace h1 := h1.below b_
  replace s1 := s1.below b_
  replace bb := bl_trans bb b_
  clear b_
  go_wp2_with fail
  refine (HS.out.valid [⟨3, 4, 5⟩] [⟨0, 0⟩, ⟨4, 2⟩] _ _ _ _ _ _ 2 _ 0 s1 Z.out u1 (by decide) (by decide) (by decide)).mono ?_
  rintro e v7 ⟨rfl, b_⟩
  replace h1 := h1.below b_
  replace s1 := s1.below b_
  replace bb := bl_trans bb b_
  clear b_ u1
  go_wp2_with fail
  refine (HS.out.same [⟨3, 4, 5⟩] [⟨false, 0⟩, ⟨false, 0⟩, ⟨false, 0⟩, ⟨true, 5⟩] _ _ _ _ _ _ _ true s1 Z.out h1 (by decide) (by decide) (by decide)).mono ?_
  rintro e v8 ⟨rfl, b_⟩
  replace s1 := s1.below b_
  replace bb := bl_trans bb b_
  clear b_ h1
  go_wp2_with fail
  refine (HS.out.cells [⟨3, 4, 5⟩] _ _ _ _ [3] 1 s1 Z.out (by decide) cells_one rfl).mono ?_
  rintro e v9 ⟨B5, d5, rfl, s5, b_⟩
  replace s1 := s1.below b_
  replace bb := bl_trans bb b_
  clear b_
  go_wp2_with fail
  refine (Mem.numbers_b [3] [3] _ _ _ _ _ _ _ true (s5.alloc _) (Rd.built _ 1 1 (zs [3]) _ rfl) (by decide) (by decide) (by decide)).mono ?_
  rintro e v10 ⟨rfl, b_⟩
  replace s1 := (s1.alloc _).below b_
  replace bb := bl_trans (bl_alloc bb _) b_
  clear b_ s5
  go_wp2_with fail
  refine (HS.out.right [⟨3, 4, 5⟩] _ _ _ _ true s1 Z.out (by decide) (by decide)).mono ?_
  rintro e v11 ⟨rfl, b_⟩
  replace bb := bl_trans bb b_
  clear b_ s1
  go_wp2_with fail
  go_ret
  exact ⟨rfl, bb⟩

theorem trod_read {H : Type} {enc : TypeId × Value → H} {W : World} {fuel : Nat} {cs' : List Value} {x : DataW H × List MemPlace} (hl : cs'.length = 3)
    (ht : DataW.trod enc Try.prog W 0 (fun _ => true) true fuel 24 cs' = some x) : ∃ y : Read, cs' = dc y ∧ (Fits y.cell ∧ Fits y.version ∧ Fits y.value) := by
  obtain ⟨xs, n', _, _, _, hxl, hf⟩ := DataW.trod_struct Try.underlying24 ht
  match cs', hl with
  | [c0, c1, c2], _ =>
    have g0 := hf 0 _ rfl
    have g1 := hf 1 _ rfl
    have g2 := hf 2 _ rfl
    have k3 : Try.prog.cellsOf 3 = 1 := by kernel_rfl
    match xs, hxl with
    | [y0, y1, y2], _ =>
      simp [k3] at g0 g1 g2
      obtain ⟨m0, e0, _, wf0⟩ := DataW.trod_int Try.underlying3 g0
      obtain ⟨m1, e1, _, wf1⟩ := DataW.trod_int Try.underlying3 g1
      obtain ⟨m2, e2, _, wf2⟩ := DataW.trod_int Try.underlying3 g2
      simp at e0 e1 e2
      subst e0 e1 e2
      exact ⟨⟨m0, m1, m2⟩, rfl, bounds_i64 wf0, bounds_i64 wf1, bounds_i64 wf2⟩
theorem open_reads {H : Type} {enc : TypeId × Value → H} {W : World} {A : Option Addr} {n c : Nat} {d : DataW H} {p : List MemPlace}
    (h : DataW.Trod enc Try.prog W 0 (fun _ => true) true 22 (.slice A n c) d p) :
    n ≤ c ∧ c ≤ 9223372036854775807 ∧ ∃ xs : List Read, Rd W 3 A n (ds xs) ∧ xs.length = n ∧ ∀ x ∈ xs, Fits x.cell ∧ Fits x.version ∧ Fits x.value :=
  open_rows Try.underlying22 3 (by kernel_rfl) (by decide) dc (fun _ => rfl) (fun x => Fits x.cell ∧ Fits x.version ∧ Fits x.value) (fun _ _ _ hl ht => trod_read hl ht) h
theorem open_read {H : Type} {enc : TypeId × Value → H} {W : World} {r : Reach} {base : Nat} {v : Value} {d : DataW H} {p : List MemPlace} (hv : Value.okWide Try.prog W r base 24 v)
    (h : DataW.Trod enc Try.prog W 0 (fun _ => true) true 24 v d p) :
    ∃ x : Read, v = .agg #[.int .i64 x.cell, .int .i64 x.version, .int .i64 x.value] ∧ (Fits x.cell ∧ Fits x.version ∧ Fits x.value) := by
  obtain ⟨cs, rfl, hsz⟩ := okWide_struct Try.underlying24 hv
  have k3 : Try.prog.cellsOf 24 = 3 := by kernel_rfl
  obtain ⟨fuel, hf⟩ := h
  obtain ⟨y, e, hy⟩ := trod_read (cs' := cs.toList) (by rw [Array.length_toList, hsz, k3]) (by simpa [Value.cells] using hf)
  refine ⟨y, ?_, hy⟩
  have : cs = (dc y).toArray := by rw [← e]
  rw [this]; rfl
end Go.Proofs.Ytemfkjcfafenjaa.Reads
