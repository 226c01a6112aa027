/-
  THE PROGRAM'S TAKER IN MEMORY: what it has left; what its call 'one' returns, or that it panics. No conditions beyond those that each theorem states.
-/
import Derived.Test.YtilfkohckmknkaaShapeTake
import Derived.Test.YtilfkohckmknkaaShapeBytes
import Derived.Test.YtilfkohckmknkaaHeapA
import Derived.WalkSmall
namespace Go.Proofs.Ytilfkohckmknkaa.Shape
open Go.ChangeShapes Go.WideShapes Go.ChangeAt Go.RowKit Mem Go.Proofs.Ytilfkohckmknkaa.Code

/-! What has grown, but for one block. -/
section
variable {w w1 w2 : World} {T : Nat} {r : Option Nat}
theorem kept_refl (w : World) (T : Nat) : w.grownBy w (some T) := World.grownBy.refl w _
theorem kept_row (h : w.grownBy w1 (some T)) (k : w1.grownBy w2 r) (hr : ∀ g, r = some g → g = T ∨ w.heap.size ≤ g) : w.grownBy w2 (some T) :=
  ⟨k.os.trans h.os, k.tape.trans h.tape, k.output.trans h.output, Nat.le_trans h.size k.size, fun i hi hne => by
    refine (k.block i (Nat.lt_of_lt_of_le hi h.size) (fun e => ?_)).trans (h.block i hi hne)
    rcases hr i e.symm with h1 | h1
    · exact hne (by rw [h1])
    · omega⟩
theorem kept_trans (h : w.grownBy w1 (some T)) (k : w1.grownBy w2 (some T)) : w.grownBy w2 (some T) := kept_row h k (fun g e => .inl (by injection e with e; exact e.symm))
theorem kept_below (h : w.grownBy w1 (some T)) (k : Below w1.heap.size w1 w2) : w.grownBy w2 (some T) :=
  kept_row (r := none) h ⟨k.os, k.tape, k.output, k.size, fun i hi _ => k.block i hi⟩ (fun g e => by cases e)
theorem below_kept (h : Below w.heap.size w w1) (k : w1.grownBy w2 (some T)) : w.grownBy w2 (some T) :=
  kept_trans ⟨h.os, h.tape, h.output, h.size, fun i hi _ => h.block i hi⟩ k
theorem kept_alloc (h : w.grownBy w1 (some T)) (o : Obj) : w.grownBy (w1.alloc o) (some T) := kept_below h (bl_alloc (Below.refl _ _) o)
theorem kept_drew (h : w.grownBy w1 (some T)) : w.grownBy w1.drew (some T) := ⟨h.os, h.tape, h.output, h.size, h.block⟩
theorem kept_set (w : World) (T i : Nat) (u : Value) : w.grownBy (w.setCell ⟨T, i, none⟩ u) (some T) :=
  ⟨rfl, rfl, rfl, by simp [World.setCell], fun k _ hne => heap_set_ne w (fun e => hne (by rw [e])) i u⟩
theorem kept_to_below {w0 : World} (h0 : Below w0.heap.size w0 w) (h : w.grownBy w1 (some T)) (hT : w0.heap.size ≤ T) : Below w0.heap.size w0 w1 :=
  ⟨h.os.trans h0.os, h.tape.trans h0.tape, h.output.trans h0.output, Nat.le_trans h0.size h.size, fun i hi =>
    (h.block i (Nat.lt_of_lt_of_le hi h0.size) (fun e => by injection e with e; omega)).trans (h0.block i hi)⟩
theorem blk_kept {g : Nat} {t : TypeId} {xs : Array Value} (h : Blk w g t xs) (k : w.grownBy w1 (some T)) (hne : g ≠ T) : Blk w1 g t xs :=
  (k.block g h.lt (fun e => hne (by injection e))).trans h
theorem rd_kept {k n : Nat} {A : Option Addr} {xs : List Value} (h : Rd w k A n xs) (hg : w.grownBy w1 r) (hne : ∀ b off, A = some ⟨b, off, none⟩ → 0 < n → r ≠ some b) : Rd w1 k A n xs :=
  ⟨h.1, fun hn => by
    obtain ⟨b, off, e, hc⟩ := h.2 hn
    exact ⟨b, off, e, fun j u hu => hg.cell (hc j u hu) (fun e2 => hne b off e hn e2.symm)⟩⟩
end
/-- What is behind the first ones of bytes. -/
theorem rd_behind {w : World} {B : Option Addr} {n : Nat} {xs : List Int} (h : Rd w 1 B n (bs xs)) (k d : Nat) (hk : k ≤ n) (hd : n ≤ d) : Rd w 1 (if d = k then B else B.map (·.add k)) (n - k) (bs (xs.drop k)) := by
  have hl := bs_len h
  refine ⟨by unfold bs; rw [flat_len bc_len, List.length_drop, hl], fun h0 => ?_⟩
  obtain ⟨b, off, rfl, hc⟩ := h.2 (by omega)
  rw [if_neg (by omega)]
  refine ⟨b, off + k, by simp [Mem.add_plain], fun j u hu => ?_⟩
  have e : bs xs = bs (xs.take k) ++ bs (xs.drop k) := by rw [← bs_app, List.take_append_drop]
  rw [Nat.add_assoc]
  refine hc (k + j) u ?_
  have hlk : (bs (xs.take k)).length = k := by unfold bs; rw [flat_len bc_len, List.length_take, hl]; omega
  rw [e, List.getElem?_append_right (by omega), hlk, show k + j - k = j from by omega]
  exact hu
/-- The taker lies at block T, and has so many bytes left, which lie in an older block. -/
def Tk (w : World) (T : Nat) (l : List Int) : Prop :=
  ∃ A n c, Blk w T 66 #[.slice A n c] ∧ Rd w 1 A n (bs l) ∧ BB l ∧ n ≤ c ∧ n ≤ 4000000 ∧ c ≤ 9223372036854775807 ∧ (∀ b off, A = some ⟨b, off, none⟩ → 0 < n → b < T)
theorem Tk.lt {w : World} {T : Nat} {l : List Int} (h : Tk w T l) : T < w.heap.size := by obtain ⟨A, n, c, hb, _⟩ := h; exact hb.lt
theorem Tk.bb {w : World} {T : Nat} {l : List Int} (h : Tk w T l) : BB l := by obtain ⟨A, n, c, _, _, hb, _⟩ := h; exact hb
theorem Tk.grown {w w1 : World} {T : Nat} {l : List Int} {r : Option Nat} (h : Tk w T l) (hg : w.grownBy w1 r) (hr : ∀ g, r = some g → T < g) : Tk w1 T l := by
  obtain ⟨A, n, c, hb, hrd, h1, h2, h3, h4, h5⟩ := h
  refine ⟨A, n, c, (hg.block T hb.lt (fun e => by have := hr T e.symm; omega)).trans hb, rd_kept hrd hg (fun b off e hn e2 => by have := h5 b off e hn; have := hr b e2; omega), h1, h2, h3, h4, h5⟩
theorem Tk.below {w w1 : World} {T : Nat} {l : List Int} (h : Tk w T l) (hg : Below w.heap.size w w1) : Tk w1 T l :=
  h.grown (r := none) ⟨hg.os, hg.tape, hg.output, hg.size, fun i hi _ => hg.block i hi⟩ (fun g e => by cases e)
theorem Tk.alloc {w : World} {T : Nat} {l : List Int} (h : Tk w T l) (o : Obj) : Tk (w.alloc o) T l := h.below (bl_alloc (Below.refl _ _) o)
/-- A panic with ErrForm; nothing but the taker has changed of what was there. -/
def Pan (w : World) (T : Nat) (e : Ending) (w' : World) : Prop :=
  e = .panicked [{ v := .iface 26 (.int .i64 2), recovered := false }] ∧ w.grownBy w' (some T)
set_option maxRecDepth 100000 in
theorem one_ok (T : Nat) (z : Int) (l : List Int) (w : World) (h : Tk w T (z :: l)) :
    Calls Try.prog 38 #[.pointer (some ⟨T, 0, none⟩)] w fun e w' => e = .returned (.int .i64 z) ∧ Tk w' T l ∧ w.grownBy w' (some T) := by
  have hz := h.bb.head
  obtain ⟨z0, z1⟩ := hz
  obtain ⟨A, n, c, hb, hr, hbb, hnc, hn, hc, hT⟩ := h
  have hl := bs_len hr
  have h0 : 0 < n := by rw [List.length_cons] at hl; omega
  obtain ⟨b, off, x, rfl, hx, c0⟩ := at_b hr 0 h0
  obtain rfl : x = z := by simpa using hx.symm
  obtain ⟨m, hm⟩ : ∃ m, n - 1 = m := ⟨_, rfl⟩
  obtain ⟨d, hd⟩ : ∃ d, c - 1 = d := ⟨_, rfl⟩
  obtain ⟨B2, hB2⟩ : ∃ B2, (if c = 1 then some (⟨b, off, none⟩ : Addr) else some ⟨b, off + 1, none⟩) = B2 := ⟨_, rfl⟩
  have HNEW : Hid (Tk (w.setCell ⟨T, 0, none⟩ (.slice B2 m d)) T l) := Lib.hid (by
    have hTb := hT b off rfl h0
    have hr2 := rd_behind hr 1 c (by omega) hnc
    rw [hm, List.drop_one, List.tail_cons] at hr2
    have e2 : (if c = 1 then some (⟨b, off, none⟩ : Addr) else Option.map (fun x : Addr => x.add 1) (some (⟨b, off, none⟩ : Addr))) = B2 := by rw [← hB2]; simp [Mem.add_plain]
    rw [e2] at hr2
    refine ⟨B2, m, d, hb.set_ 0 _, ?_, hbb.tail, by omega, by omega, by omega, ?_⟩
    · refine hr2.set_other (fun b' off' e => ?_) 0 _
      rw [← hB2] at e
      split at e <;> (injection e with e; injection e with e e3; omega)
    · intro b' off' e _
      rw [← hB2] at e
      split at e <;> (injection e with e; injection e with e e3; omega))
  have q0 := hb.cell 0 _ rfl
  have qz := hb.frozen 0
  have hc1 : 1 ≤ c := by omega
  rw [Nat.add_zero] at c0
  clear hx hb hr hT hbb
  go_enter Try.func38, Try.ntmps38
  go_wp2
  go_ret
  exact ⟨rfl, HNEW.out, kept_set _ _ _ _⟩
set_option maxRecDepth 100000 in
theorem one_bad (T : Nat) (w : World) (h : Tk w T []) :
    Calls Try.prog 38 #[.pointer (some ⟨T, 0, none⟩)] w (Pan w T) := by
  obtain ⟨A, n, c, hb, hr, hbb, hnc, hn, hc, hT⟩ := h
  have hl := bs_len hr
  obtain rfl : n = 0 := by simpa using hl.symm
  have q0 := hb.cell 0 _ rfl
  clear hb hr hT hbb hl
  go_enter Try.func38, Try.ntmps38
  go_wp2
  exact ⟨rfl, rfl, kept_refl _ _⟩
end Go.Proofs.Ytilfkohckmknkaa.Shape
