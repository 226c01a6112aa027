/-
  WORDS ON MEMORY, of my own: what stays where one block is written, where a slice of the call's own grows in its place or elsewhere. No conditions beyond those that each theorem states. Nothing of the program is named here.
-/
import Derived.WalkKit
import Derived.ProofKit
import Derived.OpenShut
import Derived.Lib.Hide
import Derived.Deep.Draws
import Derived.Laws.OwnMore
import Derived.Deep.Slices
import Derived.Deep.Fields
import Derived.ChangeSame
import Derived.ChangeOld
import Derived.Below
import Derived.Carry
import Derived.Maps.AppendAt
import Derived.Test.YtddgdhaioomnnaaRows
import Derived.LoopTactic
import Derived.Deep.QuietTactic
import Derived.BigQuiet
import Derived.RegionTactic
import Derived.Laws.StructEq
import Derived.OwnWalk
import Derived.Lib.SliceRun
import Derived.StillTailTactics
import Derived.Shelf.SlSortCmp.QuietGrown
import Derived.Test.YtddgdhaioomnnaaSort
import Derived.Sort.OwnSortedInts
namespace Go.Proofs.Ytddgdhaioomnnaa.Mem
open Go.ChangeShapes Go.WideShapes Go.ChangeAt Go.RowKit

theorem ret_int {k : IntKind} {a b : Int} (h : a = b) : Ending.returned (.int k a) = .returned (.int k b) := by rw [h]
theorem ret_bool {a b : Bool} (h : a = b) : Ending.returned (.bool a) = .returned (.bool b) := by rw [h]

theorem add_block (a : Addr) (n : Nat) : (a.add n).block = a.block := by unfold Addr.add; split <;> rfl
theorem add_add (a : Addr) (i j : Nat) : (a.add i).add j = a.add (i + j) := by
  unfold Addr.add
  by_cases hi : i = 0 <;> by_cases hj : j = 0 <;> simp [hi, hj, Nat.add_assoc]
theorem cell_lt {w : World} {a : Addr} {v : Value} (h : w.cell? a = some v) : a.block < w.heap.size := by
  rcases Nat.lt_or_ge a.block w.heap.size with hl | hl
  · exact hl
  · unfold World.cell? at h; simp [Array.getElem?_eq_none hl] at h

/-- The slice '.slice A n _', of elements of k cells each, reads as the cells xs. -/
def Rd (w : World) (k : Nat) (A : Option Addr) (n : Nat) (xs : List Value) : Prop :=
  xs.length = n * k ∧ (0 < n → ∃ b off, A = some ⟨b, off, none⟩ ∧ ∀ j u, xs[j]? = some u → w.cell? ⟨b, off + j, none⟩ = some u)

section
variable {w w' : World} {k n : Nat} {A : Option Addr} {xs : List Value}
theorem Rd.none_ : Rd w k A 0 [] := ⟨by simp, fun h => absurd h (by omega)⟩
theorem Rd.below (h : Rd w k A n xs) (hb : Below w.heap.size w w') : Rd w' k A n xs :=
  ⟨h.1, fun hn => by
    obtain ⟨b, off, e, hc⟩ := h.2 hn
    exact ⟨b, off, e, fun j u hu => (hb.cell (cell_lt (hc j u hu))).trans (hc j u hu)⟩⟩
theorem Rd.drew (h : Rd w k A n xs) : Rd w.drew k A n xs := h
theorem Rd.drewN (h : Rd w k A n xs) (m : Nat) : Rd (w.drewN m) k A n xs := h
theorem Rd.alloc (h : Rd w k A n xs) (o : Obj) : Rd (w.alloc o) k A n xs :=
  h.below ((Below.refl _ _).alloc (Nat.le_refl _) o)
theorem own_form {base : Nat} {e : TypeId} {v : Value} (h : w.ownsRow base e k v n xs) : ∃ A c, v = .slice A n c ∧ Rd w k A n xs := by
  rcases h.2 with ⟨hv, hn⟩ | ⟨g, cap, cur, hv, _⟩
  · subst hv hn
    have hx : xs = [] := List.eq_nil_of_length_eq_zero (by simpa using h.1)
    subst hx
    exact ⟨_, _, rfl, Rd.none_⟩
  · subst hv
    refine ⟨_, _, rfl, h.1, fun _ => ⟨g, 0, rfl, fun j u hu => ?_⟩⟩
    have h2 := h.cells (g := g) rfl j u hu
    have : ((⟨g, 0, none⟩ : Addr).add j) = ⟨g, 0 + j, none⟩ := by
      unfold Addr.add; split
      · rename_i e; subst e; rfl
      · rfl
    rwa [this] at h2
end

theorem bl_trans {w w1 w2 : World} (h : Below w.heap.size w w1) (k : Below w1.heap.size w1 w2) : Below w.heap.size w w2 := h.trans (k.mono h.size)
theorem bl_alloc {w w1 : World} (h : Below w.heap.size w w1) (o : Obj) : Below w.heap.size w (w1.alloc o) := h.alloc h.size o
theorem bl_set {w w1 : World} (h : Below w.heap.size w w1) {p : Addr} (hp : w.heap.size ≤ p.block) (u : Value) : Below w.heap.size w (w1.setCell p u) := h.setCell hp u
theorem bl_drewN {w w1 : World} (h : Below w.heap.size w w1) (q : Nat) : Below w.heap.size w (w1.drewN q) := ⟨h.os, h.tape, h.output, h.size, h.block⟩

/-- The facts on a slice type that an append asks: t is the type of slices of e; an e has so many cells, and bytes. -/
def SliceT (P : Program) (t e : TypeId) (size bytes : Nat) : Prop :=
  ∃ i z, P.underlying t = some (.slice e) ∧ P.info? e = some i ∧ i.zero = some z ∧ i.size = size ∧ i.bytes = bytes ∧ z.cells.size = size ∧ 0 < size
theorem SliceT.mk_ {P : Program} {t e : TypeId} {size bytes : Nat} {z : Value} (ht : P.underlying t = some (.slice e))
    (h : (P.info? e).map (fun i => (i.zero, i.size, i.bytes)) = some (some z, size, bytes)) (hz : z.cells.size = size) (h0 : 0 < size) : SliceT P t e size bytes := by
  obtain ⟨i, hi, h1, h2, h3⟩ := info_parts h
  exact ⟨i, z, ht, hi, h1, h2, h3, hz, h0⟩

/-- Since the world w0, in which all that came in lies: v is a slice of the call's own, of n elements, and holds the cells xs. -/
def Own (w0 w : World) (e size : Nat) (v : Value) (n : Nat) (xs : List Value) : Prop :=
  w.ownsRow w0.heap.size e size v n xs ∧ Below w0.heap.size w0 w

section
variable {w0 w w' : World} {e size n : Nat} {v : Value} {xs : List Value}
theorem Own.nil_ (h : Below w0.heap.size w0 w) : Own w0 w e size (.slice none 0 0) 0 [] := ⟨⟨by simp, .inl ⟨rfl, rfl⟩⟩, h⟩
theorem Own.alloc (h : Own w0 w e size v n xs) (o : Obj) : Own w0 (w.alloc o) e size v n xs := ⟨h.1.alloc o, h.2.alloc h.2.size o⟩
theorem Own.below (h : Own w0 w e size v n xs) (hb : Below w.heap.size w w') : Own w0 w' e size v n xs :=
  ⟨h.1.kept (row := none) ⟨hb.os, hb.tape, hb.output, hb.size, fun i hi _ => hb.block i hi⟩ (by cases hv : v.ownBlock <;> simp), bl_trans h.2 (hb)⟩
theorem Own.drew (h : Own w0 w e size v n xs) : Own w0 w.drew e size v n xs := ⟨h.1, h.2.drew⟩
theorem Own.form (h : Own w0 w e size v n xs) : ∃ A c, v = .slice A n c ∧ Rd w size A n xs := own_form h.1
theorem Own.base (h : Own w0 w e size v n xs) : ∀ k, v.ownBlock = some k → w0.heap.size ≤ k := by
  intro k hk
  rcases h.1.2 with ⟨rfl, _⟩ | ⟨g, cap, cur, rfl, hb, _⟩
  · simp [Value.ownBlock] at hk
  · simp [Value.ownBlock] at hk; omega
theorem Own.grown (h : Own w0 w e size v n xs) (hg : w.grownBy w' v.ownBlock) : Below w0.heap.size w0 w' := h.2.grown hg h.2.size h.base
end

/-- An empty slice of the call's own: '[]T' with no element written. -/
theorem Own.empty (w : World) (e : TypeId) (size : Nat) : Own w (w.alloc (.cells #[] e)) e size (.slice (some ⟨w.heap.size, 0, none⟩) 0 0) 0 [] :=
  ⟨⟨by simp, .inr ⟨w.heap.size, 0, #[], rfl, Nat.le_refl _, heap_alloc_new w _, Nat.le_refl _, by unfold maxLen; omega, by simp, by simp⟩⟩, bl_alloc (Below.refl _ _) _⟩
/-- Block g is just the cells xs, of element type t, none frozen. -/
def Blk (w : World) (g : Nat) (t : TypeId) (xs : Array Value) : Prop := w.heap[g]? = some (.cells xs t (0, 0))
section
variable {w w' : World} {g : Nat} {t : TypeId} {xs : Array Value}
theorem Blk.lt (h : Blk w g t xs) : g < w.heap.size := by
  rcases Nat.lt_or_ge g w.heap.size with hl | hl
  · exact hl
  · unfold Blk at h; rw [Array.getElem?_eq_none hl] at h; cases h
theorem Blk.cell (h : Blk w g t xs) (i : Nat) (u : Value) (hi : xs[i]? = some u) : w.cell? ⟨g, i, none⟩ = some u := by
  unfold Blk at h; unfold World.cell?; simp only [h]; simpa using hi
theorem Blk.frozen (h : Blk w g t xs) (i : Nat) : w.frozen? ⟨g, i, none⟩ = false := by
  unfold Blk at h; simp [World.frozen?, h]
theorem Blk.new (w : World) (t : TypeId) (xs : Array Value) : Blk (w.alloc (.cells xs t)) w.heap.size t xs := heap_alloc_new w _
theorem Blk.alloc (h : Blk w g t xs) (o : Obj) : Blk (w.alloc o) g t xs := (Below.heap_alloc w o g h.lt).trans h
theorem Blk.drewN (h : Blk w g t xs) (q : Nat) : Blk (w.drewN q) g t xs := h
theorem Blk.set_ (h : Blk w g t xs) (i : Nat) (u : Value) : Blk (w.setCell ⟨g, i, none⟩ u) g t (xs.setIfInBounds i u) := by
  unfold Blk at h ⊢; simp [World.setCell, Array.getElem?_modify, h]
theorem Blk.below (h : Blk w g t xs) (hb : Below w.heap.size w w') : Blk w' g t xs := (hb.block g h.lt).trans h
end
theorem one_nil : ∀ u ∈ ([] : List Value), u.oneCell' = true := by simp
theorem one_cons {x : Value} {l : List Value} (h : x.oneCell' = true) (t : ∀ u ∈ l, u.oneCell' = true) : ∀ u ∈ x :: l, u.oneCell' = true := by
  intro u hu
  rcases List.mem_cons.1 hu with rfl | hu
  · exact h
  · exact t u hu
theorem add_plain (b off j : Nat) : ((⟨b, off, none⟩ : Addr).add j) = ⟨b, off + j, none⟩ := by
  unfold Addr.add; split
  · rename_i e; subst e; rfl
  · rfl

/-- Of a block that has just been laid: a slice over all of it. -/
theorem Rd.built (w : World) (k n : Nat) (xs : List Value) (e : TypeId) (h : xs.length = n * k) :
    Rd (w.alloc (.cells xs.toArray e)) k (some ⟨w.heap.size, 0, none⟩) n xs := by
  refine ⟨h, fun _ => ⟨_, _, rfl, fun j u hu => ?_⟩⟩
  simp only [World.cell?, heap_alloc_new]
  simpa using hu

theorem Rd.builtAt (w : World) (k n : Nat) (xs : List Value) (e : TypeId) (h : xs.length = n * k) {g : Nat} (hg : w.heap.size = g) :
    Rd (w.alloc (.cells xs.toArray e)) k (some ⟨g, 0, none⟩) n xs := by subst hg; exact Rd.built w k n xs e h

section
variable {P : Program} {w : World}
theorem run_append_nil {t ty e : TypeId} {i : TypeInfo} {size base n c : Nat} {v : Value} {xs : List Value} (ht : P.underlying t = some (.slice e)) (hi : P.info? e = some i)
    (hown : w.ownsRow base e size v n xs) : (Builtin.append_ #[t, t] ty #[v, .slice none 0 c]).run P w = .ok v w := by
  rcases hown.2 with ⟨rfl, rfl⟩ | ⟨g, cap, cur, rfl, _, _, hnc, _⟩
  · simp [Builtin.append_, run_underlying ht, sizeOf, typeInfo, hi, Builtin.lenOf, Builtin.firstCells]
  · simp [Builtin.append_, run_underlying ht, sizeOf, typeInfo, hi, Builtin.lenOf, Builtin.firstCells, hnc, storeCells]

theorem wp_append_rd {o : Oper} {a : Act} {K : Act → World → Prop} {Q : Exit → Act → World → Prop} (s x : Operand) (t : TypeId)
    (ho : o.op = .call { callee := .builtin .append, args := #[s, x], argTypes := #[t, t] })
    {e : TypeId} {size bytes : Nat} (hT : SliceT P t e size bytes) (w0 : World) (v : Value) (n : Nat) (xs : List Value) (hs : a.eval s = v) (hown : Own w0 w e size v n xs)
    (A : Option Addr) (m c : Nat) (news : List Value) (hx : a.eval x = .slice A m c) (hr : Rd w size A m news) (h1 : ∀ u ∈ news, u.oneCell' = true)
    (hb : (n + m) * bytes ≤ 140737488355328) (h63 : n + m ≤ 9223372036854775807)
    (h : ∀ v' w', Own w0 w' e size v' (n + m) (xs ++ news) → w.grownBy w' v.ownBlock → K (a.put o.dst v') w') : o.wp P a w K Q := by
  obtain ⟨i, z, ht, hi, hz, hsize, hby, hzs, hsz⟩ := hT
  rcases A with _ | ad
  · have hm : m = 0 := by
      rcases Nat.eq_zero_or_pos m with h0 | h0
      · exact h0
      · obtain ⟨b, off, h, _⟩ := hr.2 h0
        cases h
    subst hm
    have hn : news = [] := List.eq_nil_of_length_eq_zero (by simpa using hr.1)
    subst hn
    have hrun := run_append_nil (ty := o.type) (c := c) ht hi hown.1
    unfold Oper.wp execOp
    simp only [ho, resolve, invoke, builtin, Sem.run_bind, Sem.run_pure, Result.andThen_ok, List.map_toArray, List.map_cons, List.map_nil, hs, hx, hrun]
    exact h v w (by simpa using hown) (World.grownBy.refl w _)
  · have hcells : ∀ j u, news[j]? = some u → w.cell? (ad.add j) = some u := by
      intro j u hu
      rcases Nat.eq_zero_or_pos m with h0 | h0
      · subst h0
        have hn : news = [] := List.eq_nil_of_length_eq_zero (by simpa using hr.1)
        subst hn
        simp at hu
      · obtain ⟨b, off, h, hc⟩ := hr.2 h0
        injection h with h
        subst h
        rw [add_plain]
        exact hc j u hu
    exact wp_append_own w s x t ho w0.heap.size e i z size bytes ht hi hz hsize hby hzs hsz v n xs hs hown.1 ad m c news hx hr.1 hcells h1 (by unfold maxLen; omega) hb hown.2.size
      fun v' w' h2 h3 _ => h v' w' ⟨h2, hown.grown h3⟩ h3

theorem append_rd {ops : Array Oper} {rest : List Oper} {o : Oper} {a : Act} {Q : Exit → Act → World → Prop} (hgd : o.guard = none) (s x : Operand) (t : TypeId)
    (ho : o.op = .call { callee := .builtin .append, args := #[s, x], argTypes := #[t, t] })
    {e : TypeId} {size bytes : Nat} (hT : SliceT P t e size bytes) (w0 : World) (v : Value) (n : Nat) (xs : List Value) (hs : a.eval s = v) (hown : Own w0 w e size v n xs)
    (A : Option Addr) (m c : Nat) (news : List Value) (hx : a.eval x = .slice A m c) (hr : Rd w size A m news) (h1 : ∀ u ∈ news, u.oneCell' = true)
    (hb : (n + m) * bytes ≤ 140737488355328) (h63 : n + m ≤ 9223372036854775807)
    (h : ∀ v' w', Own w0 w' e size v' (n + m) (xs ++ news) → w.grownBy w' v.ownBlock → wpList P ops Q rest (a.put o.dst v') w') : wpList P ops Q (o :: rest) a w :=
  wpList_plain hgd fun _ hK => wp_append_rd s x t ho hT w0 v n xs hs hown A m c news hx hr h1 hb h63 fun v' w' h2 h3 => hK _ _ (h v' w' h2 h3)
end
end Go.Proofs.Ytddgdhaioomnnaa.Mem

namespace Go.Proofs.Ytddgdhaioomnnaa.Mem
open Go.ChangeShapes Go.WideShapes Go.ChangeAt Go.RowKit Go.Deep

section
variable {H : Type} {enc : TypeId × Value → H} {P : Program} {W : World}

theorem flat_len {τ : Type} {K : Nat} {code : τ → List Value} (hcode : ∀ x, (code x).length = K) (l : List τ) : (l.flatMap code).length = l.length * K := by
  induction l with
  | nil => simp
  | cons x l ih => rw [List.flatMap_cons, List.length_append, ih, hcode, List.length_cons, Nat.succ_mul, Nat.add_comm]
theorem flat_at {τ : Type} {K : Nat} {code : τ → List Value} (hcode : ∀ x, (code x).length = K) (l : List τ) (i : Nat) (x : τ) (hi : l[i]? = some x) (j : Nat) (hj : j < K) :
    (l.flatMap code)[i * K + j]? = (code x)[j]? := by
  induction l generalizing i with
  | nil => simp at hi
  | cons y l ih =>
    cases i with
    | zero =>
      simp at hi; subst hi
      rw [List.flatMap_cons, Nat.zero_mul, Nat.zero_add, List.getElem?_append_left (by rw [hcode]; exact hj)]
    | succ i =>
      rw [List.flatMap_cons, List.getElem?_append_right (by rw [hcode, Nat.succ_mul]; omega), hcode]
      have e : (i + 1) * K + j - K = i * K + j := by rw [Nat.succ_mul]; omega
      rw [e]
      exact ih i (by simpa using hi)

set_option maxRecDepth 100000 in
/-- The elements of a slice that came in, as a list; each as its own law tells. -/
theorem open_rows {τ : Type} [Inhabited τ] {t e : TypeId} {A : Option Addr} {n c : Nat} {d : DataW H} {p : List MemPlace} (ht : P.underlying t = some (.slice e)) (K : Nat) (hK : P.cellsOf e = K) (hK0 : 0 < K)
    (code : τ → List Value) (hcode : ∀ x, (code x).length = K) (good : τ → Prop)
    (hel : ∀ (fuel : Nat) (cs' : List Value) (x : DataW H × List MemPlace), cs'.length = K → DataW.trod enc P W 0 (fun _ => true) true fuel e cs' = some x → ∃ y : τ, cs' = code y ∧ good y)
    (h : DataW.Trod enc P W 0 (fun _ => true) true t (.slice A n c) d p) :
    n ≤ c ∧ c ≤ 9223372036854775807 ∧ ∃ xs : List τ, Rd W K A n (xs.flatMap code) ∧ xs.length = n ∧ ∀ x ∈ xs, good x := by
  obtain ⟨fuel, hf⟩ := h
  rcases open_slice ht hf with ⟨hcs, _⟩ | ⟨a, len, cap, m, n', D, Pl, hcs, _, hl, hm, hmm, _, hx⟩
  · simp [Value.cells] at hcs
    obtain ⟨rfl, rfl, rfl⟩ := hcs
    exact ⟨Nat.le_refl _, by omega, [], Rd.none_, rfl, by simp⟩
  · simp [Value.cells] at hcs
    obtain ⟨rfl, rfl, rfl⟩ := hcs
    have hlm : n ≤ m := by rw [hmm]; simp; exact hl
    have each : ∀ i, i < n → ∃ y : τ, (∀ j, j < K → W.cell? (a.add (i * K + j)) = (code y)[j]?) ∧ good y := by
      intro i hi
      obtain ⟨cs', h1, h2⟩ := hx i (by omega)
      rw [hK] at h1
      obtain ⟨_, hlen, hcell⟩ := World.cells?_some h1
      obtain ⟨y, rfl, hy⟩ := hel _ _ _ hlen h2
      exact ⟨y, fun j hj => by rw [← Mem.add_add]; exact hcell j hj, hy⟩
    obtain ⟨f, hfs⟩ := choose_lt each
    refine ⟨hl, by unfold maxLen at hm; exact hm, (List.range n).map f, ⟨?_, fun hn => ?_⟩, by simp, ?_⟩
    · rw [flat_len hcode]; simp
    · have h00 := (hfs 0 hn).1 0 hK0
      have hk0 : (code (f 0))[0]? = some ((code (f 0))[0]'(by rw [hcode]; exact hK0)) := List.getElem?_eq_getElem _
      rw [hk0] at h00
      obtain ⟨b, off, spot⟩ := a
      have hspot : spot = none := by simpa [Addr.add] using World.cell?_spot h00
      subst hspot
      refine ⟨b, off, rfl, fun j u hu => ?_⟩
      have hj : j < n * K := by
        have := (List.getElem?_eq_some_iff.1 hu).1
        rw [flat_len hcode] at this; simpa using this
      have hi : j / K < n := Nat.div_lt_of_lt_mul (by rw [Nat.mul_comm]; exact hj)
      have hmod : j % K < K := Nat.mod_lt _ hK0
      have hdm : j / K * K + j % K = j := by rw [Nat.mul_comm]; exact Nat.div_add_mod j K
      have hc := (hfs (j / K) hi).1 (j % K) hmod
      rw [hdm, add_plain] at hc
      rw [hc]
      have := flat_at hcode ((List.range n).map f) (j / K) (f (j / K)) (by simp [hi]) (j % K) hmod
      rw [hdm] at this
      rw [← this]; exact hu
    · intro x hx'
      obtain ⟨i, hi, rfl⟩ := List.mem_map.1 hx'
      exact (hfs i (List.mem_range.1 hi)).2
end
end Go.Proofs.Ytddgdhaioomnnaa.Mem

namespace Go.Proofs.Ytddgdhaioomnnaa.Mem
open Go.ChangeShapes Go.WideShapes Go.ChangeAt Go.RowKit

section
variable {τ : Type} {K : Nat} {code : τ → List Value}
/-- One element, in memory. -/
theorem Rd.at_ (hcode : ∀ x, (code x).length = K) {w : World} {A : Option Addr} {n : Nat} {xs : List τ} (h : Rd w K A n (xs.flatMap code)) (hK : 0 < K) (k : Nat) (hk : k < n) :
    ∃ b off, ∃ x : τ, A = some ⟨b, off, none⟩ ∧ xs[k]? = some x ∧ ∀ j u, (code x)[j]? = some u → w.cell? ⟨b, off + k * K + j, none⟩ = some u := by
  have hl : xs.length = n := by
    have := h.1; rw [flat_len hcode] at this; exact Nat.eq_of_mul_eq_mul_right hK this
  obtain ⟨b, off, rfl, hc⟩ := h.2 (by omega)
  have hkl : k < xs.length := by omega
  refine ⟨b, off, xs[k], rfl, List.getElem?_eq_getElem hkl, fun j u hu => ?_⟩
  have hj : j < K := by have := (List.getElem?_eq_some_iff.1 hu).1; rwa [hcode] at this
  have := flat_at hcode xs k _ (List.getElem?_eq_getElem hkl) j hj
  rw [Nat.add_assoc]
  exact hc _ _ (this.trans hu)
theorem Rd.len (hcode : ∀ x, (code x).length = K) {w : World} {A : Option Addr} {n : Nat} {xs : List τ} (h : Rd w K A n (xs.flatMap code)) (hK : 0 < K) : xs.length = n := by
  have := h.1; rw [flat_len hcode] at this; exact Nat.eq_of_mul_eq_mul_right hK this
theorem flat_take (l : List τ) (k : Nat) (x : τ) (hk : l[k]? = some x) : (l.take (k + 1)).flatMap code = (l.take k).flatMap code ++ code x := by
  rw [List.take_add_one, hk]; simp
theorem flat_one (h1 : ∀ x, ∀ u ∈ code x, u.oneCell' = true) (l : List τ) : ∀ u ∈ l.flatMap code, u.oneCell' = true := by
  intro u hu
  obtain ⟨x, _, hx⟩ := List.mem_flatMap.1 hu
  exact h1 x u hx
end

/-- Whole numbers. -/
def zc (z : Int) : List Value := [.int .i64 z]
def zs (l : List Int) : List Value := l.flatMap zc
theorem zc_len (z : Int) : (zc z).length = 1 := rfl
theorem zc_one (z : Int) : ∀ u ∈ zc z, u.oneCell' = true := one_cons rfl one_nil
theorem at_z {w : World} {A : Option Addr} {n : Nat} {l : List Int} (hr : Rd w 1 A n (zs l)) (k : Nat) (hk : k < n) :
    ∃ b off, ∃ x : Int, A = some ⟨b, off, none⟩ ∧ l[k]? = some x ∧ w.cell? ⟨b, off + k, none⟩ = some (.int .i64 x) := by
  obtain ⟨b, off, x, hA, hx, hc⟩ := Rd.at_ zc_len hr (by decide) k hk
  exact ⟨b, off, x, hA, hx, by have := hc 0 _ rfl; simpa using this⟩
theorem zs_len {w : World} {A : Option Addr} {n : Nat} {l : List Int} (hr : Rd w 1 A n (zs l)) : l.length = n := Rd.len zc_len hr (by decide)
theorem zs_take (l : List Int) (k : Nat) (x : Int) (hk : l[k]? = some x) : zs (l.take (k + 1)) = zs (l.take k) ++ [.int .i64 x] := flat_take l k x hk
theorem zs_app (a b : List Int) : zs (a ++ b) = zs a ++ zs b := by unfold zs; rw [List.flatMap_append]
theorem zs_one (l : List Int) : ∀ u ∈ zs l, u.oneCell' = true := flat_one zc_one l

/-- Two whole numbers: structs of two fields that are ints. -/
theorem at_2 {τ : Type} {code : τ → List Value} (f g : τ → Int) (hcode : ∀ x, code x = [.int .i64 (f x), .int .i64 (g x)]) {w : World} {A : Option Addr} {n : Nat} {l : List τ} (hr : Rd w 2 A n (l.flatMap code)) (k : Nat) (hk : k < n) :
    ∃ b off, ∃ x : τ, A = some ⟨b, off, none⟩ ∧ l[k]? = some x ∧ w.cell? ⟨b, off + k * 2, none⟩ = some (.int .i64 (f x)) ∧ w.cell? ⟨b, off + k * 2 + 1, none⟩ = some (.int .i64 (g x)) := by
  obtain ⟨b, off, x, hA, hx, hc⟩ := Rd.at_ (fun x => by rw [hcode]; rfl) hr (by decide) k hk
  exact ⟨b, off, x, hA, hx, by have := hc 0 _ (by rw [hcode]; rfl); simpa using this, hc 1 _ (by rw [hcode]; rfl)⟩

theorem take_all {α : Type} (h : List α) (p : α → Bool) (k : Nat) (x : α) (hk : h[k]? = some x) : (h.take (k + 1)).all p = ((h.take k).all p && p x) := by
  obtain ⟨hl, rfl⟩ := List.getElem?_eq_some_iff.1 hk
  rw [List.take_succ_eq_append_getElem hl, List.all_append]; simp
theorem take_any {α : Type} (h : List α) (p : α → Bool) (k : Nat) (x : α) (hk : h[k]? = some x) : (h.take (k + 1)).any p = ((h.take k).any p || p x) := by
  obtain ⟨hl, rfl⟩ := List.getElem?_eq_some_iff.1 hk
  rw [List.take_succ_eq_append_getElem hl, List.any_append]; simp
theorem take_eq {α : Type} (x y : List α) (k : Nat) (c : α) (hx : x[k]? = some c) (hy : y[k]? = some c) (h : x.take k = y.take k) : x.take (k + 1) = y.take (k + 1) := by
  rw [List.take_add_one, List.take_add_one, h, hx, hy]
theorem take_ne {α : Type} [DecidableEq α] (x y : List α) (k : Nat) (c d : α) (hx : x[k]? = some c) (hy : y[k]? = some d) (h : c ≠ d) : decide (x = y) = false := by
  refine decide_eq_false ?_
  rintro rfl
  rw [hx] at hy; injection hy with e; exact h e
theorem all_bad {α : Type} (h : List α) (p : α → Bool) (k : Nat) (x : α) (hk : h[k]? = some x) (hx : p x = false) : h.all p = false := by
  rw [List.all_eq_false]; exact ⟨x, List.mem_of_getElem? hk, by simp [hx]⟩
theorem any_good {α : Type} (h : List α) (p : α → Bool) (k : Nat) (x : α) (hk : h[k]? = some x) (hx : p x = true) : h.any p = true := by
  rw [List.any_eq_true]; exact ⟨x, List.mem_of_getElem? hk, hx⟩
/-- The first n numbers that a test takes, as ints: one more round. -/
def pick (p : Nat → Bool) (n : Nat) : List Int := ((List.range n).filter p).map Int.ofNat
theorem pick_yes (p : Nat → Bool) (n : Nat) (h : p n = true) : pick p (n + 1) = pick p n ++ [(n : Int)] := by
  unfold pick; rw [List.range_succ, List.filter_append]; simp [h]
theorem pick_no (p : Nat → Bool) (n : Nat) (h : p n = false) : pick p (n + 1) = pick p n := by
  unfold pick; rw [List.range_succ, List.filter_append]; simp [h]
theorem pick_len (p : Nat → Bool) (n : Nat) : (pick p n).length ≤ n := by
  unfold pick; have := List.length_filter_le p (List.range n); simpa using this
theorem pick_mem (p : Nat → Bool) (n : Nat) (z : Int) : z ∈ pick p n ↔ ∃ k : Nat, k < n ∧ p k = true ∧ z = (k : Int) := by
  unfold pick
  rw [List.mem_map]
  constructor
  · rintro ⟨k, hk, rfl⟩
    rw [List.mem_filter, List.mem_range] at hk
    exact ⟨k, hk.1, hk.2, rfl⟩
  · rintro ⟨k, h1, h2, rfl⟩
    exact ⟨k, by rw [List.mem_filter, List.mem_range]; exact ⟨h1, h2⟩, rfl⟩
theorem pick_any (p : Nat → Bool) (n k : Nat) (hk : k < n) : (pick p n).any (fun z => z == (k : Int)) = p k := by
  rw [Bool.eq_iff_iff, List.any_eq_true]
  constructor
  · rintro ⟨z, hz, he⟩
    obtain ⟨j, _, hp, rfl⟩ := (pick_mem p n z).1 hz
    have : j = k := by have := eq_of_beq he; omega
    rwa [← this]
  · intro hp
    exact ⟨(k : Int), (pick_mem p n _).2 ⟨k, hk, hp, rfl⟩, by simp⟩
theorem pick_congr (p q : Nat → Bool) (n : Nat) (h : ∀ k, k < n → p k = q k) : pick p n = pick q n := by
  unfold pick; rw [List.filter_congr]; intro k hk; exact h k (List.mem_range.1 hk)

/-- What is returned: a truth, with new memory at most. -/
def RetB (w : World) (b : Bool) (e : Ending) (w' : World) : Prop := e = .returned (.bool b) ∧ Below w.heap.size w w'
/-- What is returned: a slice that reads as a list of cells. -/
def RetS (w : World) (K n : Nat) (xs : List Value) (e : Ending) (w' : World) : Prop :=
  ∃ B d, e = .returned (.slice B n d) ∧ Rd w' K B n xs ∧ Below w.heap.size w w'
/-- What is returned: such a slice, and an error's number. -/
def RetSE (w : World) (K n : Nat) (xs : List Value) (f : Int) (e : Ending) (w' : World) : Prop :=
  ∃ B d, e = .returned (.tuple #[.slice B n d, .int .i64 f]) ∧ Rd w' K B n xs ∧ Below w.heap.size w w'
end Go.Proofs.Ytddgdhaioomnnaa.Mem

namespace Go.Proofs.Ytddgdhaioomnnaa.Mem
open Go.ChangeShapes Go.WideShapes Go.ChangeAt Go.RowKit

section
variable {P : Program} {w : World}
theorem wp_append_at {o : Oper} {a : Act} {K : Act → World → Prop} {Q : Exit → Act → World → Prop} (s x : Operand) (t : TypeId)
    (ho : o.op = .call { callee := .builtin .append, args := #[s, x], argTypes := #[t, t] })
    {e : TypeId} {size bytes : Nat} (hT : SliceT P t e size bytes) (w0 : World) (v : Value) (n : Nat) (xs : List Value) (hs : a.eval s = v) (hown : Own w0 w e size v n xs)
    (A : Option Addr) (m c : Nat) (news : List Value) (hx : a.eval x = .slice A m c) (hr : Rd w size A m news) (h1 : ∀ u ∈ news, u.oneCell' = true)
    (hb : (n + m) * bytes ≤ 140737488355328) (h63 : n + m ≤ 9223372036854775807)
    (h : ∀ v' w', Own w0 w' e size v' (n + m) (xs ++ news) → w.grownBy w' v.ownBlock → (v'.ownBlock = v.ownBlock ∨ v'.ownBlock = some w.heap.size) → K (a.put o.dst v') w') : o.wp P a w K Q := by
  obtain ⟨i, z, ht, hi, hz, hsize, hby, hzs, hsz⟩ := hT
  rcases A with _ | ad
  · have hm : m = 0 := by
      rcases Nat.eq_zero_or_pos m with h0 | h0
      · exact h0
      · obtain ⟨b, off, h, _⟩ := hr.2 h0
        cases h
    subst hm
    have hn : news = [] := List.eq_nil_of_length_eq_zero (by simpa using hr.1)
    subst hn
    have hrun := run_append_nil (ty := o.type) (c := c) ht hi hown.1
    unfold Oper.wp execOp
    simp only [ho, resolve, invoke, builtin, Sem.run_bind, Sem.run_pure, Result.andThen_ok, List.map_toArray, List.map_cons, List.map_nil, hs, hx, hrun]
    exact h v w (by simpa using hown) (World.grownBy.refl w _) (.inl rfl)
  · have hcells : ∀ j u, news[j]? = some u → w.cell? (ad.add j) = some u := by
      intro j u hu
      rcases Nat.eq_zero_or_pos m with h0 | h0
      · subst h0
        have hn : news = [] := List.eq_nil_of_length_eq_zero (by simpa using hr.1)
        subst hn
        simp at hu
      · obtain ⟨b, off, h, hc⟩ := hr.2 h0
        injection h with h
        subst h
        rw [add_plain]
        exact hc j u hu
    obtain ⟨v', w', hrun, h2, h3, _, h5⟩ := run_append_own_at (P := P) w w0.heap.size t o.type e i z size bytes ht hi hz hsize hby hzs hsz v n xs hown.1 ad m c news hr.1 hcells h1 (by unfold maxLen; omega) hb hown.2.size
    unfold Oper.wp execOp
    simp only [ho, resolve, invoke, builtin, Sem.run_bind, Sem.run_pure, Result.andThen_ok, List.map_toArray, List.map_cons, List.map_nil, hs, hx, hrun]
    exact h v' w' ⟨h2, hown.grown h3⟩ h3 h5

theorem append_at {ops : Array Oper} {rest : List Oper} {o : Oper} {a : Act} {Q : Exit → Act → World → Prop} (hgd : o.guard = none) (s x : Operand) (t : TypeId)
    (ho : o.op = .call { callee := .builtin .append, args := #[s, x], argTypes := #[t, t] })
    {e : TypeId} {size bytes : Nat} (hT : SliceT P t e size bytes) (w0 : World) (v : Value) (n : Nat) (xs : List Value) (hs : a.eval s = v) (hown : Own w0 w e size v n xs)
    (A : Option Addr) (m c : Nat) (news : List Value) (hx : a.eval x = .slice A m c) (hr : Rd w size A m news) (h1 : ∀ u ∈ news, u.oneCell' = true)
    (hb : (n + m) * bytes ≤ 140737488355328) (h63 : n + m ≤ 9223372036854775807)
    (h : ∀ v' w', Own w0 w' e size v' (n + m) (xs ++ news) → w.grownBy w' v.ownBlock → (v'.ownBlock = v.ownBlock ∨ v'.ownBlock = some w.heap.size) → wpList P ops Q rest (a.put o.dst v') w') : wpList P ops Q (o :: rest) a w :=
  wpList_plain hgd fun _ hK => wp_append_at s x t ho hT w0 v n xs hs hown A m c news hx hr h1 hb h63 fun v' w' h2 h3 h4 => hK _ _ (h v' w' h2 h3 h4)
end

/-- Two slices that share no block of the call's own. -/
def Apart (v1 v2 : Value) : Prop := v1.ownBlock = none ∨ v2.ownBlock = none ∨ v1.ownBlock ≠ v2.ownBlock
theorem Apart.symm {v1 v2 : Value} (h : Apart v1 v2) : Apart v2 v1 := by
  rcases h with h | h | h
  · exact .inr (.inl h)
  · exact .inl h
  · exact .inr (.inr (fun e => h e.symm))
theorem Apart.nil_ (v : Value) : Apart (.slice none 0 0) v := .inl rfl
section
variable {w0 w w' : World} {e size n e2 size2 n2 : Nat} {v v' v2 : Value} {xs ys : List Value}
theorem Own.lt (h : Own w0 w e size v n xs) (g : Nat) (hg : v.ownBlock = some g) : g < w.heap.size := by
  rcases h.1.2 with ⟨rfl, _⟩ | ⟨g', cap, cur, rfl, _, hh, _⟩
  · simp [Value.ownBlock] at hg
  · simp [Value.ownBlock] at hg; subst hg; exact (Array.getElem?_eq_some_iff.1 hh).1
/-- The other one is kept, and stays apart, where one has grown. -/
theorem Own.beside (h2 : Own w0 w e2 size2 v2 n2 ys) (ha : Apart v v2) (hown : Own w0 w e size v n xs) (hg : w.grownBy w' v.ownBlock) (hat : v'.ownBlock = v.ownBlock ∨ v'.ownBlock = some w.heap.size) :
    Own w0 w' e2 size2 v2 n2 ys ∧ Apart v' v2 := by
  refine ⟨⟨h2.1.kept hg ?_, hown.grown hg⟩, ?_⟩
  · rcases ha with h | h | h
    · rw [h]; cases hv : v2.ownBlock <;> simp
    · exact .inl h
    · exact .inr (fun e => h e.symm)
  · rcases hat with h | h
    · unfold Apart at *; rw [h]; exact ha
    · cases hv : v2.ownBlock with
      | none => exact .inr (.inl hv)
      | some g =>
        have := h2.lt g hv
        exact .inr (.inr (by rw [h, hv]; simp; omega))
end
end Go.Proofs.Ytddgdhaioomnnaa.Mem

namespace Go.Proofs.Ytddgdhaioomnnaa.Mem
open Go.ChangeShapes Go.WideShapes Go.ChangeAt Go.RowKit

set_option maxRecDepth 100000 in
theorem tInt : SliceT Try.prog 28 3 1 8 := SliceT.mk_ (z := .int .i64 0) Try.underlying28 (by kernel_rfl) rfl (by decide)

set_option maxRecDepth 100000 in
theorem numbers_b (x y : List Int) (A B : Option Addr) (n m c d : Nat) (w : World) (v : Bool) (hx : Rd w 1 A n (zs x)) (hy : Rd w 1 B m (zs y)) (hn : n ≤ 1000000) (hm : m ≤ 1000000) (hv : decide (x = y) = v) :
    Calls Try.prog 22 #[.slice A n c, .slice B m d] w (RetB w v) := by
  subst hv
  have HX := Lib.hid (zs_len hx)
  have HY := Lib.hid (zs_len hy)
  by_cases hnm : n = m
  · subst hnm
    go_enter Try.func22, Try.ntmps22
    go_wp2
    go_loopw [5] (fun i wr => ∃ k q : Nat, k ≤ n ∧ i = .int .i64 k ∧ wr = w.drewN q ∧ Hid (x.take k = y.take k)) (fun i _ => n - (intOf i).toNat)
    case atStart => exact ⟨0, 0, Nat.zero_le _, rfl, rfl, Lib.hid rfl⟩
    case round =>
      obtain ⟨k, q, hk, rfl, rfl, hall⟩ := hrel
      by_cases hlt : k < n
      · obtain ⟨b, off, z, rfl, gx, c0⟩ := at_z hx k hlt
        obtain ⟨b', off', z', rfl, gy, c0'⟩ := at_z hy k hlt
        have GX := Lib.hid gx
        have GY := Lib.hid gy
        clear gx gy
        by_cases heq : z = z'
        · obtain rfl := heq
          have hs : Hid (x.take (k + 1) = y.take (k + 1)) := Lib.hid (take_eq x y k _ GX.out GY.out hall.out)
          go_wp2
          go_quiet (fail)
          go_wp2
          go_roundw
          case rel => exact ⟨k + 1, _, by omega, by go_num, rfl, hs⟩
          case measure => simp [intOf]; omega
        · have hf : Hid (decide (x = y) = false) := Lib.hid (take_ne x y k _ _ GX.out GY.out (by exact heq))
          have h1 : (z != z') = true := by simpa using heq
          clear heq
          go_wp2
          go_quiet (fail)
          go_wp2
          go_ret
          exact ⟨ret_bool hf.out.symm, by first | exact bl_drewN (bl_drewN (Below.refl _ _) _) _ | exact bl_drewN (Below.refl _ _) _⟩
      · have hf : Hid (decide (x = y) = true) := by
          refine Lib.hid (decide_eq_true ?_)
          have := hall.out
          rwa [List.take_of_length_le (by rw [HX.out]; omega), List.take_of_length_le (by rw [HY.out]; omega)] at this
        go_wp2
        go_ret
        exact ⟨ret_bool hf.out.symm, bl_drewN (Below.refl _ _) _⟩
  · have hf : Hid (decide (x = y) = false) := by
      refine Lib.hid (decide_eq_false ?_)
      intro e
      have l1 := HX.out
      have l2 := HY.out
      rw [e] at l1
      exact hnm (by omega)
    go_enter Try.func22, Try.ntmps22
    go_wp2
    go_ret
    exact ⟨ret_bool hf.out.symm, Below.refl _ _⟩

/-- The numbers fit 64 bits. -/
def Fits (n : Int) : Prop := -9223372036854775808 ≤ n ∧ n ≤ 9223372036854775807
set_option maxRecDepth 100000 in
theorem open_ints_ {H : Type} {enc : TypeId × Value → H} {W : World} {A : Option Addr} {n c : Nat} {d : DataW H} {p : List MemPlace}
    (h : DataW.Trod enc Try.prog W 0 (fun _ => true) true 28 (.slice A n c) d p) :
    n ≤ c ∧ c ≤ 9223372036854775807 ∧ ∃ xs : List Int, Rd W 1 A n (zs xs) ∧ xs.length = n ∧ ∀ x ∈ xs, Fits x := by
  refine open_rows Try.underlying28 1 (by kernel_rfl) (by decide) zc (fun _ => rfl) Fits ?_ h
  intro fuel cs' x hl ht
  obtain ⟨m, e1, _, wf⟩ := DataW.trod_int Try.underlying3 ht
  exact ⟨m, e1, bounds_i64 wf⟩
end Go.Proofs.Ytddgdhaioomnnaa.Mem

namespace Go.Proofs.Ytddgdhaioomnnaa.Mem
open Go.ChangeShapes Go.WideShapes Go.ChangeAt Go.RowKit

theorem own_set {w0 w : World} {e size n cap g : Nat} {xs : List Value} (h : Own w0 w e size (.slice (some ⟨g, 0, none⟩) n cap) n xs) (j : Nat) (u : Value) :
    Own w0 (w.setCell ⟨g, j, none⟩ u) e size (.slice (some ⟨g, 0, none⟩) n cap) n (xs.set j u) :=
  ⟨(h.1.stored j u).1, h.2.setCell (h.base g rfl) u⟩
theorem own_lay {w0 w : World} {e size n : Nat} {v : Value} {xs : List Value} (h : Own w0 w e size v n xs) (hn : 0 < n) : ∃ g cap, v = .slice (some ⟨g, 0, none⟩) n cap := by
  rcases h.1.2 with ⟨_, h0⟩ | ⟨g, cap, cur, rfl, _⟩
  · omega
  · exact ⟨g, cap, rfl⟩
theorem own_rd {w0 w : World} {e size n cap g : Nat} {xs : List Value} (h : Own w0 w e size (.slice (some ⟨g, 0, none⟩) n cap) n xs) : Rd w size (some ⟨g, 0, none⟩) n xs := by
  obtain ⟨B, d, hv, hrd⟩ := h.form
  injection hv with e1 _ e3
  subst e1 e3
  exact hrd
/-- What is returned: a slice of the call's own. -/
def RetO (w : World) (t K n : Nat) (xs : List Value) (e : Ending) (w' : World) : Prop := ∃ v, e = .returned v ∧ Own w w' t K v n xs
theorem RetO.toS {w w' : World} {t K n : Nat} {xs : List Value} {e : Ending} (h : RetO w t K n xs e w') : RetS w K n xs e w' := by
  obtain ⟨v, rfl, ho⟩ := h
  obtain ⟨B, d, rfl, hrd⟩ := ho.form
  exact ⟨B, d, rfl, hrd, ho.2⟩
/-- Of the call's own since later is of the call's own since sooner. -/
theorem Own.wide {w0 w1 w : World} {e size n : Nat} {v : Value} {xs : List Value} (h : Own w1 w e size v n xs) (hb : Below w0.heap.size w0 w1) : Own w0 w e size v n xs := by
  refine ⟨⟨h.1.1, ?_⟩, bl_trans hb h.2⟩
  rcases h.1.2 with hv | ⟨g, cap, cur, hv, hg, hrest⟩
  · exact .inl hv
  · exact .inr ⟨g, cap, cur, hv, Nat.le_trans hb.size hg, hrest⟩
theorem Own.other {w0 w1 w2 : World} {e size n cap g e2 size2 q d : Nat} {B : Option Addr} {xs ys : List Value} (h1 : Own w0 w1 e size (.slice (some ⟨g, 0, none⟩) n cap) n xs) (h2 : Own w1 w2 e2 size2 (.slice B q d) q ys) :
    ∀ b off, B = some ⟨b, off, none⟩ → b ≠ g := by
  rintro b off rfl rfl
  have l1 := h1.lt b rfl
  rcases h2.1.2 with ⟨hv, _⟩ | ⟨g', cap', cur, hv, hg, _⟩
  · cases hv
  · injection hv with e1
    injection e1 with e1
    injection e1 with e1
    omega
theorem cell_set_ne {w : World} {p q : Addr} (h : q.block ≠ p.block) (u : Value) : (w.setCell q u).cell? p = w.cell? p := by
  unfold World.cell? World.setCell
  simp [Array.getElem?_modify, h]
theorem Rd.set_other {w : World} {k n g : Nat} {B : Option Addr} {xs : List Value} (h : Rd w k B n xs) (hne : ∀ b off, B = some ⟨b, off, none⟩ → b ≠ g) (j : Nat) (u : Value) : Rd (w.setCell ⟨g, j, none⟩ u) k B n xs :=
  ⟨h.1, fun hn => by
    obtain ⟨b, off, e, hc⟩ := h.2 hn
    refine ⟨b, off, e, fun i v hv => ?_⟩
    rw [cell_set_ne (fun h => hne b off e h.symm)]
    exact hc i v hv⟩
theorem rd_nil {w : World} {k n : Nat} {xs : List Value} (hr : Rd w k none n xs) : n = 0 ∧ xs = [] := by
  have h0 : n = 0 := by
    rcases Nat.eq_zero_or_pos n with h0 | h0
    · exact h0
    · obtain ⟨b, off, hh, _⟩ := hr.2 h0
      cases hh
  subst h0
  exact ⟨rfl, List.eq_nil_of_length_eq_zero (by simpa using hr.1)⟩
theorem made_two (a b : Value) (n : Nat) : (madeCells #[a, b] (n * 2)).toList = (List.replicate n ()).flatMap (fun _ => [a, b]) := by
  unfold madeCells
  rw [Array.toList_map, Array.toList_range]
  induction n with
  | zero => rfl
  | succ n ih =>
    have e : (n + 1) * 2 = n * 2 + 1 + 1 := by omega
    rw [e, List.range_succ, List.range_succ, List.map_append, List.map_append, ih, List.replicate_succ', List.flatMap_append]
    have e1 : n * 2 % 2 = 0 := by omega
    have e2 : (n * 2 + 1) % 2 = 1 := by omega
    simp [e1, e2]

section
variable {τ : Type} {K : Nat} {code : τ → List Value}
/-- A flat list with one element's cell changed. -/
theorem flat_set (hcode : ∀ x, (code x).length = K) (l : List τ) (k j : Nat) (hj : j < K) (x y : τ) (u : Value) (hx : l[k]? = some x) (hy : (code x).set j u = code y) :
    (l.flatMap code).set (k * K + j) u = (l.set k y).flatMap code := by
  induction l generalizing k with
  | nil => simp at hx
  | cons a l ih =>
    cases k with
    | zero =>
      simp only [List.getElem?_cons_zero, Option.some.injEq] at hx
      subst hx
      simp only [List.flatMap_cons, List.set_cons_zero, Nat.zero_mul, Nat.zero_add]
      rw [List.set_append_left _ _ (by rw [hcode]; exact hj), hy]
    | succ k =>
      simp only [List.getElem?_cons_succ] at hx
      simp only [List.flatMap_cons, List.set_cons_succ]
      have e : (k + 1) * K + j = (code a).length + (k * K + j) := by rw [hcode, Nat.succ_mul]; omega
      rw [e, List.set_append_right _ _ (by omega), Nat.add_sub_cancel_left, ih k hx]
end

/-- A list changed at places that are given as numbers. -/
def setAll {τ : Type} (f : τ → τ) (t : List τ) (ps : List Int) : List τ := ps.foldl (fun t p => t.modify p.toNat f) t
section
variable {τ : Type} (f : τ → τ)
theorem setAll_len (t : List τ) (ps : List Int) : (setAll f t ps).length = t.length := by
  unfold setAll
  induction ps generalizing t with
  | nil => rfl
  | cons p ps ih => simp only [List.foldl_cons]; rw [ih]; simp
theorem setAll_take (t : List τ) (ps : List Int) (j : Nat) (p : Int) (hj : ps[j]? = some p) : setAll f t (ps.take (j + 1)) = (setAll f t (ps.take j)).modify p.toNat f := by
  unfold setAll
  rw [List.take_add_one, hj, List.foldl_append]; rfl
theorem modify_set (t : List τ) (k : Nat) (x : τ) (hx : t[k]? = some x) : t.modify k f = t.set k (f x) := by
  apply List.ext_getElem?
  intro i
  rw [List.getElem?_modify, List.getElem?_set]
  by_cases h : k = i
  · subst h
    obtain ⟨h1, rfl⟩ := List.getElem?_eq_some_iff.1 hx
    simp [h1]
  · simp [h]
theorem setAll_at (hf : ∀ x, f (f x) = f x) (t : List τ) (ps : List Int) (h0 : ∀ p ∈ ps, 0 ≤ p) (k : Nat) (x : τ) (hx : t[k]? = some x) :
    (setAll f t ps)[k]? = some (if ps.any (fun p => p == (k : Int)) = true then f x else x) := by
  induction ps generalizing t x with
  | nil => simpa [setAll] using hx
  | cons p ps ih =>
    have hp := h0 p (List.mem_cons_self ..)
    have ht : (t.modify p.toNat f)[k]? = some (if p = (k : Int) then f x else x) := by
      rw [List.getElem?_modify, hx]
      by_cases h : p = (k : Int)
      · subst h; simp
      · have h' : ¬ p.toNat = k := by omega
        rw [if_neg h]; simp [h']
    have := ih (t.modify p.toNat f) (fun q hq => h0 q (List.mem_cons_of_mem _ hq)) _ ht
    have e : setAll f t (p :: ps) = setAll f (t.modify p.toNat f) ps := rfl
    rw [e, this]
    by_cases h : p = (k : Int)
    · subst h
      simp only [if_true, hf, List.any_cons, beq_self_eq_true, Bool.true_or]
      split <;> rfl
    · have h' : (p == (k : Int)) = false := beq_eq_false_iff_ne.2 h
      simp only [h, if_false, List.any_cons, h', Bool.false_or]
/-- Changed at the places that a test picks: by place. -/
theorem setAll_pick (hf : ∀ x, f (f x) = f x) (t : List τ) (p : Nat → Bool) : setAll f t (pick p t.length) = t.mapIdx (fun k x => if p k = true then f x else x) := by
  apply List.ext_getElem?
  intro k
  by_cases hk : k < t.length
  · have hx : t[k]? = some t[k] := List.getElem?_eq_getElem hk
    rw [setAll_at f hf t _ (fun q hq => by obtain ⟨j, _, _, rfl⟩ := (pick_mem _ _ _).1 hq; omega) k _ hx, pick_any p _ k hk, List.getElem?_mapIdx, hx]; rfl
  · rw [List.getElem?_eq_none (by rw [setAll_len]; omega), List.getElem?_eq_none (by rw [List.length_mapIdx]; omega)]
end
end Go.Proofs.Ytddgdhaioomnnaa.Mem

namespace Go.Proofs.Ytddgdhaioomnnaa.Mem
open Go.ChangeShapes Go.WideShapes Go.ChangeAt Go.RowKit

/-- The world has drawn, and has new blocks behind it: nothing else. -/
def Grew (w w' : World) : Prop := ∃ q os, w' = Sort.grow (w.drewN q) os
theorem Grew.refl (w : World) : Grew w w := ⟨0, #[], by rw [Sort.grow_empty]; rfl⟩
theorem Grew.alloc {w w1 : World} (h : Grew w w1) (o : Obj) : Grew w (w1.alloc o) := by
  obtain ⟨q, os, rfl⟩ := h
  exact ⟨q, os ++ #[o], by rw [Sort.alloc_eq_grow, Sort.grow_grow]⟩
theorem Grew.drewN {w w1 : World} (h : Grew w w1) (m : Nat) : Grew w (w1.drewN m) := by
  obtain ⟨q, os, rfl⟩ := h
  refine ⟨q + m, os, ?_⟩
  show Sort.grow ((w.drewN q).drewN m) os = _
  rw [World.drewN_drewN]
theorem Grew.trans {w w1 w2 : World} (h : Grew w w1) (k : Grew w1 w2) : Grew w w2 := by
  obtain ⟨q, os, rfl⟩ := k
  obtain ⟨q', os', e⟩ := h.drewN q
  exact ⟨q', os' ++ os, by rw [e, Sort.grow_grow]⟩
theorem Grew.below {w w' : World} (h : Grew w w') : Below w.heap.size w w' := by
  obtain ⟨q, os, rfl⟩ := h
  exact ⟨rfl, rfl, rfl, by simp [Sort.grow], fun i hi => by exact Sort.heap_grow_old (w.drewN q) os hi⟩
/-- What is returned: a truth; the world has grown. -/
def RetBG (w : World) (b : Bool) (e : Ending) (w' : World) : Prop := e = .returned (.bool b) ∧ Grew w w'
theorem RetBG.toB {w : World} {b : Bool} {e : Ending} {w' : World} (h : RetBG w b e w') : RetB w b e w' := ⟨h.1, h.2.below⟩
/-- The slice of the call's own has room for what it holds. -/
theorem own_cap {w0 w : World} {e size n d m : Nat} {B : Option Addr} {xs : List Value} (h : Own w0 w e size (.slice B n d) m xs) : n = m ∧ m ≤ d ∧ Rd w size B m xs := by
  rcases h.1.2 with ⟨hv, hn⟩ | ⟨g, cap, cur, hv, _, _, hc, _⟩
  · injection hv with e1 e2 e3
    subst e1 e2 e3 hn
    have hx : xs = [] := List.eq_nil_of_length_eq_zero (by simpa using h.1.1)
    subst hx
    exact ⟨rfl, Nat.le_refl _, Rd.none_⟩
  · injection hv with e1 e2 e3
    subst e1 e2 e3
    exact ⟨rfl, hc, own_rd h⟩
theorem own_room {w0 w : World} {e size n : Nat} {v : Value} {xs : List Value} (h : Own w0 w e size v n xs) : ∃ B d, v = .slice B n d ∧ n ≤ d ∧ Rd w size B n xs := by
  obtain ⟨B, d, rfl, _⟩ := h.form
  obtain ⟨_, h2, h3⟩ := own_cap h
  exact ⟨B, d, rfl, h2, h3⟩
section
variable {τ : Type} {K : Nat} {code : τ → List Value}
/-- The first ones of a slice. -/
theorem rd_first (hcode : ∀ x, (code x).length = K) (hK : 0 < K) {w : World} {A : Option Addr} {n : Nat} {l : List τ} (hr : Rd w K A n (l.flatMap code)) (k : Nat) (hk : k ≤ n) : Rd w K A k ((l.take k).flatMap code) := by
  have hl := Rd.len hcode hr hK
  refine ⟨?_, fun h0 => ?_⟩
  · rw [flat_len hcode, List.length_take, hl, Nat.min_eq_left hk]
  · obtain ⟨b, off, e, hc⟩ := hr.2 (by omega)
    refine ⟨b, off, e, fun j u hu => hc j u ?_⟩
    have e2 : l.flatMap code = (l.take k).flatMap code ++ (l.drop k).flatMap code := by rw [← List.flatMap_append, List.take_append_drop]
    rw [e2, List.getElem?_append_left (List.getElem?_eq_some_iff.1 hu).1]; exact hu
end
end Go.Proofs.Ytddgdhaioomnnaa.Mem

namespace Go.Proofs.Ytddgdhaioomnnaa.Mem
open Go.ChangeShapes Go.WideShapes Go.ChangeAt Go.RowKit

section
variable {w0 w w' : World} {g g' e size n i : Nat} {t : TypeId} {xs : Array Value} {ys : List Value} {v u : Value} {r : Option Nat}
theorem Blk.grown (h : Blk w g t xs) (hg : w.grownBy w' r) (hr : r ≠ some g) : Blk w' g t xs := by
  obtain ⟨_, _, _, _, hb⟩ := hg
  exact (hb g h.lt (fun e => hr e.symm)).trans h
theorem heap_set_ne (w : World) (hne : g' ≠ g) (i : Nat) (u : Value) : (w.setCell ⟨g', i, none⟩ u).heap[g]? = w.heap[g]? := by
  unfold World.setCell; simp [Array.getElem?_modify, hne]
theorem Blk.beside (h : Blk w g t xs) (hne : g' ≠ g) (i : Nat) (u : Value) : Blk (w.setCell ⟨g', i, none⟩ u) g t xs := (heap_set_ne w hne i u).trans h
theorem Own.set_ne (h : Own w0 w e size v n ys) (hg : w0.heap.size ≤ g) (hne : v.ownBlock ≠ some g) (i : Nat) (u : Value) : Own w0 (w.setCell ⟨g, i, none⟩ u) e size v n ys := by
  refine ⟨⟨h.1.1, ?_⟩, h.2.setCell hg u⟩
  rcases h.1.2 with hv | ⟨k, cap, cur, hv, hk, hh, hrest⟩
  · exact .inl hv
  · refine .inr ⟨k, cap, cur, hv, hk, ?_, hrest⟩
    rw [heap_set_ne w (fun e => hne (by rw [hv, ← e]; rfl))]; exact hh
theorem Rd.set_ne {k : Nat} {B : Option Addr} (h : Rd w k B n ys) (hne : ∀ b off, B = some ⟨b, off, none⟩ → b ≠ g) (i : Nat) (u : Value) : Rd (w.setCell ⟨g, i, none⟩ u) k B n ys := h.set_other hne i u
theorem own_ne {B : Option Addr} {d m : Nat} (h : (Value.slice B m d).ownBlock ≠ some g) : ∀ b off, B = some ⟨b, off, none⟩ → b ≠ g := by
  rintro b off rfl e
  subst e
  exact h rfl
/-- A block that lay there ahead of an append is another than the one it grows into. -/
theorem grown_ne {v' : Value} (hat : v'.ownBlock = v.ownBlock ∨ v'.ownBlock = some w.heap.size) (hv : v.ownBlock ≠ some g) (hg : g < w.heap.size) : v'.ownBlock ≠ some g := by
  rcases hat with h | h
  · rw [h]; exact hv
  · rw [h]; intro e; injection e with e; omega
/-- The block of a slice of a call's own that began later is none that lay there. -/
theorem Own.ne_old (h : Own w0 w e size v n ys) (hg : g < w0.heap.size) : v.ownBlock ≠ some g := by
  intro e
  have := h.base g e
  omega
end
end Go.Proofs.Ytddgdhaioomnnaa.Mem

namespace Go.Proofs.Ytddgdhaioomnnaa.Mem
open Go.ChangeShapes Go.WideShapes Go.ChangeAt Go.RowKit

theorem append_step {P : Program} {w : World} {ops : Array Oper} {o : Oper} {a : Act} {K : Act → World → Prop} {Q : Exit → Act → World → Prop} {E : Prop} (hgd : o.guard = none) (s x : Operand) (t : TypeId)
    (ho : o.op = .call { callee := .builtin .append, args := #[s, x], argTypes := #[t, t] })
    {e : TypeId} {size bytes : Nat} (hT : SliceT P t e size bytes) (w0 : World) (v : Value) (n : Nat) (xs : List Value) (hs : a.eval s = v) (hown : Own w0 w e size v n xs)
    (A : Option Addr) (m c : Nat) (news : List Value) (hx : a.eval x = .slice A m c) (hr : Rd w size A m news) (h1 : ∀ u ∈ news, u.oneCell' = true)
    (hb : (n + m) * bytes ≤ 140737488355328) (h63 : n + m ≤ 9223372036854775807)
    (h : ∀ v' w', Own w0 w' e size v' (n + m) (xs ++ news) → w.grownBy w' v.ownBlock → (v'.ownBlock = v.ownBlock ∨ v'.ownBlock = some w.heap.size) → K (a.put o.dst v') w') :
    if Region.wanted o (yielded ops a.tmps) = true then Oper.wp P o a w K Q else E := by
  have hw : Region.wanted o (yielded ops a.tmps) = true := by simp [Region.wanted, hgd]
  rw [if_pos hw]
  exact wp_append_at s x t ho hT w0 v n xs hs hown A m c news hx hr h1 hb h63 h
/-- A call of a Go function that leaves the world as it is, at a step of a region that draws its order. -/
theorem call_step {P : Program} {w : World} {ops : Array Oper} {o : Oper} {a : Act} {K : Act → World → Prop} {Q : Exit → Act → World → Prop} {E : Prop} (hgd : o.guard = none) (f : FuncId) (vs : Array Value) (v : Value)
    (hc : Calls P f vs w fun e w' => e = .returned v ∧ w = w') (hrun : (execOp a.eval o).run P w = .ok (.enter f vs) w) (h : K (a.put o.dst v) w) :
    if Region.wanted o (yielded ops a.tmps) = true then Oper.wp P o a w K Q else E := by
  have hw : Region.wanted o (yielded ops a.tmps) = true := by simp [Region.wanted, hgd]
  rw [if_pos hw]
  unfold Oper.wp
  rw [hrun, Oper.upon_enter]
  refine hc.mono ?_
  rintro e w' ⟨rfl, rfl⟩
  exact h
end Go.Proofs.Ytddgdhaioomnnaa.Mem

namespace Go.Proofs.Ytddgdhaioomnnaa.Mem
open Go.ChangeShapes Go.WideShapes Go.ChangeAt Go.RowKit

def sortZ (l : List Int) : List Int := l.mergeSort (fun x y => decide (x ≤ y))
theorem sort_perm (l : List Int) : (sortZ l).Perm l := List.mergeSort_perm _ _
theorem sort_sorted (l : List Int) : (sortZ l).Pairwise (· ≤ ·) := by
  have := List.pairwise_mergeSort (le := fun x y : Int => decide (x ≤ y)) (by simp; omega) (by simp; omega) l
  simpa [sortZ] using this
theorem sort_len (l : List Int) : (sortZ l).length = l.length := (sort_perm l).length_eq
theorem zs_map (l : List Int) : zs l = l.map (Value.int .i64) := by
  induction l with
  | nil => rfl
  | cons x l ih => unfold zs at *; rw [List.flatMap_cons, ih]; rfl
theorem zs_taken (xs : List Int) (k : Nat) : (zs xs).take k = zs (xs.take k) := by rw [zs_map, zs_map, List.map_take]
/-- The first ones of a slice of the call's own. -/
theorem own_first {w0 w : World} {e n d : Nat} {B : Option Addr} {xs : List Value} (h : Own w0 w e 1 (.slice B n d) n xs) (k : Nat) (hk : k ≤ n) : Own w0 w e 1 (.slice B k d) k (xs.take k) := by
  refine ⟨⟨by have := h.1.1; simp at this ⊢; omega, ?_⟩, h.2⟩
  rcases h.1.2 with ⟨hv, hn⟩ | ⟨g, cap, cur, hv, hb, hc, hnc, hm, hs, ht⟩
  · injection hv with e1 e2 e3
    subst e1 e2 e3
    obtain rfl : k = 0 := by omega
    exact .inl ⟨rfl, rfl⟩
  · injection hv with e1 e2 e3
    subst e1 e3
    refine .inr ⟨g, d, cur, rfl, hb, hc, by omega, hm, hs, ?_⟩
    have := congrArg (List.take k) ht
    rw [List.take_take, Nat.min_eq_left (by omega)] at this
    simpa using this
/-- The library's sort, on a slice of the call's own. -/
theorem sort_own (w0 w : World) (v : Value) (n : Nat) (l : List Int) (ho : Own w0 w 3 1 v n (zs l)) (hn : n ≤ 1000000) :
    Calls Try.prog 76 #[v] w fun e w' => e = .returned (.tuple #[]) ∧ Own w0 w' 3 1 v n (zs (sortZ l)) := by
  have hl : l.length = n := by have := ho.1.1; rw [zs_map, List.length_map] at this; omega
  rcases ho.1.2 with ⟨rfl, rfl⟩ | ⟨g, cap, cur, rfl, hbase, hb, hnc, hcap, hsz, htk⟩
  · obtain rfl : l = [] := List.eq_nil_of_length_eq_zero hl
    refine (Srt.slices_Sort_int_none _ _ w).mono ?_
    rintro e w' ⟨rfl, rfl⟩
    exact ⟨rfl, by have : sortZ [] = [] := List.eq_nil_of_length_eq_zero (sort_len []); rw [this]; exact ho⟩
  · subst hl
    rw [zs_map, Nat.mul_one] at htk
    have hg : g < w.heap.size := (Array.getElem?_eq_some_iff.1 hb).1
    refine (Srt.slices_Sort_int g 0 cap l w (holds_of_blockI hb htk) hg (by omega)).mono ?_
    rintro e w' ⟨rfl, q, os, rfl⟩
    refine ⟨rfl, ?_, ?_⟩
    · rw [zs_map]
      exact ownsRow_sortedI (ts := sortZ l) (sort_len l) hbase hb hnc hcap (by rw [hsz])
    · exact ho.grown (grownBy_sortedI (w := w) (g := g) (n := q) (os := os) _)
/-- The library's compact, on a slice of the call's own. -/
theorem compact_own (w0 w : World) (v : Value) (n : Nat) (l : List Int) (ho : Own w0 w 3 1 v n (zs l)) (hn : n ≤ 1000000) :
    Calls Try.prog 77 #[v] w fun e w' => ∃ v', e = .returned v' ∧ Own w0 w' 3 1 v' (Lib.compact l).length (zs (Lib.compact l)) := by
  have hl : l.length = n := by have := ho.1.1; rw [zs_map, List.length_map] at this; omega
  have hcl : (Lib.compact l).length ≤ l.length := by
    unfold Lib.compact Lib.compactUpTo
    rw [List.length_map]
    have := List.length_filter_le (Lib.keeps l.toArray) (List.range l.length)
    simpa using this
  rcases ho.1.2 with ⟨rfl, rfl⟩ | ⟨g, cap, cur, rfl, hbase, hb, hnc, hcap, hsz, htk⟩
  · obtain rfl : l = [] := List.eq_nil_of_length_eq_zero hl
    refine (Srt.slices_Compact_int_empty _ _ w).mono ?_
    rintro e w' ⟨rfl, rfl⟩
    exact ⟨_, rfl, ho⟩
  · subst hl
    rw [zs_map, Nat.mul_one] at htk
    refine (Srt.slices_Compact_int g 0 cap l w (holds_of_blockI hb htk) (by omega) hnc).mono ?_
    rintro e w' ⟨rfl, q, rfl⟩
    refine ⟨_, rfl, ?_⟩
    have hlen : (Lib.compact l ++ List.replicate (l.length - (Lib.compact l).length) 0).length = l.length := by rw [List.length_append, List.length_replicate]; omega
    have h1 : Own w0 (Sort.putRow (Value.int .i64) (Sort.ahead w q) g 0 (Lib.compact l ++ List.replicate (l.length - (Lib.compact l).length) 0).toArray) 3 1 (.slice (some ⟨g, 0, none⟩) l.length cap) l.length (zs (Lib.compact l ++ List.replicate (l.length - (Lib.compact l).length) 0)) := by
      have e0 := Sort.grow_empty (Sort.putRow (Value.int .i64) (Sort.ahead w q) g 0 (Lib.compact l ++ List.replicate (l.length - (Lib.compact l).length) 0).toArray)
      rw [← e0]
      refine ⟨?_, ho.grown (grownBy_sortedI (w := w) (g := g) (n := q) (os := #[]) _)⟩
      rw [zs_map]
      exact ownsRow_sortedI hlen hbase hb hnc hcap (by rw [hsz])
    have h2 := own_first h1 (Lib.compact l).length hcl
    rw [zs_taken, List.take_left] at h2
    exact h2

theorem strict_eq (a b : List Int) (ha : a.Pairwise (· < ·)) (hb : b.Pairwise (· < ·)) (h : ∀ x, x ∈ a ↔ x ∈ b) : a = b := by
  refine List.Perm.eq_of_pairwise (le := (· ≤ ·)) (fun _ _ _ _ h1 h2 => Int.le_antisymm h1 h2) (ha.imp Int.le_of_lt) (hb.imp Int.le_of_lt) ?_
  exact (List.perm_ext_iff_of_nodup (ha.imp (fun h e => by omega)) (hb.imp (fun h e => by omega))).2 h
theorem pick_strict (p : Nat → Bool) (n : Nat) : (pick p n).Pairwise (· < ·) := by
  unfold pick
  rw [List.pairwise_map]
  refine (List.pairwise_lt_range.filter p).imp ?_
  intro a b h
  exact Int.ofNat_lt.2 h
theorem compact_some (d : Array Int) (hs : ∀ i j, i ≤ j → j < d.size → d[i]! ≤ d[j]!) (m : Nat) (hm : m ≤ d.size) :
    (Lib.compactUpTo d m).Pairwise (· < ·) ∧ ∀ x, x ∈ Lib.compactUpTo d m ↔ ∃ j, j < m ∧ d[j]! = x := by
  induction m with
  | zero => exact ⟨by simp [Lib.compactUpTo], by simp [Lib.compactUpTo]⟩
  | succ m ih =>
    obtain ⟨h1, h2⟩ := ih (by omega)
    rw [Lib.compactUpTo_succ]
    by_cases hk : Lib.keeps d m = true
    · rw [if_pos hk]
      refine ⟨List.pairwise_append.2 ⟨h1, by simp, ?_⟩, ?_⟩
      · intro x hx y hy
        rw [List.mem_singleton] at hy
        subst hy
        obtain ⟨j, hj, rfl⟩ := (h2 x).1 hx
        have g1 := hs j (m - 1) (by omega) (by omega)
        have g2 := hs (m - 1) m (by omega) (by omega)
        unfold Lib.keeps at hk
        have hk2 : m = 0 ∨ d[m]! ≠ d[m - 1]! := by simpa using hk
        omega
      · intro x
        rw [List.mem_append, List.mem_singleton, h2]
        constructor
        · rintro (⟨j, hj, e⟩ | e)
          · exact ⟨j, by omega, e⟩
          · exact ⟨m, by omega, e.symm⟩
        · rintro ⟨j, hj, e⟩
          by_cases e2 : j = m
          · subst e2; exact .inr e.symm
          · exact .inl ⟨j, by omega, e⟩
    · rw [if_neg hk, List.append_nil]
      refine ⟨h1, fun x => ?_⟩
      rw [h2]
      have hk2 : ¬ (m = 0 ∨ d[m]! ≠ d[m - 1]!) := by unfold Lib.keeps at hk; simpa using hk
      constructor
      · rintro ⟨j, hj, e⟩; exact ⟨j, by omega, e⟩
      · rintro ⟨j, hj, e⟩
        by_cases e2 : j = m
        · subst e2
          refine ⟨j - 1, by omega, ?_⟩
          rw [← e]
          by_cases e3 : d[j]! = d[j - 1]!
          · exact e3.symm
          · exact absurd (.inr e3) hk2
        · exact ⟨j, by omega, e⟩
theorem compact_sorted (s : List Int) (hs : s.Pairwise (· ≤ ·)) : (Lib.compact s).Pairwise (· < ·) ∧ ∀ x, x ∈ Lib.compact s ↔ x ∈ s := by
  have hget : ∀ i, i < s.length → ∃ h : i < s.length, s.toArray[i]! = s[i] := fun i hi => ⟨hi, by simp [hi]⟩
  have := compact_some s.toArray (fun i j hij hj => by
    have hj' : j < s.length := by simpa using hj
    obtain ⟨_, e1⟩ := hget i (by omega)
    obtain ⟨_, e2⟩ := hget j hj'
    rw [e1, e2]
    rcases Nat.lt_or_eq_of_le hij with h | h
    · exact List.pairwise_iff_getElem.1 hs i j (by omega) hj' h
    · subst h; exact Int.le_refl _) s.length (by simp)
  refine ⟨this.1, fun x => ?_⟩
  unfold Lib.compact
  rw [this.2, List.mem_iff_getElem]
  constructor
  · rintro ⟨j, hj, e⟩
    obtain ⟨h, e1⟩ := hget j hj
    exact ⟨j, h, by rw [← e1]; exact e⟩
  · rintro ⟨j, hj, e⟩
    obtain ⟨_, e1⟩ := hget j hj
    exact ⟨j, hj, by rw [e1]; exact e⟩
/-- Sorted and compacted: just the picked ones. -/
theorem compact_pick (l : List Int) (p : Nat → Bool) (n : Nat) (h : ∀ x, x ∈ l ↔ ∃ k : Nat, k < n ∧ p k = true ∧ x = (k : Int)) : Lib.compact (sortZ l) = pick p n := by
  obtain ⟨h1, h2⟩ := compact_sorted (sortZ l) (sort_sorted l)
  refine strict_eq _ _ h1 (pick_strict p n) (fun x => ?_)
  rw [h2, (sort_perm l).mem_iff, h, pick_mem]
end Go.Proofs.Ytddgdhaioomnnaa.Mem

namespace Go.Proofs.Ytddgdhaioomnnaa.Mem
open Go.ChangeShapes Go.WideShapes Go.ChangeAt Go.RowKit

/-- What stays: the shapes of blocks, and the cells of which K tells. -/
structure Fr (K : Nat → Nat → Prop) (w w' : World) : Prop where
  size : w.heap.size ≤ w'.heap.size
  shape : ∀ (b : Nat) (cur : Array Value) (t : TypeId) (fz : Nat × Nat), w.heap[b]? = some (Obj.cells cur t fz) → ∃ cur' : Array Value, w'.heap[b]? = some (Obj.cells cur' t fz) ∧ cur'.size = cur.size
  cells : ∀ b i, K b i → w'.cell? ⟨b, i, none⟩ = w.cell? ⟨b, i, none⟩
section
variable {K : Nat → Nat → Prop} {w w' w2 : World}
theorem Fr.refl (K : Nat → Nat → Prop) (w : World) : Fr K w w := ⟨Nat.le_refl _, fun _ cur _ _ h => ⟨cur, h, rfl⟩, fun _ _ _ => rfl⟩
theorem Fr.trans (h : Fr K w w') (k : Fr K w' w2) : Fr K w w2 :=
  ⟨Nat.le_trans h.size k.size, fun b cur t fz hb => by
    obtain ⟨c1, h1, e1⟩ := h.shape b cur t fz hb
    obtain ⟨c2, h2, e2⟩ := k.shape b c1 t fz h1
    exact ⟨c2, h2, e2.trans e1⟩, fun b i hk => (k.cells b i hk).trans (h.cells b i hk)⟩
theorem Fr.sub {K2 : Nat → Nat → Prop} (h : Fr K w w') (hs : ∀ b i, K2 b i → K b i) : Fr K2 w w' := ⟨h.size, h.shape, fun b i hk => h.cells b i (hs b i hk)⟩
theorem heap_lt {b : Nat} {o : Obj} (h : w.heap[b]? = some o) : b < w.heap.size := (Array.getElem?_eq_some_iff.1 h).1
theorem Fr.of_below (hb : Below w.heap.size w w') (hK : ∀ b i, K b i → b < w.heap.size) : Fr K w w' :=
  ⟨hb.size, fun b cur _ _ h => ⟨cur, (hb.block b (heap_lt h)).trans h, rfl⟩, fun b i hk => World.cell?_of_block (hb.block b (hK b i hk))⟩
theorem Fr.of_set (g i : Nat) (u : Value) (hK : ∀ i, ¬ K g i) : Fr K w (w.setCell ⟨g, i, none⟩ u) := by
  refine ⟨by simp [World.setCell], fun b cur t fz h => ?_, fun b j hk => cell_set_ne (fun e => hK j (by have : g = b := e; rw [this]; exact hk)) u⟩
  by_cases e : g = b
  · subst e
    refine ⟨cur.setIfInBounds i u, ?_, by simp⟩
    simp [World.setCell, Array.getElem?_modify, h]
  · exact ⟨cur, (heap_set_ne w e i u).trans h, rfl⟩
/-- A slice of the call's own, behind what keeps its cells. -/
theorem Own.fr {w0 : World} {e size n c g : Nat} {xs : List Value} (h : Own w0 w e size (.slice (some ⟨g, 0, none⟩) n c) n xs) (hf : Fr K w w') (hK : ∀ i, i < n * size → K g i) (hb : Below w0.heap.size w0 w') : Own w0 w' e size (.slice (some ⟨g, 0, none⟩) n c) n xs := by
  refine ⟨⟨h.1.1, ?_⟩, hb⟩
  rcases h.1.2 with ⟨hv, _⟩ | ⟨g', cap, cur, hv, hg, hh, hnc, hcm, hsz, htk⟩
  · cases hv
  · injection hv with e1 e2 e3
    injection e1 with e1
    injection e1 with e1
    subst e1 e3
    obtain ⟨cur', h1, h2⟩ := hf.shape _ _ _ _ hh
    refine .inr ⟨g, c, cur', rfl, hg, h1, hnc, hcm, by rw [h2, hsz], ?_⟩
    rw [← htk]
    refine List.ext_getElem? fun i => ?_
    rw [List.getElem?_take, List.getElem?_take]
    split
    · rename_i hi
      have hc := hf.cells g i (hK i hi)
      unfold World.cell? at hc
      simp only [hh, h1] at hc
      simpa using hc
    · rfl
theorem Own.fr_any {w0 : World} {e size n : Nat} {v : Value} {xs : List Value} (h : Own w0 w e size v n xs) (hf : Fr K w w') (hK : ∀ g, v.ownBlock = some g → ∀ i, i < n * size → K g i) (hb : Below w0.heap.size w0 w') : Own w0 w' e size v n xs := by
  rcases h.1.2 with ⟨hv, hn⟩ | ⟨g', cap, cur, hv, hg, _⟩
  · subst hv hn
    exact ⟨⟨h.1.1, .inl ⟨rfl, rfl⟩⟩, hb⟩
  · subst hv
    exact h.fr hf (hK g' rfl) hb
end
/-- Where a grown slice lies: in its own block, of which nothing ahead has changed; or in a new one, and nothing has changed. -/
def Moved (w w' : World) (v v' : Value) (n n' : Nat) : Prop :=
  (∃ g c, v = .slice (some ⟨g, 0, none⟩) n c ∧ v' = .slice (some ⟨g, 0, none⟩) n' c ∧ w.grownBy w' (some g)) ∨ (w.grownBy w' none ∧ ∀ k, v'.ownBlock = some k → w.heap.size ≤ k)
theorem grown_below {w w' : World} (h : w.grownBy w' none) : Below w.heap.size w w' := ⟨h.os, h.tape, h.output, h.size, fun i hi => h.block i hi (by simp)⟩
theorem Moved.fr {K : Nat → Nat → Prop} {w0 w w' : World} {v v' : Value} {e size n n' : Nat} {xs ys : List Value} (h : Moved w w' v v' n n') (h1 : Own w0 w e size v n xs) (h2 : Own w0 w' e size v' n' (xs ++ ys))
    (hK : ∀ b i, K b i → b < w.heap.size ∧ (v.ownBlock = some b → i < n * size)) : Fr K w w' := by
  rcases h with ⟨g, c, rfl, rfl, hg⟩ | ⟨hg, _⟩
  · rcases h1.1.2 with ⟨hv, _⟩ | ⟨g1, cap, cur, hv, _, hh, hnc, hcm, hsz, htk⟩
    · cases hv
    injection hv with e1 e2 e3
    injection e1 with e1
    injection e1 with e1
    subst e1 e3
    rcases h2.1.2 with ⟨hv, _⟩ | ⟨g2, cap2, cur2, hv, _, hh2, hnc2, hcm2, hsz2, htk2⟩
    · cases hv
    injection hv with e1 e2 e3
    injection e1 with e1
    injection e1 with e1
    subst e1 e3
    have hl : xs.length = n * size := h1.1.1
    refine ⟨hg.size, fun b cu t fz hb => ?_, fun b i hk => ?_⟩
    · by_cases eb : b = g
      · subst eb
        rw [hh] at hb
        injection hb with hb
        injection hb with a1 a2 a3
        subst a1 a2 a3
        exact ⟨cur2, hh2, by rw [hsz, hsz2]⟩
      · exact ⟨cu, (hg.block b (heap_lt hb) (fun e => eb (by injection e))).trans hb, rfl⟩
    · obtain ⟨hb, hi⟩ := hK b i hk
      by_cases eb : b = g
      · subst eb
        have hi := hi rfl
        have q1 : cur.toList[i]? = xs[i]? := by rw [← htk, List.getElem?_take, if_pos hi]
        have q2 : cur2.toList[i]? = xs[i]? := by
          have hle : n * size ≤ n' * size := by
            have := h2.1.1
            rw [List.length_append] at this
            omega
          have : (xs ++ ys)[i]? = cur2.toList[i]? := by rw [← htk2, List.getElem?_take, if_pos (by omega)]
          rw [← this, List.getElem?_append_left (by omega)]
        unfold World.cell?
        simp only [hh, hh2]
        have q3 : cur2[i]? = cur[i]? := by rw [← Array.getElem?_toList, ← Array.getElem?_toList, q1, q2]
        simpa using q3
      · exact World.cell?_of_block (hg.block b hb (fun e => eb (by injection e)))
  · exact Fr.of_below (grown_below hg) (fun b i hk => (hK b i hk).1)
/-- A block but the grown slice's own stays. -/
theorem Moved.blk {w w' : World} {v v' : Value} {n n' g : Nat} {t : TypeId} {xs : Array Value} (h : Moved w w' v v' n n') (hb : Blk w g t xs) (hne : v.ownBlock ≠ some g) : Blk w' g t xs := by
  rcases h with ⟨q, c, rfl, rfl, hg⟩ | ⟨hg, _⟩
  · exact (hg.block g hb.lt (fun e => hne (by rw [e]; rfl))).trans hb
  · exact (hg.block g hb.lt (by simp)).trans hb
theorem Moved.own {w0 w w' : World} {v v' u : Value} {n n' e size m : Nat} {xs : List Value} (h : Moved w w' v v' n n') (ho : Own w0 w e size u m xs) (hne : u.ownBlock = none ∨ v.ownBlock = none ∨ u.ownBlock ≠ v.ownBlock) (hb : Below w0.heap.size w0 w') : Own w0 w' e size u m xs := by
  refine ⟨?_, hb⟩
  rcases h with ⟨q, c, rfl, rfl, hg⟩ | ⟨hg, _⟩
  · exact ho.1.kept hg (by
      rcases hne with h | h | h
      · exact .inl h
      · cases h
      · exact .inr h)
  · exact ho.1.kept hg (by cases hv : u.ownBlock <;> simp)
/-- Where the grown slice's block is, against an elder block that was not its own. -/
theorem Moved.ne {w w' : World} {v v' : Value} {n n' g : Nat} (h : Moved w w' v v' n n') (hg : g < w.heap.size) (hne : v.ownBlock ≠ some g) : v'.ownBlock ≠ some g := by
  rcases h with ⟨q, c, rfl, rfl, _⟩ | ⟨_, hn⟩
  · exact hne
  · intro e
    have := hn g e
    omega
section
variable {P : Program} {w : World}
theorem run_append_moved (w0 : World) {t ty e : TypeId} {size bytes : Nat} (hT : SliceT P t e size bytes) (v : Value) (n : Nat) (xs : List Value) (hown : Own w0 w e size v n xs)
    (a : Addr) (m c : Nat) (news : List Value) (hl : news.length = m * size) (hnews : ∀ j u, news[j]? = some u → w.cell? (a.add j) = some u) (h1 : ∀ u ∈ news, u.oneCell' = true)
    (h63 : n + m ≤ maxLen) (hbytes : (n + m) * bytes ≤ 140737488355328) (hm0 : 0 < m) :
    ∃ v' w', (Builtin.append_ #[t, t] ty #[v, .slice (some a) m c]).run P w = .ok v' w' ∧ Own w0 w' e size v' (n + m) (xs ++ news) ∧ Moved w w' v v' n (n + m) := by
  obtain ⟨i, z, ht, hi, hz, hsize, hby, hzs, hsz⟩ := hT
  subst hsize
  subst hby
  have hsmall : n + m ≤ 9223372036854775807 := by simp only [maxLen] at h63; omega
  have hlen : (xs ++ news).length = (n + m) * i.size := by rw [List.length_append, hown.1.1, hl, Nat.add_mul]
  have grown : ∀ (old : Nat), old < n + m →
      (w.drew.alloc (.cells (xs.toArray ++ news.toArray ++ Builtin.zeroCells z.cells (grownCap w (n + m) old e - (n + m))) e)).ownsRow w0.heap.size e i.size
        (.slice (some ⟨w.heap.size, 0, none⟩) (n + m) (grownCap w (n + m) old e)) (n + m) (xs ++ news) ∧
      w.grownBy (w.drew.alloc (.cells (xs.toArray ++ news.toArray ++ Builtin.zeroCells z.cells (grownCap w (n + m) old e - (n + m))) e)) none := by
    intro old ho
    have hge := grownCap_ge w (n + m) old e
    have hcm : grownCap w (n + m) old e ≤ maxLen := grownCap_le_maxLen w (n + m) old e h63
    refine ⟨⟨hlen, .inr ⟨w.heap.size, _, _, rfl, hown.2.size, heap_alloc_new w.drew _, hge, hcm, ?_, ?_⟩⟩, ⟨rfl, rfl, rfl, by simp, fun k hk _ => heap_alloc_old w.drew _ hk⟩⟩
    · simp only [Array.size_append, List.size_toArray, size_zeroCells, hzs, hown.1.1, hl, ← Nat.add_mul]
      congr 1
      omega
    · simp only [Array.toList_append, List.append_assoc]
      rw [← List.append_assoc, ← hlen]
      exact List.take_left
  have fin : ∀ v' w', w'.ownsRow w0.heap.size e i.size v' (n + m) (xs ++ news) → w.grownBy w' none → Own w0 w' e i.size v' (n + m) (xs ++ news) := fun v' w' h1 h2 => ⟨h1, bl_trans hown.2 (grown_below h2)⟩
  rcases hown.1.2 with ⟨rfl, rfl⟩ | ⟨g, cap, cur, rfl, hbg, hg, hnc, hcm, hcs, htake⟩
  · have hx : xs = [] := List.eq_nil_of_length_eq_zero (by simpa using hown.1.1)
    subst hx
    have hr := _root_.Go.run_append_nil (P := P) w t ty e i z ht hi hz a m c news hl hnews (by omega) (by omega) (by have hb := hbytes; simp only [Nat.zero_add] at hb; omega)
    have hgr := grown 0 (by omega)
    simp only [Nat.zero_add, List.nil_append, Array.empty_append] at hgr fin ⊢
    exact ⟨_, _, hr, fin _ _ hgr.1 hgr.2, .inr ⟨hgr.2, fun k hk => by injection hk with hk; show w.heap.size ≤ k; rw [← hk]; exact Nat.le_refl _⟩⟩
  · by_cases hroom : n + m ≤ cap
    · have hfit : n * i.size + news.length ≤ cur.size := by rw [hl, hcs, ← Nat.add_mul]; exact Nat.mul_le_mul_right _ hroom
      have hr := run_append_room (P := P) w t ty e i ht hi g n cap cur hg a m c news hl hnews h1 hroom hfit
      have hgw : w.grownBy (w.setRow g (cur.toList.take (n * i.size) ++ news ++ cur.toList.drop (n * i.size + news.length)).toArray) (some g) :=
        ⟨rfl, rfl, rfl, by simp, fun k _ hk => setRow_other w g k _ (fun e => hk (by rw [e]))⟩
      refine ⟨_, _, hr, ⟨⟨hlen, .inr ⟨g, cap, _, rfl, hbg, setRow_heap w g cur _ e _ hg, hroom, hcm, ?_, ?_⟩⟩, hown.grown hgw⟩, .inl ⟨g, cap, rfl, rfl, hgw⟩⟩
      · simp only [List.size_toArray, List.length_append, List.length_take, List.length_drop, Array.length_toList]
        omega
      · rw [htake, ← hlen]
        exact List.take_left
    · have holds : ∀ j u, xs[j]? = some u → w.cell? ((⟨g, 0, none⟩ : Addr).add j) = some u := hown.1.cells (g := g) rfl
      have hr := run_append_grow (P := P) w t ty e i z ht hi hz ⟨g, 0, none⟩ n cap xs hown.1.1 holds a m c news hl hnews (by omega) (by omega) (growslice_fits (by omega) hbytes)
      have hgr := grown cap (by omega)
      exact ⟨_, _, hr, fin _ _ hgr.1 hgr.2, .inr ⟨hgr.2, fun k hk => by injection hk with hk; show w.heap.size ≤ k; rw [← hk]; exact Nat.le_refl _⟩⟩
theorem wp_append_moved {o : Oper} {a : Act} {K : Act → World → Prop} {Q : Exit → Act → World → Prop} (s x : Operand) (t : TypeId)
    (ho : o.op = .call { callee := .builtin .append, args := #[s, x], argTypes := #[t, t] })
    {e : TypeId} {size bytes : Nat} (hT : SliceT P t e size bytes) (w0 : World) (v : Value) (n : Nat) (xs : List Value) (hs : a.eval s = v) (hown : Own w0 w e size v n xs)
    (A : Option Addr) (m c : Nat) (news : List Value) (hx : a.eval x = .slice A m c) (hr : Rd w size A m news) (h1 : ∀ u ∈ news, u.oneCell' = true)
    (hb : (n + m) * bytes ≤ 140737488355328) (h63 : n + m ≤ 9223372036854775807) (hm0 : 0 < m)
    (h : ∀ v' w', Own w0 w' e size v' (n + m) (xs ++ news) → Moved w w' v v' n (n + m) → K (a.put o.dst v') w') : o.wp P a w K Q := by
  obtain ⟨b, off, rfl, hc⟩ := hr.2 hm0
  obtain ⟨v', w', hrun, h2, h3⟩ := run_append_moved (P := P) (ty := o.type) w0 hT v n xs hown ⟨b, off, none⟩ m c news hr.1 (fun j u hu => by rw [add_plain]; exact hc j u hu) h1 (by unfold maxLen; omega) hb hm0
  unfold Oper.wp execOp
  simp only [ho, resolve, invoke, builtin, Sem.run_bind, Sem.run_pure, Result.andThen_ok, List.map_toArray, List.map_cons, List.map_nil, hs, hx, hrun]
  exact h v' w' h2 h3
theorem append_moved {ops : Array Oper} {rest : List Oper} {o : Oper} {a : Act} {Q : Exit → Act → World → Prop} (hgd : o.guard = none) (s x : Operand) (t : TypeId)
    (ho : o.op = .call { callee := .builtin .append, args := #[s, x], argTypes := #[t, t] })
    {e : TypeId} {size bytes : Nat} (hT : SliceT P t e size bytes) (w0 : World) (v : Value) (n : Nat) (xs : List Value) (hs : a.eval s = v) (hown : Own w0 w e size v n xs)
    (A : Option Addr) (m c : Nat) (news : List Value) (hx : a.eval x = .slice A m c) (hr : Rd w size A m news) (h1 : ∀ u ∈ news, u.oneCell' = true)
    (hb : (n + m) * bytes ≤ 140737488355328) (h63 : n + m ≤ 9223372036854775807) (hm0 : 0 < m)
    (h : ∀ v' w', Own w0 w' e size v' (n + m) (xs ++ news) → Moved w w' v v' n (n + m) → wpList P ops Q rest (a.put o.dst v') w') : wpList P ops Q (o :: rest) a w :=
  wpList_plain hgd fun _ hK => wp_append_moved s x t ho hT w0 v n xs hs hown A m c news hx hr h1 hb h63 hm0 fun v' w' h2 h3 => hK _ _ (h v' w' h2 h3)
theorem append_moved_step {ops : Array Oper} {o : Oper} {a : Act} {K : Act → World → Prop} {Q : Exit → Act → World → Prop} {E : Prop} (hgd : o.guard = none) (s x : Operand) (t : TypeId)
    (ho : o.op = .call { callee := .builtin .append, args := #[s, x], argTypes := #[t, t] })
    {e : TypeId} {size bytes : Nat} (hT : SliceT P t e size bytes) (w0 : World) (v : Value) (n : Nat) (xs : List Value) (hs : a.eval s = v) (hown : Own w0 w e size v n xs)
    (A : Option Addr) (m c : Nat) (news : List Value) (hx : a.eval x = .slice A m c) (hr : Rd w size A m news) (h1 : ∀ u ∈ news, u.oneCell' = true)
    (hb : (n + m) * bytes ≤ 140737488355328) (h63 : n + m ≤ 9223372036854775807) (hm0 : 0 < m)
    (h : ∀ v' w', Own w0 w' e size v' (n + m) (xs ++ news) → Moved w w' v v' n (n + m) → K (a.put o.dst v') w') :
    if Region.wanted o (yielded ops a.tmps) = true then Oper.wp P o a w K Q else E := by
  have hw : Region.wanted o (yielded ops a.tmps) = true := by simp [Region.wanted, hgd]
  rw [if_pos hw]
  exact wp_append_moved s x t ho hT w0 v n xs hs hown A m c news hx hr h1 hb h63 hm0 h
end
end Go.Proofs.Ytddgdhaioomnnaa.Mem
