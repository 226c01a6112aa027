/-
  THE STATE OF THE DOCUMENT'S RUN, AS CELLS: a struct of two slices, two rows of bools, registers. No conditions beyond those that each theorem states. Of the program only its types are named.
-/
import Derived.Test.YtbeeojccadeboaaGreatModelA
import Derived.Laws.Rows
import Derived.Laws.Tables
import Derived.Laws.CopyOwn
namespace Go.Proofs.YtbeeojccadeboaaGreat.Model
open Go.ChangeShapes Go.WideShapes Go.ChangeAt Go.RowKit Mem Go.Proofs.YtbeeojccadeboaaGreat.Code

/-- A state, and where its heap and its path lie. -/
structure RS where
  s : St
  A : Option Addr
  n : Nat
  c : Nat
  P : Option Addr
  pn : Nat
  pc : Nat
def bl (f : Nat → Bool) : List Value := (List.range 64).map fun k => .bool (f k)
def sc (r : RS) : List Value := [.slice r.A r.n r.c] ++ (bl r.s.wrote ++ (zs r.s.regs ++ ([.slice r.P r.pn r.pc] ++ (bl r.s.seen ++ [.int .i64 r.s.kind, .int .i64 r.s.why]))))
theorem bools_len (f : Nat → Bool) : (bl f).length = 64 := by unfold bl; simp
theorem zs_count (l : List Int) : (zs l).length = l.length := by unfold zs; rw [flat_len zc_len, Nat.mul_one]
section
variable {r : RS}
theorem sc_len (h : r.s.regs.length = 8) : (sc r).length = 140 := by
  unfold sc; simp only [List.length_append, bools_len, zs_count, h, List.length_cons, List.length_nil]
theorem sc_one : ∀ u ∈ sc r, u.oneCell' = true := by
  intro u hu
  unfold sc at hu
  simp only [List.mem_append, List.mem_cons, List.not_mem_nil, or_false] at hu
  rcases hu with rfl | hu | hu | rfl | hu | rfl | rfl
  · rfl
  · obtain ⟨k, _, rfl⟩ := List.mem_map.1 hu; rfl
  · exact zs_one _ u hu
  · rfl
  · obtain ⟨k, _, rfl⟩ := List.mem_map.1 hu; rfl
  · rfl
  · rfl
theorem bools_at (f : Nat → Bool) (k : Nat) (hk : k < 64) : (bl f)[k]? = some (.bool (f k)) := by
  unfold bl; rw [List.getElem?_map, List.getElem?_range hk]; rfl
theorem zs_at (l : List Int) (k : Nat) (x : Int) (hx : l[k]? = some x) : (zs l)[k]? = some (.int .i64 x) := by
  have := flat_at zc_len l k x hx 0 (by decide)
  simpa [zs, zc] using this
theorem sc_heap : (sc r)[0]? = some (.slice r.A r.n r.c) := rfl
theorem sc_wrote (k : Nat) (hk : k < 64) : (sc r)[1 + k]? = some (.bool (r.s.wrote k)) := by
  unfold sc
  rw [List.getElem?_append_right (by simp), List.getElem?_append_left (by rw [bools_len]; simp; omega)]
  have : 1 + k - [Value.slice r.A r.n r.c].length = k := by simp
  rw [this]; exact bools_at _ k hk
theorem sc_reg (h : r.s.regs.length = 8) (k : Nat) (x : Int) (hx : r.s.regs[k]? = some x) : (sc r)[65 + k]? = some (.int .i64 x) := by
  have hk := (List.getElem?_eq_some_iff.1 hx).1
  unfold sc
  rw [List.getElem?_append_right (by simp; omega), List.getElem?_append_right (by rw [bools_len, List.length_singleton]; omega), List.getElem?_append_left (by rw [zs_count, bools_len, List.length_singleton]; omega)]
  have : 65 + k - [Value.slice r.A r.n r.c].length - (bl r.s.wrote).length = k := by rw [bools_len, List.length_singleton]; omega
  rw [this]; exact zs_at _ k x hx
theorem sc_path (h : r.s.regs.length = 8) : (sc r)[73]? = some (.slice r.P r.pn r.pc) := by
  unfold sc
  rw [List.getElem?_append_right (by simp), List.getElem?_append_right (by simp [bools_len]), List.getElem?_append_right (by simp [bools_len, zs_count, h])]
  have : 73 - [Value.slice r.A r.n r.c].length - (bl r.s.wrote).length - (zs r.s.regs).length = 0 := by rw [bools_len, zs_count, h]; simp
  rw [this]; rfl
theorem sc_seen (h : r.s.regs.length = 8) (k : Nat) (hk : k < 64) : (sc r)[74 + k]? = some (.bool (r.s.seen k)) := by
  unfold sc
  rw [List.getElem?_append_right (by simp; omega), List.getElem?_append_right (by rw [bools_len]; simp; omega), List.getElem?_append_right (by rw [bools_len, zs_count, h]; simp; omega),
    List.getElem?_append_right (by rw [bools_len, zs_count, h]; simp; omega), List.getElem?_append_left (by rw [bools_len, bools_len, zs_count, h]; simp; omega)]
  have : 74 + k - [Value.slice r.A r.n r.c].length - (bl r.s.wrote).length - (zs r.s.regs).length - [Value.slice r.P r.pn r.pc].length = k := by rw [bools_len, zs_count, h]; simp; omega
  rw [this]; exact bools_at _ k hk
theorem sc_kind (h : r.s.regs.length = 8) : (sc r)[138]? = some (.int .i64 r.s.kind) ∧ (sc r)[139]? = some (.int .i64 r.s.why) := by
  have e : sc r = ([.slice r.A r.n r.c] ++ (bl r.s.wrote ++ (zs r.s.regs ++ ([.slice r.P r.pn r.pc] ++ bl r.s.seen)))) ++ [.int .i64 r.s.kind, .int .i64 r.s.why] := by unfold sc; simp
  have hl : ([Value.slice r.A r.n r.c] ++ (bl r.s.wrote ++ (zs r.s.regs ++ ([Value.slice r.P r.pn r.pc] ++ bl r.s.seen)))).length = 138 := by
    simp only [List.length_append, bools_len, zs_count, h, List.length_cons, List.length_nil]
  rw [e]
  constructor
  · rw [List.getElem?_append_right (by omega), hl]; rfl
  · rw [List.getElem?_append_right (by omega), hl]; rfl
theorem bools_set (f : Nat → Bool) (k : Nat) (_hk : k < 64) : (bl f).set k (.bool true) = bl (upd f k) := by
  refine List.ext_getElem? fun i => ?_
  by_cases hi : i < 64
  · rw [bools_at _ i hi]
    by_cases e : k = i
    · subst e
      rw [List.getElem?_set_self (by rw [bools_len]; exact hi)]
      unfold upd; simp
    · rw [List.getElem?_set_ne e, bools_at _ i hi]
      unfold upd; rw [if_neg (fun h => e h.symm)]
  · rw [List.getElem?_eq_none (by rw [List.length_set, bools_len]; omega), List.getElem?_eq_none (by rw [bools_len]; omega)]
theorem zs_set (l : List Int) (k : Nat) (x : Int) : (zs l).set k (.int .i64 x) = zs (l.set k x) := by
  refine List.ext_getElem? fun i => ?_
  rcases Nat.lt_or_ge i l.length with hi | hi
  · by_cases e : k = i
    · subst e
      rw [List.getElem?_set_self (by rw [zs_count]; exact hi), zs_at _ k x (List.getElem?_set_self hi)]
    · rw [List.getElem?_set_ne e, zs_at l i _ (List.getElem?_eq_getElem hi), zs_at (l.set k x) i (l[i]'hi) (by rw [List.getElem?_set_ne e]; exact List.getElem?_eq_getElem hi)]
  · rw [List.getElem?_eq_none (by rw [List.length_set, zs_count]; exact hi), List.getElem?_eq_none (by rw [zs_count, List.length_set]; exact hi)]
theorem set_right {α : Type} (a b : List α) (k : Nat) (v : α) (n : Nat) (hn : a.length = n) : (a ++ b).set (n + k) v = a ++ b.set k v := by
  subst hn; rw [List.set_append, if_neg (by omega)]
  rw [show a.length + k - a.length = k by omega]
theorem set_left {α : Type} (a b : List α) (k : Nat) (v : α) (hk : k < a.length) : (a ++ b).set k v = a.set k v ++ b := by
  rw [List.set_append, if_pos hk]
theorem sc_set_heap (A : Option Addr) (n c : Nat) (h : List Heap.Cell) : (sc r).set 0 (.slice A n c) = sc { r with s := { r.s with h := h }, A := A, n := n, c := c } := rfl
theorem sc_set_wrote (k : Nat) (hk : k < 64) : (sc r).set (1 + k) (.bool true) = sc { r with s := { r.s with wrote := upd r.s.wrote k } } := by
  unfold sc
  rw [set_right _ _ k _ 1 rfl, set_left _ _ k _ (by rw [bools_len]; exact hk), bools_set _ k hk]
theorem sc_set_reg (k : Nat) (hk : k < r.s.regs.length) (x : Int) : (sc r).set (65 + k) (.int .i64 x) = sc { r with s := { r.s with regs := r.s.regs.set k x } } := by
  unfold sc
  rw [show 65 + k = 1 + (64 + k) by omega, set_right _ _ (64 + k) _ 1 rfl, set_right _ _ k _ 64 (bools_len _), set_left _ _ k _ (by rw [zs_count]; exact hk), zs_set]
theorem sc_set_path (h : r.s.regs.length = 8) (P : Option Addr) (pn pc : Nat) (p : List Int) : (sc r).set 73 (.slice P pn pc) = sc { r with s := { r.s with path := p }, P := P, pn := pn, pc := pc } := by
  unfold sc
  rw [show 73 = 1 + (64 + (8 + 0)) by rfl, set_right _ _ (64 + (8 + 0)) _ 1 rfl, set_right _ _ (8 + 0) _ 64 (bools_len _), set_right _ _ 0 _ 8 (by rw [zs_count, h])]
  rfl
theorem sc_set_seen (h : r.s.regs.length = 8) (k : Nat) (hk : k < 64) : (sc r).set (74 + k) (.bool true) = sc { r with s := { r.s with seen := upd r.s.seen k } } := by
  unfold sc
  rw [show 74 + k = 1 + (64 + (8 + (1 + k))) by omega, set_right _ _ (64 + (8 + (1 + k))) _ 1 rfl, set_right _ _ (8 + (1 + k)) _ 64 (bools_len _), set_right _ _ (1 + k) _ 8 (by rw [zs_count, h]), set_right _ _ k _ 1 rfl, set_left _ _ k _ (by rw [bools_len]; exact hk), bools_set _ k hk]
theorem sc_set_kind (h : r.s.regs.length = 8) (k : Int) : (sc r).set 138 (.int .i64 k) = sc { r with s := { r.s with kind := k } } := by
  unfold sc
  rw [show 138 = 1 + (64 + (8 + (1 + (64 + 0)))) by rfl, set_right _ _ (64 + (8 + (1 + (64 + 0)))) _ 1 rfl, set_right _ _ (8 + (1 + (64 + 0))) _ 64 (bools_len _), set_right _ _ (1 + (64 + 0)) _ 8 (by rw [zs_count, h]), set_right _ _ (64 + 0) _ 1 rfl, set_right _ _ 0 _ 64 (bools_len _)]
  rfl
theorem sc_set_why (h : r.s.regs.length = 8) (k : Int) : (sc r).set 139 (.int .i64 k) = sc { r with s := { r.s with why := k } } := by
  unfold sc
  rw [show 139 = 1 + (64 + (8 + (1 + (64 + 1)))) by rfl, set_right _ _ (64 + (8 + (1 + (64 + 1)))) _ 1 rfl, set_right _ _ (8 + (1 + (64 + 1))) _ 64 (bools_len _), set_right _ _ (1 + (64 + 1)) _ 8 (by rw [zs_count, h]), set_right _ _ (64 + 1) _ 1 rfl, set_right _ _ 1 _ 64 (bools_len _)]
  rfl
end
/-- A state in a block. -/
def Sb (w : World) (g : Nat) (r : RS) : Prop := Blk w g 105 (sc r).toArray
theorem Sb.set_ {w : World} {g : Nat} {r r' : RS} (h : Sb w g r) (i : Nat) (u : Value) (e : (sc r).set i u = sc r') : Sb (w.setCell ⟨g, i, none⟩ u) g r' := by
  have := Blk.set_ h i u
  rw [List.setIfInBounds_toArray, e] at this
  exact this
theorem Sb.cell_ {w : World} {g : Nat} {r : RS} (h : Sb w g r) (i : Nat) (u : Value) (e : (sc r)[i]? = some u) : w.cell? ⟨g, i, none⟩ = some u :=
  Blk.cell h i u (by rw [List.getElem?_toArray]; exact e)
end Go.Proofs.YtbeeojccadeboaaGreat.Model
