/-
  'copy' BETWEEN SLICES OF ELEMENTS OF k CELLS, of my own: the run, and the law for the walk. No conditions beyond those that each theorem states. Nothing of the program is named here.
-/
import Derived.Test.YtddgdhaioomnnaaMemA
import Derived.Test.YtddgdhaioomnnaaRows
import Derived.LoopTactic
import Derived.Deep.QuietTactic
import Derived.BigQuiet
import Derived.RegionTactic
import Derived.Laws.StructEq
import Derived.StillTailTactics
import Derived.WalkKit
import Derived.ProofKit
import Derived.OpenShut
import Derived.Lib.Hide
import Derived.OwnWalk
import Derived.Lib.SliceRun
import Derived.Laws.CopyOwn
import Derived.Lib.AppendZerosOnto
import Derived.Laws.NewBlocks
import Derived.Lib.Overlaps
namespace Go.Proofs.Ytddgdhaioomnnaa.Heap
open Go.ChangeShapes Go.WideShapes Go.ChangeAt Go.RowKit

structure Cell where
  live : Bool
  value : Int
  deriving DecidableEq, Inhabited

def cc (c : Cell) : List Value := [.bool c.live, .int .i64 c.value]
def cs (h : List Cell) : List Value := h.flatMap cc

theorem cs_nil : cs [] = [] := rfl
theorem cs_len (h : List Cell) : (cs h).length = h.length * 2 := by
  induction h with
  | nil => rfl
  | cons c h ih => simp [cs, cc] at *; omega
theorem cs_0 (h : List Cell) (k : Nat) (hk : k < h.length) : (cs h)[k * 2]? = some (.bool (h[k]'hk).live) := by
  induction h generalizing k with
  | nil => simp at hk
  | cons c h ih =>
    cases k with
    | zero => rfl
    | succ k =>
      have : (k + 1) * 2 = k * 2 + 2 := by omega
      rw [this]
      simpa [cs, cc] using ih k (by simpa using hk)
theorem cs_1 (h : List Cell) (k : Nat) (hk : k < h.length) : (cs h)[k * 2 + 1]? = some (.int .i64 (h[k]'hk).value) := by
  induction h generalizing k with
  | nil => simp at hk
  | cons c h ih =>
    cases k with
    | zero => rfl
    | succ k =>
      have : (k + 1) * 2 + 1 = k * 2 + 1 + 2 := by omega
      rw [this]
      simpa [cs, cc] using ih k (by simpa using hk)

/-- One cell of the heap, in memory. -/
theorem at_cell {w : World} {A : Option Addr} {n : Nat} {h : List Cell} (hr : Mem.Rd w 2 A n (cs h)) (k : Nat) (hk : k < n) :
    ∃ b off, ∃ x : Cell, A = some ⟨b, off, none⟩ ∧ h[k]? = some x ∧ w.cell? ⟨b, off + k * 2, none⟩ = some (.bool x.live) ∧ w.cell? ⟨b, off + k * 2 + 1, none⟩ = some (.int .i64 x.value) := by
  have hl : h.length = n := by have := hr.1; rw [cs_len] at this; omega
  obtain ⟨b, off, rfl, hc⟩ := hr.2 (by omega)
  have hkl : k < h.length := by omega
  exact ⟨b, off, h[k], rfl, List.getElem?_eq_getElem hkl, hc _ _ (cs_0 h k hkl), by rw [Nat.add_assoc]; exact hc _ _ (cs_1 h k hkl)⟩

def vB (n : Int) : Bool := decide (-2147483648 ≤ n ∧ n ≤ 2147483647)
/-- May it stand in a heap? -/
def cellB (c : Cell) : Bool := vB c.value && (c.live || c.value == 0)
def rightB (h : List Cell) : Bool := decide (0 < h.length ∧ h.length < 65) && h.all cellB
theorem take_all {α : Type} (h : List α) (p : α → Bool) (k : Nat) (x : α) (hk : h[k]? = some x) : (h.take (k + 1)).all p = ((h.take k).all p && p x) := by
  obtain ⟨hl, rfl⟩ := List.getElem?_eq_some_iff.1 hk
  rw [List.take_succ_eq_append_getElem hl, List.all_append]; simp
theorem right_bad (h : List Cell) (k : Nat) (x : Cell) (hk : h[k]? = some x) (hb : cellB x = false) : rightB h = false := by
  obtain ⟨hl, rfl⟩ := List.getElem?_eq_some_iff.1 hk
  unfold rightB
  rw [Bool.and_eq_false_iff]; right
  rw [List.all_eq_false]
  exact ⟨h[k], List.getElem_mem hl, by simp [hb]⟩
theorem take_eq {α : Type} (x y : List α) (k : Nat) (c : α) (hx : x[k]? = some c) (hy : y[k]? = some c) (h : x.take k = y.take k) : x.take (k + 1) = y.take (k + 1) := by
  rw [List.take_add_one, List.take_add_one, h, hx, hy]
theorem take_ne {α : Type} [DecidableEq α] (x y : List α) (k : Nat) (c d : α) (hx : x[k]? = some c) (hy : y[k]? = some d) (h : c ≠ d) : decide (x = y) = false := by
  refine decide_eq_false ?_
  rintro rfl
  rw [hx] at hy; injection hy with e; exact h e
/-- With another cell at a place, if there is one. -/
def setAt (h : List Cell) (at_ : Int) (c : Cell) : List Cell := if at_ < 0 then h else h.set at_.toNat c
theorem setAt_len (h : List Cell) (a : Int) (c : Cell) : (setAt h a c).length = h.length := by unfold setAt; split <;> simp
theorem setAt_at (h : List Cell) (k : Nat) (c x : Cell) (hk : h[k]? = some x) : (setAt h (k : Int) c)[k]? = some c := by
  obtain ⟨hl, rfl⟩ := List.getElem?_eq_some_iff.1 hk
  unfold setAt; rw [if_neg (by omega)]; simp [hl]
theorem setAt_ne (h : List Cell) (a : Int) (k : Nat) (c x : Cell) (hk : h[k]? = some x) (hne : (k : Int) ≠ a) : (setAt h a c)[k]? = some x := by
  unfold setAt; split
  · exact hk
  · rw [List.getElem?_set_ne (by omega)]; exact hk
theorem cs_take (h : List Cell) (k : Nat) (x : Cell) (hk : h[k]? = some x) : cs (h.take (k + 1)) = cs (h.take k) ++ cc x := by
  rw [List.take_add_one, hk]; simp [cs]

/-- Is there such a cell that is live? -/
def liveAt (h : List Cell) (cell : Int) : Bool := if cell < 0 then false else (h[cell.toNat]?.map Cell.live).getD false
def valAt (h : List Cell) (cell : Int) : Int := (h[cell.toNat]?.map Cell.value).getD 0
theorem live_at (h : List Cell) (k : Nat) (x : Cell) (hk : h[k]? = some x) : liveAt h (k : Int) = x.live := by
  unfold liveAt; rw [if_neg (by omega)]; simp [hk]
theorem val_at (h : List Cell) (k : Nat) (x : Cell) (hk : h[k]? = some x) : valAt h (k : Int) = x.value := by
  unfold valAt; simp [hk]
theorem live_in (h : List Cell) (cell : Int) (hl : liveAt h cell = true) : 0 ≤ cell ∧ cell.toNat < h.length ∧ ∃ x, h[cell.toNat]? = some x ∧ x.live = true := by
  unfold liveAt at hl
  split at hl
  · cases hl
  · rename_i hc
    cases hx : h[cell.toNat]? with
    | none => simp [hx] at hl
    | some x => simp [hx] at hl; exact ⟨by omega, (List.getElem?_eq_some_iff.1 hx).1, x, rfl, hl⟩
theorem live_out (h : List Cell) (cell : Int) (hc : cell < 0 ∨ (h.length : Int) ≤ cell) : liveAt h cell = false := by
  unfold liveAt; split
  · rfl
  · rw [List.getElem?_eq_none (by omega)]; rfl

/-- The first that is not live. -/
def free1 (h : List Cell) : Option Nat := h.findIdx? (fun c => !c.live)
theorem free1_at (h : List Cell) (k : Nat) (x : Cell) (hk : h[k]? = some x) (hx : x.live = false) (ha : (h.take k).all Cell.live = true) : free1 h = some k := by
  obtain ⟨hl, rfl⟩ := List.getElem?_eq_some_iff.1 hk
  unfold free1
  rw [List.findIdx?_eq_some_iff_getElem]
  refine ⟨hl, by simpa using hx, fun j hj => ?_⟩
  have : h[j]'(by omega) ∈ h.take k := by
    rw [List.mem_take_iff_getElem]; exact ⟨j, by omega, rfl⟩
  have := List.all_eq_true.1 ha _ this
  simpa using this
theorem free1_none (h : List Cell) (ha : h.all Cell.live = true) : free1 h = none := by
  unfold free1
  rw [List.findIdx?_eq_none_iff]
  intro x hx
  have := List.all_eq_true.1 ha x hx
  simpa using this

def allocS (h : List Cell) (v : Int) : List Cell × Int × Int :=
  if (rightB h && vB v) = true then (match free1 h with | some k => (setAt h (k : Int) ⟨true, v⟩, (k : Int), 0) | none => (h, 0, 4)) else (h, 0, 1)
def getS (h : List Cell) (cell : Int) : Int × Int :=
  if rightB h = true then (if liveAt h cell = true then (valAt h cell, 0) else (0, 3)) else (0, 1)
def freeS (h : List Cell) (cell : Int) : List Cell × Int :=
  if rightB h = true then (if liveAt h cell = true then (setAt h cell ⟨false, 0⟩, 0) else (h, 3)) else (h, 1)

structure Write where
  cell : Int
  value : Int
  deriving DecidableEq, Inhabited
def putAll (h : List Cell) (l : List Write) : List Cell := l.foldl (fun h w => setAt h w.cell ⟨true, w.value⟩) h
def putS (h : List Cell) (l : List Write) : List Cell × Int :=
  if (rightB h && l.all (fun w => vB w.value)) = true then (if l.all (fun w => liveAt h w.cell) = true then (putAll h l, 0) else (h, 3)) else (h, 1)

def wc (c : Write) : List Value := [.int .i64 c.cell, .int .i64 c.value]
def ws (h : List Write) : List Value := h.flatMap wc
theorem ws_len (h : List Write) : (ws h).length = h.length * 2 := by
  induction h with
  | nil => rfl
  | cons c h ih => simp [ws, wc] at *; omega
theorem ws_at (h : List Write) (k : Nat) (x : Write) (hk : h[k]? = some x) : (ws h)[k * 2]? = some (.int .i64 x.cell) ∧ (ws h)[k * 2 + 1]? = some (.int .i64 x.value) := by
  induction h generalizing k with
  | nil => simp at hk
  | cons c h ih =>
    cases k with
    | zero => simp at hk; subst hk; exact ⟨rfl, rfl⟩
    | succ k =>
      have e1 : (k + 1) * 2 = k * 2 + 2 := by omega
      have e2 : (k + 1) * 2 + 1 = k * 2 + 1 + 2 := by omega
      rw [e1]
      obtain ⟨i1, i2⟩ := ih k (by simpa using hk)
      exact ⟨by simpa [ws, wc] using i1, by simpa [ws, wc] using i2⟩
theorem at_write {w : World} {A : Option Addr} {n : Nat} {h : List Write} (hr : Mem.Rd w 2 A n (ws h)) (k : Nat) (hk : k < n) :
    ∃ b off, ∃ x : Write, A = some ⟨b, off, none⟩ ∧ h[k]? = some x ∧ w.cell? ⟨b, off + k * 2, none⟩ = some (.int .i64 x.cell) ∧ w.cell? ⟨b, off + k * 2 + 1, none⟩ = some (.int .i64 x.value) := by
  have hl : h.length = n := by have := hr.1; rw [ws_len] at this; omega
  obtain ⟨b, off, rfl, hc⟩ := hr.2 (by omega)
  have hkl : k < h.length := by omega
  have hx := List.getElem?_eq_getElem hkl
  obtain ⟨i1, i2⟩ := ws_at h k _ hx
  exact ⟨b, off, _, rfl, hx, hc _ _ i1, by rw [Nat.add_assoc]; exact hc _ _ i2⟩
theorem putAll_take (h : List Cell) (l : List Write) (j : Nat) (x : Write) (hx : l[j]? = some x) : putAll h (l.take (j + 1)) = setAt (putAll h (l.take j)) x.cell ⟨true, x.value⟩ := by
  rw [List.take_add_one, hx]; simp [putAll]
theorem putAll_len (h : List Cell) (l : List Write) : (putAll h l).length = h.length := by
  induction l generalizing h with
  | nil => rfl
  | cons x l ih => simp only [putAll, List.foldl_cons] at *; rw [ih, setAt_len]
end Go.Proofs.Ytddgdhaioomnnaa.Heap

namespace Go.Proofs.Ytddgdhaioomnnaa.Heap

theorem set_right (h : List Cell) (a : Int) (c : Cell) (hr : rightB h = true) (hc : cellB c = true) : rightB (setAt h a c) = true := by
  unfold rightB at *
  rw [setAt_len]
  rw [Bool.and_eq_true] at *
  refine ⟨hr.1, ?_⟩
  rw [List.all_eq_true] at *
  intro x hx
  unfold setAt at hx
  split at hx
  · exact hr.2 x hx
  · rcases List.mem_or_eq_of_mem_set hx with hx | rfl
    · exact hr.2 x hx
    · exact hc
theorem right_len (h : List Cell) (hr : rightB h = true) : 0 < h.length ∧ h.length < 65 := by
  unfold rightB at hr; rw [Bool.and_eq_true] at hr; simpa using hr.1
theorem right_cell (h : List Cell) (hr : rightB h = true) (k : Nat) (x : Cell) (hk : h[k]? = some x) : cellB x = true := by
  unfold rightB at hr; rw [Bool.and_eq_true] at hr
  exact (List.all_eq_true.1 hr.2) x (List.mem_of_getElem? hk)
theorem free1_some (f : List Cell) (c : Nat) (x : Cell) (hc : f[c]? = some x) (hx : x.live = false) :
    ∃ k y, free1 f = some k ∧ k ≤ c ∧ f[k]? = some y ∧ y.live = false ∧ ∀ i, i < k → ∃ z, f[i]? = some z ∧ z.live = true := by
  obtain ⟨hl, rfl⟩ := List.getElem?_eq_some_iff.1 hc
  cases hf : free1 f with
  | none =>
    unfold free1 at hf
    rw [List.findIdx?_eq_none_iff] at hf
    have := hf _ (List.getElem_mem hl)
    rw [hx] at this; simp at this
  | some k =>
    have hf' := hf
    unfold free1 at hf'
    rw [List.findIdx?_eq_some_iff_getElem] at hf'
    obtain ⟨hk, hn, hb⟩ := hf'
    refine ⟨k, f[k], rfl, ?_, List.getElem?_eq_getElem hk, by simpa using hn, fun i hi => ⟨f[i]'(by omega), List.getElem?_eq_getElem _, by simpa using hb i hi⟩⟩
    rcases Nat.lt_or_ge c k with h | h
    · have := hb c h; rw [hx] at this; simp at this
    · exact h
theorem again (h : List Cell) (cell v : Int) (hr : rightB h = true) (hl : liveAt h cell = true) (hv : vB v = true) :
    ∃ c k : Nat, cell = c ∧ c < h.length ∧ k ≤ c ∧ getS (setAt h cell ⟨false, 0⟩) cell = (0, 3) ∧
      allocS (setAt h cell ⟨false, 0⟩) v = (setAt (setAt h cell ⟨false, 0⟩) k ⟨true, v⟩, (k : Int), 0) ∧
      getS (setAt (setAt h cell ⟨false, 0⟩) k ⟨true, v⟩) k = (v, 0) ∧
      (∀ i x, i ≠ c → i ≠ k → h[i]? = some x → (setAt (setAt h cell ⟨false, 0⟩) k ⟨true, v⟩)[i]? = some x) ∧ (∀ i x, i < k → h[i]? = some x → x.live = true) := by
  obtain ⟨h0, h1, x, hx, hlv⟩ := live_in h cell hl
  obtain ⟨c, rfl⟩ := Int.eq_ofNat_of_zero_le h0
  simp only [Int.toNat_natCast] at hx h1
  have rf : rightB (setAt h (c : Int) ⟨false, 0⟩) = true := set_right h _ _ hr (by decide)
  have fc := setAt_at h c ⟨false, 0⟩ _ hx
  obtain ⟨k, y, hk, hkc, hy, hyl, hb⟩ := free1_some _ c _ fc rfl
  have ra : rightB (setAt (setAt h (c : Int) ⟨false, 0⟩) k ⟨true, v⟩) = true := set_right _ _ _ rf (by unfold cellB; simp [hv])
  have ak := setAt_at (setAt h (c : Int) ⟨false, 0⟩) k ⟨true, v⟩ _ hy
  refine ⟨c, k, rfl, h1, hkc, ?_, ?_, ?_, ?_, ?_⟩
  · unfold getS; rw [if_pos rf, live_at _ c _ fc]; rfl
  · unfold allocS; rw [rf, hv, hk]; rfl
  · unfold getS; rw [if_pos ra, live_at _ k _ ak, val_at _ k _ ak]; rfl
  · intro i x hic hik hi
    refine setAt_ne _ _ i _ _ ?_ (by omega)
    exact setAt_ne _ _ i _ _ hi (by omega)
  · intro i x hik hi
    obtain ⟨z, hz, hzl⟩ := hb i hik
    rw [setAt_ne _ _ i _ _ hi (by omega)] at hz
    injection hz with e; rw [e]; exact hzl
theorem free_cases (h : List Cell) (cell : Int) : ((freeS h cell).1 = h ∧ (freeS h cell).2 ≠ 0) ∨
    (rightB h = true ∧ liveAt h cell = true ∧ freeS h cell = (setAt h cell ⟨false, 0⟩, 0)) := by
  unfold freeS
  split
  · split
    · right; exact ⟨by assumption, by assumption, rfl⟩
    · left; simp
  · left; simp
end Go.Proofs.Ytddgdhaioomnnaa.Heap

namespace Go.Proofs.Ytddgdhaioomnnaa.Heap

def newS (n : Int) : List Cell × Int := if 1 ≤ n ∧ n ≤ 64 then (List.replicate n.toNat ⟨false, 0⟩, 0) else ([], 1)
def liveS (h : List Cell) : List Nat := if rightB h = true then (List.range h.length).filter (fun k => liveAt h (k : Int)) else []

/-- How many of the first i are live. -/
def cnt (h : List Cell) (i : Nat) : Nat := ((List.range i).filter (fun k : Nat => liveAt h (k : Int))).length
theorem cnt_succ (h : List Cell) (i : Nat) : cnt h (i + 1) = cnt h i + (if liveAt h (i : Int) = true then 1 else 0) := by
  unfold cnt; rw [List.range_succ, List.filter_append, List.length_append]
  by_cases hl : liveAt h (i : Int) = true <;> simp [hl]
theorem cnt_le (h : List Cell) (i : Nat) : cnt h i ≤ i := by
  unfold cnt; have := List.length_filter_le (fun k : Nat => liveAt h (k : Int)) (List.range i); simpa using this
theorem live_nth (h : List Cell) (hr : rightB h = true) (i : Nat) (hi : i < h.length) (hl : liveAt h (i : Int) = true) : (liveS h)[cnt h i]? = some i := by
  unfold liveS; rw [if_pos hr]
  obtain ⟨m, hm⟩ : ∃ m, h.length = (i + 1) + m := ⟨h.length - (i + 1), by omega⟩
  rw [hm, List.range_add, List.range_succ, List.filter_append, List.filter_append, List.append_assoc, List.getElem?_append_right (by unfold cnt; exact Nat.le_refl _)]
  unfold cnt; simp [hl]
theorem live_all (h : List Cell) (hr : rightB h = true) : (liveS h).length = cnt h h.length := by unfold liveS cnt; rw [if_pos hr]
theorem cnt_count (h : List Cell) : cnt h h.length = h.countP Cell.live := by
  have e : h = (List.range h.length).map (fun k => h.getD k default) := by
    apply List.ext_getElem
    · simp
    · intro i h1 h2
      simp [h1]
  conv => rhs; rw [e]
  rw [List.countP_map, List.countP_eq_length_filter]
  unfold cnt
  congr 1
  apply List.filter_congr
  intro k hk
  have hk : k < h.length := List.mem_range.1 hk
  rw [live_at h k _ (List.getElem?_eq_getElem hk)]
  simp [hk]
theorem live_more (h : List Cell) (v : Int) (k : Nat) (x : Cell) (hk : h[k]? = some x) (hx : x.live = false) :
    (setAt h (k : Int) ⟨true, v⟩).countP Cell.live = h.countP Cell.live + 1 := by
  obtain ⟨hl, rfl⟩ := List.getElem?_eq_some_iff.1 hk
  unfold setAt; rw [if_neg (by omega)]
  simp only [Int.toNat_natCast]
  rw [List.countP_set hl]
  simp [hx]
theorem full_all (h : List Cell) (hf : free1 h = none) : h.countP Cell.live = h.length := by
  rw [List.countP_eq_length]
  intro x hx
  unfold free1 at hf
  rw [List.findIdx?_eq_none_iff] at hf
  have := hf x hx; simpa using this

/-- One write is refused just where nothing is got. -/
theorem put_one (h : List Cell) (hr : rightB h = true) (i : Int) (v : Int) (hv : vB v = true) :
    putS h [⟨i, v⟩] = if liveAt h i = true then (setAt h i ⟨true, v⟩, 0) else (h, 3) := by
  unfold putS; simp [hr, hv, putAll]

theorem alloc_cases (h : List Cell) (v : Int) (hr : rightB h = true) (hv : vB v = true) :
    (∃ k x : _, h[k]? = some x ∧ x.live = false ∧ allocS h v = (setAt h ((k : Nat) : Int) ⟨true, v⟩, (k : Int), 0)) ∨ (free1 h = none ∧ allocS h v = (h, 0, 4)) := by
  unfold allocS; rw [hr, hv]
  cases hf : free1 h with
  | none => right; exact ⟨rfl, rfl⟩
  | some k =>
    left
    unfold free1 at hf
    rw [List.findIdx?_eq_some_iff_getElem] at hf
    obtain ⟨hk, hn, _⟩ := hf
    exact ⟨k, h[k], List.getElem?_eq_getElem hk, by simpa using hn, rfl⟩

/-- A write of a live cell leaves who is live. -/
theorem set_live (h : List Cell) (a : Int) (v : Int) (hl : liveAt h a = true) (c : Int) : liveAt (setAt h a ⟨true, v⟩) c = liveAt h c := by
  obtain ⟨h0, h1, x, hx, hlv⟩ := live_in h a hl
  obtain ⟨k, rfl⟩ := Int.eq_ofNat_of_zero_le h0
  simp only [Int.toNat_natCast] at hx h1
  by_cases hc : 0 ≤ c
  · obtain ⟨j, rfl⟩ := Int.eq_ofNat_of_zero_le hc
    by_cases hj : j < h.length
    · by_cases e : j = k
      · subst e
        rw [live_at _ j _ (setAt_at h j _ _ hx), hl]
      · rw [live_at _ j _ (setAt_ne h k j _ _ (List.getElem?_eq_getElem hj) (by omega)), live_at _ j _ (List.getElem?_eq_getElem hj)]
    · rw [live_out _ _ (by rw [setAt_len]; omega), live_out _ _ (by omega)]
  · rw [live_out _ _ (by omega), live_out _ _ (by omega)]
theorem putAll_live (h : List Cell) (l : List Write) (hl : l.all (fun w => liveAt h w.cell) = true) (c : Int) : liveAt (putAll h l) c = liveAt h c := by
  induction l generalizing h with
  | nil => rfl
  | cons x l ih =>
    simp only [List.all_cons, Bool.and_eq_true] at hl
    have hs := set_live h x.cell x.value hl.1
    show liveAt (putAll (setAt h x.cell ⟨true, x.value⟩) l) c = _
    rw [ih, hs]
    rw [List.all_eq_true] at *
    intro y hy; rw [hs]; exact hl.2 y hy
theorem putAll_right (h : List Cell) (l : List Write) (hr : rightB h = true) (hv : l.all (fun w => vB w.value) = true) : rightB (putAll h l) = true := by
  induction l generalizing h with
  | nil => exact hr
  | cons x l ih =>
    simp only [List.all_cons, Bool.and_eq_true] at hv
    exact ih (setAt h x.cell ⟨true, x.value⟩) (set_right h _ _ hr (by unfold cellB; simp [hv.1])) hv.2
/-- What a cell holds behind many writes: the last one of it. -/
def lastV (i : Nat) (l : List Write) (v : Int) : Int := l.foldl (fun v w => if w.cell = (i : Int) then w.value else v) v
theorem lastV_take (i : Nat) (l : List Write) (v : Int) (j : Nat) (x : Write) (hx : l[j]? = some x) : lastV i (l.take (j + 1)) v = if x.cell = (i : Int) then x.value else lastV i (l.take j) v := by
  unfold lastV; rw [List.take_add_one, hx]; simp
theorem putAll_at (h : List Cell) (l : List Write) (hl : l.all (fun w => liveAt h w.cell) = true) (i : Nat) (x : Cell) (hx : h[i]? = some x) : (putAll h l)[i]? = some ⟨x.live, lastV i l x.value⟩ := by
  induction l generalizing h x with
  | nil => simpa [putAll, lastV] using hx
  | cons y l ih =>
    simp only [List.all_cons, Bool.and_eq_true] at hl
    have hs := set_live h y.cell y.value hl.1
    have hl' : l.all (fun w => liveAt (setAt h y.cell ⟨true, y.value⟩) w.cell) = true := by
      rw [List.all_eq_true] at *
      intro z hz; rw [hs]; exact hl.2 z hz
    show (putAll (setAt h y.cell ⟨true, y.value⟩) l)[i]? = _
    by_cases e : y.cell = (i : Int)
    · have hli := hl.1
      rw [e, live_at h i _ hx] at hli
      have := ih (setAt h y.cell ⟨true, y.value⟩) hl' ⟨true, y.value⟩ (by rw [e]; exact setAt_at h i _ _ hx)
      rw [this, hli]
      simp [lastV, e]
    · have := ih (setAt h y.cell ⟨true, y.value⟩) hl' x (setAt_ne h y.cell i _ _ hx (fun h => e h.symm))
      rw [this]
      simp [lastV, e]
theorem put_cases (h : List Cell) (l : List Write) (hr : rightB h = true) :
    (l.all (fun w => vB w.value) = true ∧ l.all (fun w => liveAt h w.cell) = true ∧ putS h l = (putAll h l, 0)) ∨
    (∃ e, e ≠ 0 ∧ putS h l = (h, e) ∧ ¬ (l.all (fun w => vB w.value) = true ∧ l.all (fun w => liveAt h w.cell) = true)) := by
  unfold putS; rw [hr]
  by_cases h1 : l.all (fun w => vB w.value) = true
  · by_cases h2 : l.all (fun w => liveAt h w.cell) = true
    · left; exact ⟨h1, h2, by simp [h1, h2]⟩
    · right; exact ⟨3, by decide, by simp [h1, h2], fun h => h2 h.2⟩
  · right; exact ⟨1, by decide, by simp [h1], fun h => h1 h.1⟩
theorem putAll_append (h : List Cell) (a b : List Write) : putAll h (a ++ b) = putAll (putAll h a) b := by unfold putAll; rw [List.foldl_append]

/-- A write of what stands there changes nothing. -/
theorem set_same (h : List Cell) (i : Nat) (x : Cell) (hx : h[i]? = some x) (hl : x.live = true) : setAt h (i : Int) ⟨true, x.value⟩ = h := by
  obtain ⟨hi, rfl⟩ := List.getElem?_eq_some_iff.1 hx
  unfold setAt; rw [if_neg (by omega)]
  simp only [Int.toNat_natCast]
  have : (⟨true, h[i].value⟩ : Cell) = h[i] := by rw [← hl]
  rw [this]; simp
def own_ (h : List Cell) (i : Nat) : Write := ⟨(i : Int), valAt h (i : Int)⟩
theorem putAll_own (h : List Cell) (l : List Nat) (hl : ∀ i ∈ l, liveAt h (i : Int) = true) : putAll h (l.map (own_ h)) = h := by
  induction l with
  | nil => rfl
  | cons i l ih =>
    have h1 := hl i (by simp)
    obtain ⟨_, _, x, hx, hlv⟩ := live_in h i h1
    simp only [Int.toNat_natCast] at hx
    show putAll (setAt h (i : Int) ⟨true, valAt h (i : Int)⟩) (l.map (own_ h)) = h
    rw [val_at h i x hx, set_same h i x hx hlv]
    exact ih (fun j hj => hl j (by simp [hj]))
theorem liveS_mem (h : List Cell) (i : Nat) (hi : i ∈ liveS h) : rightB h = true ∧ i < h.length ∧ liveAt h (i : Int) = true := by
  unfold liveS at hi
  split at hi
  · rename_i hr
    rw [List.mem_filter, List.mem_range] at hi
    exact ⟨hr, hi.1, hi.2⟩
  · simp at hi
theorem put_own (h : List Cell) (hr : rightB h = true) : putS h ((liveS h).map (own_ h)) = (h, 0) := by
  have h1 : ((liveS h).map (own_ h)).all (fun w => vB w.value) = true := by
    rw [List.all_eq_true]; intro w hw
    obtain ⟨i, hi, rfl⟩ := List.mem_map.1 hw
    obtain ⟨_, hl, _⟩ := liveS_mem h i hi
    have hc := right_cell h hr i _ (List.getElem?_eq_getElem hl)
    unfold cellB at hc; rw [Bool.and_eq_true] at hc
    simp only [own_]; rw [val_at h i _ (List.getElem?_eq_getElem hl)]; exact hc.1
  have h2 : ((liveS h).map (own_ h)).all (fun w => liveAt h w.cell) = true := by
    rw [List.all_eq_true]; intro w hw
    obtain ⟨i, hi, rfl⟩ := List.mem_map.1 hw
    exact (liveS_mem h i hi).2.2
  unfold putS; rw [hr, h1, h2, if_pos (by rfl), if_pos rfl, putAll_own h _ (fun i hi => (liveS_mem h i hi).2.2)]
end Go.Proofs.Ytddgdhaioomnnaa.Heap

namespace Go.Proofs.Ytddgdhaioomnnaa.Heap
open Go.ChangeShapes Go.WideShapes Go.ChangeAt Go.RowKit Mem

set_option maxRecDepth 100000 in
theorem tCell : SliceT Try.prog 23 57 2 16 := SliceT.mk_ (z := .agg #[.bool false, .int .i64 0]) Try.underlying23 (by kernel_rfl) rfl (by decide)




end Go.Proofs.Ytddgdhaioomnnaa.Heap

namespace Go.Proofs.Ytddgdhaioomnnaa.Heap
open Go.ChangeShapes Go.WideShapes Go.ChangeAt Go.RowKit Mem



/-- A heap, and an error's number, are returned. -/
def RetH (w : World) (n : Nat) (r : List Cell × Int) (e : Ending) (w' : World) : Prop :=
  ∃ B d, e = .returned (.tuple #[.slice B n d, .int .i64 r.2]) ∧ Rd w' 2 B n (cs r.1) ∧ Below w.heap.size w w'

end Go.Proofs.Ytddgdhaioomnnaa.Heap

namespace Go.Proofs.Ytddgdhaioomnnaa.Heap
open Go.ChangeShapes Go.WideShapes Go.ChangeAt Go.RowKit Mem

/-- A heap, a cell's number, and an error's number, are returned. -/
def RetA (w : World) (n : Nat) (r : List Cell × Int × Int) (e : Ending) (w' : World) : Prop :=
  ∃ B d, e = .returned (.tuple #[.slice B n d, .int .i64 r.2.1, .int .i64 r.2.2]) ∧ Rd w' 2 B n (cs r.1) ∧ Below w.heap.size w w'


end Go.Proofs.Ytddgdhaioomnnaa.Heap

namespace Go.Proofs.Ytddgdhaioomnnaa.Span

/-- The value to which a number goes round. -/
def sw (n : Int) : Int := (n + 2147483648) % 4294967296 - 2147483648

theorem sw_bd (n : Int) : -2147483648 ≤ sw n ∧ sw n ≤ 2147483647 := by unfold sw; omega
theorem sw_in (n : Int) (h : -2147483648 ≤ n ∧ n ≤ 2147483647) : sw n = n := by unfold sw; omega
theorem sw_emod (n : Int) : sw n % 4294967296 = n % 4294967296 := by unfold sw; omega
theorem sw_of (a b : Int) (h : a % 4294967296 = b % 4294967296) : sw a = sw b := by unfold sw; omega
theorem sw_inj (a b : Int) (h : sw a = sw b) : a % 4294967296 = b % 4294967296 := by
  rw [← sw_emod a, ← sw_emod b, h]
theorem sw_sw (n : Int) : sw (sw n) = sw n := sw_of _ _ (sw_emod n)
theorem sw_add (a b : Int) : sw (sw a + sw b) = sw (a + b) :=
  sw_of _ _ (by rw [Int.add_emod, sw_emod, sw_emod, ← Int.add_emod])
theorem sw_addl (a b : Int) : sw (sw a + b) = sw (a + b) :=
  sw_of _ _ (by rw [Int.add_emod, sw_emod, ← Int.add_emod])
theorem sw_addr (a b : Int) : sw (a + sw b) = sw (a + b) :=
  sw_of _ _ (by rw [Int.add_emod, sw_emod, ← Int.add_emod])
theorem sw_sub (a b : Int) : sw (sw a - sw b) = sw (a - b) :=
  sw_of _ _ (by rw [Int.sub_emod, sw_emod, sw_emod, ← Int.sub_emod])
theorem sw_subl (a b : Int) : sw (sw a - b) = sw (a - b) :=
  sw_of _ _ (by rw [Int.sub_emod, sw_emod, ← Int.sub_emod])
theorem sw_mul (a b : Int) : sw (sw a * sw b) = sw (a * b) :=
  sw_of _ _ (by rw [Int.mul_emod, sw_emod, sw_emod, ← Int.mul_emod])
theorem sw_mull (a b : Int) : sw (sw a * b) = sw (a * b) :=
  sw_of _ _ (by rw [Int.mul_emod, sw_emod, ← Int.mul_emod])
theorem sw_mulr (a b : Int) : sw (a * sw b) = sw (a * b) :=
  sw_of _ _ (by rw [Int.mul_emod, sw_emod, ← Int.mul_emod])

/-- A product of two values fits well into 64 bits. -/
theorem mul_bd (x y : Int) (hx : -2147483648 ≤ x ∧ x ≤ 2147483647) (hy : -2147483648 ≤ y ∧ y ≤ 2147483648) :
    -4611686018427387904 ≤ x * y ∧ x * y ≤ 4611686018427387904 := by
  have h1 : x * y ≤ x.natAbs * y.natAbs := by
    rw [← Int.natCast_mul, ← Int.natAbs_mul]; omega
  have h2 : -(x.natAbs * y.natAbs : Int) ≤ x * y := by
    rw [← Int.natCast_mul, ← Int.natAbs_mul]; omega
  have h3 : x.natAbs * y.natAbs ≤ 2147483648 * 2147483648 := Nat.mul_le_mul (by omega) (by omega)
  have h4 : ((x.natAbs * y.natAbs : Nat) : Int) ≤ 4611686018427387904 := by omega
  rw [Int.natCast_mul] at h4
  omega
/-- Left over by 2^32 towards nought, then put right by 2^32, if it is too low or too great. -/
theorem rem_sw (n : Int) : (n.tmod 4294967296 < -2147483648 → sw n = n.tmod 4294967296 + 4294967296) ∧
    (2147483647 < n.tmod 4294967296 → sw n = n.tmod 4294967296 - 4294967296) ∧
    (-2147483648 ≤ n.tmod 4294967296 → n.tmod 4294967296 ≤ 2147483647 → sw n = n.tmod 4294967296) := by
  have h : n.tmod 4294967296 = if 0 ≤ n then n % 4294967296 else -((-n) % 4294967296) := by
    split
    · rw [Int.tmod_eq_emod_of_nonneg (by assumption)]
    · rw [show n = -(-n) from by omega, Int.neg_tmod, Int.tmod_eq_emod_of_nonneg (by omega)]; simp
  simp only [h, sw]
  split
  all_goals omega
theorem rem_bd (n : Int) : -4294967296 < n.tmod 4294967296 ∧ n.tmod 4294967296 < 4294967296 := by
  by_cases h : 0 ≤ n
  · rw [Int.tmod_eq_emod_of_nonneg h]; omega
  · rw [show n = -(-n) from by omega, Int.neg_tmod, Int.tmod_eq_emod_of_nonneg (by omega)]; omega
/-- A number's low half, and how many halves are left. -/
theorem half_bd (y : Int) (hy : -2147483648 ≤ y ∧ y ≤ 2147483647) :
    (-65536 < y.tmod 65536 ∧ y.tmod 65536 < 65536) ∧
    (-32768 ≤ (y - y.tmod 65536).tdiv 65536 ∧ (y - y.tmod 65536).tdiv 65536 ≤ 32768) ∧
    y.tmod 65536 + (y - y.tmod 65536).tdiv 65536 * 65536 = y := by
  have h : y.tmod 65536 = if 0 ≤ y then y % 65536 else -((-y) % 65536) := by
    split
    · rw [Int.tmod_eq_emod_of_nonneg (by assumption)]
    · rw [show y = -(-y) from by omega, Int.neg_tmod, Int.tmod_eq_emod_of_nonneg (by omega)]; simp
  have hd : ∃ q, y - y.tmod 65536 = 65536 * q := by
    rw [h]; split
    · exact ⟨y / 65536, by omega⟩
    · exact ⟨-((-y) / 65536), by omega⟩
  have hl : -65536 < y.tmod 65536 ∧ y.tmod 65536 < 65536 ∧ (0 ≤ y → 0 ≤ y.tmod 65536) ∧ (y ≤ 0 → y.tmod 65536 ≤ 0) := by
    rw [h]; split <;> omega
  obtain ⟨q, hq⟩ := hd
  rw [hq, Int.mul_tdiv_cancel_left q (by omega)]
  omega
theorem whole_mod (n : Int) : (Go.RowKit.wrap64 (n - sw n)).tmod 4294967296 = 0 := by
  have h : ∃ q, Go.RowKit.wrap64 (n - sw n) = 4294967296 * q := by
    refine ⟨Go.RowKit.wrap64 (n - sw n) / 4294967296, ?_⟩
    unfold Go.RowKit.wrap64 sw; omega
  obtain ⟨q, hq⟩ := h
  rw [hq, Int.mul_tmod_right]
theorem half_mul (a b : Int) :
    sw (sw a * (sw b).tmod 65536 + sw (sw a * ((sw b) - (sw b).tmod 65536).tdiv 65536) * 65536) = sw (a * b) := by
  rw [← sw_addr, sw_mull (sw a * _), sw_addr, Int.mul_assoc, ← Int.mul_add, (half_bd (sw b) (sw_bd b)).2.2, sw_mul]
end Go.Proofs.Ytddgdhaioomnnaa.Span

namespace Go.Proofs.Ytddgdhaioomnnaa.Span
open Go.ChangeShapes Go.WideShapes Go.ChangeAt Go.RowKit

theorem ret_int {k : IntKind} {a b : Int} (h : a = b) : Ending.returned (.int k a) = .returned (.int k b) := by rw [h]
theorem ret_bool {a b : Bool} (h : a = b) : Ending.returned (.bool a) = .returned (.bool b) := by rw [h]

/-- Is it a value? -/
def rightB (n : Int) : Bool := decide (-2147483648 ≤ n ∧ n ≤ 2147483647)

set_option maxRecDepth 100000 in
theorem right_any (n : Int) (w : World) :
    Calls Try.prog 55 #[.int .i64 n] w fun e w' => e = .returned (.bool (rightB n)) ∧ w = w' := by
  by_cases h1 : -2147483648 ≤ n
  all_goals by_cases h2 : n ≤ 2147483647
  all_goals
    go_enter Try.func55, Try.ntmps55
    go_wp2
    go_ret
    exact ⟨ret_bool (by unfold rightB; simp [h1, h2]), rfl⟩

set_option maxRecDepth 100000 in
theorem wrap_any (n : Int) (w : World) :
    Calls Try.prog 85 #[.int .i64 n] w fun e w' => e = .returned (.int .i64 (sw n)) ∧ w = w' := by
  have hb := sw_bd n
  have e : wrap32 n = sw n := by unfold wrap32 sw; rfl
  go_enter Try.func85, Try.ntmps85
  go_wp2
  go_ret
  exact ⟨rfl, rfl⟩

set_option maxRecDepth 100000 in
theorem add_any (a b : Int) (w : World) :
    Calls Try.prog 86 #[.int .i64 a, .int .i64 b] w fun e w' => e = .returned (.int .i64 (sw (a + b))) ∧ w = w' := by
  have ha := sw_bd a
  have hb := sw_bd b
  go_enter Try.func86, Try.ntmps86
  go_wp2_with (go_at_call 85; refine (wrap_any _ _).mono ?_; rintro e w' ⟨rfl, rfl⟩)
  go_ret
  exact ⟨ret_int (sw_add a b), rfl⟩

set_option maxRecDepth 100000 in
theorem sub_any (a b : Int) (w : World) :
    Calls Try.prog 87 #[.int .i64 a, .int .i64 b] w fun e w' => e = .returned (.int .i64 (sw (a - b))) ∧ w = w' := by
  have ha := sw_bd a
  have hb := sw_bd b
  go_enter Try.func87, Try.ntmps87
  go_wp2_with (go_at_call 85; refine (wrap_any _ _).mono ?_; rintro e w' ⟨rfl, rfl⟩)
  go_ret
  exact ⟨ret_int (sw_sub a b), rfl⟩

set_option maxRecDepth 100000 in
theorem mul_any (a b : Int) (w : World) :
    Calls Try.prog 88 #[.int .i64 a, .int .i64 b] w fun e w' => e = .returned (.int .i64 (sw (a * b))) ∧ w = w' := by
  have ha := sw_bd a
  have hb := sw_bd b
  have hm := mul_bd (sw a) (sw b) ha (by omega)
  go_enter Try.func88, Try.ntmps88
  go_wp2_with (go_at_call 85; refine (wrap_any _ _).mono ?_; rintro e w' ⟨rfl, rfl⟩)
  go_ret
  exact ⟨ret_int (sw_mul a b), rfl⟩

/-- 1 for true, 0 for false. -/
def truthI (b : Bool) : Int := if b then 1 else 0

set_option maxRecDepth 100000 in
theorem truth_any (b : Bool) (w : World) :
    Calls Try.prog 79 #[.bool b] w fun e w' => e = .returned (.int .i64 (truthI b)) ∧ w = w' := by
  cases b
  all_goals
    go_enter Try.func79, Try.ntmps79
    go_wp2
    go_ret
    exact ⟨rfl, rfl⟩





end Go.Proofs.Ytddgdhaioomnnaa.Span

namespace Go.Proofs.Ytddgdhaioomnnaa.Heap
open Go.ChangeShapes Go.WideShapes Go.ChangeAt Go.RowKit Mem

def ic (k : Nat) : List Value := [.int .i64 (k : Int)]
def is (l : List Nat) : List Value := l.flatMap ic

theorem is_len (l : List Nat) : (is l).length = l.length := by
  induction l with
  | nil => rfl
  | cons x l ih => simp [is, ic] at *; omega
theorem is_at (l : List Nat) (k x : Nat) (hk : l[k]? = some x) : (is l)[k]? = some (.int .i64 (x : Int)) := by
  induction l generalizing k with
  | nil => simp at hk
  | cons y l ih =>
    cases k with
    | zero => simp at hk; subst hk; rfl
    | succ k => simpa [is, ic] using ih k (by simpa using hk)
theorem at_int {w : World} {A : Option Addr} {n : Nat} {l : List Nat} (hr : Rd w 1 A n (is l)) (k x : Nat) (hk : l[k]? = some x) :
    k < n ∧ ∃ b off, A = some ⟨b, off, none⟩ ∧ w.cell? ⟨b, off + k, none⟩ = some (.int .i64 (x : Int)) := by
  have hl : k < l.length := (List.getElem?_eq_some_iff.1 hk).1
  have h1 := hr.1
  rw [is_len] at h1
  obtain ⟨b, off, rfl, hc⟩ := hr.2 (by omega)
  exact ⟨by omega, b, off, rfl, hc _ _ (is_at l k x hk)⟩

def RetB (w : World) (b : Bool) (e : Ending) (w' : World) : Prop := e = .returned (.bool b) ∧ Below w.heap.size w w'
def RetG (w : World) (r : Int × Int) (e : Ending) (w' : World) : Prop := e = .returned (.tuple #[.int .i64 r.1, .int .i64 r.2]) ∧ Below w.heap.size w w'
def RetI (w : World) (m : Nat) (r : List Nat) (e : Ending) (w' : World) : Prop :=
  ∃ B d, e = .returned (.slice B m d) ∧ Rd w' 1 B m (is r) ∧ Below w.heap.size w w'



/-- The numbers of a struct fit 64 bits. -/
def Fits (n : Int) : Prop := -9223372036854775808 ≤ n ∧ n ≤ 9223372036854775807
set_option maxRecDepth 100000 in
theorem open_cells {H : Type} {enc : TypeId × Value → H} {W : World} {A : Option Addr} {n c : Nat} {d : DataW H} {p : List MemPlace}
    (h : DataW.Trod enc Try.prog W 0 (fun _ => true) true 23 (.slice A n c) d p) :
    n ≤ c ∧ c ≤ 9223372036854775807 ∧ ∃ xs : List Cell, Rd W 2 A n (cs xs) ∧ xs.length = n ∧ ∀ x ∈ xs, Fits x.value := by
  refine open_rows Try.underlying23 2 (by kernel_rfl) (by decide) cc (fun _ => rfl) (fun x => Fits x.value) ?_ h
  intro fuel cs' x hl ht
  obtain ⟨xs, n', _, _, _, hxl, hf⟩ := DataW.trod_struct Try.underlying57 ht
  match cs', hl with
  | [c0, c1], _ =>
    have g0 := hf 0 _ rfl
    have g1 := hf 1 _ rfl
    have k3 : Try.prog.cellsOf 3 = 1 := by kernel_rfl
    have k4 : Try.prog.cellsOf 4 = 1 := by kernel_rfl
    match xs, hxl with
    | [y0, y1], _ =>
      simp [k3, k4] at g0 g1
      obtain ⟨b, e0, _⟩ := DataW.trod_bool Try.underlying4 g0
      obtain ⟨m, e1, _, wf⟩ := DataW.trod_int Try.underlying3 g1
      simp at e0 e1
      subst e0 e1
      exact ⟨⟨b, m⟩, rfl, bounds_i64 wf⟩
set_option maxRecDepth 100000 in
theorem open_writes {H : Type} {enc : TypeId × Value → H} {W : World} {A : Option Addr} {n c : Nat} {d : DataW H} {p : List MemPlace}
    (h : DataW.Trod enc Try.prog W 0 (fun _ => true) true 24 (.slice A n c) d p) :
    n ≤ c ∧ c ≤ 9223372036854775807 ∧ ∃ xs : List Write, Rd W 2 A n (ws xs) ∧ xs.length = n ∧ ∀ x ∈ xs, Fits x.cell ∧ Fits x.value := by
  refine open_rows Try.underlying24 2 (by kernel_rfl) (by decide) wc (fun _ => rfl) (fun x => Fits x.cell ∧ Fits x.value) ?_ h
  intro fuel cs' x hl ht
  obtain ⟨xs, n', _, _, _, hxl, hf⟩ := DataW.trod_struct Try.underlying32 ht
  match cs', hl with
  | [c0, c1], _ =>
    have g0 := hf 0 _ rfl
    have g1 := hf 1 _ rfl
    have k3 : Try.prog.cellsOf 3 = 1 := by kernel_rfl
    match xs, hxl with
    | [y0, y1], _ =>
      simp [k3] at g0 g1
      obtain ⟨m0, e0, _, wf0⟩ := DataW.trod_int Try.underlying3 g0
      obtain ⟨m, e1, _, wf⟩ := DataW.trod_int Try.underlying3 g1
      simp at e0 e1
      subst e0 e1
      exact ⟨⟨m0, m⟩, rfl, bounds_i64 wf0, bounds_i64 wf⟩

end Go.Proofs.Ytddgdhaioomnnaa.Heap

namespace Go.Proofs.Ytddgdhaioomnnaa.Heap
open Go.ChangeShapes Go.WideShapes Go.ChangeAt Go.RowKit Mem

theorem own_set {w0 w : World} {e size n cap g : Nat} {xs : List Value} (h : Own w0 w e size (.slice (some ⟨g, 0, none⟩) n cap) n xs) (j : Nat) (u : Value) :
    Own w0 (w.setCell ⟨g, j, none⟩ u) e size (.slice (some ⟨g, 0, none⟩) n cap) n (xs.set j u) :=
  ⟨(h.1.stored j u).1, h.2.setCell (h.base g rfl) u⟩
theorem own_lay {w0 w : World} {e size n : Nat} {v : Value} {xs : List Value} (h : Own w0 w e size v n xs) (hn : 0 < n) : ∃ g cap, v = .slice (some ⟨g, 0, none⟩) n cap := by
  rcases h.1.2 with ⟨_, h0⟩ | ⟨g, cap, cur, rfl, _⟩
  · omega
  · exact ⟨g, cap, rfl⟩
theorem cs_one (h : List Cell) : ∀ u ∈ cs h, u.oneCell' = true := by
  intro u hu
  obtain ⟨x, _, hx⟩ := List.mem_flatMap.1 hu
  unfold cc at hx
  simp at hx
  rcases hx with rfl | rfl <;> rfl
theorem cs_set (h : List Cell) (k : Nat) (c : Cell) : ((cs h).set (k * 2) (.bool c.live)).set (k * 2 + 1) (.int .i64 c.value) = cs (h.set k c) := by
  induction h generalizing k with
  | nil => simp [cs]
  | cons x h ih =>
    cases k with
    | zero => rfl
    | succ k =>
      have e1 : (k + 1) * 2 = k * 2 + 2 := by omega
      have e2 : (k + 1) * 2 + 1 = k * 2 + 1 + 2 := by omega
      have := ih k
      simp only [cs, cc, List.flatMap_cons, List.cons_append, List.nil_append, e1, List.set_cons_succ] at *
      rw [this]

set_option maxRecDepth 100000 in
theorem spanright_any (n : Int) (w : World) :
    Calls Try.prog 55 #[.int .i64 n] w fun e w' => e = .returned (.bool (vB n)) ∧ w = w' := by
  by_cases h1 : -2147483648 ≤ n
  all_goals by_cases h2 : n ≤ 2147483647
  all_goals
    go_enter Try.func55, Try.ntmps55
    go_wp2
    go_ret
    exact ⟨ret_bool (by unfold vB; simp [h1, h2]), rfl⟩

def lenB (n : Int) : Bool := decide (1 ≤ n ∧ n ≤ 64)
set_option maxRecDepth 100000 in
theorem length_any (n : Int) (w : World) :
    Calls Try.prog 50 #[.int .i64 n] w fun e w' => e = .returned (.bool (lenB n)) ∧ w = w' := by
  by_cases h1 : 1 ≤ n
  all_goals by_cases h2 : n ≤ 64
  all_goals
    go_enter Try.func50, Try.ntmps50
    go_wp2
    go_ret
    exact ⟨ret_bool (by unfold lenB; simp [h1, h2]), rfl⟩

set_option maxRecDepth 100000 in
theorem cell_any (lv : Bool) (vl : Int) (w : World) (b : Bool) (hb : cellB ⟨lv, vl⟩ = b) :
    Calls Try.prog 51 #[.agg #[.bool lv, .int .i64 vl]] w (RetB w b) := by
  subst hb
  by_cases h1 : vB vl = true
  · cases lv
    · by_cases h2 : vl = 0
      · subst h2
        go_enter Try.func51, Try.ntmps51
        go_wp2_with (go_at_call 55; refine (spanright_any _ _).mono ?_; rintro e w' ⟨rfl, rfl⟩)
        go_ret
        exact ⟨ret_bool (by decide), bl_alloc (Below.refl _ _) _⟩
      · have h3 : (vl == 0) = false := beq_eq_false_iff_ne.2 h2
        clear h2
        go_enter Try.func51, Try.ntmps51
        go_wp2_with (go_at_call 55; refine (spanright_any _ _).mono ?_; rintro e w' ⟨rfl, rfl⟩)
        go_ret
        exact ⟨ret_bool (by unfold cellB; simp [h3]), bl_alloc (Below.refl _ _) _⟩
    · go_enter Try.func51, Try.ntmps51
      go_wp2_with (go_at_call 55; refine (spanright_any _ _).mono ?_; rintro e w' ⟨rfl, rfl⟩)
      go_ret
      exact ⟨ret_bool (by unfold cellB; simp [h1]), bl_alloc (Below.refl _ _) _⟩
  · have h1' : vB vl = false := by simpa using h1
    clear h1
    go_enter Try.func51, Try.ntmps51
    go_wp2_with (go_at_call 55; refine (spanright_any _ _).mono ?_; rintro e w' ⟨rfl, rfl⟩)
    go_ret
    exact ⟨ret_bool (by unfold cellB; simp [h1']), bl_alloc (Below.refl _ _) _⟩

set_option maxRecDepth 100000 in
theorem islive_any (h : List Cell) (A : Option Addr) (n c : Nat) (cell : Int) (w : World) (b : Bool) (hr : Rd w 2 A n (cs h)) (hb : liveAt h cell = b) :
    Calls Try.prog 56 #[.slice A n c, .int .i64 cell] w fun e w' => e = .returned (.bool b) ∧ w = w' := by
  have HL : Hid (h.length = n) := Lib.hid (by have := hr.1; rw [cs_len] at this; omega)
  by_cases h1 : 0 ≤ cell
  · obtain ⟨k, rfl⟩ := Int.eq_ofNat_of_zero_le h1
    clear h1
    by_cases h2 : k < n
    · obtain ⟨b, off, ⟨lv, vl⟩, rfl, hx, c0, c1⟩ := at_cell hr k h2
      have HF := Lib.hid ((live_at h k _ hx).symm.trans hb)
      clear hx hb hr
      go_enter Try.func56, Try.ntmps56
      go_wp2
      go_ret
      exact ⟨ret_bool HF.out, rfl⟩
    · have HF := Lib.hid ((live_out h k (by rw [HL.out]; omega)).symm.trans hb)
      clear hb hr
      go_enter Try.func56, Try.ntmps56
      go_wp2
      go_ret
      exact ⟨ret_bool HF.out, rfl⟩
  · have HF := Lib.hid ((live_out h cell (by omega)).symm.trans hb)
    clear hb hr
    go_enter Try.func56, Try.ntmps56
    go_wp2
    go_ret
    exact ⟨ret_bool HF.out, rfl⟩

def RetO (w : World) (n : Nat) (xs : List Value) (e : Ending) (w' : World) : Prop := ∃ v, e = .returned v ∧ Own w w' 57 2 v n xs
set_option maxRecDepth 100000 in
theorem clone_any (h : List Cell) (A : Option Addr) (n c : Nat) (w : World) (hr : Rd w 2 A n (cs h)) (hn : n ≤ 1000000) :
    Calls Try.prog 31 #[.slice A n c] w (RetO w n (cs h)) := by
  have hnil := fun W => Lib.run_eql_slice_nil (P := Try.prog) W 23 57 A n c 0 0 Try.underlying23
  rcases A with _ | ad
  · obtain rfl : n = 0 := by
      rcases Nat.eq_zero_or_pos n with h0 | h0
      · exact h0
      · obtain ⟨b, off, hh, _⟩ := hr.2 h0
        cases hh
    have HX : Hid (cs h = []) := Lib.hid (List.eq_nil_of_length_eq_zero (by simpa using hr.1))
    clear hr
    go_enter Try.func31, Try.ntmps31
    go_wp2
    go_ret
    exact ⟨_, rfl, by rw [HX.out]; exact Own.nil_ (Below.refl _ _)⟩
  · have HR := Lib.hid hr
    clear hr
    go_enter Try.func31, Try.ntmps31
    go_wp2_with (at_builtin; refine append_rd rfl _ _ 23 rfl tCell w _ 0 [] rfl (Own.empty w _ _) _ n c (cs h) rfl (HR.out.alloc _) (cs_one h) (by omega) (by omega) ?_; intro v' w' hown' hg; have HO := Lib.hid hown'; clear hown' hg)
    go_ret
    exact ⟨v', rfl, by have := HO.out; simpa using this⟩

set_option maxRecDepth 100000 in
theorem right_c (h : List Cell) (A : Option Addr) (n c : Nat) (w : World) (b : Bool) (hr : Rd w 2 A n (cs h)) (hn : n ≤ 1000000) (hb : rightB h = b) :
    Calls Try.prog 26 #[.slice A n c] w (RetB w b) := by
  subst hb
  have HL : Hid (h.length = n) := Lib.hid (by have := hr.1; rw [cs_len] at this; omega)
  have HR := Lib.hid hr
  clear hr
  by_cases hlen : lenB (n : Int) = true
  · have HN : Hid (0 < n ∧ n < 65) := Lib.hid (by unfold lenB at hlen; simp at hlen; omega)
    go_enter Try.func26, Try.ntmps26
    go_wp2_with (go_at_call 50; refine (length_any _ _).mono ?_; rintro e w' ⟨rfl, rfl⟩)
    go_loopw [11] (fun i wr => ∃ k : Nat, k ≤ n ∧ i = .int .i64 k ∧ Hid (Below w.heap.size w wr) ∧ Hid ((h.take k).all cellB = true)) (fun i _ => n - (intOf i).toNat)
    case atStart => exact ⟨0, Nat.zero_le _, rfl, Lib.hid (Below.refl _ _), Lib.hid rfl⟩
    case round =>
      obtain ⟨k, hk, rfl, HB, hall⟩ := hrel
      by_cases hlt : k < n
      · obtain ⟨b, off, ⟨lv, vl⟩, rfl, hx, c0, c1⟩ := at_cell (HR.out.below HB.out) k hlt
        have hs := Lib.hid (take_all h cellB k _ hx)
        by_cases hok : cellB ⟨lv, vl⟩ = true
        · have HOK := Lib.hid hok
          clear hx hok
          go_wp2_with fail
          refine (cell_any _ _ _ true HOK.out).mono ?_
          rintro e w1 ⟨rfl, b1⟩
          have HB1 := Lib.hid (bl_trans (bl_alloc HB.out _) b1)
          clear b1
          go_wp2_with fail
          go_roundw
          case rel => exact ⟨k + 1, by omega, by go_num, HB1, Lib.hid (by rw [hs.out, hall.out, HOK.out]; rfl)⟩
          case measure => simp [intOf]; omega
        · have HOK : Hid (cellB ⟨lv, vl⟩ = false) := Lib.hid (by simpa using hok)
          have HF : Hid (rightB h = false) := Lib.hid (right_bad h k _ hx HOK.out)
          clear hx hok
          go_wp2_with fail
          refine (cell_any _ _ _ false HOK.out).mono ?_
          rintro e w1 ⟨rfl, b1⟩
          have HB1 := Lib.hid (bl_trans (bl_alloc HB.out _) b1)
          clear b1
          go_wp2_with fail
          go_ret
          exact ⟨ret_bool HF.out.symm, HB1.out⟩
      · have HF : Hid (rightB h = true) := Lib.hid (by
          have := hall.out
          rw [List.take_of_length_le (by rw [HL.out]; omega)] at this
          unfold rightB; rw [this, HL.out]; simpa using HN.out)
        go_wp2
        go_ret
        exact ⟨ret_bool HF.out.symm, HB.out⟩
  · have hlen' : lenB (n : Int) = false := by simpa using hlen
    have HF : Hid (rightB h = false) := Lib.hid (by
      unfold lenB at hlen'; simp at hlen'
      unfold rightB; rw [HL.out, Bool.and_eq_false_iff]; left; simp; omega)
    clear hlen
    go_enter Try.func26, Try.ntmps26
    go_wp2_with (go_at_call 50; refine (length_any _ _).mono ?_; rintro e w' ⟨rfl, rfl⟩)
    go_ret
    exact ⟨ret_bool HF.out.symm, Below.refl _ _⟩

def RetF (w : World) (f : Option Nat) (e : Ending) (w' : World) : Prop :=
  e = .returned (.tuple #[.int .i64 ((f.getD 0 : Nat) : Int), .bool f.isSome]) ∧ Below w.heap.size w w'

set_option maxRecDepth 100000 in
theorem get_c (h : List Cell) (A : Option Addr) (n c : Nat) (cell : Int) (w : World) (r : Int × Int) (hr : Rd w 2 A n (cs h)) (hn : n ≤ 1000000) (hg : getS h cell = r) :
    Calls Try.prog 52 #[.slice A n c, .int .i64 cell] w (RetG w r) := by
  subst hg
  have HL : Hid (h.length = n) := Lib.hid (by have := hr.1; rw [cs_len] at this; omega)
  have HR := Lib.hid hr
  clear hr
  by_cases h1 : rightB h = true
  · have H1 := Lib.hid h1
    by_cases h2 : liveAt h cell = true
    · have H2 := Lib.hid h2
      obtain ⟨hc0, hc1, x, hx, _⟩ := live_in h cell h2
      obtain ⟨k, rfl⟩ := Int.eq_ofNat_of_zero_le hc0
      simp only [Int.toNat_natCast] at hx hc1
      have hkn : k < n := by rw [← HL.out]; exact hc1
      have HF : Hid (getS h (k : Int) = (x.value, 0)) := Lib.hid (by unfold getS; rw [if_pos h1, if_pos h2, val_at h k _ hx])
      have HX := Lib.hid hx
      clear hx hc1 hc0 h1 h2
      go_enter Try.func52, Try.ntmps52
      go_wp2_with fail
      refine (right_c h _ _ _ _ true HR.out hn H1.out).mono ?_
      rintro e w1 ⟨rfl, b1⟩
      obtain ⟨b, off, y, rfl, hy, c0, c1⟩ := at_cell (HR.out.below b1) k hkn
      obtain rfl : x = y := by have := HX.out; rw [hy] at this; injection this with e; exact e.symm
      have HB := Lib.hid b1
      clear b1 hy
      go_wp2_with (go_at_call 56; refine (islive_any h _ _ _ _ _ true (HR.out.below HB.out) H2.out).mono ?_; rintro e w' ⟨rfl, rfl⟩)
      go_ret2
      exact ⟨by rw [HF.out]; rfl, HB.out⟩
    · have H2 : Hid (liveAt h cell = false) := Lib.hid (by simpa using h2)
      have HF : Hid (getS h cell = (0, 3)) := Lib.hid (by unfold getS; rw [if_pos h1, if_neg h2])
      clear h2 h1
      go_enter Try.func52, Try.ntmps52
      go_wp2_with fail
      refine (right_c h _ _ _ _ true HR.out hn H1.out).mono ?_
      rintro e w1 ⟨rfl, b1⟩
      have HB := Lib.hid b1
      clear b1
      go_wp2_with (go_at_call 56; refine (islive_any h _ _ _ _ _ false (HR.out.below HB.out) H2.out).mono ?_; rintro e w' ⟨rfl, rfl⟩)
      go_ret2
      exact ⟨by rw [HF.out]; rfl, HB.out⟩
  · have H1 : Hid (rightB h = false) := Lib.hid (by simpa using h1)
    have HF : Hid (getS h cell = (0, 1)) := Lib.hid (by unfold getS; rw [if_neg h1])
    clear h1
    go_enter Try.func52, Try.ntmps52
    go_wp2_with fail
    refine (right_c h _ _ _ _ false HR.out hn H1.out).mono ?_
    rintro e w1 ⟨rfl, b1⟩
    have HB := Lib.hid b1
    clear b1
    go_wp2_with fail
    go_ret2
    exact ⟨by rw [HF.out]; rfl, HB.out⟩
end Go.Proofs.Ytddgdhaioomnnaa.Heap

namespace Go.Proofs.Ytddgdhaioomnnaa.Heap
open Go.ChangeShapes Go.WideShapes Go.ChangeAt Go.RowKit Mem

theorem made_two (a b : Value) (n : Nat) : (madeCells #[a, b] (n * 2)).toList = (List.replicate n ()).flatMap (fun _ => [a, b]) := by
  unfold madeCells
  rw [Array.toList_map, Array.toList_range]
  induction n with
  | zero => rfl
  | succ n ih =>
    have e : (n + 1) * 2 = n * 2 + 1 + 1 := by omega
    rw [e, List.range_succ, List.range_succ, List.map_append, List.map_append, ih, List.replicate_succ', List.flatMap_append]
    have e1 : n * 2 % 2 = 0 := by omega
    have e2 : (n * 2 + 1) % 2 = 1 := by omega
    simp [e1, e2]
set_option maxRecDepth 100000 in
theorem cs_new (n : Nat) : (madeCells (Value.agg #[.bool false, .int .i64 0]).cells (n * 2)).toList = cs (List.replicate n ⟨false, 0⟩) := by
  have h : (Value.agg #[.bool false, .int .i64 0]).cells = #[.bool false, .int .i64 0] := by first | rfl | kernel_rfl | simp [Value.cells]
  rw [h, made_two]
  induction n with
  | zero => rfl
  | succ n ih => simp [cs, cc, List.replicate_succ] at *; exact ih


set_option maxRecDepth 100000 in
theorem tIntS : SliceT Try.prog 28 3 1 8 := SliceT.mk_ (z := .int .i64 0) Try.underlying28 (by kernel_rfl) rfl (by decide)
def lives (h : List Cell) (k : Nat) : List Nat := (List.range k).filter (fun k => liveAt h (k : Int))
theorem lives_yes (h : List Cell) (k : Nat) (hl : liveAt h (k : Int) = true) : lives h (k + 1) = lives h k ++ [k] := by
  unfold lives; rw [List.range_succ, List.filter_append]; simp [hl]
theorem lives_no (h : List Cell) (k : Nat) (hl : liveAt h (k : Int) = false) : lives h (k + 1) = lives h k := by
  unfold lives; rw [List.range_succ, List.filter_append]; simp [hl]
theorem lives_len (h : List Cell) (k : Nat) : (lives h k).length ≤ k := by
  unfold lives; have := List.length_filter_le (fun k : Nat => liveAt h (k : Int)) (List.range k); simpa using this
theorem is_app (a b : List Nat) : is (a ++ b) = is a ++ is b := by unfold is; rw [List.flatMap_append]


end Go.Proofs.Ytddgdhaioomnnaa.Heap

namespace Go.Proofs.Ytddgdhaioomnnaa.Heap
open Go.ChangeShapes Go.WideShapes Go.ChangeAt Go.RowKit Mem


/-- What is wrong with writes. -/
def checkS (h : List Cell) (l : List Write) : Int :=
  if (rightB h && l.all (fun w => vB w.value)) = true then (if l.all (fun w => liveAt h w.cell) = true then 0 else 3) else 1
def RetN (w : World) (r : Int) (e : Ending) (w' : World) : Prop := e = .returned (.int .i64 r) ∧ Below w.heap.size w w'
set_option maxRecDepth 100000 in
theorem check_any (h : List Cell) (l : List Write) (A D : Option Addr) (n c m d : Nat) (w : World) (r : Int) (hr : Rd w 2 A n (cs h)) (hl : Rd w 2 D m (ws l)) (hn : n ≤ 1000000) (hm : m ≤ 1000000) (hc : checkS h l = r) :
    Calls Try.prog 32 #[.slice A n c, .slice D m d] w (RetN w r) := by
  subst hc
  have HM : Hid (l.length = m) := Lib.hid (by have := hl.1; rw [ws_len] at this; omega)
  have HR := Lib.hid hr
  have HW := Lib.hid hl
  clear hr hl
  by_cases h1 : rightB h = true
  · have H1 := Lib.hid h1
    clear h1
    go_enter Try.func32, Try.ntmps32
    go_wp2_with fail
    refine (right_c h _ _ _ _ true HR.out hn H1.out).mono ?_
    rintro e w1 ⟨rfl, b1⟩
    have HB1 := Lib.hid b1
    clear b1
    go_wp2_with fail
    go_loopw [14] (fun i wr => ∃ k : Nat, k ≤ m ∧ i = .int .i64 k ∧ Hid (Below w.heap.size w wr) ∧ Hid ((l.take k).all (fun w => vB w.value) = true)) (fun i _ => m - (intOf i).toNat)
    case atStart => exact ⟨0, Nat.zero_le _, rfl, HB1, Lib.hid rfl⟩
    case round =>
      obtain ⟨k, hk, rfl, HB, hall⟩ := hrel
      by_cases hlt : k < m
      · obtain ⟨b, off, ⟨cl, vl⟩, rfl, hx, c0, c1⟩ := at_write (HW.out.below HB.out) k hlt
        have hs := Lib.hid (take_all l (fun w => vB w.value) k _ hx)
        have HX := Lib.hid hx
        clear hx
        by_cases hok : vB vl = true
        · go_wp2_with (go_at_call 55; refine (spanright_any _ _).mono ?_; rintro e w' ⟨rfl, rfl⟩)
          go_roundw
          case rel => exact ⟨k + 1, by omega, by go_num, Lib.hid (bl_alloc HB.out _), Lib.hid (by rw [hs.out, hall.out]; exact hok)⟩
          case measure => simp [intOf]; omega
        · have hok' : vB vl = false := by simpa using hok
          have HF : Hid (checkS h l = 1) := Lib.hid (by
            unfold checkS; rw [if_neg]
            intro ha
            rw [Bool.and_eq_true] at ha
            have := List.all_eq_true.1 ha.2 _ (List.mem_of_getElem? HX.out)
            simp [hok'] at this)
          clear hok
          go_wp2_with (go_at_call 55; refine (spanright_any _ _).mono ?_; rintro e w' ⟨rfl, rfl⟩)
          go_ret
          exact ⟨ret_int HF.out.symm, bl_alloc HB.out _⟩
      · have HV : Hid ((rightB h && l.all (fun w => vB w.value)) = true) := Lib.hid (by
          have := hall.out
          rw [List.take_of_length_le (by rw [HM.out]; omega)] at this
          rw [H1.out, this]; rfl)
        clear hall
        generalize wr = wa at *
        go_wp2
        go_loopw [25] (fun i wr => ∃ j : Nat, j ≤ m ∧ i = .int .i64 j ∧ Hid (Below w.heap.size w wr) ∧ Hid ((l.take j).all (fun w => liveAt h w.cell) = true)) (fun i _ => m - (intOf i).toNat)
        case atStart => exact ⟨0, Nat.zero_le _, rfl, HB, Lib.hid rfl⟩
        case round =>
          obtain ⟨j, hj, rfl, HB2, hall⟩ := hrel
          by_cases hlt : j < m
          · obtain ⟨b, off, ⟨cl, vl⟩, rfl, hx, c0, c1⟩ := at_write (HW.out.below HB2.out) j hlt
            have hs := Lib.hid (take_all l (fun w => liveAt h w.cell) j _ hx)
            have HX := Lib.hid hx
            clear hx
            by_cases hok : liveAt h cl = true
            · have HK := Lib.hid hok
              clear hok
              go_wp2_with (go_at_call 56; refine (islive_any h _ _ _ _ _ true ((HR.out.below HB2.out).alloc _) HK.out).mono ?_; rintro e w' ⟨rfl, rfl⟩)
              go_roundw
              case rel => exact ⟨j + 1, by omega, by go_num, Lib.hid (bl_alloc HB2.out _), Lib.hid (by rw [hs.out, hall.out]; exact HK.out)⟩
              case measure => simp [intOf]; omega
            · have HK : Hid (liveAt h cl = false) := Lib.hid (by simpa using hok)
              have HF : Hid (checkS h l = 3) := Lib.hid (by
                unfold checkS; rw [if_pos HV.out, if_neg]
                intro ha
                have := List.all_eq_true.1 ha _ (List.mem_of_getElem? HX.out)
                simp [HK.out] at this)
              clear hok
              go_wp2_with (go_at_call 56; refine (islive_any h _ _ _ _ _ false ((HR.out.below HB2.out).alloc _) HK.out).mono ?_; rintro e w' ⟨rfl, rfl⟩)
              go_ret
              exact ⟨ret_int HF.out.symm, bl_alloc HB2.out _⟩
          · have HF : Hid (checkS h l = 0) := Lib.hid (by
              have := hall.out
              rw [List.take_of_length_le (by rw [HM.out]; omega)] at this
              unfold checkS; rw [if_pos HV.out, if_pos this])
            go_wp2
            go_ret
            exact ⟨ret_int HF.out.symm, HB2.out⟩
  · have H1 : Hid (rightB h = false) := Lib.hid (by simpa using h1)
    have HF : Hid (checkS h l = 1) := Lib.hid (by unfold checkS; rw [if_neg (by rw [H1.out]; simp)])
    clear h1
    go_enter Try.func32, Try.ntmps32
    go_wp2_with fail
    refine (right_c h _ _ _ _ false HR.out hn H1.out).mono ?_
    rintro e w1 ⟨rfl, b1⟩
    have HB1 := Lib.hid b1
    clear b1
    go_wp2_with fail
    go_ret
    exact ⟨ret_int HF.out.symm, HB1.out⟩

theorem cs_set1 (h : List Cell) (k : Nat) (x : Cell) (v : Int) (hx : h[k]? = some x) : (cs h).set (k * 2 + 1) (.int .i64 v) = cs (h.set k ⟨x.live, v⟩) := by
  rw [← cs_set h k ⟨x.live, v⟩]
  simp only
  congr 1
  obtain ⟨hl, rfl⟩ := List.getElem?_eq_some_iff.1 hx
  have := cs_0 h k hl
  obtain ⟨h2, h3⟩ := List.getElem?_eq_some_iff.1 this
  rw [← h3, List.set_getElem_self]
theorem live_set (h : List Cell) (a : Int) (v : Int) (cell : Int) (hl : liveAt h cell = true) : liveAt (setAt h a ⟨true, v⟩) cell = true := by
  obtain ⟨h0, h1, x, hx, hlv⟩ := live_in h cell hl
  obtain ⟨k, rfl⟩ := Int.eq_ofNat_of_zero_le h0
  simp only [Int.toNat_natCast] at hx
  by_cases he : (k : Int) = a
  · subst he
    rw [live_at _ k _ (setAt_at h k _ _ hx)]
  · rw [live_at _ k _ (setAt_ne h a k _ _ hx he)]; exact hlv
theorem live_putAll (h : List Cell) (l : List Write) (cell : Int) (hl : liveAt h cell = true) : liveAt (putAll h l) cell = true := by
  induction l generalizing h with
  | nil => exact hl
  | cons x l ih => simp only [putAll, List.foldl_cons] at *; exact ih _ (live_set h _ _ _ hl)

set_option maxRecDepth 100000 in
theorem put_c (h : List Cell) (l : List Write) (A D : Option Addr) (n c m d : Nat) (w : World) (r : List Cell × Int) (hr : Rd w 2 A n (cs h)) (hl : Rd w 2 D m (ws l)) (hn : n ≤ 1000000) (hm : m ≤ 1000000) (hp : putS h l = r) :
    Calls Try.prog 16 #[.slice A n c, .slice D m d] w (RetH w n r) := by
  subst hp
  have HL : Hid (h.length = n) := Lib.hid (by have := hr.1; rw [cs_len] at this; omega)
  have HM : Hid (l.length = m) := Lib.hid (by have := hl.1; rw [ws_len] at this; omega)
  have HR := Lib.hid hr
  have HW := Lib.hid hl
  clear hr hl
  go_enter Try.func16, Try.ntmps16
  go_wp2_with fail
  refine (clone_any h _ _ _ _ HR.out hn).mono ?_
  rintro e w1 ⟨v, rfl, ho⟩
  have HO := Lib.hid ho
  clear ho
  go_wp2_with fail
  by_cases h1 : checkS h l = 0
  · have H1 := Lib.hid h1
    have HV : Hid ((rightB h && l.all (fun w => vB w.value)) = true ∧ l.all (fun w => liveAt h w.cell) = true) := Lib.hid (by
      unfold checkS at h1
      split at h1
      · rename_i ha
        split at h1
        · rename_i hb; exact ⟨ha, hb⟩
        · simp at h1
      · simp at h1)
    have HF : Hid (putS h l = (putAll h l, 0)) := Lib.hid (by unfold putS; rw [if_pos HV.out.1, if_pos HV.out.2])
    have hnz : 0 < n := by
      have := right_len h (by have := HV.out.1; rw [Bool.and_eq_true] at this; exact this.1)
      rw [← HL.out]; exact this.1
    clear h1
    refine (check_any h l _ _ _ _ _ _ _ 0 (HR.out.below HO.out.2) (HW.out.below HO.out.2) hn hm H1.out).mono ?_
    rintro e w2 ⟨rfl, b2⟩
    have HO2 := Lib.hid (HO.out.below b2)
    clear b2 HO
    obtain ⟨g, cap, rfl⟩ := own_lay HO2.out hnz
    go_wp2_with fail
    go_loopw [21] (fun i wr => ∃ j : Nat, j ≤ m ∧ i = .int .i64 j ∧ Hid (Own w wr 57 2 (.slice (some ⟨g, 0, none⟩) n cap) n (cs (putAll h (l.take j))))) (fun i _ => m - (intOf i).toNat)
    case atStart => exact ⟨0, Nat.zero_le _, rfl, HO2⟩
    case round =>
      obtain ⟨j, hj, rfl, hown⟩ := hrel
      by_cases hlt : j < m
      · obtain ⟨b, off, ⟨cl, vl⟩, rfl, hx, c0, c1⟩ := at_write (HW.out.below hown.out.2) j hlt
        have ht := Lib.hid (putAll_take h l j _ hx)
        have hlv : liveAt (putAll h (l.take j)) cl = true := live_putAll _ _ _ (List.all_eq_true.1 HV.out.2 _ (List.mem_of_getElem? hx))
        obtain ⟨q0, q1, x, hxx, hxl⟩ := live_in _ cl hlv
        obtain ⟨k, rfl⟩ := Int.eq_ofNat_of_zero_le q0
        simp only [Int.toNat_natCast] at hxx q1
        rw [putAll_len] at q1
        have hkn : k < n := by rw [← HL.out]; exact q1
        have hne : g ≠ wr.heap.size := by
          have := cell_lt ((hown.out.1.cellAt (k * 2) (by omega)).trans (cs_0 _ k (by rw [putAll_len, HL.out]; exact hkn)))
          simp at this; omega
        have HA := Lib.hid (hown.out.alloc (.cells #[.int .i64 (k : Int), .int .i64 vl] 32))
        have f1 := HA.out.1.frozenAt (k * 2 + 1)
        have d1 := (HA.out.1.cellAt (k * 2 + 1) (by omega)).trans (cs_1 _ k (by rw [putAll_len, HL.out]; exact hkn))
        have HS := Lib.hid (cs_set1 _ k x vl hxx)
        have HXL := Lib.hid hxl
        clear hx hlv hxx hxl q0 q1
        go_wp2
        go_roundw
        case rel =>
          refine ⟨j + 1, by omega, by go_num, Lib.hid ?_⟩
          have := own_set HA.out (k * 2 + 1) (.int .i64 vl)
          rw [HS.out, HXL.out] at this
          rw [ht.out]
          unfold setAt
          rw [if_neg (by simp)]
          exact this
        case measure => simp [intOf]; omega
      · have HT : Hid (l.take j = l) := Lib.hid (List.take_of_length_le (by rw [HM.out]; omega))
        have HO3 : Hid (Own w wr 57 2 (.slice (some ⟨g, 0, none⟩) n cap) n (cs (putAll h l))) := Lib.hid (by have := hown.out; rwa [HT.out] at this)
        go_wp2
        go_ret2
        obtain ⟨B, d, hv, hrd⟩ := HO3.out.form
        injection hv with e1 _ e3
        subst e1 e3
        exact ⟨_, _, by rw [HF.out]; rfl, by rw [HF.out]; exact hrd, HO3.out.2⟩
  · have HF : Hid (putS h l = (h, checkS h l)) := Lib.hid (by
      unfold checkS at h1 ⊢; unfold putS
      split
      · rename_i ha
        split
        · rename_i hb; exact absurd (by rw [if_pos ha, if_pos hb]) h1
        · rfl
      · rfl)
    have t1 : (checkS h l != 0) = true := by simpa using h1
    clear h1
    refine (check_any h l _ _ _ _ _ _ _ _ (HR.out.below HO.out.2) (HW.out.below HO.out.2) hn hm rfl).mono ?_
    rintro e w2 ⟨rfl, b2⟩
    have HO2 := Lib.hid (HO.out.below b2)
    clear b2 HO
    obtain ⟨B, q, rfl, hrd⟩ := HO2.out.form
    have HD := Lib.hid hrd
    clear hrd
    go_wp2_with fail
    go_ret2
    exact ⟨B, q, by rw [HF.out]; rfl, by rw [HF.out]; exact HD.out, HO2.out.2⟩

end Go.Proofs.Ytddgdhaioomnnaa.Heap

namespace Go.Proofs.Ytddgdhaioomnnaa.Mem
open Go.ChangeShapes Go.WideShapes Go.ChangeAt Go.RowKit

section
variable {P : Program}
theorem run_copy_k (w : World) (dT sT ty elem : TypeId) (k g o dLen dCap : Nat) (a : Addr) (sLen sCap : Nat) (cur : List Value) (t : TypeId) (cs : List Value)
    (hu : P.underlying dT = some (.slice elem)) (hs : (P.info? elem).map (·.size) = some k)
    (hg : w.heap[g]? = some (.cells cur.toArray t (0, 0))) (z : Nat) (hz : Nat.min sLen dLen = z) (hn : cs.length = z * k)
    (hsrc : ∀ j v, cs[j]? = some v → w.cell? (a.add j) = some v) (hfit : o + cs.length ≤ cur.length) (h1 : ∀ v ∈ cs, v.oneCell' = true) :
    (Builtin.copy_ #[dT, sT] ty #[.slice (some ⟨g, o, none⟩) dLen dCap, .slice (some a) sLen sCap]).run P w = .ok (goInt z) (w.setRow g (splice cur o cs).toArray) := by
  have hl := run_loadCells_list (P := P) w a cs hsrc
  have hst : (storeCells ⟨g, o, none⟩ cs 0).run P w = .ok () (w.setRow g (splice cur o cs).toArray) := by
    rw [run_storeCells_at P g o t cs 0 cur.toArray w hg (by simpa using hfit) h1]
    unfold splice; simp
  generalize (splice cur o cs).toArray = row at *
  cases hq : P.info? elem with
  | none => simp [hq] at hs
  | some i =>
    have hi : i.size = k := by simpa [hq] using hs
    have hz2 : min sLen dLen = z := hz
    simp [Builtin.copy_, run_underlying hu, Builtin.lenOf, Builtin.firstCells, sizeOf, typeInfo, hq, hi, hz2, ← hn, hl, hst]

/-- At the list of a plain region's operations. -/
theorem copy_k {w : World} {ops : Array Oper} {rest : List Oper} {o : Oper} {a : Act} {Q : Exit → Act → World → Prop} (hgd : o.guard = none) (d s : Operand) (dT sT : TypeId)
    (ho : o.op = .call { callee := .builtin .copy, args := #[d, s], argTypes := #[dT, sT] }) (elem : TypeId) (hu : P.underlying dT = some (.slice elem)) (k : Nat) (hsz : (P.info? elem).map (·.size) = some k)
    (g off dLen dCap : Nat) (ad : Addr) (sLen sCap : Nat) (hd : a.eval d = .slice (some ⟨g, off, none⟩) dLen dCap) (hs : a.eval s = .slice (some ad) sLen sCap)
    (cur : List Value) (t : TypeId) (hg : w.heap[g]? = some (.cells cur.toArray t (0, 0))) (cs : List Value) (z : Nat) (hz : Nat.min sLen dLen = z) (hn : cs.length = z * k)
    (hsrc : ∀ j v, cs[j]? = some v → w.cell? (ad.add j) = some v) (hfit : off + cs.length ≤ cur.length) (h1 : ∀ v ∈ cs, v.oneCell' = true)
    (h : wpList P ops Q rest (a.put o.dst (goInt z)) (w.setRow g (splice cur off cs).toArray)) : wpList P ops Q (o :: rest) a w := by
  refine wpList_plain hgd fun K hK => ?_
  have hrun := run_copy_k (P := P) w dT sT o.type elem k g off dLen dCap ad sLen sCap cur t cs hu hsz hg z hz hn hsrc hfit h1
  unfold Oper.wp
  simp [execOp, ho, resolve, invoke, builtin, hd, hs, hrun, Result.andThen]
  exact hK _ _ h
/-- As one step of a region that draws. -/
theorem step_copy_k {w : World} {ops : Array Oper} {o : Oper} {a : Act} {K : Act → World → Prop} {Q : Exit → Act → World → Prop} {E : Prop} (hgd : o.guard = none) (d s : Operand) (dT sT : TypeId)
    (ho : o.op = .call { callee := .builtin .copy, args := #[d, s], argTypes := #[dT, sT] }) (elem : TypeId) (hu : P.underlying dT = some (.slice elem)) (k : Nat) (hsz : (P.info? elem).map (·.size) = some k)
    (g off dLen dCap : Nat) (ad : Addr) (sLen sCap : Nat) (hd : a.eval d = .slice (some ⟨g, off, none⟩) dLen dCap) (hs : a.eval s = .slice (some ad) sLen sCap)
    (cur : List Value) (t : TypeId) (hg : w.heap[g]? = some (.cells cur.toArray t (0, 0))) (cs : List Value) (z : Nat) (hz : Nat.min sLen dLen = z) (hn : cs.length = z * k)
    (hsrc : ∀ j v, cs[j]? = some v → w.cell? (ad.add j) = some v) (hfit : off + cs.length ≤ cur.length) (h1 : ∀ v ∈ cs, v.oneCell' = true)
    (h : K (a.put o.dst (goInt z)) (w.setRow g (splice cur off cs).toArray)) : if Region.wanted o (yielded ops a.tmps) = true then Oper.wp P o a w K Q else E := by
  have hw : Region.wanted o (yielded ops a.tmps) = true := by simp [Region.wanted, hgd]
  rw [if_pos hw]
  have hrun := run_copy_k (P := P) w dT sT o.type elem k g off dLen dCap ad sLen sCap cur t cs hu hsz hg z hz hn hsrc hfit h1
  unfold Oper.wp
  simp [execOp, ho, resolve, invoke, builtin, hd, hs, hrun, Result.andThen]
  exact h
end
end Go.Proofs.Ytddgdhaioomnnaa.Mem
