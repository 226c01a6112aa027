/-
  PLAIN DEFINITIONS: cells, heaps, and what the chapter on heaps asks of them. No conditions. Nothing of the program is named here.
-/
import Derived.Test.YthgmjmecedhkoaaMem
namespace Go.Proofs.Ythgmjmecedhkoaa.Heap
open Go.ChangeShapes Go.WideShapes Go.ChangeAt Go.RowKit

structure Cell where
  live : Bool
  value : Int
  deriving DecidableEq, Inhabited

def cc (c : Cell) : List Value := [.bool c.live, .int .i64 c.value]
def cs (h : List Cell) : List Value := h.flatMap cc

theorem cs_nil : cs [] = [] := rfl
theorem cs_len (h : List Cell) : (cs h).length = h.length * 2 := by
  induction h with
  | nil => rfl
  | cons c h ih => simp [cs, cc] at *; omega
theorem cs_0 (h : List Cell) (k : Nat) (hk : k < h.length) : (cs h)[k * 2]? = some (.bool (h[k]'hk).live) := by
  induction h generalizing k with
  | nil => simp at hk
  | cons c h ih =>
    cases k with
    | zero => rfl
    | succ k =>
      have : (k + 1) * 2 = k * 2 + 2 := by omega
      rw [this]
      simpa [cs, cc] using ih k (by simpa using hk)
theorem cs_1 (h : List Cell) (k : Nat) (hk : k < h.length) : (cs h)[k * 2 + 1]? = some (.int .i64 (h[k]'hk).value) := by
  induction h generalizing k with
  | nil => simp at hk
  | cons c h ih =>
    cases k with
    | zero => rfl
    | succ k =>
      have : (k + 1) * 2 + 1 = k * 2 + 1 + 2 := by omega
      rw [this]
      simpa [cs, cc] using ih k (by simpa using hk)

/-- One cell of the heap, in memory. -/
theorem at_cell {w : World} {A : Option Addr} {n : Nat} {h : List Cell} (hr : Mem.Rd w 2 A n (cs h)) (k : Nat) (hk : k < n) :
    ∃ b off, ∃ x : Cell, A = some ⟨b, off, none⟩ ∧ h[k]? = some x ∧ w.cell? ⟨b, off + k * 2, none⟩ = some (.bool x.live) ∧ w.cell? ⟨b, off + k * 2 + 1, none⟩ = some (.int .i64 x.value) := by
  have hl : h.length = n := by have := hr.1; rw [cs_len] at this; omega
  obtain ⟨b, off, rfl, hc⟩ := hr.2 (by omega)
  have hkl : k < h.length := by omega
  exact ⟨b, off, h[k], rfl, List.getElem?_eq_getElem hkl, hc _ _ (cs_0 h k hkl), by rw [Nat.add_assoc]; exact hc _ _ (cs_1 h k hkl)⟩

def vB (n : Int) : Bool := decide (-2147483648 ≤ n ∧ n ≤ 2147483647)
/-- May it stand in a heap? -/
def cellB (c : Cell) : Bool := vB c.value && (c.live || c.value == 0)
def rightB (h : List Cell) : Bool := decide (0 < h.length ∧ h.length < 65) && h.all cellB
theorem take_all {α : Type} (h : List α) (p : α → Bool) (k : Nat) (x : α) (hk : h[k]? = some x) : (h.take (k + 1)).all p = ((h.take k).all p && p x) := by
  obtain ⟨hl, rfl⟩ := List.getElem?_eq_some_iff.1 hk
  rw [List.take_succ_eq_append_getElem hl, List.all_append]; simp
theorem right_bad (h : List Cell) (k : Nat) (x : Cell) (hk : h[k]? = some x) (hb : cellB x = false) : rightB h = false := by
  obtain ⟨hl, rfl⟩ := List.getElem?_eq_some_iff.1 hk
  unfold rightB
  rw [Bool.and_eq_false_iff]; right
  rw [List.all_eq_false]
  exact ⟨h[k], List.getElem_mem hl, by simp [hb]⟩
theorem take_eq {α : Type} (x y : List α) (k : Nat) (c : α) (hx : x[k]? = some c) (hy : y[k]? = some c) (h : x.take k = y.take k) : x.take (k + 1) = y.take (k + 1) := by
  rw [List.take_add_one, List.take_add_one, h, hx, hy]
theorem take_ne {α : Type} [DecidableEq α] (x y : List α) (k : Nat) (c d : α) (hx : x[k]? = some c) (hy : y[k]? = some d) (h : c ≠ d) : decide (x = y) = false := by
  refine decide_eq_false ?_
  rintro rfl
  rw [hx] at hy; injection hy with e; exact h e
/-- With another cell at a place, if there is one. -/
def setAt (h : List Cell) (at_ : Int) (c : Cell) : List Cell := if at_ < 0 then h else h.set at_.toNat c
theorem setAt_len (h : List Cell) (a : Int) (c : Cell) : (setAt h a c).length = h.length := by unfold setAt; split <;> simp
theorem setAt_at (h : List Cell) (k : Nat) (c x : Cell) (hk : h[k]? = some x) : (setAt h (k : Int) c)[k]? = some c := by
  obtain ⟨hl, rfl⟩ := List.getElem?_eq_some_iff.1 hk
  unfold setAt; rw [if_neg (by omega)]; simp [hl]
theorem setAt_ne (h : List Cell) (a : Int) (k : Nat) (c x : Cell) (hk : h[k]? = some x) (hne : (k : Int) ≠ a) : (setAt h a c)[k]? = some x := by
  unfold setAt; split
  · exact hk
  · rw [List.getElem?_set_ne (by omega)]; exact hk
theorem cs_take (h : List Cell) (k : Nat) (x : Cell) (hk : h[k]? = some x) : cs (h.take (k + 1)) = cs (h.take k) ++ cc x := by
  rw [List.take_add_one, hk]; simp [cs]

/-- Is there such a cell that is live? -/
def liveAt (h : List Cell) (cell : Int) : Bool := if cell < 0 then false else (h[cell.toNat]?.map Cell.live).getD false
def valAt (h : List Cell) (cell : Int) : Int := (h[cell.toNat]?.map Cell.value).getD 0
theorem live_at (h : List Cell) (k : Nat) (x : Cell) (hk : h[k]? = some x) : liveAt h (k : Int) = x.live := by
  unfold liveAt; rw [if_neg (by omega)]; simp [hk]
theorem val_at (h : List Cell) (k : Nat) (x : Cell) (hk : h[k]? = some x) : valAt h (k : Int) = x.value := by
  unfold valAt; simp [hk]
theorem live_in (h : List Cell) (cell : Int) (hl : liveAt h cell = true) : 0 ≤ cell ∧ cell.toNat < h.length ∧ ∃ x, h[cell.toNat]? = some x ∧ x.live = true := by
  unfold liveAt at hl
  split at hl
  · cases hl
  · rename_i hc
    cases hx : h[cell.toNat]? with
    | none => simp [hx] at hl
    | some x => simp [hx] at hl; exact ⟨by omega, (List.getElem?_eq_some_iff.1 hx).1, x, rfl, hl⟩
theorem live_out (h : List Cell) (cell : Int) (hc : cell < 0 ∨ (h.length : Int) ≤ cell) : liveAt h cell = false := by
  unfold liveAt; split
  · rfl
  · rw [List.getElem?_eq_none (by omega)]; rfl

/-- The first that is not live. -/
def free1 (h : List Cell) : Option Nat := h.findIdx? (fun c => !c.live)
theorem free1_at (h : List Cell) (k : Nat) (x : Cell) (hk : h[k]? = some x) (hx : x.live = false) (ha : (h.take k).all Cell.live = true) : free1 h = some k := by
  obtain ⟨hl, rfl⟩ := List.getElem?_eq_some_iff.1 hk
  unfold free1
  rw [List.findIdx?_eq_some_iff_getElem]
  refine ⟨hl, by simpa using hx, fun j hj => ?_⟩
  have : h[j]'(by omega) ∈ h.take k := by
    rw [List.mem_take_iff_getElem]; exact ⟨j, by omega, rfl⟩
  have := List.all_eq_true.1 ha _ this
  simpa using this
theorem free1_none (h : List Cell) (ha : h.all Cell.live = true) : free1 h = none := by
  unfold free1
  rw [List.findIdx?_eq_none_iff]
  intro x hx
  have := List.all_eq_true.1 ha x hx
  simpa using this

def allocS (h : List Cell) (v : Int) : List Cell × Int × Int :=
  if (rightB h && vB v) = true then (match free1 h with | some k => (setAt h (k : Int) ⟨true, v⟩, (k : Int), 0) | none => (h, 0, 4)) else (h, 0, 1)
def getS (h : List Cell) (cell : Int) : Int × Int :=
  if rightB h = true then (if liveAt h cell = true then (valAt h cell, 0) else (0, 3)) else (0, 1)
def freeS (h : List Cell) (cell : Int) : List Cell × Int :=
  if rightB h = true then (if liveAt h cell = true then (setAt h cell ⟨false, 0⟩, 0) else (h, 3)) else (h, 1)

structure Write where
  cell : Int
  value : Int
  deriving DecidableEq, Inhabited
def putAll (h : List Cell) (l : List Write) : List Cell := l.foldl (fun h w => setAt h w.cell ⟨true, w.value⟩) h
def putS (h : List Cell) (l : List Write) : List Cell × Int :=
  if (rightB h && l.all (fun w => vB w.value)) = true then (if l.all (fun w => liveAt h w.cell) = true then (putAll h l, 0) else (h, 3)) else (h, 1)

def wc (c : Write) : List Value := [.int .i64 c.cell, .int .i64 c.value]
def ws (h : List Write) : List Value := h.flatMap wc
theorem ws_len (h : List Write) : (ws h).length = h.length * 2 := by
  induction h with
  | nil => rfl
  | cons c h ih => simp [ws, wc] at *; omega
theorem ws_at (h : List Write) (k : Nat) (x : Write) (hk : h[k]? = some x) : (ws h)[k * 2]? = some (.int .i64 x.cell) ∧ (ws h)[k * 2 + 1]? = some (.int .i64 x.value) := by
  induction h generalizing k with
  | nil => simp at hk
  | cons c h ih =>
    cases k with
    | zero => simp at hk; subst hk; exact ⟨rfl, rfl⟩
    | succ k =>
      have e1 : (k + 1) * 2 = k * 2 + 2 := by omega
      have e2 : (k + 1) * 2 + 1 = k * 2 + 1 + 2 := by omega
      rw [e1]
      obtain ⟨i1, i2⟩ := ih k (by simpa using hk)
      exact ⟨by simpa [ws, wc] using i1, by simpa [ws, wc] using i2⟩
theorem at_write {w : World} {A : Option Addr} {n : Nat} {h : List Write} (hr : Mem.Rd w 2 A n (ws h)) (k : Nat) (hk : k < n) :
    ∃ b off, ∃ x : Write, A = some ⟨b, off, none⟩ ∧ h[k]? = some x ∧ w.cell? ⟨b, off + k * 2, none⟩ = some (.int .i64 x.cell) ∧ w.cell? ⟨b, off + k * 2 + 1, none⟩ = some (.int .i64 x.value) := by
  have hl : h.length = n := by have := hr.1; rw [ws_len] at this; omega
  obtain ⟨b, off, rfl, hc⟩ := hr.2 (by omega)
  have hkl : k < h.length := by omega
  have hx := List.getElem?_eq_getElem hkl
  obtain ⟨i1, i2⟩ := ws_at h k _ hx
  exact ⟨b, off, _, rfl, hx, hc _ _ i1, by rw [Nat.add_assoc]; exact hc _ _ i2⟩
theorem putAll_take (h : List Cell) (l : List Write) (j : Nat) (x : Write) (hx : l[j]? = some x) : putAll h (l.take (j + 1)) = setAt (putAll h (l.take j)) x.cell ⟨true, x.value⟩ := by
  rw [List.take_add_one, hx]; simp [putAll]
theorem putAll_len (h : List Cell) (l : List Write) : (putAll h l).length = h.length := by
  induction l generalizing h with
  | nil => rfl
  | cons x l ih => simp only [putAll, List.foldl_cons] at *; rw [ih, setAt_len]
end Go.Proofs.Ythgmjmecedhkoaa.Heap
