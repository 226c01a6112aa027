/-
  PLAIN DEFINITIONS: reads, read sets, and what the chapter on reads asks of them. No conditions. Nothing of the program is named here.
-/
import Derived.Test.YthgmjmecedhkoaaHeapPlain
import Derived.Test.YthgmjmecedhkoaaStripePlain
namespace Go.Proofs.Ythgmjmecedhkoaa.Reads
open Mem

structure Read where
  cell : Int
  version : Int
  value : Int
  deriving DecidableEq, Inhabited

def dc (r : Read) : List Value := [.int .i64 r.cell, .int .i64 r.version, .int .i64 r.value]
def ds (l : List Read) : List Value := l.flatMap dc
theorem dc_len (r : Read) : (dc r).length = 3 := rfl
theorem dc_one (r : Read) : ∀ u ∈ dc r, u.oneCell' = true := one_cons rfl (one_cons rfl (one_cons rfl one_nil))
theorem at_read {w : World} {A : Option Addr} {n : Nat} {l : List Read} (hr : Rd w 3 A n (ds l)) (k : Nat) (hk : k < n) :
    ∃ b off, ∃ x : Read, A = some ⟨b, off, none⟩ ∧ l[k]? = some x ∧ w.cell? ⟨b, off + k * 3, none⟩ = some (.int .i64 x.cell) ∧ w.cell? ⟨b, off + k * 3 + 1, none⟩ = some (.int .i64 x.version) ∧ w.cell? ⟨b, off + k * 3 + 2, none⟩ = some (.int .i64 x.value) := by
  obtain ⟨b, off, x, hA, hx, hc⟩ := Rd.at_ dc_len hr (by decide) k hk
  exact ⟨b, off, x, hA, hx, by have := hc 0 _ rfl; simpa using this, hc 1 _ rfl, hc 2 _ rfl⟩
theorem ds_len {w : World} {A : Option Addr} {n : Nat} {l : List Read} (hr : Rd w 3 A n (ds l)) : l.length = n := Rd.len dc_len hr (by decide)
theorem ds_take (l : List Read) (k : Nat) (x : Read) (hk : l[k]? = some x) : ds (l.take (k + 1)) = ds (l.take k) ++ dc x := flat_take l k x hk
theorem ds_app (a b : List Read) : ds (a ++ b) = ds a ++ ds b := by unfold ds; rw [List.flatMap_append]
theorem ds_one (l : List Read) : ∀ u ∈ ds l, u.oneCell' = true := flat_one dc_one l
/-- The first ones of a slice. -/
theorem rd_take {w : World} {A : Option Addr} {n : Nat} {l : List Read} (hr : Rd w 3 A n (ds l)) (k : Nat) (hk : k ≤ n) : Rd w 3 A k (ds (l.take k)) := by
  have hl := ds_len hr
  refine ⟨?_, fun h0 => ?_⟩
  · unfold ds; rw [flat_len dc_len, List.length_take, hl, Nat.min_eq_left hk]
  · obtain ⟨b, off, e, hc⟩ := hr.2 (by omega)
    refine ⟨b, off, e, fun j u hu => hc j u ?_⟩
    have e2 : ds l = ds (l.take k) ++ ds (l.drop k) := by rw [← ds_app, List.take_append_drop]
    rw [e2, List.getElem?_append_left (List.getElem?_eq_some_iff.1 hu).1]; exact hu

def timeB (n : Int) : Bool := decide (0 ≤ n ∧ n ≤ 2147483647)
def oneB (r : Read) : Bool := decide (0 ≤ r.cell) && (timeB r.version && Heap.vB r.value)
def hasB (l : List Read) (c : Int) : Bool := l.any (fun r => r.cell == c)
def goodB (l : List Read) : Bool := l.all oneB && decide ((l.map Read.cell).Nodup)
def rightB (l : List Read) : Bool := decide (l.length ≤ 24) && goodB l
def findS (l : List Read) (c : Int) : Option Read := l.find? (fun r => r.cell == c)
def addS (l : List Read) (r : Read) : List Read × Int :=
  if (rightB l && oneB r) = true then (match findS l r.cell with | some x => if x = r then (l, 0) else (l, 8) | none => if l.length = 24 then (l, 5) else (l ++ [r], 0)) else (l, 1)
def findR (l : List Read) (c : Int) : Read × Bool :=
  if rightB l = true then (match findS l c with | some x => (x, true) | none => (⟨0, 0, 0⟩, false)) else (⟨0, 0, 0⟩, false)
def sortZ (l : List Int) : List Int := l.mergeSort (fun x y => decide (x ≤ y))
def cellsS (l : List Read) : List Int := if rightB l = true then sortZ (l.map Read.cell) else []
def asB (t : List Stripe.Rec) (who : Int) (r : Read) : Bool :=
  match t[(r.cell % (t.length : Int)).toNat]? with | some x => x.version == r.version && (x.owner == 0 || x.owner == who) | none => false
def validS (l : List Read) (t : List Stripe.Rec) (who : Int) : Int :=
  if (rightB l && (Stripe.rightB t && Stripe.whoB who)) = true then (if l.all (asB t who) = true then 0 else 8) else 1
def stillB (h : List Heap.Cell) (r : Read) : Bool := Heap.liveAt h r.cell && (Heap.valAt h r.cell == r.value)
def sameS (l : List Read) (h : List Heap.Cell) : Bool := (rightB l && Heap.rightB h) && l.all (stillB h)

theorem good_take (l : List Read) (k : Nat) (x : Read) (hk : l[k]? = some x) : goodB (l.take (k + 1)) = (goodB (l.take k) && (oneB x && !(hasB (l.take k) x.cell))) := by
  have e : l.take (k + 1) = l.take k ++ [x] := by rw [List.take_add_one, hk]; rfl
  rw [e, Bool.eq_iff_iff]
  unfold goodB hasB
  simp only [List.all_append, List.map_append, List.nodup_append, Bool.and_eq_true, decide_eq_true_eq, List.all_cons, List.all_nil, List.map_cons, List.map_nil, Bool.not_eq_true', List.any_eq_false, List.mem_singleton, List.mem_map]
  constructor
  · rintro ⟨⟨h1, h2, -⟩, h3, -, h4⟩
    refine ⟨⟨h1, h3⟩, h2, fun y hy => ?_⟩
    have := h4 y.cell ⟨y, hy, rfl⟩ x.cell rfl
    simpa using this
  · rintro ⟨⟨h1, h3⟩, h2, h4⟩
    refine ⟨⟨h1, h2, trivial⟩, h3, by simp, ?_⟩
    rintro a ⟨y, hy, rfl⟩ b rfl
    have := h4 y hy
    simpa using this
theorem good_sub (l m : List Read) (hs : m.Sublist l) (h : goodB l = true) : goodB m = true := by
  unfold goodB at *
  rw [Bool.and_eq_true, decide_eq_true_eq, List.all_eq_true] at *
  exact ⟨fun x hx => h.1 x (hs.subset hx), h.2.sublist (hs.map _)⟩
theorem good_bad (l : List Read) (k : Nat) (h : goodB (l.take k) = false) : goodB l = false := by
  cases hg : goodB l
  · rfl
  · rw [good_sub l _ (List.take_sublist k l) hg] at h; cases h
theorem right_bad (l : List Read) (k : Nat) (h : goodB (l.take k) = false) : rightB l = false := by unfold rightB; rw [good_bad l k h, Bool.and_false]
theorem right_sub (l m : List Read) (hs : m.Sublist l) (h : rightB l = true) : rightB m = true := by
  unfold rightB at *
  rw [Bool.and_eq_true, decide_eq_true_eq] at *
  exact ⟨Nat.le_trans hs.length_le h.1, good_sub l m hs h.2⟩
theorem right_len (l : List Read) (h : rightB l = true) : l.length ≤ 24 := by
  unfold rightB at h; rw [Bool.and_eq_true, decide_eq_true_eq] at h; exact h.1
theorem right_one (l : List Read) (h : rightB l = true) (x : Read) (hx : x ∈ l) : oneB x = true := by
  unfold rightB goodB at h; rw [Bool.and_eq_true, Bool.and_eq_true, List.all_eq_true] at h; exact h.2.1 x hx
theorem right_nodup (l : List Read) (h : rightB l = true) : (l.map Read.cell).Nodup := by
  unfold rightB goodB at h; rw [Bool.and_eq_true, Bool.and_eq_true, decide_eq_true_eq (p := (l.map Read.cell).Nodup)] at h; exact h.2.2
theorem one_cell (x : Read) (h : oneB x = true) : 0 ≤ x.cell := by
  unfold oneB at h; rw [Bool.and_eq_true, decide_eq_true_eq] at h; exact h.1

theorem has_take (l : List Read) (k : Nat) (x : Read) (c : Int) (hk : l[k]? = some x) : hasB (l.take (k + 1)) c = (hasB (l.take k) c || (x.cell == c)) := take_any l _ k x hk
theorem find_at (l : List Read) (k : Nat) (x : Read) (c : Int) (hk : l[k]? = some x) (hx : x.cell = c) (h0 : hasB (l.take k) c = false) : findS l c = some x := by
  obtain ⟨hl, rfl⟩ := List.getElem?_eq_some_iff.1 hk
  unfold findS
  rw [List.find?_eq_some_iff_getElem]
  refine ⟨by simpa using hx, k, hl, rfl, fun j hj => ?_⟩
  unfold hasB at h0
  rw [List.any_eq_false] at h0
  have hm : l[j]'(by omega) ∈ l.take k := by rw [List.mem_take_iff_getElem]; exact ⟨j, by omega, rfl⟩
  have := h0 _ hm
  simpa using this
theorem find_none (l : List Read) (c : Int) (h0 : hasB l c = false) : findS l c = none := by
  unfold findS; rw [List.find?_eq_none]; unfold hasB at h0; rw [List.any_eq_false] at h0; exact h0
theorem find_has (l : List Read) (c : Int) : (findS l c).isSome = hasB l c := by
  unfold findS hasB; rw [Bool.eq_iff_iff, List.find?_isSome, List.any_eq_true]
theorem find_some (l : List Read) (c : Int) (x : Read) (h : findS l c = some x) : x ∈ l ∧ x.cell = c := by
  unfold findS at h
  exact ⟨List.mem_of_find?_eq_some h, by have := List.find?_some h; simpa using this⟩
/-- The place of a cell's; -1: there is none. -/
def IsPlace (l : List Read) (c p : Int) : Prop := (p = -1 ∧ findS l c = none) ∨ ∃ k x, p = (k : Nat) ∧ l[k]? = some x ∧ findS l c = some x

theorem add_no (l : List Read) (r : Read) (h : (rightB l && oneB r) = false) : addS l r = (l, 1) := by unfold addS; rw [h]; rfl
theorem add_had (l : List Read) (r : Read) (h : (rightB l && oneB r) = true) (hf : findS l r.cell = some r) : addS l r = (l, 0) := by
  unfold addS; rw [if_pos h, hf]; simp
theorem add_stale (l : List Read) (r x : Read) (h : (rightB l && oneB r) = true) (hf : findS l r.cell = some x) (hx : x ≠ r) : addS l r = (l, 8) := by
  unfold addS; rw [if_pos h, hf]; simp [hx]
theorem add_big (l : List Read) (r : Read) (h : (rightB l && oneB r) = true) (hf : findS l r.cell = none) (hl : l.length = 24) : addS l r = (l, 5) := by
  unfold addS; rw [if_pos h, hf]; simp [hl]
theorem add_new (l : List Read) (r : Read) (h : (rightB l && oneB r) = true) (hf : findS l r.cell = none) (hl : l.length ≠ 24) : addS l r = (l ++ [r], 0) := by
  unfold addS; rw [if_pos h, hf]; simp [hl]
theorem add_len (l : List Read) (r : Read) : (addS l r).1.length ≤ l.length + 1 := by
  unfold addS
  split
  · split
    · split <;> simp
    · split <;> simp
  · simp

theorem sort_perm (l : List Int) : (sortZ l).Perm l := List.mergeSort_perm _ _
theorem sort_sorted (l : List Int) : (sortZ l).Pairwise (· ≤ ·) := by
  have := List.pairwise_mergeSort (le := fun x y : Int => decide (x ≤ y)) (by simp; omega) (by simp; omega) l
  simpa [sortZ] using this
theorem sort_of (l s : List Int) (hp : s.Perm l) (hs : s.Pairwise (· ≤ ·)) : sortZ l = s :=
  List.Perm.eq_of_pairwise (le := (· ≤ ·)) (fun _ _ _ _ h1 h2 => Int.le_antisymm h1 h2) (sort_sorted l) hs ((sort_perm l).trans hp.symm)
theorem sort_eq (l m : List Int) (hp : l.Perm m) : sortZ l = sortZ m := sort_of l _ ((sort_perm m).trans hp.symm) (sort_sorted m)
theorem sort_len (l : List Int) : (sortZ l).length = l.length := (sort_perm l).length_eq
theorem cells_len (l : List Read) : (cellsS l).length ≤ l.length := by
  unfold cellsS; split
  · rw [sort_len, List.length_map]; exact Nat.le_refl _
  · simp
end Go.Proofs.Ythgmjmecedhkoaa.Reads
