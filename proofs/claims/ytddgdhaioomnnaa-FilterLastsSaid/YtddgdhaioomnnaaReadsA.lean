/-
  WHAT THE DOCUMENT'S ANSWER FOR LAYER 5 RETURNS: Add, Cells.
-/
import Derived.Test.YtddgdhaioomnnaaHeapA
import Derived.Test.YtddgdhaioomnnaaStripeA
import Derived.Test.YtddgdhaioomnnaaMemA
import Derived.StillTailTactics
import Derived.Shelf.SlSortCmp.QuietGrown
namespace Go.Proofs.Ytddgdhaioomnnaa.Reads
open Mem

structure Read where
  cell : Int
  version : Int
  value : Int
  deriving DecidableEq, Inhabited

def dc (r : Read) : List Value := [.int .i64 r.cell, .int .i64 r.version, .int .i64 r.value]
def ds (l : List Read) : List Value := l.flatMap dc
theorem dc_len (r : Read) : (dc r).length = 3 := rfl
theorem dc_one (r : Read) : ∀ u ∈ dc r, u.oneCell' = true := one_cons rfl (one_cons rfl (one_cons rfl one_nil))
theorem at_read {w : World} {A : Option Addr} {n : Nat} {l : List Read} (hr : Rd w 3 A n (ds l)) (k : Nat) (hk : k < n) :
    ∃ b off, ∃ x : Read, A = some ⟨b, off, none⟩ ∧ l[k]? = some x ∧ w.cell? ⟨b, off + k * 3, none⟩ = some (.int .i64 x.cell) ∧ w.cell? ⟨b, off + k * 3 + 1, none⟩ = some (.int .i64 x.version) ∧ w.cell? ⟨b, off + k * 3 + 2, none⟩ = some (.int .i64 x.value) := by
  obtain ⟨b, off, x, hA, hx, hc⟩ := Rd.at_ dc_len hr (by decide) k hk
  exact ⟨b, off, x, hA, hx, by have := hc 0 _ rfl; simpa using this, hc 1 _ rfl, hc 2 _ rfl⟩
theorem ds_len {w : World} {A : Option Addr} {n : Nat} {l : List Read} (hr : Rd w 3 A n (ds l)) : l.length = n := Rd.len dc_len hr (by decide)
theorem ds_take (l : List Read) (k : Nat) (x : Read) (hk : l[k]? = some x) : ds (l.take (k + 1)) = ds (l.take k) ++ dc x := flat_take l k x hk
theorem ds_app (a b : List Read) : ds (a ++ b) = ds a ++ ds b := by unfold ds; rw [List.flatMap_append]
theorem ds_one (l : List Read) : ∀ u ∈ ds l, u.oneCell' = true := flat_one dc_one l
/-- The first ones of a slice. -/
theorem rd_take {w : World} {A : Option Addr} {n : Nat} {l : List Read} (hr : Rd w 3 A n (ds l)) (k : Nat) (hk : k ≤ n) : Rd w 3 A k (ds (l.take k)) := by
  have hl := ds_len hr
  refine ⟨?_, fun h0 => ?_⟩
  · unfold ds; rw [flat_len dc_len, List.length_take, hl, Nat.min_eq_left hk]
  · obtain ⟨b, off, e, hc⟩ := hr.2 (by omega)
    refine ⟨b, off, e, fun j u hu => hc j u ?_⟩
    have e2 : ds l = ds (l.take k) ++ ds (l.drop k) := by rw [← ds_app, List.take_append_drop]
    rw [e2, List.getElem?_append_left (List.getElem?_eq_some_iff.1 hu).1]; exact hu

def timeB (n : Int) : Bool := decide (0 ≤ n ∧ n ≤ 2147483647)
def oneB (r : Read) : Bool := decide (0 ≤ r.cell) && (timeB r.version && Heap.vB r.value)
def hasB (l : List Read) (c : Int) : Bool := l.any (fun r => r.cell == c)
def goodB (l : List Read) : Bool := l.all oneB && decide ((l.map Read.cell).Nodup)
def rightB (l : List Read) : Bool := decide (l.length ≤ 24) && goodB l
def findS (l : List Read) (c : Int) : Option Read := l.find? (fun r => r.cell == c)
def addS (l : List Read) (r : Read) : List Read × Int :=
  if (rightB l && oneB r) = true then (match findS l r.cell with | some x => if x = r then (l, 0) else (l, 8) | none => if l.length = 24 then (l, 5) else (l ++ [r], 0)) else (l, 1)
def findR (l : List Read) (c : Int) : Read × Bool :=
  if rightB l = true then (match findS l c with | some x => (x, true) | none => (⟨0, 0, 0⟩, false)) else (⟨0, 0, 0⟩, false)
def sortZ (l : List Int) : List Int := l.mergeSort (fun x y => decide (x ≤ y))
def cellsS (l : List Read) : List Int := if rightB l = true then sortZ (l.map Read.cell) else []
def asB (t : List Stripe.Rec) (who : Int) (r : Read) : Bool :=
  match t[(r.cell % (t.length : Int)).toNat]? with | some x => x.version == r.version && (x.owner == 0 || x.owner == who) | none => false
def validS (l : List Read) (t : List Stripe.Rec) (who : Int) : Int :=
  if (rightB l && (Stripe.rightB t && Stripe.whoB who)) = true then (if l.all (asB t who) = true then 0 else 8) else 1
def stillB (h : List Heap.Cell) (r : Read) : Bool := Heap.liveAt h r.cell && (Heap.valAt h r.cell == r.value)
def sameS (l : List Read) (h : List Heap.Cell) : Bool := (rightB l && Heap.rightB h) && l.all (stillB h)

theorem good_take (l : List Read) (k : Nat) (x : Read) (hk : l[k]? = some x) : goodB (l.take (k + 1)) = (goodB (l.take k) && (oneB x && !(hasB (l.take k) x.cell))) := by
  have e : l.take (k + 1) = l.take k ++ [x] := by rw [List.take_add_one, hk]; rfl
  rw [e, Bool.eq_iff_iff]
  unfold goodB hasB
  simp only [List.all_append, List.map_append, List.nodup_append, Bool.and_eq_true, decide_eq_true_eq, List.all_cons, List.all_nil, List.map_cons, List.map_nil, Bool.not_eq_true', List.any_eq_false, List.mem_singleton, List.mem_map]
  constructor
  · rintro ⟨⟨h1, h2, -⟩, h3, -, h4⟩
    refine ⟨⟨h1, h3⟩, h2, fun y hy => ?_⟩
    have := h4 y.cell ⟨y, hy, rfl⟩ x.cell rfl
    simpa using this
  · rintro ⟨⟨h1, h3⟩, h2, h4⟩
    refine ⟨⟨h1, h2, trivial⟩, h3, by simp, ?_⟩
    rintro a ⟨y, hy, rfl⟩ b rfl
    have := h4 y hy
    simpa using this
theorem good_sub (l m : List Read) (hs : m.Sublist l) (h : goodB l = true) : goodB m = true := by
  unfold goodB at *
  rw [Bool.and_eq_true, decide_eq_true_eq, List.all_eq_true] at *
  exact ⟨fun x hx => h.1 x (hs.subset hx), h.2.sublist (hs.map _)⟩
theorem good_bad (l : List Read) (k : Nat) (h : goodB (l.take k) = false) : goodB l = false := by
  cases hg : goodB l
  · rfl
  · rw [good_sub l _ (List.take_sublist k l) hg] at h; cases h
theorem right_bad (l : List Read) (k : Nat) (h : goodB (l.take k) = false) : rightB l = false := by unfold rightB; rw [good_bad l k h, Bool.and_false]
theorem right_sub (l m : List Read) (hs : m.Sublist l) (h : rightB l = true) : rightB m = true := by
  unfold rightB at *
  rw [Bool.and_eq_true, decide_eq_true_eq] at *
  exact ⟨Nat.le_trans hs.length_le h.1, good_sub l m hs h.2⟩
theorem right_len (l : List Read) (h : rightB l = true) : l.length ≤ 24 := by
  unfold rightB at h; rw [Bool.and_eq_true, decide_eq_true_eq] at h; exact h.1
theorem right_one (l : List Read) (h : rightB l = true) (x : Read) (hx : x ∈ l) : oneB x = true := by
  unfold rightB goodB at h; rw [Bool.and_eq_true, Bool.and_eq_true, List.all_eq_true] at h; exact h.2.1 x hx
theorem right_nodup (l : List Read) (h : rightB l = true) : (l.map Read.cell).Nodup := by
  unfold rightB goodB at h; rw [Bool.and_eq_true, Bool.and_eq_true, decide_eq_true_eq (p := (l.map Read.cell).Nodup)] at h; exact h.2.2
theorem one_cell (x : Read) (h : oneB x = true) : 0 ≤ x.cell := by
  unfold oneB at h; rw [Bool.and_eq_true, decide_eq_true_eq] at h; exact h.1

theorem has_take (l : List Read) (k : Nat) (x : Read) (c : Int) (hk : l[k]? = some x) : hasB (l.take (k + 1)) c = (hasB (l.take k) c || (x.cell == c)) := take_any l _ k x hk
theorem find_at (l : List Read) (k : Nat) (x : Read) (c : Int) (hk : l[k]? = some x) (hx : x.cell = c) (h0 : hasB (l.take k) c = false) : findS l c = some x := by
  obtain ⟨hl, rfl⟩ := List.getElem?_eq_some_iff.1 hk
  unfold findS
  rw [List.find?_eq_some_iff_getElem]
  refine ⟨by simpa using hx, k, hl, rfl, fun j hj => ?_⟩
  unfold hasB at h0
  rw [List.any_eq_false] at h0
  have hm : l[j]'(by omega) ∈ l.take k := by rw [List.mem_take_iff_getElem]; exact ⟨j, by omega, rfl⟩
  have := h0 _ hm
  simpa using this
theorem find_none (l : List Read) (c : Int) (h0 : hasB l c = false) : findS l c = none := by
  unfold findS; rw [List.find?_eq_none]; unfold hasB at h0; rw [List.any_eq_false] at h0; exact h0
theorem find_has (l : List Read) (c : Int) : (findS l c).isSome = hasB l c := by
  unfold findS hasB; rw [Bool.eq_iff_iff, List.find?_isSome, List.any_eq_true]
theorem find_some (l : List Read) (c : Int) (x : Read) (h : findS l c = some x) : x ∈ l ∧ x.cell = c := by
  unfold findS at h
  exact ⟨List.mem_of_find?_eq_some h, by have := List.find?_some h; simpa using this⟩
/-- The place of a cell's; -1: there is none. -/
def IsPlace (l : List Read) (c p : Int) : Prop := (p = -1 ∧ findS l c = none) ∨ ∃ k x, p = (k : Nat) ∧ l[k]? = some x ∧ findS l c = some x

theorem add_no (l : List Read) (r : Read) (h : (rightB l && oneB r) = false) : addS l r = (l, 1) := by unfold addS; rw [h]; rfl
theorem add_had (l : List Read) (r : Read) (h : (rightB l && oneB r) = true) (hf : findS l r.cell = some r) : addS l r = (l, 0) := by
  unfold addS; rw [if_pos h, hf]; simp
theorem add_stale (l : List Read) (r x : Read) (h : (rightB l && oneB r) = true) (hf : findS l r.cell = some x) (hx : x ≠ r) : addS l r = (l, 8) := by
  unfold addS; rw [if_pos h, hf]; simp [hx]
theorem add_big (l : List Read) (r : Read) (h : (rightB l && oneB r) = true) (hf : findS l r.cell = none) (hl : l.length = 24) : addS l r = (l, 5) := by
  unfold addS; rw [if_pos h, hf]; simp [hl]
theorem add_new (l : List Read) (r : Read) (h : (rightB l && oneB r) = true) (hf : findS l r.cell = none) (hl : l.length ≠ 24) : addS l r = (l ++ [r], 0) := by
  unfold addS; rw [if_pos h, hf]; simp [hl]
theorem add_len (l : List Read) (r : Read) : (addS l r).1.length ≤ l.length + 1 := by
  unfold addS
  split
  · split
    · split <;> simp
    · split <;> simp
  · simp

theorem sort_perm (l : List Int) : (sortZ l).Perm l := List.mergeSort_perm _ _
theorem sort_sorted (l : List Int) : (sortZ l).Pairwise (· ≤ ·) := by
  have := List.pairwise_mergeSort (le := fun x y : Int => decide (x ≤ y)) (by simp; omega) (by simp; omega) l
  simpa [sortZ] using this
theorem sort_of (l s : List Int) (hp : s.Perm l) (hs : s.Pairwise (· ≤ ·)) : sortZ l = s :=
  List.Perm.eq_of_pairwise (le := (· ≤ ·)) (fun _ _ _ _ h1 h2 => Int.le_antisymm h1 h2) (sort_sorted l) hs ((sort_perm l).trans hp.symm)
theorem sort_eq (l m : List Int) (hp : l.Perm m) : sortZ l = sortZ m := sort_of l _ ((sort_perm m).trans hp.symm) (sort_sorted m)
theorem sort_len (l : List Int) : (sortZ l).length = l.length := (sort_perm l).length_eq
theorem cells_len (l : List Read) : (cellsS l).length ≤ l.length := by
  unfold cellsS; split
  · rw [sort_len, List.length_map]; exact Nat.le_refl _
  · simp
end Go.Proofs.Ytddgdhaioomnnaa.Reads

namespace Go.Proofs.Ytddgdhaioomnnaa.Reads
open Mem

/-- Of the first i reads: b is the least cell above la, or -1. -/
def Least (l : List Read) (i : Nat) (la b : Int) : Prop :=
  (b = -1 ∧ ∀ x ∈ l.take i, x.cell ≤ la) ∨ (0 ≤ b ∧ la < b ∧ (∃ x ∈ l.take i, x.cell = b) ∧ ∀ y ∈ l.take i, la < y.cell → b ≤ y.cell)
theorem mem_take_succ {l : List Read} {i : Nat} {x : Read} (hx : l[i]? = some x) (y : Read) : y ∈ l.take (i + 1) ↔ y ∈ l.take i ∨ y = x := by
  rw [List.take_add_one, hx]; simp
theorem least_0 (l : List Read) (la : Int) : Least l 0 la (-1) := .inl ⟨rfl, by simp⟩
theorem least_skip (l : List Read) (i : Nat) (la b : Int) (x : Read) (hx : l[i]? = some x) (h : Least l i la b) (hs : x.cell ≤ la ∨ (0 ≤ b ∧ b ≤ x.cell)) : Least l (i + 1) la b := by
  rcases h with ⟨rfl, h⟩ | ⟨h0, h1, ⟨y, hy, e⟩, h2⟩
  · refine .inl ⟨rfl, fun y hy => ?_⟩
    rcases (mem_take_succ hx y).1 hy with hy | rfl
    · exact h y hy
    · omega
  · refine .inr ⟨h0, h1, ⟨y, (mem_take_succ hx y).2 (.inl hy), e⟩, fun z hz hlt => ?_⟩
    rcases (mem_take_succ hx z).1 hz with hz | rfl
    · exact h2 z hz hlt
    · omega
theorem least_take (l : List Read) (i : Nat) (la b : Int) (x : Read) (hx : l[i]? = some x) (hx0 : 0 ≤ x.cell) (h : Least l i la b) (hl : la < x.cell) (hs : b < 0 ∨ x.cell < b) : Least l (i + 1) la x.cell := by
  refine .inr ⟨hx0, hl, ⟨x, (mem_take_succ hx x).2 (.inr rfl), rfl⟩, fun z hz hlt => ?_⟩
  rcases (mem_take_succ hx z).1 hz with hz | rfl
  · rcases h with ⟨rfl, h⟩ | ⟨h0, h1, ⟨y, hy, e⟩, h2⟩
    · have := h z hz; omega
    · have := h2 z hz hlt; omega
  · exact Int.le_refl _
def lastOf (s : List Int) (j : Nat) : Int := if j = 0 then -1 else s.getD (j - 1) 0
theorem sort_strict (l : List Int) (hn : l.Nodup) : (sortZ l).Pairwise (· < ·) := by
  have h1 := sort_sorted l
  have h2 : (sortZ l).Nodup := (sort_perm l).nodup_iff.2 hn
  refine (h1.and h2).imp ?_
  rintro a b ⟨h, h'⟩
  omega
theorem above_last (s : List Int) (hs : s.Pairwise (· < ·)) (h0 : ∀ x ∈ s, 0 ≤ x) (j i : Nat) (hj : j ≤ s.length) (hi : i < s.length) : lastOf s j < s[i] ↔ j ≤ i := by
  have hp := List.pairwise_iff_getElem.1 hs
  unfold lastOf
  by_cases hj0 : j = 0
  · rw [if_pos hj0]
    have := h0 _ (List.getElem_mem hi)
    omega
  · rw [if_neg hj0]
    have e : s.getD (j - 1) 0 = s[j - 1]'(by omega) := by rw [List.getD_eq_getElem?_getD, List.getElem?_eq_getElem (by omega)]; rfl
    rw [e]
    constructor
    · intro h
      rcases Nat.lt_or_ge i j with hij | hij
      · rcases Nat.lt_or_ge i (j - 1) with h2 | h2
        · have := hp i (j - 1) hi (by omega) h2
          omega
        · have : i = j - 1 := by omega
          subst this
          omega
      · exact hij
    · intro h
      exact hp (j - 1) i (by omega) hi (by omega)
theorem least_end (l : List Read) (j : Nat) (b : Int) (hr : rightB l = true) (hj : j ≤ l.length) (h : Least l l.length (lastOf (sortZ (l.map Read.cell)) j) b) :
    (b = -1 ∧ j = l.length) ∨ (0 ≤ b ∧ (sortZ (l.map Read.cell))[j]? = some b) := by
  have hs := sort_strict _ (right_nodup l hr)
  have hm : ∀ x, x ∈ sortZ (l.map Read.cell) ↔ ∃ y ∈ l, y.cell = x := fun x => by rw [(sort_perm _).mem_iff, List.mem_map]
  have hlen : (sortZ (l.map Read.cell)).length = l.length := by rw [sort_len, List.length_map]
  have h0 : ∀ x ∈ sortZ (l.map Read.cell), 0 ≤ x := fun x hx => by
    obtain ⟨y, hy, rfl⟩ := (hm x).1 hx
    exact one_cell y (right_one l hr y hy)
  unfold Least at h
  rw [List.take_length] at h
  generalize sortZ (l.map Read.cell) = s at *
  rcases h with ⟨rfl, h⟩ | ⟨hb, h1, ⟨x, hx, rfl⟩, h2⟩
  · refine .inl ⟨rfl, ?_⟩
    rcases Nat.lt_or_ge j l.length with hlt | hge
    · have h3 := (above_last s hs h0 j j (by omega) (by omega)).2 (Nat.le_refl _)
      obtain ⟨y, hy, e⟩ := (hm s[j]).1 (List.getElem_mem _)
      have := h y hy
      omega
    · omega
  · refine .inr ⟨hb, ?_⟩
    obtain ⟨i, hi, e⟩ := List.getElem_of_mem ((hm x.cell).2 ⟨x, hx, rfl⟩)
    have hji := (above_last s hs h0 j i (by omega) hi).1 (by rw [e]; exact h1)
    have hjs : j < s.length := by omega
    have h3 := (above_last s hs h0 j j (by omega) hjs).2 (Nat.le_refl _)
    obtain ⟨y, hy, e2⟩ := (hm s[j]).1 (List.getElem_mem _)
    have h4 := h2 y hy (by omega)
    have : i = j := by
      rcases Nat.lt_or_ge j i with hlt | hge
      · have := List.pairwise_iff_getElem.1 hs j i hjs hi hlt
        omega
      · omega
    subst this
    rw [List.getElem?_eq_getElem hi, e]
theorem last_succ (s : List Int) (j : Nat) (b : Int) (h : s[j]? = some b) : lastOf s (j + 1) = b := by
  unfold lastOf; rw [if_neg (by omega), Nat.add_sub_cancel, List.getD_eq_getElem?_getD, h]; rfl
end Go.Proofs.Ytddgdhaioomnnaa.Reads

namespace Go.Proofs.Ytddgdhaioomnnaa.Reads
open Go.ChangeShapes Go.WideShapes Go.ChangeAt Go.RowKit Mem


/-- The world has drawn, and has new blocks behind it: nothing else. -/
def Grew (w w' : World) : Prop := ∃ q os, w' = Sort.grow (w.drewN q) os
theorem Grew.refl (w : World) : Grew w w := ⟨0, #[], by rw [Sort.grow_empty]; rfl⟩
theorem Grew.alloc {w w1 : World} (h : Grew w w1) (o : Obj) : Grew w (w1.alloc o) := by
  obtain ⟨q, os, rfl⟩ := h
  exact ⟨q, os ++ #[o], by rw [Sort.alloc_eq_grow, Sort.grow_grow]⟩
theorem Grew.drewN {w w1 : World} (h : Grew w w1) (m : Nat) : Grew w (w1.drewN m) := by
  obtain ⟨q, os, rfl⟩ := h
  refine ⟨q + m, os, ?_⟩
  show Sort.grow ((w.drewN q).drewN m) os = _
  rw [World.drewN_drewN]
theorem Grew.trans {w w1 w2 : World} (h : Grew w w1) (k : Grew w1 w2) : Grew w w2 := by
  obtain ⟨q, os, rfl⟩ := k
  obtain ⟨q', os', e⟩ := h.drewN q
  exact ⟨q', os' ++ os, by rw [e, Sort.grow_grow]⟩
theorem Grew.below {w w' : World} (h : Grew w w') : Below w.heap.size w w' := by
  obtain ⟨q, os, rfl⟩ := h
  exact ⟨rfl, rfl, rfl, by simp [Sort.grow], fun i hi => by exact Sort.heap_grow_old (w.drewN q) os hi⟩
/-- What is returned: a truth; the world has grown. -/
def RetBG (w : World) (b : Bool) (e : Ending) (w' : World) : Prop := e = .returned (.bool b) ∧ Grew w w'
theorem RetBG.toB {w : World} {b : Bool} {e : Ending} {w' : World} (h : RetBG w b e w') : RetB w b e w' := ⟨h.1, h.2.below⟩



theorem cells_read {w : World} {b off n : Nat} {l : List Read} (hr : Rd w 3 (some ⟨b, off, none⟩) n (ds l)) {k : Nat} {x : Read} (hx : l[k]? = some x) :
    w.cell? ⟨b, off + k * 3, none⟩ = some (.int .i64 x.cell) ∧ w.cell? ⟨b, off + k * 3 + 1, none⟩ = some (.int .i64 x.version) ∧ w.cell? ⟨b, off + k * 3 + 2, none⟩ = some (.int .i64 x.value) := by
  have hl := ds_len hr
  obtain ⟨b', off', y, e, hy, h0, h1, h2⟩ := at_read hr k (by have := (List.getElem?_eq_some_iff.1 hx).1; omega)
  injection e with e
  injection e with e1 e2
  subst e1 e2
  rw [hx] at hy
  injection hy with hy
  subst hy
  exact ⟨h0, h1, h2⟩
theorem has_at (l : List Read) (j k : Nat) (y : Read) (hy : l[j]? = some y) (hj : j < k) : hasB (l.take k) y.cell = true := by
  unfold hasB
  rw [List.any_eq_true]
  exact ⟨y, List.mem_of_getElem? (i := j) (by rw [List.getElem?_take_of_lt hj]; exact hy), by simp⟩



end Go.Proofs.Ytddgdhaioomnnaa.Reads

namespace Go.Proofs.Ytddgdhaioomnnaa.Reads
open Go.ChangeShapes Go.WideShapes Go.ChangeAt Go.RowKit Mem

/-- What is returned: a number, with new memory at most. -/
def RetI (w : World) (v : Int) (e : Ending) (w' : World) : Prop := e = .returned (.int .i64 v) ∧ Below w.heap.size w w'

/-- The record of a read's cell. -/
theorem place_of (t : List Stripe.Rec) (n : Nat) (hl : t.length = n) (hn : 0 < n) (c : Int) : ∃ j x, c % (n : Int) = (j : Nat) ∧ j < n ∧ t[j]? = some x := by
  have h1 := Int.emod_nonneg c (show (n : Int) ≠ 0 by omega)
  have h2 := Int.emod_lt_of_pos c (show (0 : Int) < (n : Int) by omega)
  refine ⟨(c % (n : Int)).toNat, t[(c % (n : Int)).toNat]'(by omega), by omega, by omega, List.getElem?_eq_getElem (by omega)⟩
theorem as_at (t : List Stripe.Rec) (n : Nat) (hl : t.length = n) (who : Int) (r : Read) (j : Nat) (x : Stripe.Rec) (hj : r.cell % (n : Int) = (j : Int)) (hx : t[j]? = some x) :
    asB t who r = (x.version == r.version && (x.owner == 0 || x.owner == who)) := by
  unfold asB; rw [hl, hj, Int.toNat_natCast, hx]
theorem rec_owner (t : List Stripe.Rec) (h : Stripe.rightB t = true) (j : Nat) (x : Stripe.Rec) (hx : t[j]? = some x) : 0 ≤ x.owner := by
  unfold Stripe.rightB at h; rw [Bool.and_eq_true] at h
  have := List.all_eq_true.1 h.2 x (List.mem_of_getElem? hx)
  unfold Stripe.recB at this; simp at this; omega
theorem rec_len (t : List Stripe.Rec) (h : Stripe.rightB t = true) : 0 < t.length := by
  unfold Stripe.rightB at h; rw [Bool.and_eq_true] at h
  have := h.1; simp at this; omega
theorem cells_rec {w : World} {b off n : Nat} {l : List Stripe.Rec} (hr : Rd w 2 (some ⟨b, off, none⟩) n (Stripe.rs l)) {k : Nat} {x : Stripe.Rec} (hx : l[k]? = some x) :
    w.cell? ⟨b, off + k * 2, none⟩ = some (.int .i64 x.version) ∧ w.cell? ⟨b, off + k * 2 + 1, none⟩ = some (.int .i64 x.owner) := by
  have hl := Stripe.rs_len hr
  obtain ⟨b', off', y, e, hy, h0, h1⟩ := Stripe.at_rec hr k (by have := (List.getElem?_eq_some_iff.1 hx).1; omega)
  injection e with e
  injection e with e1 e2
  subst e1 e2
  rw [hx] at hy
  injection hy with hy
  subst hy
  exact ⟨h0, h1⟩


theorem still_at (h : List Heap.Cell) (r : Read) (hl : Heap.liveAt h r.cell = true) (j : Nat) (hj : r.cell = (j : Int)) (x : Heap.Cell) (hx : h[j]? = some x) : stillB h r = (x.value == r.value) := by
  unfold stillB; rw [hl, hj, Heap.val_at h j x hx]; simp
theorem cells_cell {w : World} {b off n : Nat} {l : List Heap.Cell} (hr : Rd w 2 (some ⟨b, off, none⟩) n (Heap.cs l)) {k : Nat} {x : Heap.Cell} (hx : l[k]? = some x) :
    w.cell? ⟨b, off + k * 2, none⟩ = some (.bool x.live) ∧ w.cell? ⟨b, off + k * 2 + 1, none⟩ = some (.int .i64 x.value) := by
  have hl : l.length = n := by have := hr.1; rw [Heap.cs_len] at this; omega
  obtain ⟨b', off', y, e, hy, h0, h1⟩ := Heap.at_cell hr k (by have := (List.getElem?_eq_some_iff.1 hx).1; omega)
  injection e with e
  injection e with e1 e2
  subst e1 e2
  rw [hx] at hy
  injection hy with hy
  subst hy
  exact ⟨h0, h1⟩

end Go.Proofs.Ytddgdhaioomnnaa.Reads

namespace Go.Proofs.Ytddgdhaioomnnaa.Reads
open Go.ChangeShapes Go.WideShapes Go.ChangeAt Go.RowKit Mem


def lenV : Value → Nat
  | .slice _ n _ => n
  | _ => 0
end Go.Proofs.Ytddgdhaioomnnaa.Reads
