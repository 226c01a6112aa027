/-
  PLAIN LEMMAS ON HEAPS: which cells are live, and how many; what many writes come to. No conditions. Nothing of the program is named here.
-/
import Derived.Test.YthgmjmecedhkoaaHeapMore
namespace Go.Proofs.Ythgmjmecedhkoaa.Heap

def newS (n : Int) : List Cell × Int := if 1 ≤ n ∧ n ≤ 64 then (List.replicate n.toNat ⟨false, 0⟩, 0) else ([], 1)
def liveS (h : List Cell) : List Nat := if rightB h = true then (List.range h.length).filter (fun k => liveAt h (k : Int)) else []

/-- How many of the first i are live. -/
def cnt (h : List Cell) (i : Nat) : Nat := ((List.range i).filter (fun k : Nat => liveAt h (k : Int))).length
theorem cnt_succ (h : List Cell) (i : Nat) : cnt h (i + 1) = cnt h i + (if liveAt h (i : Int) = true then 1 else 0) := by
  unfold cnt; rw [List.range_succ, List.filter_append, List.length_append]
  by_cases hl : liveAt h (i : Int) = true <;> simp [hl]
theorem cnt_le (h : List Cell) (i : Nat) : cnt h i ≤ i := by
  unfold cnt; have := List.length_filter_le (fun k : Nat => liveAt h (k : Int)) (List.range i); simpa using this
theorem live_nth (h : List Cell) (hr : rightB h = true) (i : Nat) (hi : i < h.length) (hl : liveAt h (i : Int) = true) : (liveS h)[cnt h i]? = some i := by
  unfold liveS; rw [if_pos hr]
  obtain ⟨m, hm⟩ : ∃ m, h.length = (i + 1) + m := ⟨h.length - (i + 1), by omega⟩
  rw [hm, List.range_add, List.range_succ, List.filter_append, List.filter_append, List.append_assoc, List.getElem?_append_right (by unfold cnt; exact Nat.le_refl _)]
  unfold cnt; simp [hl]
theorem live_all (h : List Cell) (hr : rightB h = true) : (liveS h).length = cnt h h.length := by unfold liveS cnt; rw [if_pos hr]
theorem cnt_count (h : List Cell) : cnt h h.length = h.countP Cell.live := by
  have e : h = (List.range h.length).map (fun k => h.getD k default) := by
    apply List.ext_getElem
    · simp
    · intro i h1 h2
      simp [h1]
  conv => rhs; rw [e]
  rw [List.countP_map, List.countP_eq_length_filter]
  unfold cnt
  congr 1
  apply List.filter_congr
  intro k hk
  have hk : k < h.length := List.mem_range.1 hk
  rw [live_at h k _ (List.getElem?_eq_getElem hk)]
  simp [hk]
theorem live_more (h : List Cell) (v : Int) (k : Nat) (x : Cell) (hk : h[k]? = some x) (hx : x.live = false) :
    (setAt h (k : Int) ⟨true, v⟩).countP Cell.live = h.countP Cell.live + 1 := by
  obtain ⟨hl, rfl⟩ := List.getElem?_eq_some_iff.1 hk
  unfold setAt; rw [if_neg (by omega)]
  simp only [Int.toNat_natCast]
  rw [List.countP_set hl]
  simp [hx]
theorem full_all (h : List Cell) (hf : free1 h = none) : h.countP Cell.live = h.length := by
  rw [List.countP_eq_length]
  intro x hx
  unfold free1 at hf
  rw [List.findIdx?_eq_none_iff] at hf
  have := hf x hx; simpa using this

/-- One write is refused just where nothing is got. -/
theorem put_one (h : List Cell) (hr : rightB h = true) (i : Int) (v : Int) (hv : vB v = true) :
    putS h [⟨i, v⟩] = if liveAt h i = true then (setAt h i ⟨true, v⟩, 0) else (h, 3) := by
  unfold putS; simp [hr, hv, putAll]

theorem alloc_cases (h : List Cell) (v : Int) (hr : rightB h = true) (hv : vB v = true) :
    (∃ k x : _, h[k]? = some x ∧ x.live = false ∧ allocS h v = (setAt h ((k : Nat) : Int) ⟨true, v⟩, (k : Int), 0)) ∨ (free1 h = none ∧ allocS h v = (h, 0, 4)) := by
  unfold allocS; rw [hr, hv]
  cases hf : free1 h with
  | none => right; exact ⟨rfl, rfl⟩
  | some k =>
    left
    unfold free1 at hf
    rw [List.findIdx?_eq_some_iff_getElem] at hf
    obtain ⟨hk, hn, _⟩ := hf
    exact ⟨k, h[k], List.getElem?_eq_getElem hk, by simpa using hn, rfl⟩

/-- A write of a live cell leaves who is live. -/
theorem set_live (h : List Cell) (a : Int) (v : Int) (hl : liveAt h a = true) (c : Int) : liveAt (setAt h a ⟨true, v⟩) c = liveAt h c := by
  obtain ⟨h0, h1, x, hx, hlv⟩ := live_in h a hl
  obtain ⟨k, rfl⟩ := Int.eq_ofNat_of_zero_le h0
  simp only [Int.toNat_natCast] at hx h1
  by_cases hc : 0 ≤ c
  · obtain ⟨j, rfl⟩ := Int.eq_ofNat_of_zero_le hc
    by_cases hj : j < h.length
    · by_cases e : j = k
      · subst e
        rw [live_at _ j _ (setAt_at h j _ _ hx), hl]
      · rw [live_at _ j _ (setAt_ne h k j _ _ (List.getElem?_eq_getElem hj) (by omega)), live_at _ j _ (List.getElem?_eq_getElem hj)]
    · rw [live_out _ _ (by rw [setAt_len]; omega), live_out _ _ (by omega)]
  · rw [live_out _ _ (by omega), live_out _ _ (by omega)]
theorem putAll_live (h : List Cell) (l : List Write) (hl : l.all (fun w => liveAt h w.cell) = true) (c : Int) : liveAt (putAll h l) c = liveAt h c := by
  induction l generalizing h with
  | nil => rfl
  | cons x l ih =>
    simp only [List.all_cons, Bool.and_eq_true] at hl
    have hs := set_live h x.cell x.value hl.1
    show liveAt (putAll (setAt h x.cell ⟨true, x.value⟩) l) c = _
    rw [ih, hs]
    rw [List.all_eq_true] at *
    intro y hy; rw [hs]; exact hl.2 y hy
theorem putAll_right (h : List Cell) (l : List Write) (hr : rightB h = true) (hv : l.all (fun w => vB w.value) = true) : rightB (putAll h l) = true := by
  induction l generalizing h with
  | nil => exact hr
  | cons x l ih =>
    simp only [List.all_cons, Bool.and_eq_true] at hv
    exact ih (setAt h x.cell ⟨true, x.value⟩) (set_right h _ _ hr (by unfold cellB; simp [hv.1])) hv.2
/-- What a cell holds behind many writes: the last one of it. -/
def lastV (i : Nat) (l : List Write) (v : Int) : Int := l.foldl (fun v w => if w.cell = (i : Int) then w.value else v) v
theorem lastV_take (i : Nat) (l : List Write) (v : Int) (j : Nat) (x : Write) (hx : l[j]? = some x) : lastV i (l.take (j + 1)) v = if x.cell = (i : Int) then x.value else lastV i (l.take j) v := by
  unfold lastV; rw [List.take_add_one, hx]; simp
theorem putAll_at (h : List Cell) (l : List Write) (hl : l.all (fun w => liveAt h w.cell) = true) (i : Nat) (x : Cell) (hx : h[i]? = some x) : (putAll h l)[i]? = some ⟨x.live, lastV i l x.value⟩ := by
  induction l generalizing h x with
  | nil => simpa [putAll, lastV] using hx
  | cons y l ih =>
    simp only [List.all_cons, Bool.and_eq_true] at hl
    have hs := set_live h y.cell y.value hl.1
    have hl' : l.all (fun w => liveAt (setAt h y.cell ⟨true, y.value⟩) w.cell) = true := by
      rw [List.all_eq_true] at *
      intro z hz; rw [hs]; exact hl.2 z hz
    show (putAll (setAt h y.cell ⟨true, y.value⟩) l)[i]? = _
    by_cases e : y.cell = (i : Int)
    · have hli := hl.1
      rw [e, live_at h i _ hx] at hli
      have := ih (setAt h y.cell ⟨true, y.value⟩) hl' ⟨true, y.value⟩ (by rw [e]; exact setAt_at h i _ _ hx)
      rw [this, hli]
      simp [lastV, e]
    · have := ih (setAt h y.cell ⟨true, y.value⟩) hl' x (setAt_ne h y.cell i _ _ hx (fun h => e h.symm))
      rw [this]
      simp [lastV, e]
theorem put_cases (h : List Cell) (l : List Write) (hr : rightB h = true) :
    (l.all (fun w => vB w.value) = true ∧ l.all (fun w => liveAt h w.cell) = true ∧ putS h l = (putAll h l, 0)) ∨
    (∃ e, e ≠ 0 ∧ putS h l = (h, e) ∧ ¬ (l.all (fun w => vB w.value) = true ∧ l.all (fun w => liveAt h w.cell) = true)) := by
  unfold putS; rw [hr]
  by_cases h1 : l.all (fun w => vB w.value) = true
  · by_cases h2 : l.all (fun w => liveAt h w.cell) = true
    · left; exact ⟨h1, h2, by simp [h1, h2]⟩
    · right; exact ⟨3, by decide, by simp [h1, h2], fun h => h2 h.2⟩
  · right; exact ⟨1, by decide, by simp [h1], fun h => h1 h.1⟩
theorem putAll_append (h : List Cell) (a b : List Write) : putAll h (a ++ b) = putAll (putAll h a) b := by unfold putAll; rw [List.foldl_append]

/-- A write of what stands there changes nothing. -/
theorem set_same (h : List Cell) (i : Nat) (x : Cell) (hx : h[i]? = some x) (hl : x.live = true) : setAt h (i : Int) ⟨true, x.value⟩ = h := by
  obtain ⟨hi, rfl⟩ := List.getElem?_eq_some_iff.1 hx
  unfold setAt; rw [if_neg (by omega)]
  simp only [Int.toNat_natCast]
  have : (⟨true, h[i].value⟩ : Cell) = h[i] := by rw [← hl]
  rw [this]; simp
def own_ (h : List Cell) (i : Nat) : Write := ⟨(i : Int), valAt h (i : Int)⟩
theorem putAll_own (h : List Cell) (l : List Nat) (hl : ∀ i ∈ l, liveAt h (i : Int) = true) : putAll h (l.map (own_ h)) = h := by
  induction l with
  | nil => rfl
  | cons i l ih =>
    have h1 := hl i (by simp)
    obtain ⟨_, _, x, hx, hlv⟩ := live_in h i h1
    simp only [Int.toNat_natCast] at hx
    show putAll (setAt h (i : Int) ⟨true, valAt h (i : Int)⟩) (l.map (own_ h)) = h
    rw [val_at h i x hx, set_same h i x hx hlv]
    exact ih (fun j hj => hl j (by simp [hj]))
theorem liveS_mem (h : List Cell) (i : Nat) (hi : i ∈ liveS h) : rightB h = true ∧ i < h.length ∧ liveAt h (i : Int) = true := by
  unfold liveS at hi
  split at hi
  · rename_i hr
    rw [List.mem_filter, List.mem_range] at hi
    exact ⟨hr, hi.1, hi.2⟩
  · simp at hi
theorem put_own (h : List Cell) (hr : rightB h = true) : putS h ((liveS h).map (own_ h)) = (h, 0) := by
  have h1 : ((liveS h).map (own_ h)).all (fun w => vB w.value) = true := by
    rw [List.all_eq_true]; intro w hw
    obtain ⟨i, hi, rfl⟩ := List.mem_map.1 hw
    obtain ⟨_, hl, _⟩ := liveS_mem h i hi
    have hc := right_cell h hr i _ (List.getElem?_eq_getElem hl)
    unfold cellB at hc; rw [Bool.and_eq_true] at hc
    simp only [own_]; rw [val_at h i _ (List.getElem?_eq_getElem hl)]; exact hc.1
  have h2 : ((liveS h).map (own_ h)).all (fun w => liveAt h w.cell) = true := by
    rw [List.all_eq_true]; intro w hw
    obtain ⟨i, hi, rfl⟩ := List.mem_map.1 hw
    exact (liveS_mem h i hi).2.2
  unfold putS; rw [hr, h1, h2, if_pos (by rfl), if_pos rfl, putAll_own h _ (fun i hi => (liveS_mem h i hi).2.2)]
end Go.Proofs.Ythgmjmecedhkoaa.Heap
