/-
  PLAIN LEMMAS ON HEAPS: what stays a heap, which cell is first free, what is got behind a write. No conditions. Nothing of the program is named here.
-/
import Derived.Test.YthgmjmecedhkoaaHeapPlain
namespace Go.Proofs.Ythgmjmecedhkoaa.Heap

theorem set_right (h : List Cell) (a : Int) (c : Cell) (hr : rightB h = true) (hc : cellB c = true) : rightB (setAt h a c) = true := by
  unfold rightB at *
  rw [setAt_len]
  rw [Bool.and_eq_true] at *
  refine ⟨hr.1, ?_⟩
  rw [List.all_eq_true] at *
  intro x hx
  unfold setAt at hx
  split at hx
  · exact hr.2 x hx
  · rcases List.mem_or_eq_of_mem_set hx with hx | rfl
    · exact hr.2 x hx
    · exact hc
theorem right_len (h : List Cell) (hr : rightB h = true) : 0 < h.length ∧ h.length < 65 := by
  unfold rightB at hr; rw [Bool.and_eq_true] at hr; simpa using hr.1
theorem right_cell (h : List Cell) (hr : rightB h = true) (k : Nat) (x : Cell) (hk : h[k]? = some x) : cellB x = true := by
  unfold rightB at hr; rw [Bool.and_eq_true] at hr
  exact (List.all_eq_true.1 hr.2) x (List.mem_of_getElem? hk)
theorem free1_some (f : List Cell) (c : Nat) (x : Cell) (hc : f[c]? = some x) (hx : x.live = false) :
    ∃ k y, free1 f = some k ∧ k ≤ c ∧ f[k]? = some y ∧ y.live = false ∧ ∀ i, i < k → ∃ z, f[i]? = some z ∧ z.live = true := by
  obtain ⟨hl, rfl⟩ := List.getElem?_eq_some_iff.1 hc
  cases hf : free1 f with
  | none =>
    unfold free1 at hf
    rw [List.findIdx?_eq_none_iff] at hf
    have := hf _ (List.getElem_mem hl)
    rw [hx] at this; simp at this
  | some k =>
    have hf' := hf
    unfold free1 at hf'
    rw [List.findIdx?_eq_some_iff_getElem] at hf'
    obtain ⟨hk, hn, hb⟩ := hf'
    refine ⟨k, f[k], rfl, ?_, List.getElem?_eq_getElem hk, by simpa using hn, fun i hi => ⟨f[i]'(by omega), List.getElem?_eq_getElem _, by simpa using hb i hi⟩⟩
    rcases Nat.lt_or_ge c k with h | h
    · have := hb c h; rw [hx] at this; simp at this
    · exact h
theorem again (h : List Cell) (cell v : Int) (hr : rightB h = true) (hl : liveAt h cell = true) (hv : vB v = true) :
    ∃ c k : Nat, cell = c ∧ c < h.length ∧ k ≤ c ∧ getS (setAt h cell ⟨false, 0⟩) cell = (0, 3) ∧
      allocS (setAt h cell ⟨false, 0⟩) v = (setAt (setAt h cell ⟨false, 0⟩) k ⟨true, v⟩, (k : Int), 0) ∧
      getS (setAt (setAt h cell ⟨false, 0⟩) k ⟨true, v⟩) k = (v, 0) ∧
      (∀ i x, i ≠ c → i ≠ k → h[i]? = some x → (setAt (setAt h cell ⟨false, 0⟩) k ⟨true, v⟩)[i]? = some x) ∧ (∀ i x, i < k → h[i]? = some x → x.live = true) := by
  obtain ⟨h0, h1, x, hx, hlv⟩ := live_in h cell hl
  obtain ⟨c, rfl⟩ := Int.eq_ofNat_of_zero_le h0
  simp only [Int.toNat_natCast] at hx h1
  have rf : rightB (setAt h (c : Int) ⟨false, 0⟩) = true := set_right h _ _ hr (by decide)
  have fc := setAt_at h c ⟨false, 0⟩ _ hx
  obtain ⟨k, y, hk, hkc, hy, hyl, hb⟩ := free1_some _ c _ fc rfl
  have ra : rightB (setAt (setAt h (c : Int) ⟨false, 0⟩) k ⟨true, v⟩) = true := set_right _ _ _ rf (by unfold cellB; simp [hv])
  have ak := setAt_at (setAt h (c : Int) ⟨false, 0⟩) k ⟨true, v⟩ _ hy
  refine ⟨c, k, rfl, h1, hkc, ?_, ?_, ?_, ?_, ?_⟩
  · unfold getS; rw [if_pos rf, live_at _ c _ fc]; rfl
  · unfold allocS; rw [rf, hv, hk]; rfl
  · unfold getS; rw [if_pos ra, live_at _ k _ ak, val_at _ k _ ak]; rfl
  · intro i x hic hik hi
    refine setAt_ne _ _ i _ _ ?_ (by omega)
    exact setAt_ne _ _ i _ _ hi (by omega)
  · intro i x hik hi
    obtain ⟨z, hz, hzl⟩ := hb i hik
    rw [setAt_ne _ _ i _ _ hi (by omega)] at hz
    injection hz with e; rw [e]; exact hzl
theorem free_cases (h : List Cell) (cell : Int) : ((freeS h cell).1 = h ∧ (freeS h cell).2 ≠ 0) ∨
    (rightB h = true ∧ liveAt h cell = true ∧ freeS h cell = (setAt h cell ⟨false, 0⟩, 0)) := by
  unfold freeS
  split
  · split
    · right; exact ⟨by assumption, by assumption, rfl⟩
    · left; simp
  · left; simp
end Go.Proofs.Ythgmjmecedhkoaa.Heap
