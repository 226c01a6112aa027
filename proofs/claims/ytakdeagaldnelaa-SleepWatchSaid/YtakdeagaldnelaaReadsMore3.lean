/-
  PLAIN LEMMAS ON READ SETS: a set that is filled, a set in another order, fewer reads. No conditions beyond those that each theorem states. Nothing of the program is named here.
-/
import Derived.Test.YtakdeagaldnelaaReadsMore2
namespace Go.Proofs.Ytakdeagaldnelaa.Reads
open Mem

def filled (a v u : Int) (i : Nat) : List Read := (List.range i).map (fun (j : Nat) => (⟨a + 7 * (j : Int), v + (j : Int), u⟩ : Read))
theorem filled_succ (a v u : Int) (i : Nat) : filled a v u (i + 1) = filled a v u i ++ [⟨a + 7 * (i : Int), v + (i : Int), u⟩] := by
  unfold filled; rw [List.range_succ, List.map_append]; rfl
theorem filled_len (a v u : Int) (i : Nat) : (filled a v u i).length = i := by unfold filled; simp
theorem filled_none (a v u : Int) (i : Nat) (c : Int) (h : ∀ j : Nat, j < i → a + 7 * (j : Int) ≠ c) : hasB (filled a v u i) c = false := by
  unfold hasB
  rw [List.any_eq_false]
  intro x hx
  unfold filled at hx
  obtain ⟨j, hj, rfl⟩ := List.mem_map.1 hx
  have := h j (List.mem_range.1 hj)
  simpa using this
theorem filled_take (a v u : Int) (i j : Nat) (h : j ≤ i) : (filled a v u i).take j = filled a v u j := by
  unfold filled; rw [← List.map_take, List.take_range, Nat.min_eq_left h]
theorem filled_right (a v u : Int) (ha : 0 ≤ a) (hv : 0 ≤ v) (hv2 : v ≤ 65535) (hu : Heap.vB u = true) (i : Nat) (hi : i ≤ 24) : rightB (filled a v u i) = true := by
  induction i with
  | zero => rfl
  | succ i ih =>
    rw [filled_succ]
    refine right_app _ _ (ih (by omega)) ?_ (find_none _ _ (filled_none _ _ _ _ _ (fun j hj => by show a + 7 * (j : Int) ≠ a + 7 * (i : Int); omega))) (by rw [filled_len]; omega)
    unfold oneB timeB
    rw [hu]; simp; omega
theorem filled_add (a v u : Int) (ha : 0 ≤ a) (hv : 0 ≤ v) (hv2 : v ≤ 65535) (hu : Heap.vB u = true) (i : Nat) (hi : i < 24) : addS (filled a v u i) ⟨a + 7 * (i : Int), v + (i : Int), u⟩ = (filled a v u (i + 1), 0) := by
  have h1 := filled_right a v u ha hv hv2 hu (i + 1) (by omega)
  have hx : (filled a v u (i + 1))[i]? = some ⟨a + 7 * (i : Int), v + (i : Int), u⟩ := by unfold filled; simp
  have h2 := right_one _ h1 _ (List.mem_of_getElem? hx)
  rw [filled_succ]
  exact add_new _ _ (by rw [filled_right a v u ha hv hv2 hu i (by omega), h2]; rfl) (find_none _ _ (filled_none _ _ _ _ _ (fun j hj => by show a + 7 * (j : Int) ≠ a + 7 * (i : Int); omega))) (by rw [filled_len]; omega)
theorem filled_find (a v u : Int) (ha : 0 ≤ a) (hv : 0 ≤ v) (hv2 : v ≤ 65535) (hu : Heap.vB u = true) (i : Nat) (hi : i < 24) : findR (filled a v u 24) (a + 7 * (i : Int)) = (⟨a + 7 * (i : Int), v + (i : Int), u⟩, true) := by
  have hx : (filled a v u 24)[i]? = some ⟨a + 7 * (i : Int), v + (i : Int), u⟩ := by unfold filled; simp [hi]
  have hf := find_at (filled a v u 24) i _ (a + 7 * (i : Int)) hx rfl (by rw [filled_take _ _ _ _ _ (by omega)]; exact filled_none _ _ _ _ _ (fun j hj => by omega))
  unfold findR
  rw [if_pos (filled_right a v u ha hv hv2 hu 24 (by omega)), hf]
theorem filled_big (a v u : Int) (ha : 0 ≤ a) (hv : 0 ≤ v) (hv2 : v ≤ 65535) (hu : Heap.vB u = true) : addS (filled a v u 24) ⟨a + 1, 0, 0⟩ = (filled a v u 24, 5) := by
  refine add_big _ _ ?_ (find_none _ _ (filled_none _ _ _ _ _ (fun j hj => by show a + 7 * (j : Int) ≠ a + 1; omega))) (filled_len _ _ _ _)
  rw [filled_right a v u ha hv hv2 hu 24 (by omega)]
  unfold oneB timeB Heap.vB
  simp; omega
theorem filled_cells (a v u : Int) (ha : 0 ≤ a) (hv : 0 ≤ v) (hv2 : v ≤ 65535) (hu : Heap.vB u = true) : (cellsS (filled a v u 24)).length = 24 := by
  unfold cellsS
  rw [if_pos (filled_right a v u ha hv hv2 hu 24 (by omega)), sort_len, List.length_map, filled_len]

theorem right_perm (l m : List Read) (h : l.Perm m) : rightB l = rightB m := by
  unfold rightB goodB
  rw [h.length_eq, h.all_eq]
  congr 2
  have := (h.map Read.cell).nodup_iff
  exact decide_eq_decide.2 this
def place (n b j : Nat) : Nat := (n - j + b) % n
theorem place_lt (n b j : Nat) (hj : j < n) : place n b j < n := Nat.mod_lt _ (by omega)
theorem place_place (n b j : Nat) (hj : j < n) : place n b (place n b j) = j := by
  have hr := place_lt n b j hj
  have hq := Nat.div_add_mod (n - j + b) n
  have e : n - place n b j + b = j + n * ((n - j + b) / n) := by
    unfold place at *
    omega
  unfold place at *
  rw [e, Nat.add_mul_mod_self_left, Nat.mod_eq_of_lt hj]
def turned (l : List Read) (b i : Nat) : List Read := (List.range i).map (fun j => l.getD (place l.length b j) ⟨0, 0, 0⟩)
theorem turned_len (l : List Read) (b i : Nat) : (turned l b i).length = i := by unfold turned; simp
theorem turned_take (l : List Read) (b i j : Nat) (h : j ≤ i) : (turned l b i).take j = turned l b j := by
  unfold turned; rw [← List.map_take, List.take_range, Nat.min_eq_left h]
theorem turned_succ (l : List Read) (b i : Nat) (x : Read) (hx : l[place l.length b i]? = some x) : turned l b (i + 1) = turned l b i ++ [x] := by
  unfold turned; rw [List.range_succ, List.map_append]
  simp only [List.map_cons, List.map_nil, List.getD_eq_getElem?_getD, hx, Option.getD_some]
theorem turned_perm (l : List Read) (b : Nat) (hl : l.Nodup) : (turned l b l.length).Perm l := by
  have hat : ∀ j, j < l.length → ∃ h : place l.length b j < l.length, l.getD (place l.length b j) ⟨0, 0, 0⟩ = l[place l.length b j] := fun j hj =>
    ⟨place_lt _ _ _ hj, by rw [List.getD_eq_getElem?_getD, List.getElem?_eq_getElem (place_lt _ _ _ hj)]; rfl⟩
  have hn : (turned l b l.length).Nodup := by
    unfold turned List.Nodup
    rw [List.pairwise_map]
    refine List.Pairwise.imp_of_mem ?_ List.pairwise_lt_range
    intro i j hi hj hij he
    have hi' := List.mem_range.1 hi
    have hj' := List.mem_range.1 hj
    obtain ⟨h1, e1⟩ := hat i hi'
    obtain ⟨h2, e2⟩ := hat j hj'
    rw [e1, e2] at he
    have := (List.getElem_inj hl).1 he
    have h3 := place_place l.length b i hi'
    rw [this, place_place l.length b j hj'] at h3
    omega
  rw [List.perm_ext_iff_of_nodup hn hl]
  intro x
  unfold turned
  rw [List.mem_map]
  constructor
  · rintro ⟨j, hj, rfl⟩
    obtain ⟨h1, e1⟩ := hat j (List.mem_range.1 hj)
    rw [e1]; exact List.getElem_mem _
  · intro hx
    obtain ⟨i, hi, rfl⟩ := List.getElem_of_mem hx
    refine ⟨place l.length b i, List.mem_range.2 (place_lt _ _ _ hi), ?_⟩
    obtain ⟨h1, e1⟩ := hat _ (place_lt l.length b i hi)
    rw [e1]
    congr 1
    exact place_place l.length b i hi
theorem right_nodup_self (l : List Read) (h : rightB l = true) : l.Nodup := by
  have := right_nodup l h
  unfold List.Nodup at this ⊢
  rw [List.pairwise_map] at this
  exact this.imp (fun hne e => hne (by rw [e]))
theorem turned_right (l : List Read) (b i : Nat) (h : rightB l = true) (hi : i ≤ l.length) : rightB (turned l b i) = true := by
  rw [← turned_take l b l.length i hi]
  exact right_sub _ _ (List.take_sublist _ _) (by rw [right_perm _ _ (turned_perm l b (right_nodup_self l h))]; exact h)
theorem turned_add (l : List Read) (b i : Nat) (h : rightB l = true) (hi : i < l.length) (x : Read) (hx : l[place l.length b i]? = some x) : addS (turned l b i) x = (turned l b (i + 1), 0) := by
  have hr := turned_right l b (i + 1) h (by omega)
  rw [turned_succ l b i x hx] at hr ⊢
  have hg : goodB (turned l b i ++ [x]) = true := by unfold rightB at hr; rw [Bool.and_eq_true] at hr; exact hr.2
  have hg2 := good_take (turned l b i ++ [x]) (turned l b i).length x (by simp)
  rw [List.take_of_length_le (by simp), List.take_append_of_le_length (Nat.le_refl _), List.take_length, hg] at hg2
  have hg3 := hg2.symm
  rw [Bool.and_eq_true, Bool.and_eq_true, Bool.not_eq_true'] at hg3
  refine add_new _ _ (by rw [turned_right l b i h (by omega), hg3.2.1]; rfl) (find_none _ _ hg3.2.2) (by rw [turned_len]; have := right_len l h; omega)
theorem turned_cells (l : List Read) (b : Nat) (h : rightB l = true) : cellsS (turned l b l.length) = cellsS l := by
  have hp := turned_perm l b (right_nodup_self l h)
  unfold cellsS
  rw [right_perm _ _ hp, sort_eq _ _ (hp.map Read.cell)]
theorem turned_valid (l : List Read) (b : Nat) (h : rightB l = true) (t : List Stripe.Rec) (who : Int) : validS (turned l b l.length) t who = validS l t who := by
  have hp := turned_perm l b (right_nodup_self l h)
  unfold validS
  rw [right_perm _ _ hp, hp.all_eq]
theorem turned_same (l : List Read) (b : Nat) (h : rightB l = true) (g : List Heap.Cell) : sameS (turned l b l.length) g = sameS l g := by
  have hp := turned_perm l b (right_nodup_self l h)
  unfold sameS
  rw [right_perm _ _ hp, hp.all_eq]
theorem some_valid (l : List Read) (k : Nat) (t : List Stripe.Rec) (who : Int) (h : validS l t who = 0) : validS (l.take k) t who = 0 := by
  unfold validS at *
  split at h
  · rename_i h0
    split at h
    · rename_i h1
      rw [Bool.and_eq_true] at h0
      rw [if_pos (by rw [right_sub l _ (List.take_sublist _ _) h0.1, h0.2]; rfl), if_pos]
      rw [List.all_eq_true] at *
      exact fun x hx => h1 x (List.mem_of_mem_take hx)
    · cases h
  · cases h
theorem some_same (l : List Read) (k : Nat) (g : List Heap.Cell) (h : sameS l g = true) : sameS (l.take k) g = true := by
  unfold sameS at *
  rw [Bool.and_eq_true, Bool.and_eq_true] at *
  refine ⟨⟨right_sub l _ (List.take_sublist _ _) h.1.1, h.1.2⟩, ?_⟩
  have := h.2
  rw [List.all_eq_true] at *
  exact fun x hx => this x (List.mem_of_mem_take hx)
end Go.Proofs.Ytakdeagaldnelaa.Reads
