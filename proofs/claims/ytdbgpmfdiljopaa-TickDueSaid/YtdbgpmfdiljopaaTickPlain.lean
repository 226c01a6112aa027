/-
  PLAIN DEFINITIONS: versions, times, what is due and in which order. No conditions. Nothing of the program is named here.
-/
import Derived.Test.YtdbgpmfdiljopaaData
namespace Go.Proofs.Ytdbgpmfdiljopaa.Tick
open Mem

def timeB (n : Int) : Bool := decide (0 ≤ n ∧ n ≤ 2147483647)
def afterS (now ticks : Int) : Int × Int := if 0 ≤ now ∧ now ≤ 2147483647 ∧ 0 < ticks then (if 2147483647 < now + ticks then (0, 6) else (now + ticks, 0)) else (0, 1)
def nextS (n : Int) : Int × Int := if 0 ≤ n ∧ n ≤ 2147483647 then (if 2147483647 < n + 1 then (0, 6) else (n + 1, 0)) else (0, 1)

def tm (l : List Int) (k : Nat) : Int := l.getD k 0
theorem tm_at (l : List Int) (k : Nat) (x : Int) (h : l[k]? = some x) : tm l k = x := by unfold tm; rw [List.getD_eq_getElem?_getD, h]; rfl
def elig (now : Int) (l : List Int) (k : Nat) : Bool := match l[k]? with | some x => decide (0 ≤ x ∧ x ≤ 2147483647 ∧ x ≤ now) | none => false
theorem elig_at (now : Int) (l : List Int) (k : Nat) (x : Int) (h : l[k]? = some x) : elig now l k = decide (0 ≤ x ∧ x ≤ 2147483647 ∧ x ≤ now) := by unfold elig; rw [h]
theorem elig_lt (now : Int) (l : List Int) (k : Nat) (h : elig now l k = true) : k < l.length := by
  unfold elig at h
  cases hx : l[k]? with
  | none => rw [hx] at h; cases h
  | some x => exact (List.getElem?_eq_some_iff.1 hx).1
/-- The one is told ahead of the other. -/
def bef (l : List Int) (i j : Nat) : Prop := tm l i < tm l j ∨ (tm l i = tm l j ∧ i < j)
instance (l : List Int) (i j : Nat) : Decidable (bef l i j) := by unfold bef; exact inferInstance
theorem bef_irr (l : List Int) (i : Nat) : ¬ bef l i i := by unfold bef; omega
theorem bef_asym (l : List Int) (i j : Nat) (h : bef l i j) : ¬ bef l j i := by unfold bef at *; omega
theorem bef_trans (l : List Int) (i j k : Nat) (h : bef l i j) (h2 : bef l j k) : bef l i k := by unfold bef at *; omega
theorem bef_total (l : List Int) (i j : Nat) (h : i ≠ j) : bef l i j ∨ bef l j i := by unfold bef; omega

def ins (l : List Int) (x : Nat) : List Nat → List Nat
  | [] => [x]
  | y :: ys => if bef l x y then x :: y :: ys else y :: ins l x ys
def isort (l : List Int) : List Nat → List Nat
  | [] => []
  | x :: xs => ins l x (isort l xs)
def dueS (now : Int) (l : List Int) : List Nat := isort l ((List.range l.length).filter (elig now l))
theorem ins_mem (l : List Int) (x : Nat) (ys : List Nat) (z : Nat) : z ∈ ins l x ys ↔ z = x ∨ z ∈ ys := by
  induction ys with
  | nil => simp [ins]
  | cons y ys ih =>
    unfold ins; split
    · simp
    · rw [List.mem_cons, ih, List.mem_cons]
      constructor
      · rintro (h | h | h)
        · exact .inr (.inl h)
        · exact .inl h
        · exact .inr (.inr h)
      · rintro (h | h | h)
        · exact .inr (.inl h)
        · exact .inl h
        · exact .inr (.inr h)
theorem ins_sorted (l : List Int) (x : Nat) (ys : List Nat) (h : ys.Pairwise (bef l)) (hx : x ∉ ys) : (ins l x ys).Pairwise (bef l) := by
  induction ys with
  | nil => simp [ins]
  | cons y ys ih =>
    rw [List.pairwise_cons] at h
    unfold ins; split
    · rename_i hb
      rw [List.pairwise_cons]
      refine ⟨fun z hz => ?_, List.pairwise_cons.2 h⟩
      rcases List.mem_cons.1 hz with rfl | hz
      · exact hb
      · exact bef_trans l x y z hb (h.1 z hz)
    · rename_i hb
      rw [List.pairwise_cons]
      refine ⟨fun z hz => ?_, ih h.2 (fun hm => hx (List.mem_cons_of_mem _ hm))⟩
      rcases (ins_mem l x ys z).1 hz with rfl | hz
      · rcases bef_total l z y (fun e => hx (by rw [e]; simp)) with h1 | h1
        · exact absurd h1 hb
        · exact h1
      · exact h.1 z hz
theorem isort_mem (l : List Int) (xs : List Nat) (z : Nat) : z ∈ isort l xs ↔ z ∈ xs := by
  induction xs with
  | nil => simp [isort]
  | cons x xs ih => unfold isort; rw [ins_mem, ih, List.mem_cons]
theorem isort_sorted (l : List Int) (xs : List Nat) (h : xs.Nodup) : (isort l xs).Pairwise (bef l) := by
  induction xs with
  | nil => simp [isort]
  | cons x xs ih =>
    rw [List.nodup_cons] at h
    unfold isort
    exact ins_sorted l x _ (ih h.2) (fun hm => h.1 ((isort_mem l xs x).1 hm))
def IsDue (now : Int) (l : List Int) (r : List Nat) : Prop := r.Pairwise (bef l) ∧ ∀ k, k ∈ r ↔ elig now l k = true
theorem due_is (now : Int) (l : List Int) : IsDue now l (dueS now l) := by
  refine ⟨isort_sorted l _ (List.Pairwise.filter _ List.nodup_range), fun k => ?_⟩
  unfold dueS; rw [isort_mem, List.mem_filter, List.mem_range]
  exact ⟨fun h => h.2, fun h => ⟨elig_lt now l k h, h⟩⟩
theorem sorted_eq (l : List Int) (a b : List Nat) (ha : a.Pairwise (bef l)) (hb : b.Pairwise (bef l)) (h : ∀ k, k ∈ a ↔ k ∈ b) : a = b := by
  induction a generalizing b with
  | nil =>
    cases b with
    | nil => rfl
    | cons y ys => have := (h y).2 (by simp); cases this
  | cons x xs ih =>
    cases b with
    | nil => have := (h x).1 (by simp); cases this
    | cons y ys =>
      rw [List.pairwise_cons] at ha hb
      have hxy : x = y := by
        rcases Nat.decEq x y with hne | he
        · exfalso
          have h1 : x ∈ ys := by
            rcases List.mem_cons.1 ((h x).1 (by simp)) with e | e
            · exact absurd e hne
            · exact e
          have h2 : y ∈ xs := by
            rcases List.mem_cons.1 ((h y).2 (by simp)) with e | e
            · exact absurd e.symm hne
            · exact e
          exact bef_asym l x y (ha.1 y h2) (hb.1 x h1)
        · exact he
      subst hxy
      congr 1
      refine ih ys ha.2 hb.2 (fun k => ?_)
      constructor
      · intro hk
        rcases List.mem_cons.1 ((h k).1 (by simp [hk])) with e | e
        · subst e; exact absurd (ha.1 k hk) (bef_irr l k)
        · exact e
      · intro hk
        rcases List.mem_cons.1 ((h k).2 (by simp [hk])) with e | e
        · subst e; exact absurd (hb.1 k hk) (bef_irr l k)
        · exact e
theorem due_eq (now : Int) (l : List Int) (r : List Nat) (h : IsDue now l r) : dueS now l = r :=
  sorted_eq l _ _ (due_is now l).1 h.1 (fun k => by rw [(due_is now l).2 k, h.2 k])
theorem due_len (now : Int) (l : List Int) : (dueS now l).length ≤ l.length := by
  have : ∀ xs : List Nat, (isort l xs).length = xs.length := by
    intro xs
    induction xs with
    | nil => rfl
    | cons x xs ih =>
      have hi : ∀ ys : List Nat, (ins l x ys).length = ys.length + 1 := by
        intro ys
        induction ys with
        | nil => rfl
        | cons y ys ih => unfold ins; split <;> simp [ih]
      unfold isort; rw [hi, ih]; rfl
  unfold dueS; rw [this]
  have := List.length_filter_le (elig now l) (List.range l.length); simpa using this

/-- The best of the first i, of those that a test takes: none, or the one that is told ahead of all others. -/
def IsBest (l : List Int) (S : Nat → Bool) (i : Nat) (b : Int) : Prop :=
  (b = -1 ∧ ∀ j, j < i → S j = false) ∨ ∃ m : Nat, b = (m : Int) ∧ m < i ∧ S m = true ∧ ∀ j, j < i → S j = true → j ≠ m → bef l m j
theorem best_no (l : List Int) (S : Nat → Bool) (i : Nat) (b : Int) (h : IsBest l S i b) (hs : S i = false) : IsBest l S (i + 1) b := by
  rcases h with ⟨rfl, h⟩ | ⟨m, rfl, h1, h2, h3⟩
  · left; refine ⟨rfl, fun j hj => ?_⟩
    rcases Nat.lt_or_ge j i with h4 | h4
    · exact h j h4
    · rw [show j = i by omega]; exact hs
  · right; refine ⟨m, rfl, by omega, h2, fun j hj hS hne => ?_⟩
    rcases Nat.lt_or_ge j i with h4 | h4
    · exact h3 j h4 hS hne
    · rw [show j = i by omega] at hS; rw [hs] at hS; cases hS
theorem best_first (l : List Int) (S : Nat → Bool) (i : Nat) (h : IsBest l S i (-1)) (hs : S i = true) : IsBest l S (i + 1) (i : Int) := by
  rcases h with ⟨_, h⟩ | ⟨m, h, _⟩
  · right; refine ⟨i, rfl, by omega, hs, fun j hj hS hne => ?_⟩
    have := h j (by omega); rw [hS] at this; cases this
  · omega
theorem best_keep (l : List Int) (S : Nat → Bool) (i m : Nat) (h : IsBest l S i (m : Int)) (hlt : ¬ tm l i < tm l m) : IsBest l S (i + 1) (m : Int) := by
  rcases h with ⟨h, _⟩ | ⟨m', e, h1, h2, h3⟩
  · omega
  · have : m = m' := by omega
    subst this
    right; refine ⟨m, rfl, by omega, h2, fun j hj hS hne => ?_⟩
    rcases Nat.lt_or_ge j i with h4 | h4
    · exact h3 j h4 hS hne
    · have : j = i := by omega
      subst this; unfold bef; omega
theorem best_new (l : List Int) (S : Nat → Bool) (i m : Nat) (h : IsBest l S i (m : Int)) (hs : S i = true) (hlt : tm l i < tm l m) : IsBest l S (i + 1) (i : Int) := by
  rcases h with ⟨h, _⟩ | ⟨m', e, h1, h2, h3⟩
  · omega
  · have : m = m' := by omega
    subst this
    right; refine ⟨i, rfl, by omega, hs, fun j hj hS hne => ?_⟩
    by_cases hm : j = m
    · subst hm; left; exact hlt
    · have h5 := h3 j (by omega) hS hm
      unfold bef at *; omega
def left_ (now : Int) (l : List Int) (r : List Nat) (k : Nat) (j : Nat) : Bool := elig now l j && !((r.take k).contains j)
theorem nodup_take (l : List Int) (r : List Nat) (hs : r.Pairwise (bef l)) (k i : Nat) (hi : i < r.length) (hk : k ≤ i) : (r.take k).contains (r[i]) = false := by
  rw [List.contains_eq_mem, decide_eq_false_iff_not]
  intro hm
  rw [List.mem_take_iff_getElem] at hm
  obtain ⟨j, hj, e⟩ := hm
  have := (List.pairwise_iff_getElem.1 hs) j i (by omega) hi (by omega)
  rw [e] at this; exact bef_irr l _ this
theorem best_none (now : Int) (l : List Int) (r : List Nat) (h : IsDue now l r) (k : Nat) (hb : IsBest l (left_ now l r k) l.length (-1)) : r.length ≤ k := by
  rcases hb with ⟨_, hb⟩ | ⟨m, e, _⟩
  · rcases Nat.lt_or_ge k r.length with hk | hk
    · exfalso
      have he := (h.2 (r[k])).1 (List.getElem_mem hk)
      have := hb (r[k]) (elig_lt now l _ he)
      unfold left_ at this
      rw [he, nodup_take l r h.1 k k hk (Nat.le_refl _)] at this; cases this
    · exact hk
  · omega
theorem best_some (now : Int) (l : List Int) (r : List Nat) (h : IsDue now l r) (k m : Nat) (hb : IsBest l (left_ now l r k) l.length (m : Int)) : r[k]? = some m := by
  rcases hb with ⟨e, _⟩ | ⟨m', e, h1, h2, h3⟩
  · omega
  · have : m = m' := by omega
    subst this
    unfold left_ at h2; rw [Bool.and_eq_true] at h2
    obtain ⟨he, hn⟩ := h2
    have hm := (h.2 m).2 he
    obtain ⟨i, hi, rfl⟩ := List.mem_iff_getElem.1 hm
    have hik : k ≤ i := by
      rcases Nat.lt_or_ge i k with hlt | hge
      · exfalso
        have : (r.take k).contains r[i] = true := by
          rw [List.contains_eq_mem, decide_eq_true_eq, List.mem_take_iff_getElem]
          exact ⟨i, by omega, rfl⟩
        rw [this] at hn; cases hn
      · exact hge
    rcases Nat.lt_or_ge k i with hlt | hge
    · exfalso
      have hk : k < r.length := by omega
      have hb1 := (List.pairwise_iff_getElem.1 h.1) k i hk hi hlt
      have he2 := (h.2 (r[k])).1 (List.getElem_mem hk)
      have hb2 := h3 (r[k]) (elig_lt now l _ he2) (by unfold left_; rw [he2, nodup_take l r h.1 k k hk (Nat.le_refl _)]; rfl) (fun e => by rw [e] at hb1; exact bef_irr l _ hb1)
      exact bef_asym l _ _ hb1 hb2
    · have : k = i := by omega
      subst this; exact List.getElem?_eq_getElem hi
end Go.Proofs.Ytdbgpmfdiljopaa.Tick
