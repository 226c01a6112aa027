/-
  PLAIN LEMMAS ON TIMES: what is due earlier, one time more, the first one. No conditions beyond those that each theorem states.
-/
import Derived.Test.YtdbgpmfdiljopaaTickPlain
namespace Go.Proofs.Ytdbgpmfdiljopaa.Tick
open Mem

theorem split_at (l : List Int) (lo : Int) (y : List Nat) (hs : y.Pairwise (bef l)) : ∃ a z, y = a ++ z ∧ (∀ k ∈ a, tm l k ≤ lo) ∧ (∀ k ∈ z, lo < tm l k) := by
  induction y with
  | nil => exact ⟨[], [], rfl, by simp, by simp⟩
  | cons x y ih =>
    rw [List.pairwise_cons] at hs
    by_cases h : tm l x ≤ lo
    · obtain ⟨a, z, e, h1, h2⟩ := ih hs.2
      refine ⟨x :: a, z, by rw [e]; rfl, fun k hk => ?_, h2⟩
      rcases List.mem_cons.1 hk with rfl | hk
      · exact h
      · exact h1 k hk
    · refine ⟨[], x :: y, rfl, by simp, fun k hk => ?_⟩
      rcases List.mem_cons.1 hk with rfl | hk
      · omega
      · have := hs.1 k hk; unfold bef at this; omega
theorem elig_iff (now : Int) (l : List Int) (k : Nat) : elig now l k = true ↔ k < l.length ∧ 0 ≤ tm l k ∧ tm l k ≤ 2147483647 ∧ tm l k ≤ now := by
  constructor
  · intro h
    have hk := elig_lt now l k h
    rw [elig_at now l k _ (List.getElem?_eq_getElem hk), decide_eq_true_eq] at h
    rw [tm_at l k _ (List.getElem?_eq_getElem hk)]; exact ⟨hk, h⟩
  · rintro ⟨hk, h⟩
    rw [tm_at l k _ (List.getElem?_eq_getElem hk)] at h
    rw [elig_at now l k _ (List.getElem?_eq_getElem hk), decide_eq_true_eq]; exact h
theorem due_pre (lo hi : Int) (l : List Int) (h : lo ≤ hi) : ∃ z, dueS hi l = dueS lo l ++ z ∧ ∀ k ∈ z, lo < tm l k := by
  have hd := due_is hi l
  obtain ⟨a, z, e, h1, h2⟩ := split_at l lo (dueS hi l) hd.1
  have ha : IsDue lo l a := by
    refine ⟨?_, fun k => ?_⟩
    · have := hd.1; rw [e, List.pairwise_append] at this; exact this.1
    · rw [elig_iff]
      constructor
      · intro hk
        have h3 := (elig_iff hi l k).1 ((hd.2 k).1 (by rw [e]; exact List.mem_append_left _ hk))
        exact ⟨h3.1, h3.2.1, h3.2.2.1, h1 k hk⟩
      · rintro ⟨h3, h4, h5, h6⟩
        have h7 : k ∈ dueS hi l := (hd.2 k).2 ((elig_iff hi l k).2 ⟨h3, h4, h5, by omega⟩)
        rw [e] at h7
        rcases List.mem_append.1 h7 with h8 | h8
        · exact h8
        · have := h2 k h8; omega
  exact ⟨z, by rw [due_eq lo l a ha]; exact e, h2⟩
theorem due_mem (now : Int) (l : List Int) (i k : Nat) (h : (dueS now l)[i]? = some k) : ∃ x, l[k]? = some x ∧ 0 ≤ x ∧ x ≤ 2147483647 ∧ x ≤ now := by
  have h1 := (elig_iff now l k).1 (((due_is now l).2 k).1 (List.mem_of_getElem? h))
  have e := tm_at l k _ (List.getElem?_eq_getElem h1.1)
  exact ⟨_, List.getElem?_eq_getElem h1.1, by rw [← e]; exact h1.2.1, by rw [← e]; exact h1.2.2.1, by rw [← e]; exact h1.2.2.2⟩

/-- The first one. -/
def firstS (l : List Int) : Int := match dueS 2147483647 l with | [] => -1 | k :: _ => (k : Int)
theorem first_none (l : List Int) (h : dueS 2147483647 l = []) : firstS l = -1 ∧ ∀ (i : Nat) (x : Int), l[i]? = some x → timeB x = false := by
  refine ⟨by unfold firstS; rw [h], fun i x hx => ?_⟩
  have h1 : elig 2147483647 l i = false := by
    have := ((due_is 2147483647 l).2 i)
    rw [h] at this
    cases he : elig 2147483647 l i
    · rfl
    · have := this.2 he; cases this
  rw [elig_at _ l i x hx] at h1
  unfold timeB
  rw [decide_eq_false_iff_not] at h1 ⊢
  omega
theorem first_some (l : List Int) (k : Nat) (r : List Nat) (h : dueS 2147483647 l = k :: r) :
    firstS l = (k : Int) ∧ ∃ y, l[k]? = some y ∧ timeB y = true ∧ ∀ (i : Nat) (x : Int), l[i]? = some x → timeB x = true → y ≤ x ∧ (x = y → k ≤ i) := by
  have hd := due_is 2147483647 l
  have hk := (elig_iff _ l k).1 ((hd.2 k).1 (by rw [h]; simp))
  have ek := tm_at l k _ (List.getElem?_eq_getElem hk.1)
  refine ⟨by unfold firstS; rw [h], _, List.getElem?_eq_getElem hk.1, by unfold timeB; rw [← ek]; simp; omega, fun i x hx ht => ?_⟩
  have ei := tm_at l i x hx
  unfold timeB at ht; rw [decide_eq_true_eq] at ht
  have hi : i ∈ dueS 2147483647 l := (hd.2 i).2 (by rw [elig_at _ l i x hx]; simp; omega)
  have hs := hd.1
  rw [h] at hi hs
  rw [List.pairwise_cons] at hs
  rcases List.mem_cons.1 hi with rfl | hi
  · rw [ek] at ei; omega
  · have := hs.1 i hi
    unfold bef at this; rw [ek, ei] at this; omega

/-- One time more. -/
theorem tm_app (l : List Int) (m : Int) (k : Nat) (hk : k < l.length) : tm (l ++ [m]) k = tm l k := by
  rw [tm_at _ k _ (by rw [List.getElem?_append_left hk]; exact List.getElem?_eq_getElem hk), tm_at l k _ (List.getElem?_eq_getElem hk)]
theorem due_more (now : Int) (l : List Int) (m : Int) : (dueS now (l ++ [m])).filter (fun k => k != l.length) = dueS now l := by
  have hd := due_is now (l ++ [m])
  symm
  refine due_eq now l _ ⟨?_, fun k => ?_⟩
  · refine List.Pairwise.imp_of_mem ?_ (List.Pairwise.filter _ hd.1)
    intro a b ha hb hab
    rw [List.mem_filter] at ha hb
    have h1 := (elig_iff now _ a).1 ((hd.2 a).1 ha.1)
    have h2 := (elig_iff now _ b).1 ((hd.2 b).1 hb.1)
    have h3 : a ≠ l.length := by simpa using ha.2
    have h4 : b ≠ l.length := by simpa using hb.2
    have h5 := h1.1; have h6 := h2.1
    simp at h5 h6
    unfold bef at hab ⊢
    rw [tm_app l m a (by omega), tm_app l m b (by omega)] at hab; exact hab
  · rw [List.mem_filter, hd.2 k, elig_iff, elig_iff]
    constructor
    · rintro ⟨⟨h1, h2⟩, h3⟩
      have h4 : k ≠ l.length := by simpa using h3
      simp at h1
      rw [tm_app l m k (by omega)] at h2
      exact ⟨by omega, h2⟩
    · rintro ⟨h1, h2⟩
      refine ⟨⟨by simp; omega, by rw [tm_app l m k h1]; exact h2⟩, by simp; omega⟩
theorem filter_nth {α : Type} (p : α → Bool) (l : List α) (j : Nat) (x : α) (hx : l[j]? = some x) (hp : p x = true) : (l.filter p)[((l.take j).filter p).length]? = some x := by
  induction l generalizing j with
  | nil => simp at hx
  | cons y l ih =>
    cases j with
    | zero => simp at hx; subst hx; simp [hp]
    | succ j =>
      have h := ih j (by simpa using hx)
      by_cases hy : p y = true
      · simpa [List.filter_cons, hy] using h
      · simpa [List.filter_cons, hy] using h
theorem filter_take {α : Type} (p : α → Bool) (l : List α) (j : Nat) (x : α) (hx : l[j]? = some x) : ((l.take (j + 1)).filter p).length = ((l.take j).filter p).length + (if p x = true then 1 else 0) := by
  rw [List.take_add_one, hx, List.filter_append, List.length_append]
  by_cases h : p x = true <;> simp [h]
theorem due_more_len (now : Int) (l : List Int) (m : Int) : (dueS now (l ++ [m])).length = (dueS now l).length + (if (timeB m && decide (m ≤ now)) = true then 1 else 0) := by
  have hd := due_is now (l ++ [m])
  have hlen : (dueS now (l ++ [m])).length = ((dueS now (l ++ [m])).filter (fun k => k != l.length)).length + ((dueS now (l ++ [m])).filter (fun k => !(k != l.length))).length := by
    generalize dueS now (l ++ [m]) = a
    induction a with
    | nil => rfl
    | cons x a ih => cases hx : (x != l.length) <;> simp [hx] at * <;> omega
  rw [hlen, due_more]
  congr 1
  have hnd : (dueS now (l ++ [m])).Nodup := List.Pairwise.imp (fun {a b} h e => by subst e; exact bef_irr _ _ h) hd.1
  have hm := (hd.2 l.length)
  rw [elig_at now (l ++ [m]) l.length m (by simp), decide_eq_true_eq] at hm
  have cnt : ((dueS now (l ++ [m])).filter (fun k => !(k != l.length))).length = (dueS now (l ++ [m])).count l.length := by
    rw [List.count, List.countP_eq_length_filter]; congr 1
    apply List.filter_congr; intro k _; show (!(!(k == l.length))) = (k == l.length); rw [Bool.not_not]
  rw [cnt]
  by_cases h : 0 ≤ m ∧ m ≤ 2147483647 ∧ m ≤ now
  · rw [if_pos (by unfold timeB; simp; omega), hnd.count, if_pos (hm.2 h)]
  · rw [if_neg (by unfold timeB; simp; omega), List.count_eq_zero.2 (fun hh => h (hm.1 hh))]
end Go.Proofs.Ytdbgpmfdiljopaa.Tick
