/-
  PLAIN LEMMAS ON TABLES: locking, letting, stamping, by place. No conditions beyond those that each theorem states.
-/
import Derived.Test.YtemfkjcfafenjaaStripeMore
import Derived.Test.YtemfkjcfafenjaaRef03d
namespace Go.Proofs.Ytemfkjcfafenjaa.Stripe
open Mem

theorem all_idx {α : Type} (l : List α) (p : α → Bool) : l.all p = true ↔ ∀ (k : Nat) (x : α), l[k]? = some x → p x = true := by
  rw [List.all_eq_true]
  constructor
  · intro h k x hk; exact h x (List.mem_of_getElem? hk)
  · intro h x hx
    obtain ⟨k, hk⟩ := List.getElem?_of_mem hx
    exact h k x hk
theorem right_iff (t : List Rec) : rightB t = true ↔ (0 < t.length ∧ t.length < 17) ∧ ∀ (k : Nat) (x : Rec), t[k]? = some x → recB x = true := by
  unfold rightB; rw [Bool.and_eq_true, all_idx, decide_eq_true_eq]
theorem rec_iff (r : Rec) : recB r = true ↔ 0 ≤ r.version ∧ r.version ≤ 2147483647 ∧ 0 ≤ r.owner ∧ r.owner ≤ 8 := by unfold recB; rw [decide_eq_true_eq]
theorem who_iff (n : Int) : whoB n = true ↔ 0 < n ∧ n < 9 := by unfold whoB; rw [decide_eq_true_eq]
theorem idx_map {α β : Type} (l : List α) (f : Nat → α → β) (k : Nat) (y : β) (h : (l.mapIdx f)[k]? = some y) : ∃ x, l[k]? = some x ∧ y = f k x := by
  rw [List.getElem?_mapIdx] at h
  cases hx : l[k]? with
  | none => rw [hx] at h; cases h
  | some x => rw [hx] at h; simp at h; exact ⟨x, rfl, h.symm⟩
theorem lock_idx (t : List Rec) (who : Int) (l : List Int) (k : Nat) (y : Rec) (h : (lockAll t who l)[k]? = some y) : ∃ x, t[k]? = some x ∧ y = lock1 t.length who l k x := idx_map t _ k y h
theorem let_idx (t : List Rec) (who : Int) (k : Nat) (y : Rec) (h : (letS t who)[k]? = some y) : ∃ x, t[k]? = some x ∧ y = (if (rightB t && whoB who && (x.owner == who)) = true then ⟨x.version, 0⟩ else x) := by
  cases hx : t[k]? with
  | none =>
    have : k < (letS t who).length := (List.getElem?_eq_some_iff.1 h).1
    rw [let_len] at this
    rw [List.getElem?_eq_none_iff] at hx; omega
  | some x =>
    rw [let_at t who k x hx] at h; injection h with h; exact ⟨x, rfl, h.symm⟩
theorem lock_right (t : List Rec) (who : Int) (l : List Int) (hr : rightB t = true) (hw : whoB who = true) : rightB (lockAll t who l) = true := by
  rw [right_iff] at hr ⊢
  rw [lockAll_len]
  refine ⟨hr.1, fun k y hy => ?_⟩
  obtain ⟨x, hx, rfl⟩ := lock_idx t who l k y hy
  have h1 := (rec_iff _).1 (hr.2 k x hx)
  have h2 := (who_iff _).1 hw
  rw [rec_iff]; unfold lock1; split
  · simp only; omega
  · exact h1
theorem let_right (t : List Rec) (who : Int) (hr : rightB t = true) : rightB (letS t who) = true := by
  have hr0 := hr
  rw [right_iff] at hr ⊢
  rw [let_len]
  refine ⟨hr.1, fun k y hy => ?_⟩
  obtain ⟨x, hx, rfl⟩ := let_idx t who k y hy
  have h1 := (rec_iff _).1 (hr.2 k x hx)
  rw [rec_iff]; split
  · simp only; omega
  · exact h1
theorem lock_ok (t : List Rec) (who : Int) (l : List Int) (hr : rightB t = true) (hw : whoB who = true) (hc : cellsB l = true)
    (hm : ∀ (k : Nat) (x : Rec), t[k]? = some x → hit t.length l k = true → x.owner ≤ 0 ∨ x.owner = who) : lockS t who l = (lockAll t who l, 0) := by
  unfold lockS; rw [hr, hw, hc, if_pos (by rfl), if_pos]
  unfold mayAll; rw [all_idx]
  intro k y hy
  obtain ⟨x, hx, rfl⟩ := idx_map t _ k y hy
  show may1 t.length who l k x = true
  unfold may1
  cases hh : hit t.length l k
  · rfl
  · rcases hm k x hx hh with h | h <;> simp [h]
theorem lock_no (t : List Rec) (who : Int) (l : List Int) (hr : rightB t = true) (hw : whoB who = true) (hc : cellsB l = true)
    (k : Nat) (x : Rec) (hk : t[k]? = some x) (hh : hit t.length l k = true) (h0 : 0 < x.owner) (hn : x.owner ≠ who) : lockS t who l = (t, 7) := by
  unfold lockS; rw [hr, hw, hc, if_pos (by rfl), if_neg]
  unfold mayAll
  intro h
  have := (all_idx _ _).1 h k _ (may_at t who l k x hk)
  have h1 : ¬ x.owner ≤ 0 := by omega
  simp [may1, hh, h1, hn] at this
theorem lock_cases (t : List Rec) (who : Int) (l : List Int) (hr : rightB t = true) :
    (whoB who = true ∧ cellsB l = true ∧ (∀ (k : Nat) (x : Rec), t[k]? = some x → hit t.length l k = true → x.owner ≤ 0 ∨ x.owner = who) ∧ lockS t who l = (lockAll t who l, 0)) ∨ ∃ f, f ≠ 0 ∧ lockS t who l = (t, f) := by
  unfold lockS; rw [hr]
  by_cases h1 : (true && whoB who && cellsB l) = true
  · rw [if_pos h1]
    by_cases h2 : mayAll t who l = true
    · left
      rw [if_pos h2]
      simp only [Bool.true_and, Bool.and_eq_true] at h1
      refine ⟨h1.1, h1.2, fun k x hk hh => ?_, rfl⟩
      unfold mayAll at h2
      have := (all_idx _ _).1 h2 k _ (may_at t who l k x hk)
      simp [may1, hh] at this; exact this
    · right; rw [if_neg h2]; exact ⟨7, by decide, rfl⟩
  · right; rw [if_neg h1]; exact ⟨1, by decide, rfl⟩
theorem holds_at (t : List Rec) (who : Int) (k : Nat) (x : Rec) (hk : t[k]? = some x) : holds t who k = (x.owner == who) := by unfold holds; rw [hk]
theorem held_congr (a b : List Rec) (who : Int) (hl : a.length = b.length) (hr : rightB a = rightB b) (h : ∀ (k : Nat) (x y : Rec), a[k]? = some x → b[k]? = some y → whoB who = true → (x.owner == who) = (y.owner == who)) : heldS a who = heldS b who := by
  unfold heldS; rw [hr, hl]
  split
  · rename_i hb
    have hw := (Bool.and_eq_true_iff.1 hb).2
    refine pick_congr _ _ _ (fun k hk => ?_)
    have h1 : k < a.length := by omega
    rw [holds_at a who k _ (List.getElem?_eq_getElem h1), holds_at b who k _ (List.getElem?_eq_getElem hk)]
    exact h k _ _ (List.getElem?_eq_getElem h1) (List.getElem?_eq_getElem hk) hw
  · rfl
/-- What is locked is held. -/
theorem lock_held (t : List Rec) (who : Int) (l : List Int) (hr : rightB t = true) (hw : whoB who = true) (hc : cellsB l = true) (z : Int) (hz : z ∈ ofS t l) : z ∈ heldS (lockAll t who l) who := by
  unfold ofS at hz; rw [hr, hc, if_pos (by rfl)] at hz
  obtain ⟨k, hk, hh, rfl⟩ := (pick_mem _ _ _).1 hz
  unfold heldS; rw [lock_right t who l hr hw, hw, if_pos (by rfl), lockAll_len]
  refine (pick_mem _ _ _).2 ⟨k, hk, ?_, rfl⟩
  rw [holds_at _ _ k _ (lockAll_at t who l k _ (List.getElem?_eq_getElem hk))]
  unfold lock1; rw [hh]; simp
theorem lock_more (t : List Rec) (who : Int) (l : List Int) (hr : rightB t = true) (hw : whoB who = true) : (heldS t who).length ≤ (heldS (lockAll t who l) who).length := by
  unfold heldS; rw [lock_right t who l hr hw, hr, hw, if_pos (by rfl), if_pos (by rfl), lockAll_len]
  unfold pick; rw [List.length_map, List.length_map, ← List.countP_eq_length_filter, ← List.countP_eq_length_filter]
  apply List.countP_mono_left
  intro k hk hp
  have hk : k < t.length := List.mem_range.1 hk
  rw [holds_at t who k _ (List.getElem?_eq_getElem hk)] at hp
  rw [holds_at _ _ k _ (lockAll_at t who l k _ (List.getElem?_eq_getElem hk))]
  unfold lock1; split
  · simp
  · exact hp
theorem let_none (t : List Rec) (who : Int) (hr : rightB t = true) : heldS (letS t who) who = [] := by
  unfold heldS; rw [let_right t who hr]
  by_cases hw : whoB who = true
  · rw [hw, if_pos (by rfl)]
    have : ∀ k, k < (letS t who).length → holds (letS t who) who k = (fun _ => false) k := by
      intro k hk
      rw [holds_at _ _ k _ (List.getElem?_eq_getElem hk)]
      obtain ⟨x, hx, he⟩ := let_idx t who k _ (List.getElem?_eq_getElem hk)
      rw [he, hr, hw]
      have h2 := (who_iff _).1 hw
      by_cases hx' : x.owner = who
      · simp [hx']; omega
      · simp [hx']
    rw [pick_congr _ _ _ this]
    unfold pick; simp
  · rw [if_neg (by simpa using hw)]
theorem lock_other (t : List Rec) (who other : Int) (l : List Int) (hr : rightB t = true) (hw : whoB who = true) (hne : who ≠ other)
    (hm : ∀ (k : Nat) (x : Rec), t[k]? = some x → hit t.length l k = true → x.owner ≤ 0 ∨ x.owner = who) : heldS (lockAll t who l) other = heldS t other := by
  refine held_congr _ _ other (lockAll_len t who l) (by rw [lock_right t who l hr hw, hr]) ?_
  intro k y x hy hx hwo
  obtain ⟨x', hx', rfl⟩ := lock_idx t who l k y hy
  rw [hx] at hx'; injection hx' with e; subst e
  have h2 := (who_iff _).1 hwo
  unfold lock1; split
  · rename_i hh
    have e1 : (who == other) = false := beq_eq_false_iff_ne.2 hne
    have e2 : (x.owner == other) = false := by
      refine beq_eq_false_iff_ne.2 (fun h => ?_)
      rcases hm k x hx hh with h3 | h3
      · omega
      · exact hne (h3.symm.trans h)
    rw [e2]; exact e1
  · rfl
theorem let_other (t : List Rec) (who other : Int) (hr : rightB t = true) (hne : who ≠ other) : heldS (letS t who) other = heldS t other := by
  refine held_congr _ _ other (let_len t who) (by rw [let_right t who hr, hr]) ?_
  intro k y x hy hx hwo
  obtain ⟨x', hx', rfl⟩ := let_idx t who k y hy
  rw [hx] at hx'; injection hx' with e; subst e
  have h2 := (who_iff _).1 hwo
  split
  · rename_i hh
    simp only [Bool.and_eq_true, beq_iff_eq] at hh
    have e1 : ((0 : Int) == other) = false := beq_eq_false_iff_ne.2 (by omega)
    have e2 : (x.owner == other) = false := by rw [hh.2]; exact beq_eq_false_iff_ne.2 hne
    rw [e2]; exact e1
  · rfl
end Go.Proofs.Ytemfkjcfafenjaa.Stripe
