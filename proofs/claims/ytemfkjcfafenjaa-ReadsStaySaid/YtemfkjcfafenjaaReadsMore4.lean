/-
  PLAIN LEMMAS ON WHAT IS VALID: it stays so. No conditions beyond those that each theorem states.
-/
import Derived.Test.YtemfkjcfafenjaaReadsMore3
import Derived.Test.YtemfkjcfafenjaaReadsRef2
import Derived.Test.YtemfkjcfafenjaaStripeMore2
namespace Go.Proofs.Ytemfkjcfafenjaa.Reads
open Mem

theorem valid_parts (l : List Read) (t : List Stripe.Rec) (who : Int) (h : validS l t who = 0) : rightB l = true ∧ Stripe.rightB t = true ∧ Stripe.whoB who = true ∧ ∀ r ∈ l, asB t who r = true := by
  unfold validS at h
  split at h
  · rename_i h0
    split at h
    · rename_i h1
      rw [Bool.and_eq_true, Bool.and_eq_true] at h0
      exact ⟨h0.1, h0.2.1, h0.2.2, List.all_eq_true.1 h1⟩
    · cases h
  · cases h
theorem valid_yes (l : List Read) (t : List Stripe.Rec) (who : Int) (h1 : rightB l = true) (h2 : Stripe.rightB t = true) (h3 : Stripe.whoB who = true) (h4 : ∀ r ∈ l, asB t who r = true) : validS l t who = 0 := by
  unfold validS; rw [if_pos (by rw [h1, h2, h3]; rfl), if_pos (List.all_eq_true.2 h4)]
theorem valid_no (l : List Read) (t : List Stripe.Rec) (who : Int) (h1 : rightB l = true) (h2 : Stripe.rightB t = true) (h3 : Stripe.whoB who = true) (r : Read) (hr : r ∈ l) (h4 : asB t who r = false) : validS l t who = 8 := by
  unfold validS; rw [if_pos (by rw [h1, h2, h3]; rfl), if_neg]
  intro h
  rw [List.all_eq_true.1 h r hr] at h4
  cases h4
theorem lock_parts (t m : List Stripe.Rec) (who : Int) (c : List Int) (h : Stripe.lockS t who c = (m, 0)) : Stripe.rightB t = true ∧ Stripe.whoB who = true ∧ Stripe.cellsB c = true ∧ m = Stripe.lockAll t who c := by
  unfold Stripe.lockS at h
  split at h
  · rename_i h0
    rw [Bool.and_eq_true, Bool.and_eq_true] at h0
    split at h
    · injection h with h1 h2; exact ⟨h0.1.1, h0.1.2, h0.2, h1.symm⟩
    · injection h with h1 h2; cases h2
  · injection h with h1 h2; cases h2

/-- A read's record in a table that has been locked. -/
theorem as_lock (t : List Stripe.Rec) (o who : Int) (c : List Int) (r : Read) (ht : Stripe.rightB t = true) :
    ∃ (j : Nat) (x : Stripe.Rec), r.cell % (t.length : Int) = (j : Int) ∧ t[j]? = some x ∧ asB t who r = (x.version == r.version && (x.owner == 0 || x.owner == who)) ∧
      (Stripe.lockAll t o c)[j]? = some (Stripe.lock1 t.length o c j x) ∧
      asB (Stripe.lockAll t o c) who r = ((Stripe.lock1 t.length o c j x).version == r.version && ((Stripe.lock1 t.length o c j x).owner == 0 || (Stripe.lock1 t.length o c j x).owner == who)) := by
  obtain ⟨j, x, hj, _, hx⟩ := place_of t t.length rfl (rec_len t ht) r.cell
  exact ⟨j, x, hj, hx, as_at t t.length rfl who r j x hj hx, Stripe.lockAll_at t o c j x hx, as_at _ t.length (Stripe.lockAll_len t o c) who r j _ hj (Stripe.lockAll_at t o c j x hx)⟩
theorem stay_mine (l : List Read) (t m : List Stripe.Rec) (who : Int) (c : List Int) (hv : validS l t who = 0) (h : Stripe.lockS t who c = (m, 0)) : validS l m who = 0 := by
  obtain ⟨h1, h2, h3, h4⟩ := valid_parts l t who hv
  obtain ⟨_, _, _, rfl⟩ := lock_parts t m who c h
  refine valid_yes l _ who h1 (Stripe.lock_right t who c h2 h3) h3 (fun r hr => ?_)
  obtain ⟨j, x, _, _, e1, _, e2⟩ := as_lock t who who c r h2
  have h5 := h4 r hr
  rw [e1] at h5
  rw [e2]
  unfold Stripe.lock1
  split
  · rw [Bool.and_eq_true] at h5 ⊢
    exact ⟨h5.1, by simp⟩
  · exact h5
def meetB (l : List Read) (t : List Stripe.Rec) (c : List Int) : Bool := (Stripe.ofS t c).any (fun i => l.any (fun r => r.cell % (t.length : Int) == i))
theorem meet_yes (l : List Read) (t : List Stripe.Rec) (c : List Int) (ht : Stripe.rightB t = true) (hc : Stripe.cellsB c = true) (r : Read) (hr : r ∈ l) (j : Nat) (hj : r.cell % (t.length : Int) = (j : Int)) (hjl : j < t.length) (hh : Stripe.hit t.length c j = true) : meetB l t c = true := by
  unfold meetB Stripe.ofS
  rw [if_pos (by rw [ht, hc]; rfl), List.any_eq_true]
  exact ⟨(j : Int), (pick_mem _ _ _).2 ⟨j, hjl, hh, rfl⟩, List.any_eq_true.2 ⟨r, hr, by rw [hj]; simp⟩⟩
theorem meet_some (l : List Read) (t : List Stripe.Rec) (c : List Int) (ht : Stripe.rightB t = true) (hc : Stripe.cellsB c = true) (h : meetB l t c = true) : ∃ r ∈ l, ∃ j : Nat, r.cell % (t.length : Int) = (j : Int) ∧ Stripe.hit t.length c j = true := by
  unfold meetB Stripe.ofS at h
  rw [if_pos (by rw [ht, hc]; rfl), List.any_eq_true] at h
  obtain ⟨i, hi, h2⟩ := h
  obtain ⟨j, _, hh, rfl⟩ := (pick_mem _ _ _).1 hi
  obtain ⟨r, hr, h3⟩ := List.any_eq_true.1 h2
  exact ⟨r, hr, j, eq_of_beq h3, hh⟩
/-- A table in which others hold just what was hit. -/
theorem stay_gen (l : List Read) (t s : List Stripe.Rec) (who : Int) (c : List Int) (h1 : rightB l = true) (ht : Stripe.rightB t = true) (hc : Stripe.cellsB c = true) (h2 : Stripe.rightB s = true) (h3 : Stripe.whoB who = true)
    (hno : ∀ r ∈ l, ∀ j : Nat, r.cell % (t.length : Int) = (j : Int) → j < t.length → Stripe.hit t.length c j = false → asB s who r = true)
    (hyes : ∀ r ∈ l, ∀ j : Nat, r.cell % (t.length : Int) = (j : Int) → Stripe.hit t.length c j = true → asB s who r = false) :
    validS l s who = if meetB l t c = true then 8 else 0 := by
  cases hm : meetB l t c
  · rw [if_neg (by simp)]
    refine valid_yes l s who h1 h2 h3 (fun r hr => ?_)
    obtain ⟨j, x, hj, hjl, _⟩ := place_of t t.length rfl (rec_len t ht) r.cell
    cases hh : Stripe.hit t.length c j
    · exact hno r hr j hj hjl hh
    · rw [meet_yes l t c ht hc r hr j hj hjl hh] at hm; cases hm
  · rw [if_pos rfl]
    obtain ⟨r, hr, j, hj, hh⟩ := meet_some l t c ht hc hm
    exact valid_no l s who h1 h2 h3 r hr (hyes r hr j hj hh)
theorem stay_theirs (l : List Read) (t m : List Stripe.Rec) (who other : Int) (c : List Int) (hne : who ≠ other) (hv : validS l t who = 0) (h : Stripe.lockS t other c = (m, 0)) : validS l m who = if meetB l t c = true then 8 else 0 := by
  obtain ⟨h1, h2, h3, h4⟩ := valid_parts l t who hv
  obtain ⟨_, ho, hc, rfl⟩ := lock_parts t m other c h
  have ho' := (Stripe.who_iff other).1 ho
  refine stay_gen l t _ who c h1 h2 hc (Stripe.lock_right t other c h2 ho) h3 (fun r hr j hj hjl hh => ?_) (fun r hr j hj hh => ?_)
  · obtain ⟨j', x, hj', hx, e1, _, e2⟩ := as_lock t other who c r h2
    obtain rfl : j = j' := by omega
    rw [e2]; unfold Stripe.lock1; rw [if_neg (by rw [hh]; simp), ← e1]; exact h4 r hr
  · obtain ⟨j', x, hj', hx, e1, _, e2⟩ := as_lock t other who c r h2
    obtain rfl : j = j' := by omega
    rw [e2]; unfold Stripe.lock1; rw [if_pos hh]
    simp only [Bool.and_eq_false_iff, Bool.or_eq_false_iff, beq_eq_false_iff_ne]
    exact .inr ⟨by omega, fun e => hne e.symm⟩
theorem stamp_parts (t s : List Stripe.Rec) (who v : Int) (h : Stripe.stampS t who v = (s, 0)) : 0 ≤ v ∧ v ≤ 2147483647 ∧ t.all (Stripe.below1 who v) = true ∧ s = t.map (Stripe.stamp1 who v) := by
  unfold Stripe.stampS at h
  split at h
  · split at h
    · rename_i h0
      split at h
      · rename_i h1
        injection h with h2 h3
        exact ⟨h0.1, h0.2, h1, h2.symm⟩
      · injection h with h2 h3; cases h3
    · injection h with h2 h3; cases h3
  · injection h with h2 h3; cases h3
theorem stamp_right (t : List Stripe.Rec) (who v : Int) (hr : Stripe.rightB t = true) (h0 : 0 ≤ v) (h1 : v ≤ 2147483647) : Stripe.rightB (t.map (Stripe.stamp1 who v)) = true := by
  rw [Stripe.right_iff] at *
  refine ⟨by rw [List.length_map]; exact hr.1, fun k y hy => ?_⟩
  rw [List.getElem?_map] at hy
  cases hx : t[k]? with
  | none => rw [hx] at hy; cases hy
  | some x =>
    rw [hx] at hy
    injection hy with hy
    subst hy
    have := (Stripe.rec_iff x).1 (hr.2 k x hx)
    rw [Stripe.rec_iff]
    unfold Stripe.stamp1
    split
    · exact ⟨h0, h1, Int.le_refl _, by show (0 : Int) ≤ 8; decide⟩
    · exact this
theorem stay_stamp (l : List Read) (t m s : List Stripe.Rec) (who other v : Int) (c : List Int) (hne : who ≠ other) (hv : validS l t who = 0) (h : Stripe.lockS t other c = (m, 0)) (hs : Stripe.stampS m other v = (s, 0)) :
    validS l s who = if meetB l t c = true then 8 else 0 := by
  obtain ⟨h1, h2, h3, h4⟩ := valid_parts l t who hv
  obtain ⟨_, ho, hc, rfl⟩ := lock_parts t m other c h
  obtain ⟨v0, v1, hb, rfl⟩ := stamp_parts _ s other v hs
  have ho' := (Stripe.who_iff other).1 ho
  have hlen : ((Stripe.lockAll t other c).map (Stripe.stamp1 other v)).length = t.length := by rw [List.length_map, Stripe.lockAll_len]
  refine stay_gen l t _ who c h1 h2 hc (stamp_right _ other v (Stripe.lock_right t other c h2 ho) v0 v1) h3 (fun r hr j hj hjl hh => ?_) (fun r hr j hj hh => ?_)
  · obtain ⟨j', x, hj', hx, e1, e3, _⟩ := as_lock t other who c r h2
    obtain rfl : j = j' := by omega
    have e4 : ((Stripe.lockAll t other c).map (Stripe.stamp1 other v))[j]? = some (Stripe.stamp1 other v (Stripe.lock1 t.length other c j x)) := by rw [List.getElem?_map, e3]; rfl
    have h5 := h4 r hr
    rw [e1] at h5
    have h6 : ¬ x.owner = other := by
      simp only [Bool.and_eq_true, Bool.or_eq_true, beq_iff_eq] at h5
      omega
    rw [as_at _ t.length hlen who r j _ hj e4]
    have e5 : Stripe.stamp1 other v (Stripe.lock1 t.length other c j x) = x := by
      unfold Stripe.lock1; rw [if_neg (by rw [hh]; simp)]
      unfold Stripe.stamp1; rw [if_neg h6]
    rw [e5]; exact h5
  · obtain ⟨j', x, hj', hx, e1, e3, _⟩ := as_lock t other who c r h2
    obtain rfl : j = j' := by omega
    have e4 : ((Stripe.lockAll t other c).map (Stripe.stamp1 other v))[j]? = some (Stripe.stamp1 other v (Stripe.lock1 t.length other c j x)) := by rw [List.getElem?_map, e3]; rfl
    have h5 := h4 r hr
    rw [e1] at h5
    have h7 := List.all_eq_true.1 hb _ (List.mem_of_getElem? e3)
    rw [as_at _ t.length hlen who r j _ hj e4]
    unfold Stripe.lock1 at h7 ⊢
    rw [if_pos hh] at h7 ⊢
    unfold Stripe.below1 at h7
    unfold Stripe.stamp1
    simp only [bne_self_eq_false, Bool.false_or, decide_eq_true_eq] at h7
    simp only [Bool.and_eq_true, Bool.or_eq_true, beq_iff_eq] at h5
    simp only [if_true, Bool.and_eq_false_iff, beq_eq_false_iff_ne]
    exact .inl (by omega)
end Go.Proofs.Ytemfkjcfafenjaa.Reads
