/-
  PLAIN LEMMAS ON TABLES: two who lock cells of one record. No conditions beyond those that each theorem states.
-/
import Derived.Test.YtfnghnfaekjfjaaStripeMore3
namespace Go.Proofs.Ytfnghnfaekjfjaa.Stripe
open Mem

theorem hit_1 (n : Nat) (x : Int) (k : Nat) : hit n [x] k = decide (x % (n : Int) = (k : Int)) := by unfold hit; simp
theorem rep_idx (n : Nat) (k : Nat) (r : Rec) (h : (List.replicate n (⟨0, 0⟩ : Rec))[k]? = some r) : r = ⟨0, 0⟩ ∧ k < n := by
  obtain ⟨hl, rfl⟩ := List.getElem?_eq_some_iff.1 h
  simp at hl; exact ⟨by simp, hl⟩
theorem two_meet (n : Nat) (x y v : Int) (h1 : 1 ≤ n) (h2 : n ≤ 16) (hx : 0 ≤ x) (hy : 0 ≤ y) (hv : 1 ≤ v ∧ v ≤ 2147483647) :
    ∃ t one two g s l1 l2 l3 r, newS (n : Int) = (t, 0) ∧ t.length = n ∧ lockS t 1 [x] = (one, 0) ∧ lockS one 2 [y] = (two, g) ∧
      ((x % (n : Int) = y % (n : Int) ∧ g = 7) ∨ (x % (n : Int) ≠ y % (n : Int) ∧ g = 0)) ∧ stampS one 1 v = (s, 0) ∧ lockS s 2 [x, y] = (l1, 0) ∧
      lockS (letS one 1) 2 [x, y] = (l2, 0) ∧ lockS two 1 [x] = (l3, 0) ∧ s[(x % (n : Int)).toNat]? = some r ∧ r.version = v := by
  have hp0 : 0 ≤ x % (n : Int) := Int.emod_nonneg _ (by omega)
  have hp1 : x % (n : Int) < (n : Int) := Int.emod_lt_of_pos _ (by omega)
  have hq0 : 0 ≤ y % (n : Int) := Int.emod_nonneg _ (by omega)
  have hq1 : y % (n : Int) < (n : Int) := Int.emod_lt_of_pos _ (by omega)
  have ht0 : newS (n : Int) = (List.replicate n ⟨0, 0⟩, 0) := by rw [new_yes _ (by omega)]; simp
  have lt0 : (List.replicate n (⟨0, 0⟩ : Rec)).length = n := by simp
  have rt0 : rightB (List.replicate n (⟨0, 0⟩ : Rec)) = true := by
    rw [right_iff, lt0]; refine ⟨by omega, fun k r hr => ?_⟩
    rw [(rep_idx n k r hr).1]; decide
  have w1 : whoB 1 = true := by decide
  have w2 : whoB 2 = true := by decide
  have cx : cellsB [x] = true := by simp [cellsB, hx]
  have cy : cellsB [y] = true := by simp [cellsB, hy]
  have cxy : cellsB [x, y] = true := by simp [cellsB, hx, hy]
  have lk1 : lockS (List.replicate n ⟨0, 0⟩) 1 [x] = (lockAll (List.replicate n ⟨0, 0⟩) 1 [x], 0) :=
    lock_ok _ 1 [x] rt0 w1 cx (fun k r hr _ => .inl (by rw [(rep_idx n k r hr).1]; exact Int.le_refl _))
  have lone : (lockAll (List.replicate n ⟨0, 0⟩) 1 [x]).length = n := by rw [lockAll_len, lt0]
  have oneAt : ∀ (k : Nat) (r : Rec), (lockAll (List.replicate n ⟨0, 0⟩) 1 [x])[k]? = some r → r.version = 0 ∧ (x % (n : Int) = (k : Int) → r.owner = 1) ∧ (x % (n : Int) ≠ (k : Int) → r.owner = 0) := by
    intro k r hr
    obtain ⟨r', hr', rfl⟩ := lock_idx _ 1 [x] k r hr
    rw [(rep_idx n k r' hr').1, lt0]
    unfold lock1; rw [hit_1]
    by_cases h : x % (n : Int) = (k : Int)
    · simp [h]
    · simp [h]
  have rone := lock_right _ 1 [x] rt0 w1
  generalize lockAll (List.replicate n ⟨0, 0⟩) 1 [x] = one at *
  have stp : stampS one 1 v = (one.map (stamp1 1 v), 0) := by
    unfold stampS; rw [rone, w1, if_pos (by rfl), if_pos (by omega), if_pos]
    rw [all_idx]; intro k r hr
    have := (oneAt k r hr).1
    unfold below1; simp [this]; omega
  have sAt : ∀ (k : Nat) (r : Rec), (one.map (stamp1 1 v))[k]? = some r → ∃ r', one[k]? = some r' ∧ r = stamp1 1 v r' := by
    intro k r hr
    rw [List.getElem?_map] at hr
    cases h : one[k]? with
    | none => rw [h] at hr; cases hr
    | some r' => rw [h] at hr; simp at hr; exact ⟨r', rfl, hr.symm⟩
  have sOw : ∀ (k : Nat) (r : Rec), (one.map (stamp1 1 v))[k]? = some r → r.owner = 0 ∧ 0 ≤ r.version ∧ r.version ≤ 2147483647 := by
    intro k r hr
    obtain ⟨r', hr', rfl⟩ := sAt k r hr
    obtain ⟨e1, e2, e3⟩ := oneAt k r' hr'
    unfold stamp1
    by_cases h : x % (n : Int) = (k : Int)
    · rw [if_pos (e2 h)]; exact ⟨rfl, by show 0 ≤ v; omega, by show v ≤ 2147483647; omega⟩
    · rw [if_neg (by rw [e3 h]; decide)]; exact ⟨e3 h, by omega, by omega⟩
  have rs_ : rightB (one.map (stamp1 1 v)) = true := by
    rw [right_iff, List.length_map, lone]; refine ⟨by omega, fun k r hr => ?_⟩
    have := sOw k r hr; rw [rec_iff]; omega
  have lk3 := lock_ok (one.map (stamp1 1 v)) 2 [x, y] rs_ w2 cxy (fun k r hr _ => .inl (by rw [(sOw k r hr).1]; exact Int.le_refl _))
  have rl := let_right one 1 rone
  have lOw : ∀ (k : Nat) (r : Rec), (letS one 1)[k]? = some r → r.owner = 0 := by
    intro k r hr
    obtain ⟨r', hr', rfl⟩ := let_idx one 1 k r hr
    obtain ⟨e1, e2, e3⟩ := oneAt k r' hr'
    rw [rone, w1]
    by_cases h : x % (n : Int) = (k : Int)
    · rw [e2 h]; rfl
    · rw [e3 h]; simp [e3 h]
  have lk4 := lock_ok (letS one 1) 2 [x, y] rl w2 cxy (fun k r hr _ => .inl (by rw [lOw k r hr]; exact Int.le_refl _))
  have hpn : (x % (n : Int)).toNat < one.length := by rw [lone]; omega
  have hsr : (one.map (stamp1 1 v))[(x % (n : Int)).toNat]? = some (stamp1 1 v one[(x % (n : Int)).toNat]) := by
    rw [List.getElem?_map, List.getElem?_eq_getElem hpn]; rfl
  have hsv : (stamp1 1 v one[(x % (n : Int)).toNat]).version = v := by
    have := (oneAt _ _ (List.getElem?_eq_getElem hpn)).2.1 (by omega)
    unfold stamp1; rw [if_pos this]
  by_cases hm : x % (n : Int) = y % (n : Int)
  · have lk2 : lockS one 2 [y] = (one, 7) := by
      have e := (oneAt _ _ (List.getElem?_eq_getElem hpn)).2.1 (by omega)
      refine lock_no one 2 [y] rone w2 cy _ _ (List.getElem?_eq_getElem hpn) ?_ (by rw [e]; decide) (by rw [e]; decide)
      rw [hit_1, lone]; simp; omega
    have lk5 := lock_ok one 1 [x] rone w1 cx (fun k r hr hh => by
      rw [hit_1, lone] at hh; simp at hh
      exact .inr ((oneAt k r hr).2.1 hh))
    exact ⟨_, one, one, 7, _, _, _, _, _, ht0, lt0, lk1, lk2, .inl ⟨hm, rfl⟩, stp, lk3, lk4, lk5, hsr, hsv⟩
  · have lk2 := lock_ok one 2 [y] rone w2 cy (fun k r hr hh => by
      rw [hit_1, lone] at hh; simp at hh
      exact .inl (by rw [(oneAt k r hr).2.2 (by rw [← hh]; exact hm)]; exact Int.le_refl _))
    have lk5 := lock_ok (lockAll one 2 [y]) 1 [x] (lock_right one 2 [y] rone w2) w1 cx (fun k r hr hh => by
      rw [hit_1, lockAll_len, lone] at hh; simp at hh
      obtain ⟨r', hr', rfl⟩ := lock_idx one 2 [y] k r hr
      have e := (oneAt k r' hr').2.1 hh
      have e2 : hit n [y] k = false := by rw [hit_1]; simp; omega
      right; rw [lone]; unfold lock1; rw [e2]; exact e)
    exact ⟨_, one, _, 0, _, _, _, _, _, ht0, lt0, lk1, lk2, .inr ⟨hm, rfl⟩, stp, lk3, lk4, lk5, hsr, hsv⟩
end Go.Proofs.Ytfnghnfaekjfjaa.Stripe
