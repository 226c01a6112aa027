/-
  PLAIN LEMMAS ON TABLES: what is locked again, or in parts; versions; cells' places; two who meet. No conditions beyond those that each theorem states.
-/
import Derived.Test.YtfnghnfaekjfjaaStripeMore2
namespace Go.Proofs.Ytfnghnfaekjfjaa.Stripe
open Mem

theorem hit_app (n : Nat) (a b : List Int) (k : Nat) : hit n (a ++ b) k = (hit n a k || hit n b k) := by unfold hit; rw [List.any_append]
theorem cells_app (a b : List Int) : cellsB (a ++ b) = (cellsB a && cellsB b) := by unfold cellsB; rw [List.all_append]
theorem ext_idx {α : Type} (a b : List α) (hl : a.length = b.length) (h : ∀ (k : Nat) (x y : α), a[k]? = some x → b[k]? = some y → x = y) : a = b := by
  apply List.ext_getElem hl
  intro k h1 h2
  exact h k _ _ (List.getElem?_eq_getElem h1) (List.getElem?_eq_getElem h2)
theorem lock_lock (t : List Rec) (who : Int) (a b : List Int) : lockAll (lockAll t who a) who b = lockAll t who (a ++ b) := by
  refine ext_idx _ _ (by rw [lockAll_len, lockAll_len, lockAll_len]) ?_
  intro k x y hx hy
  obtain ⟨x', hx', rfl⟩ := lock_idx _ who b k x hx
  obtain ⟨x'', hx'', rfl⟩ := lock_idx t who a k x' hx'
  obtain ⟨y', hy', rfl⟩ := lock_idx t who (a ++ b) k y hy
  rw [hx''] at hy'; injection hy' with e; subst e
  rw [lockAll_len]
  unfold lock1; rw [hit_app]
  cases h1 : hit t.length a k <;> cases h2 : hit t.length b k <;> simp
theorem lock_same (t : List Rec) (who : Int) (a : List Int) : lockAll (lockAll t who a) who a = lockAll t who a := by
  refine ext_idx _ _ (by rw [lockAll_len, lockAll_len]) ?_
  intro k x y hx hy
  obtain ⟨x', hx', rfl⟩ := lock_idx _ who a k x hx
  rw [hy] at hx'; injection hx' with e; subst e
  obtain ⟨y', hy', rfl⟩ := lock_idx t who a k y hy
  rw [lockAll_len]
  unfold lock1
  cases h1 : hit t.length a k <;> simp
theorem let_yes (s : List Rec) (who : Int) (h : (rightB s && whoB who) = true) : letS s who = s.map (let1 who) := by unfold letS; rw [if_pos h]
theorem let_no (s : List Rec) (who : Int) (h : ¬ (rightB s && whoB who) = true) : letS s who = s := by unfold letS; rw [if_neg h]
theorem let_let (t : List Rec) (who : Int) : letS (letS t who) who = letS t who := by
  by_cases h : (rightB t && whoB who) = true
  · obtain ⟨h1, h2⟩ := Bool.and_eq_true_iff.1 h
    have h3 := (who_iff _).1 h2
    rw [let_yes (letS t who) who (by rw [let_right t who h1, h2]; rfl), let_yes t who h, List.map_map]
    apply List.map_congr_left
    intro r _
    have y : ∀ r : Rec, r.owner = who → let1 who r = ⟨r.version, 0⟩ := fun r h => by unfold let1; rw [if_pos h]
    have n : ∀ r : Rec, ¬ r.owner = who → let1 who r = r := fun r h => by unfold let1; rw [if_neg h]
    show let1 who (let1 who r) = let1 who r
    by_cases ho : r.owner = who
    · rw [y r ho, n _ (by simp only; omega)]
    · rw [n r ho, n r ho]
  · rw [let_no t who h, let_no t who h]
theorem lockAll_may (t : List Rec) (who : Int) (a b : List Int) (ha : ∀ (k : Nat) (x : Rec), t[k]? = some x → hit t.length b k = true → x.owner ≤ 0 ∨ x.owner = who) :
    ∀ (k : Nat) (x : Rec), (lockAll t who a)[k]? = some x → hit (lockAll t who a).length b k = true → x.owner ≤ 0 ∨ x.owner = who := by
  intro k x hx hh
  rw [lockAll_len] at hh
  obtain ⟨x', hx', rfl⟩ := lock_idx t who a k x hx
  unfold lock1; split
  · right; rfl
  · exact ha k x' hx' hh
theorem again3 (t : List Rec) (who : Int) (a b : List Int) (hr : rightB t = true) :
    ∃ x e y f z g u h, lockS t who a = (x, e) ∧ lockS x who b = (y, f) ∧ lockS t who (a ++ b) = (z, g) ∧ lockS x who a = (u, h) ∧
      ((g == 0) = ((e == 0) && (f == 0))) ∧ ((g == 0) = true → y = z) ∧ ((e == 0) = true → h = 0 ∧ u = x) := by
  have notg : (∀ e, lockS t who a = (t, e) → e ≠ 0 → ∃ g, g ≠ 0 ∧ lockS t who (a ++ b) = (t, g)) := by
    intro e he hne
    rcases lock_cases t who (a ++ b) hr with ⟨hw, hc, hm, _⟩ | h
    · exfalso
      rw [cells_app, Bool.and_eq_true] at hc
      have := lock_ok t who a hr hw hc.1 (fun k x hk hh => hm k x hk (by rw [hit_app, hh]; rfl))
      rw [he] at this; injection this with _ h2; exact hne h2
    · exact h
  rcases lock_cases t who a hr with ⟨hw, hca, hma, hlk⟩ | ⟨e, he, hlk⟩
  · have hrx := lock_right t who a hr hw
    have hu : lockS (lockAll t who a) who a = (lockAll t who a, 0) := by
      rw [lock_ok _ who a hrx hw hca (lockAll_may t who a a hma), lock_same]
    rcases lock_cases (lockAll t who a) who b hrx with ⟨_, hcb, hmb, hlb⟩ | ⟨f, hf, hlb⟩
    · refine ⟨_, 0, _, 0, _, 0, _, 0, hlk, hlb, ?_, hu, rfl, fun _ => rfl, fun _ => ⟨rfl, rfl⟩⟩
      rw [lock_lock]
      refine lock_ok t who (a ++ b) hr hw (by rw [cells_app, hca, hcb]; rfl) (fun k x hk hh => ?_)
      rw [hit_app] at hh
      cases h1 : hit t.length a k
      · rw [h1] at hh
        have h3 := hmb k (lock1 t.length who a k x) (lockAll_at t who a k x hk) (by rw [lockAll_len]; simpa using hh)
        unfold lock1 at h3; rw [h1] at h3; exact h3
      · exact hma k x hk h1
    · have : ∃ g, g ≠ 0 ∧ lockS t who (a ++ b) = (t, g) := by
        rcases lock_cases t who (a ++ b) hr with ⟨_, hc, hm, _⟩ | h
        · exfalso
          rw [cells_app, Bool.and_eq_true] at hc
          have := lock_ok _ who b hrx hw hc.2 (lockAll_may t who a b (fun k x hk hh => hm k x hk (by rw [hit_app, hh]; simp)))
          rw [hlb] at this; injection this with _ h2; exact hf h2
        · exact h
      obtain ⟨g, hg, hlg⟩ := this
      refine ⟨_, 0, _, f, _, g, _, 0, hlk, hlb, hlg, hu, ?_, ?_, fun _ => ⟨rfl, rfl⟩⟩
      · rw [beq_eq_false_iff_ne.2 hg, beq_eq_false_iff_ne.2 hf]; rfl
      · rw [beq_eq_false_iff_ne.2 hg]; intro h; cases h
  · obtain ⟨g, hg, hlg⟩ := notg e hlk he
    refine ⟨t, e, (lockS t who b).1, (lockS t who b).2, t, g, t, e, hlk, rfl, hlg, hlk, ?_, ?_, ?_⟩
    · rw [beq_eq_false_iff_ne.2 hg, beq_eq_false_iff_ne.2 he]; rfl
    · rw [beq_eq_false_iff_ne.2 hg]; intro h; cases h
    · rw [beq_eq_false_iff_ne.2 he]; intro h; cases h

/-- Versions never fall. -/
theorem lock_ver (t : List Rec) (who : Int) (l : List Int) (k : Nat) (r : Rec) (hk : t[k]? = some r) : ∃ ra, (lockS t who l).1[k]? = some ra ∧ ra.version = r.version := by
  unfold lockS; split
  · split
    · refine ⟨_, lockAll_at t who l k r hk, ?_⟩
      unfold lock1; split <;> rfl
    · exact ⟨r, hk, rfl⟩
  · exact ⟨r, hk, rfl⟩
theorem stamp_ver (a : List Rec) (who v : Int) (k : Nat) (ra : Rec) (hk : a[k]? = some ra) :
    ∃ r', (stampS a who v).1[k]? = some r' ∧ ra.version ≤ r'.version ∧ (r'.version = ra.version ∨ (ra.owner = who ∧ r'.version = v)) := by
  unfold stampS; split
  · split
    · split
      · rename_i hb
        have h1 := (all_idx _ _).1 hb k ra hk
        refine ⟨stamp1 who v ra, by rw [List.getElem?_map, hk]; rfl, ?_⟩
        unfold stamp1
        by_cases ho : ra.owner = who
        · rw [if_pos ho]
          unfold below1 at h1; simp [ho] at h1
          exact ⟨by simp only; omega, .inr ⟨ho, rfl⟩⟩
        · rw [if_neg ho]; exact ⟨Int.le_refl _, .inl rfl⟩
      · exact ⟨ra, hk, Int.le_refl _, .inl rfl⟩
    · exact ⟨ra, hk, Int.le_refl _, .inl rfl⟩
  · exact ⟨ra, hk, Int.le_refl _, .inl rfl⟩
theorem stamp_err (a : List Rec) (who v : Int) : (stampS a who v).2 = 0 ∨ ((stampS a who v).2 ≠ 0 ∧ (stampS a who v).1 = a) := by
  unfold stampS; split
  · split
    · split
      · left; rfl
      · right; simp
    · right; simp
  · right; simp
theorem let_ver (a : List Rec) (who : Int) (k : Nat) (ra : Rec) (hk : a[k]? = some ra) : ∃ rl, (letS a who)[k]? = some rl ∧ rl.version = ra.version := by
  refine ⟨_, let_at a who k ra hk, ?_⟩
  split <;> rfl

/-- Cells' places. -/
theorem of_eq (t : List Rec) (a b : List Int) (ha : cellsB a = cellsB b) (h : ∀ k : Nat, k < t.length → hit t.length a k = hit t.length b k) : ofS t a = ofS t b := by
  unfold ofS; rw [ha]; split
  · exact pick_congr _ _ _ h
  · rfl
theorem pick_single (n c : Nat) (hc : c < n) : pick (fun k => decide ((c : Int) = (k : Int))) n = [(c : Int)] := by
  induction n with
  | zero => omega
  | succ n ih =>
    by_cases h : c = n
    · subst h
      rw [pick_yes _ _ (by simp)]
      have : pick (fun k => decide ((c : Int) = (k : Int))) c = [] := by
        rw [pick_congr _ (fun _ => false) _ (by intro k hk; simp; omega)]
        unfold pick; simp
      rw [this]; rfl
    · rw [pick_no _ _ (by simp; omega), ih (by omega)]
theorem of_one (t : List Rec) (c : Int) (hr : rightB t = true) (hc : 0 ≤ c) : ofS t [c] = [c % (t.length : Int)] := by
  have hn := ((right_iff t).1 hr).1
  have h0 : 0 ≤ c % (t.length : Int) := Int.emod_nonneg _ (by omega)
  have h1 : c % (t.length : Int) < (t.length : Int) := Int.emod_lt_of_pos _ (by omega)
  obtain ⟨p, hp⟩ := Int.eq_ofNat_of_zero_le h0
  unfold ofS; rw [hr, show cellsB [c] = true by simp [cellsB, hc], if_pos (by rfl)]
  rw [hp]
  rw [← pick_single t.length p (by omega)]
  refine pick_congr _ _ _ (fun k hk => ?_)
  unfold hit; simp [hp]
theorem of_shift (t : List Rec) (c : Int) (hc : 0 ≤ c) : ofS t [c + (t.length : Int)] = ofS t [c] := by
  refine of_eq t _ _ (by simp [cellsB]; omega) (fun k hk => ?_)
  unfold hit; simp
theorem of_nil (t : List Rec) : ofS t [] = [] := by
  unfold ofS; split
  · rw [pick_congr _ (fun _ => false) _ (by intro k hk; rfl)]; unfold pick; simp
  · rfl
theorem of_rev (t : List Rec) (l : List Int) : ofS t l.reverse = ofS t l := by
  refine of_eq t _ _ (by unfold cellsB; rw [List.all_reverse]) (fun k hk => ?_)
  unfold hit; rw [List.any_reverse]
theorem pick_or (p q : Nat → Bool) (n : Nat) : (pick (fun k => p k || q k) n).length ≤ (pick p n).length + (pick q n).length := by
  induction n with
  | zero => simp [pick]
  | succ n ih =>
    cases hp : p n <;> cases hq : q n
    · rw [pick_no _ _ (by simp [hp, hq]), pick_no _ _ hp, pick_no _ _ hq]; exact ih
    · rw [pick_yes _ _ (by simp [hq]), pick_no _ _ hp, pick_yes _ _ hq]; simp; omega
    · rw [pick_yes _ _ (by simp [hp]), pick_yes _ _ hp, pick_no _ _ hq]; simp; omega
    · rw [pick_yes _ _ (by simp [hp]), pick_yes _ _ hp, pick_yes _ _ hq]; simp; omega
theorem pick_one (c : Int) (n : Nat) : (pick (fun k => decide (c = (k : Int))) n).length ≤ 1 := by
  induction n with
  | zero => simp [pick]
  | succ n ih =>
    by_cases h : c = (n : Int)
    · rw [pick_yes _ _ (by simp [h])]
      rw [pick_congr _ (fun _ => false) _ (by intro k hk; simp; omega)]
      unfold pick; simp
    · rw [pick_no _ _ (by simp [h])]; exact ih
theorem of_le (t : List Rec) (l : List Int) : (ofS t l).length ≤ l.length := by
  unfold ofS; split
  · generalize t.length = n
    induction l with
    | nil => rw [pick_congr _ (fun _ => false) _ (by intro k hk; rfl)]; unfold pick; simp
    | cons c l ih =>
      have h1 := pick_or (fun k => decide (c % (n : Int) = (k : Int))) (hit n l) n
      have h2 := pick_one (c % (n : Int)) n
      have h3 : pick (hit n (c :: l)) n = pick (fun k => decide (c % (n : Int) = (k : Int)) || hit n l k) n := pick_congr _ _ _ (by intro k hk; unfold hit; simp)
      rw [h3, List.length_cons]
      have ih' := ih (by
        rename_i hh
        simp only [Bool.and_eq_true] at hh ⊢
        refine ⟨hh.1, ?_⟩
        have := hh.2; unfold cellsB at this ⊢; rw [List.all_cons, Bool.and_eq_true] at this; exact this.2)
      omega
  · simp
end Go.Proofs.Ytfnghnfaekjfjaa.Stripe
