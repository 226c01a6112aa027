/-
  PLAIN LEMMAS ON CODES: two codes in an Either, two one behind the other, Eithers in Eithers, a Skip, a step alone. No conditions beyond those that each theorem states. Nothing of the program is named here.
-/
import Derived.Test.YtcjooibadbhjaaaCodePlain
namespace Go.Proofs.Ytcjooibadbhjaaa.Code
open Mem

theorem one_of_either (n q : Nat) (h1 : 1 ≤ n) (h2 : n ≤ 24) (h3 : 1 ≤ q) (h4 : q ≤ 24) : oneB ⟨7, n, q, []⟩ = true := by
  unfold oneB; simp; omega
theorem either_well (a b : List Step) (n q : Nat) (ha : a.length = n) (hb : b.length = q) :
    wellP (⟨7, n, q, []⟩ :: (a ++ b)) = (max (max 0 (1 + (wellP a).1)) (1 + (wellP b).1), ((wellP a).2 && (wellP b).2) && true) := by
  have := well_either ⟨7, n, q, []⟩ a b [] rfl (by rw [ha]) (by rw [hb])
  rw [List.append_nil] at this
  exact this
theorem either_check (a b : List Step) (n q : Nat) (ha : a.length = n) (hb : b.length = q) (hn : 1 ≤ n) (hq : 1 ≤ q) (ca : checkS a = 0) (cb : checkS b = 0) :
    (24 < 1 + n + q → checkS (⟨7, n, q, []⟩ :: (a ++ b)) = 1 ∧ deepS (⟨7, n, q, []⟩ :: (a ++ b)) = 0) ∧
    (¬ 24 < 1 + n + q → 6 < 1 + max (deepS a) (deepS b) → checkS (⟨7, n, q, []⟩ :: (a ++ b)) = 5 ∧ deepS (⟨7, n, q, []⟩ :: (a ++ b)) = 0) ∧
    (¬ 24 < 1 + n + q → ¬ 6 < 1 + max (deepS a) (deepS b) → checkS (⟨7, n, q, []⟩ :: (a ++ b)) = 0 ∧ deepS (⟨7, n, q, []⟩ :: (a ++ b)) = 1 + max (deepS a) (deepS b)) := by
  obtain ⟨a1, a2, a3, a4⟩ := check_ok a ca
  obtain ⟨b1, b2, b3, b4⟩ := check_ok b cb
  have da : deepS a = (wellP a).1 := by unfold deepS; rw [if_pos ca]
  have db : deepS b = (wellP b).1 := by unfold deepS; rw [if_pos cb]
  have hw := either_well a b n q ha hb
  rw [a3, b3, ← da, ← db] at hw
  have hl : (⟨7, n, q, []⟩ :: (a ++ b)).length = 1 + n + q := by simp [ha, hb]; omega
  have hone : (⟨7, n, q, []⟩ :: (a ++ b)).all oneB = true := by
    rw [List.all_cons, List.all_append, a2, b2, one_of_either n q hn (by omega) hq (by omega)]; rfl
  refine ⟨fun h => ?_, fun h1 h2 => ?_, fun h1 h2 => ?_⟩
  · have hc : checkS (⟨7, n, q, []⟩ :: (a ++ b)) = 1 := check_many _ (by rw [hl]; exact h)
    exact ⟨hc, by unfold deepS; rw [hc]; rfl⟩
  · have hc : checkS (⟨7, n, q, []⟩ :: (a ++ b)) = 5 := check_big _ (by rw [hl]; omega) hone (by rw [hw]; rfl) (by rw [hw]; simp only; omega)
    exact ⟨hc, by unfold deepS; rw [hc]; rfl⟩
  · have hc : checkS (⟨7, n, q, []⟩ :: (a ++ b)) = 0 := check_mk _ (by rw [hl]; omega) hone (by rw [hw]; rfl) (by rw [hw]; simp only; omega)
    have e : deepS (⟨7, n, q, []⟩ :: (a ++ b)) = (wellP (⟨7, n, q, []⟩ :: (a ++ b))).1 := if_pos hc
    exact ⟨hc, by rw [e, hw]; simp only; omega⟩

theorem behind_well (f : Nat) : ∀ a b : List Step, a.length ≤ f → a.all oneB = true → (wellP a).2 = true → (wellP b).2 = true → wellP (a ++ b) = (max (wellP a).1 (wellP b).1, true) := by
  induction f with
  | zero =>
    intro a b h _ _ hb
    obtain rfl : a = [] := List.eq_nil_of_length_eq_zero (by omega)
    rw [List.nil_append, well_nil, ← hb]
    simp only
    rw [Nat.zero_max]
  | succ f ih =>
    intro a b h ho ha hb
    cases a with
    | nil =>
      rw [List.nil_append, well_nil, ← hb]
      simp only
      rw [Nat.zero_max]
    | cons s c =>
      rw [List.all_cons, Bool.and_eq_true] at ho
      simp only [List.length_cons] at h
      rw [List.cons_append]
      by_cases h4 : s.d = 4 ∧ (c.length : Int) < s.a
      · rw [well_skip s c h4.1 h4.2] at ha; cases ha
      by_cases h7 : s.d = 7
      · by_cases hout : (c.length : Int) < s.a + s.b
        · rw [well_out s c h7 hout] at ha; cases ha
        · obtain ⟨g1, _, g3, _⟩ := one_either s ho.1 h7
          obtain ⟨U, V, R, rfl, hsa, hsb⟩ := either_parts c s.a s.b (by omega) (by omega) (by omega)
          rw [List.all_append, List.all_append, Bool.and_eq_true, Bool.and_eq_true] at ho
          simp only [List.length_append] at h
          rw [well_either s U V R h7 hsa hsb] at ha ⊢
          simp only [Bool.and_eq_true] at ha
          have e := ih R b (by omega) ho.2.2.2 ha.2 hb
          have e2 : U ++ (V ++ R) ++ b = U ++ (V ++ (R ++ b)) := by simp
          rw [e2, well_either s U V (R ++ b) h7 hsa hsb, e, ha.1.1, ha.1.2]
          simp only [Bool.and_self]
          congr 1
          omega
      · rw [well_plain s c h7 h4] at ha ⊢
        rw [well_plain s (c ++ b) h7 (by
          rintro ⟨h8, h9⟩
          apply h4
          refine ⟨h8, ?_⟩
          rw [List.length_append] at h9
          omega)]
        exact ih c b (by omega) ho.2 ha hb
theorem names_app (a b : List Step) (n : Nat) : namesB (a ++ b) n = (namesB a n || namesB b n) := by unfold namesB; rw [List.any_append]
theorem pick_mono (p q : Nat → Bool) (h : ∀ k, p k = true → q k = true) (n : Nat) : (pick p n).length ≤ (pick q n).length := by
  induction n with
  | zero => exact Nat.le_refl _
  | succ n ih =>
    cases hp : p n
    · rw [pick_no p n hp]
      cases hq : q n
      · rw [pick_no q n hq]; exact ih
      · rw [pick_yes q n hq, List.length_append]; omega
    · rw [pick_yes p n hp, pick_yes q n (h n hp), List.length_append, List.length_append]
      simp only [List.length_singleton]
      omega
theorem behind_check (a b : List Step) (ca : checkS a = 0) (cb : checkS b = 0) (hl : a.length + b.length ≤ 24) :
    checkS (a ++ b) = 0 ∧ deepS (a ++ b) = max (deepS a) (deepS b) ∧ (∀ z, z ∈ cellsS (a ++ b) → z ∈ cellsS a ++ cellsS b) ∧ (cellsS a).length ≤ (cellsS (a ++ b)).length := by
  obtain ⟨a1, a2, a3, a4⟩ := check_ok a ca
  obtain ⟨b1, b2, b3, b4⟩ := check_ok b cb
  have hw := behind_well _ a b (Nat.le_refl _) a2 a3 b3
  have hc : checkS (a ++ b) = 0 := check_mk _ (by rw [List.length_append]; exact hl) (by rw [List.all_append, a2, b2]; rfl) (by rw [hw]) (by rw [hw]; simp only; omega)
  refine ⟨hc, ?_, ?_, ?_⟩
  · unfold deepS; rw [if_pos hc, if_pos ca, if_pos cb, hw]
  · intro z hz
    unfold cellsS at hz ⊢
    rw [if_pos hc, pick_mem] at hz
    obtain ⟨k, hk, hn, rfl⟩ := hz
    rw [names_app, Bool.or_eq_true] at hn
    rw [if_pos ca, if_pos cb, List.mem_append, pick_mem, pick_mem]
    rcases hn with hn | hn
    · exact .inl ⟨k, hk, hn, rfl⟩
    · exact .inr ⟨k, hk, hn, rfl⟩
  · unfold cellsS
    rw [if_pos hc, if_pos ca]
    exact pick_mono _ _ (fun k hk => by rw [names_app, hk]; rfl) 64

/-- Eithers in Eithers, so many. -/
def nest : Nat → List (Int × Int × Int)
  | 0 => [(5, 0, 0)]
  | i + 1 => (7, ((2 * i + 1 : Nat) : Int), 1) :: (nest i ++ [(5, 0, 0)])
def plain (l : List (Int × Int × Int)) : List Step := l.map fun x => ⟨x.1, x.2.1, x.2.2, []⟩
theorem nest_len (i : Nat) : (nest i).length = 2 * i + 1 := by
  induction i with
  | zero => rfl
  | succ i ih => simp [nest, ih]; omega
theorem nest_one (i : Nat) (h : i ≤ 8) : (plain (nest i)).all oneB = true := by
  induction i with
  | zero => decide
  | succ i ih =>
    have e : plain (nest (i + 1)) = ⟨7, ((2 * i + 1 : Nat) : Int), ((1 : Nat) : Int), []⟩ :: (plain (nest i) ++ [⟨5, 0, 0, []⟩]) := by simp [plain, nest]
    rw [e, List.all_cons, List.all_append, ih (by omega), one_of_either (2 * i + 1) 1 (by omega) (by omega) (by omega) (by omega)]
    decide
theorem nest_well (i : Nat) (h : i ≤ 8) : wellP (plain (nest i)) = (i, true) := by
  induction i with
  | zero => decide
  | succ i ih =>
    have e : plain (nest (i + 1)) = ⟨7, ((2 * i + 1 : Nat) : Int), ((1 : Nat) : Int), []⟩ :: (plain (nest i) ++ [⟨5, 0, 0, []⟩]) := by simp [plain, nest]
    rw [e, either_well _ _ (2 * i + 1) 1 (by unfold plain; rw [List.length_map]; exact nest_len i) rfl, ih (by omega)]
    have : wellP [⟨5, 0, 0, []⟩] = (0, true) := by decide
    rw [this]
    simp only [Bool.and_self]
    congr 1
    omega
theorem plain_len (l : List (Int × Int × Int)) : (plain l).length = l.length := by unfold plain; rw [List.length_map]
theorem nest_ok (i : Nat) (h : i ≤ 6) : checkS (plain (nest i)) = 0 ∧ deepS (plain (nest i)) = i := by
  have hc : checkS (plain (nest i)) = 0 := check_mk _ (by rw [plain_len, nest_len]; omega) (nest_one i (by omega)) (by rw [nest_well i (by omega)]) (by rw [nest_well i (by omega)]; exact h)
  exact ⟨hc, by unfold deepS; rw [if_pos hc, nest_well i (by omega)]⟩
theorem nest_big (i : Nat) (h : 6 < i) (h8 : i ≤ 8) : checkS (plain (nest i)) = 5 ∧ deepS (plain (nest i)) = 0 ∧ cellsS (plain (nest i)) = [] := by
  have hc : checkS (plain (nest i)) = 5 := check_big _ (by rw [plain_len, nest_len]; omega) (nest_one i (by omega)) (by rw [nest_well i (by omega)]) (by rw [nest_well i (by omega)]; exact h)
  exact ⟨hc, by unfold deepS; rw [hc]; rfl, by unfold cellsS; rw [hc]; rfl⟩

/-- A Skip, and so many Retries. -/
def skipL (a m : Nat) : List Step := ⟨4, a, 0, [⟨1, 1⟩]⟩ :: List.replicate m ⟨5, 0, 0, []⟩
theorem reckons_one : reckonsB [⟨1, 1⟩] = true := by decide +kernel
theorem skip_one (a m : Nat) (h1 : 1 ≤ a) (h2 : a ≤ 24) : (skipL a m).all oneB = true := by
  unfold skipL
  rw [List.all_cons, List.all_eq_true.2 (fun x hx => by rw [List.eq_of_mem_replicate hx]; decide), Bool.and_true]
  unfold oneB
  rw [if_neg (by simp), if_neg (by simp), if_neg (by simp), if_pos rfl, reckons_one]
  simp; omega
theorem retries_well (m : Nat) : wellP (List.replicate m (⟨5, 0, 0, []⟩ : Step)) = (0, true) := by
  induction m with
  | zero => rfl
  | succ m ih => rw [List.replicate_succ, well_plain _ _ (by decide) (by rintro ⟨h, _⟩; cases h), ih]
theorem skip_well (a m : Nat) : wellP (skipL a m) = (0, decide (a ≤ m)) := by
  unfold skipL
  by_cases h : a ≤ m
  · rw [well_plain _ _ (by simp) (by rintro ⟨_, h9⟩; simp at h9; omega), retries_well, decide_eq_true h]
  · rw [well_skip _ _ rfl (by simp; omega), decide_eq_false h]
theorem skip_len (a m : Nat) : (skipL a m).length = m + 1 := by unfold skipL; simp
theorem skip_check (a m : Nat) (h1 : 1 ≤ a) (h2 : a ≤ 24) (hm : m ≤ 20) : checkS (skipL a m) = if a ≤ m then 0 else 2 := by
  by_cases h : a ≤ m
  · rw [if_pos h]
    exact check_mk _ (by rw [skip_len]; omega) (skip_one a m h1 h2) (by rw [skip_well]; exact decide_eq_true h) (by rw [skip_well]; exact Nat.zero_le _)
  · rw [if_neg h]
    exact check_form _ (by rw [skip_len]; omega) (skip_one a m h1 h2) (by rw [skip_well]; exact decide_eq_false h)
theorem skip_in (a m : Nat) (h1 : 1 ≤ a) (h2 : a ≤ 24) (hm : m ≤ 20) : checkS (⟨7, ((m + 1 : Nat) : Int), ((1 : Nat) : Int), []⟩ :: (skipL a m ++ [⟨5, 0, 0, []⟩])) = if a ≤ m then 0 else 2 := by
  have hw := either_well (skipL a m) [⟨5, 0, 0, []⟩] (m + 1) 1 (skip_len a m) rfl
  rw [skip_well, show wellP [⟨5, 0, 0, []⟩] = (0, true) from by decide] at hw
  have hone : (⟨7, ((m + 1 : Nat) : Int), ((1 : Nat) : Int), []⟩ :: (skipL a m ++ [⟨5, 0, 0, []⟩])).all oneB = true := by
    rw [List.all_cons, List.all_append, skip_one a m h1 h2, one_of_either (m + 1) 1 (by omega) (by omega) (by omega) (by omega)]; decide
  have hl : (⟨7, ((m + 1 : Nat) : Int), ((1 : Nat) : Int), []⟩ :: (skipL a m ++ [⟨5, 0, 0, []⟩]) : List Step).length ≤ 24 := by simp [skip_len]; omega
  by_cases h : a ≤ m
  · rw [if_pos h]
    exact check_mk _ hl hone (by rw [hw]; simp [h]) (by rw [hw]; simp)
  · rw [if_neg h]
    exact check_form _ hl hone (by rw [hw]; simp [h])

theorem one_check (s : Step) : checkS [s] = if oneB s = true then (if s.d = 4 ∨ s.d = 7 then 2 else 0) else 1 := by
  cases ho : oneB s
  · rw [check_bad [s] 0 s rfl ho]; rfl
  · rw [if_pos rfl]
    have hone : [s].all oneB = true := by simp [ho]
    by_cases h4 : s.d = 4
    · rw [if_pos (.inl h4)]
      have := one_skip s ho h4
      exact check_form _ (by simp) hone (by rw [well_skip s [] h4 (by simp; omega)])
    · by_cases h7 : s.d = 7
      · rw [if_pos (.inr h7)]
        have := one_either s ho h7
        exact check_form _ (by simp) hone (by rw [well_out s [] h7 (by simp; omega)])
      · rw [if_neg (by rintro (h | h); exact h4 h; exact h7 h)]
        have hw : wellP [s] = (0, true) := by rw [well_plain s [] h7 (fun h => h4 h.1)]; rfl
        exact check_mk _ (by simp) hone (by rw [hw]) (by rw [hw]; exact Nat.zero_le _)
end Go.Proofs.Ytcjooibadbhjaaa.Code
