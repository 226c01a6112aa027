/-
  PLAIN DEFINITIONS: steps, codes, and what the chapter on codes asks of them; a code in memory. No conditions beyond those that each theorem states. Nothing of the program is named here.
-/
import Derived.Test.YtilfkohckmknkaaTermPlain
import Derived.Test.YtilfkohckmknkaaMemA
namespace Go.Proofs.Ytilfkohckmknkaa.Code
open Go.ChangeShapes Go.WideShapes Go.ChangeAt Go.RowKit Mem Term

structure Step where
  d : Int
  a : Int
  b : Int
  t : List Term.Op
  deriving DecidableEq, Inhabited
/-- A step, and where its term lies. -/
structure Raw where
  s : Step
  T : Option Addr
  n : Nat
  c : Nat
  deriving Inhabited
def rc (r : Raw) : List Value := [.int .i64 r.s.d, .int .i64 r.s.a, .int .i64 r.s.b, .slice r.T r.n r.c]
def rs (l : List Raw) : List Value := l.flatMap rc
def ss (l : List Raw) : List Step := l.map Raw.s
theorem rc_len (r : Raw) : (rc r).length = 4 := rfl
theorem rc_one (r : Raw) : ∀ u ∈ rc r, u.oneCell' = true := one_cons rfl (one_cons rfl (one_cons rfl (one_cons rfl one_nil)))
theorem rs_one (l : List Raw) : ∀ u ∈ rs l, u.oneCell' = true := flat_one rc_one l
theorem rs_app (a b : List Raw) : rs (a ++ b) = rs a ++ rs b := by unfold rs; rw [List.flatMap_append]
theorem rs_take (l : List Raw) (k : Nat) (x : Raw) (hk : l[k]? = some x) : rs (l.take (k + 1)) = rs (l.take k) ++ rc x := flat_take l k x hk
theorem ss_app (a b : List Raw) : ss (a ++ b) = ss a ++ ss b := by unfold ss; rw [List.map_append]
theorem ss_len (l : List Raw) : (ss l).length = l.length := by unfold ss; rw [List.length_map]
/-- The terms of steps, as they lie. -/
def Terms (w : World) (l : List Raw) : Prop := ∀ r ∈ l, Rd w 2 r.T r.n (Term.ops r.s.t) ∧ r.n ≤ r.c ∧ r.c ≤ 9223372036854775807
/-- A code in memory. -/
def At (w : World) (A : Option Addr) (n : Nat) (l : List Raw) : Prop := Rd w 4 A n (rs l) ∧ Terms w l
section
variable {w w' : World} {A : Option Addr} {n : Nat} {l m : List Raw}
theorem Terms.below (h : Terms w l) (hb : Below w.heap.size w w') : Terms w' l := fun r hr => ⟨(h r hr).1.below hb, (h r hr).2⟩
theorem Terms.nil_ : Terms w [] := by intro r hr; cases hr
theorem Terms.app (h : Terms w l) (k : Terms w m) : Terms w (l ++ m) := by
  intro r hr
  rcases List.mem_append.1 hr with hr | hr
  · exact h r hr
  · exact k r hr
theorem Terms.sub (h : Terms w l) (hm : ∀ r ∈ m, r ∈ l) : Terms w m := fun r hr => h r (hm r hr)
theorem At.below (h : At w A n l) (hb : Below w.heap.size w w') : At w' A n l := ⟨h.1.below hb, h.2.below hb⟩
theorem At.alloc (h : At w A n l) (o : Obj) : At (w.alloc o) A n l := h.below (bl_alloc (Below.refl _ _) o)
theorem At.len (h : At w A n l) : l.length = n := Rd.len rc_len h.1 (by decide)
theorem At.none_ : At w A 0 [] := ⟨Rd.none_, Terms.nil_⟩
theorem At.at_ (h : At w A n l) (k : Nat) (hk : k < n) :
    ∃ b off, ∃ r : Raw, A = some ⟨b, off, none⟩ ∧ l[k]? = some r ∧ w.cell? ⟨b, off + k * 4, none⟩ = some (.int .i64 r.s.d) ∧ w.cell? ⟨b, off + k * 4 + 1, none⟩ = some (.int .i64 r.s.a) ∧
      w.cell? ⟨b, off + k * 4 + 2, none⟩ = some (.int .i64 r.s.b) ∧ w.cell? ⟨b, off + k * 4 + 3, none⟩ = some (.slice r.T r.n r.c) ∧ Rd w 2 r.T r.n (Term.ops r.s.t) ∧ r.n ≤ 9223372036854775807 := by
  obtain ⟨b, off, r, hA, hr, hc⟩ := Rd.at_ rc_len h.1 (by decide) k hk
  have ht := h.2 r (List.mem_of_getElem? hr)
  exact ⟨b, off, r, hA, hr, by have := hc 0 _ rfl; simpa using this, hc 1 _ rfl, hc 2 _ rfl, hc 3 _ rfl, ht.1, by omega⟩
theorem term_len {r : Raw} (h : Rd w 2 r.T r.n (Term.ops r.s.t)) : r.s.t.length = r.n := Term.ops_len h
/-- The steps lie at l's places. -/
theorem ss_at (l : List Raw) (k : Nat) (r : Raw) (h : l[k]? = some r) : (ss l)[k]? = some r.s := by unfold ss; rw [List.getElem?_map, h]; rfl
end

/-- A term of registers alone. -/
def reckonsB (t : List Term.Op) : Bool := decide (Term.checkS t = 0) && decide ((Term.cellsS t).length = 0)
/-- May a step be? -/
def oneB (s : Step) : Bool :=
  if s.d = 1 then decide (s.t.length = 0) && decide (0 ≤ s.a ∧ s.a ≤ 7 ∧ 0 ≤ s.b ∧ s.b ≤ 63)
  else if s.d = 2 then reckonsB s.t && decide (0 ≤ s.a ∧ s.a ≤ 7 ∧ s.b = 0)
  else if s.d = 3 then reckonsB s.t && decide (0 ≤ s.a ∧ s.a ≤ 63 ∧ s.b = 0)
  else if s.d = 4 then reckonsB s.t && decide (1 ≤ s.a ∧ s.a ≤ 24 ∧ s.b = 0)
  else if s.d = 5 then decide (s.t.length = 0) && decide (s.a = 0 ∧ s.b = 0)
  else if s.d = 6 then decide (s.t.length = 0) && decide (0 ≤ s.a ∧ s.a ≤ 255 ∧ s.b = 0)
  else decide (s.d = 7) && (decide (s.t.length = 0) && decide (1 ≤ s.a ∧ s.a ≤ 24 ∧ 1 ≤ s.b ∧ s.b ≤ 24))
theorem one_d (s : Step) (h : oneB s = true) : 1 ≤ s.d ∧ s.d ≤ 7 := by
  unfold oneB at h
  repeat' split at h
  all_goals first | omega | (simp at h; omega)
theorem one_skip (s : Step) (h : oneB s = true) (hd : s.d = 4) : 1 ≤ s.a ∧ s.a ≤ 24 := by
  unfold oneB at h
  rw [if_neg (by omega), if_neg (by omega), if_neg (by omega), if_pos hd] at h
  simp at h; omega
theorem one_either (s : Step) (h : oneB s = true) (hd : s.d = 7) : 1 ≤ s.a ∧ s.a ≤ 24 ∧ 1 ≤ s.b ∧ s.b ≤ 24 := by
  unfold oneB at h
  rw [if_neg (by omega), if_neg (by omega), if_neg (by omega), if_neg (by omega), if_neg (by omega), if_neg (by omega)] at h
  simp at h; omega

/-- How deep a part is, and whether it is well. -/
def wellF : Nat → List Step → Nat × Bool
  | 0, _ => (0, true)
  | _ + 1, [] => (0, true)
  | f + 1, s :: c =>
    if s.d = 4 ∧ (c.length : Int) < s.a then (0, false)
    else if s.d = 7 then
      if (c.length : Int) < s.a + s.b then (0, false)
      else (max (max (wellF f (c.drop (s.a.toNat + s.b.toNat))).1 (1 + (wellF f (c.take s.a.toNat)).1)) (1 + (wellF f ((c.drop s.a.toNat).take s.b.toNat)).1),
        ((wellF f (c.take s.a.toNat)).2 && (wellF f ((c.drop s.a.toNat).take s.b.toNat)).2) && (wellF f (c.drop (s.a.toNat + s.b.toNat))).2)
    else wellF f c
def wellP (c : List Step) : Nat × Bool := wellF c.length c
theorem well_same (f : Nat) : ∀ (g : Nat) (c : List Step), c.length ≤ f → c.length ≤ g → wellF f c = wellF g c := by
  induction f with
  | zero =>
    intro g c h1 _
    obtain rfl : c = [] := List.eq_nil_of_length_eq_zero (by omega)
    cases g <;> rfl
  | succ f ih =>
    intro g c h1 h2
    cases c with
    | nil => cases g <;> rfl
    | cons s c =>
      cases g with
      | zero => simp at h2
      | succ g =>
        simp only [List.length_cons] at h1 h2
        have e : ∀ x : List Step, x.length ≤ c.length → wellF f x = wellF g x := fun x hx => ih g x (by omega) (by omega)
        simp only [wellF]
        rw [e c (Nat.le_refl _), e (c.drop (s.a.toNat + s.b.toNat)) (by simp), e (c.take s.a.toNat) (by simp; omega), e ((c.drop s.a.toNat).take s.b.toNat) (by simp; omega)]
theorem well_nil : wellP [] = (0, true) := rfl
theorem well_skip (s : Step) (c : List Step) (hd : s.d = 4) (h : (c.length : Int) < s.a) : wellP (s :: c) = (0, false) := by
  unfold wellP; simp only [List.length_cons, wellF]; rw [if_pos ⟨hd, h⟩]
theorem well_plain (s : Step) (c : List Step) (hd : s.d ≠ 7) (h : ¬ (s.d = 4 ∧ (c.length : Int) < s.a)) : wellP (s :: c) = wellP c := by
  unfold wellP; simp only [List.length_cons, wellF]; rw [if_neg h, if_neg hd]
theorem well_out (s : Step) (c : List Step) (hd : s.d = 7) (h : (c.length : Int) < s.a + s.b) : wellP (s :: c) = (0, false) := by
  unfold wellP; simp only [List.length_cons, wellF]; rw [if_neg (by omega), if_pos hd, if_pos h]
theorem well_either (s : Step) (U V R : List Step) (hd : s.d = 7) (ha : s.a = (U.length : Int)) (hb : s.b = (V.length : Int)) :
    wellP (s :: (U ++ (V ++ R))) = (max (max (wellP R).1 (1 + (wellP U).1)) (1 + (wellP V).1), ((wellP U).2 && (wellP V).2) && (wellP R).2) := by
  have e1 : (U ++ (V ++ R)).drop (s.a.toNat + s.b.toNat) = R := by
    rw [ha, hb, Int.toNat_natCast, Int.toNat_natCast, ← List.append_assoc, ← List.length_append, List.drop_left]
  have e2 : (U ++ (V ++ R)).take s.a.toNat = U := by rw [ha, Int.toNat_natCast, List.take_left]
  have e3 : ((U ++ (V ++ R)).drop s.a.toNat).take s.b.toNat = V := by rw [ha, hb, Int.toNat_natCast, Int.toNat_natCast, List.drop_left, List.take_left]
  have hl : (U ++ (V ++ R)).length = U.length + V.length + R.length := by simp; omega
  unfold wellP
  simp only [List.length_cons, wellF]
  rw [if_neg (by omega), if_pos hd, if_neg (by rw [hl]; omega), e1, e2, e3, well_same _ R.length R (by omega) (Nat.le_refl _), well_same _ U.length U (by omega) (Nat.le_refl _), well_same _ V.length V (by omega) (Nat.le_refl _)]
/-- A step that is an Either, and the parts that it names. -/
theorem either_parts {α : Type} (c : List α) (a b : Int) (ha : 0 ≤ a) (hb : 0 ≤ b) (h : a + b ≤ (c.length : Int)) : ∃ U V R, c = U ++ (V ++ R) ∧ a = (U.length : Int) ∧ b = (V.length : Int) := by
  refine ⟨c.take a.toNat, (c.drop a.toNat).take b.toNat, (c.drop a.toNat).drop b.toNat, by rw [List.take_append_drop, List.take_append_drop], ?_, ?_⟩
  · simp; omega
  · simp; omega
theorem well_deep (f : Nat) : ∀ c : List Step, c.length ≤ f → c.all oneB = true → (wellP c).1 ≤ c.length := by
  induction f with
  | zero =>
    intro c h _
    obtain rfl : c = [] := List.eq_nil_of_length_eq_zero (by omega)
    exact Nat.le_refl _
  | succ f ih =>
    intro c h h1
    cases c with
    | nil => exact Nat.le_refl _
    | cons s c =>
      rw [List.all_cons, Bool.and_eq_true] at h1
      simp only [List.length_cons] at h ⊢
      by_cases h4 : s.d = 4 ∧ (c.length : Int) < s.a
      · rw [well_skip s c h4.1 h4.2]; exact Nat.zero_le _
      by_cases h7 : s.d = 7
      · by_cases ho : (c.length : Int) < s.a + s.b
        · rw [well_out s c h7 ho]; exact Nat.zero_le _
        · obtain ⟨g1, _, g3, _⟩ := one_either s h1.1 h7
          obtain ⟨U, V, R, rfl, ha, hb⟩ := either_parts c s.a s.b (by omega) (by omega) (by omega)
          rw [List.all_append, List.all_append, Bool.and_eq_true, Bool.and_eq_true] at h1
          simp only [List.length_append] at h ⊢
          rw [well_either s U V R h7 ha hb]
          have i1 := ih U (by omega) h1.2.1
          have i2 := ih V (by omega) h1.2.2.1
          have i3 := ih R (by omega) h1.2.2.2
          simp only; omega
      · rw [well_plain s c h7 h4]
        have := ih c (by omega) h1.2
        omega

def checkS (c : List Step) : Int :=
  if (decide (c.length ≤ 24) && c.all oneB) = true then (if (wellP c).2 = true then (if 6 < (wellP c).1 then 5 else 0) else 2) else 1
def deepS (c : List Step) : Nat := if checkS c = 0 then (wellP c).1 else 0
def namesB (c : List Step) (n : Nat) : Bool := c.any fun s => (decide (s.d = 1) && decide (s.b = (n : Int))) || (decide (s.d = 3) && decide (s.a = (n : Int)))
def cellsS (c : List Step) : List Int := if checkS c = 0 then pick (namesB c) 64 else []
theorem check_ok (c : List Step) (h : checkS c = 0) : c.length ≤ 24 ∧ c.all oneB = true ∧ (wellP c).2 = true ∧ (wellP c).1 ≤ 6 := by
  unfold checkS at h
  split at h
  · rename_i h1
    rw [Bool.and_eq_true] at h1
    have h2 : c.length ≤ 24 := by simpa using h1.1
    split at h
    · split at h
      · cases h
      · exact ⟨h2, h1.2, by assumption, by omega⟩
    · cases h
  · cases h
theorem check_mk (c : List Step) (h1 : c.length ≤ 24) (h2 : c.all oneB = true) (h3 : (wellP c).2 = true) (h4 : (wellP c).1 ≤ 6) : checkS c = 0 := by
  unfold checkS; rw [if_pos (by rw [h2]; simp [h1]), if_pos h3, if_neg (by omega)]
theorem check_bad (c : List Step) (k : Nat) (x : Step) (hk : c[k]? = some x) (hx : oneB x = false) : checkS c = 1 := by
  unfold checkS; rw [if_neg (by rw [all_bad c oneB k x hk hx]; simp)]
theorem check_many (c : List Step) (h : 24 < c.length) : checkS c = 1 := by
  unfold checkS; rw [if_neg (by rw [decide_eq_false (by omega)]; simp)]
theorem check_form (c : List Step) (h1 : c.length ≤ 24) (h2 : c.all oneB = true) (h3 : (wellP c).2 = false) : checkS c = 2 := by
  unfold checkS; rw [if_pos (by rw [h2]; simp [h1]), h3]; rfl
theorem check_big (c : List Step) (h1 : c.length ≤ 24) (h2 : c.all oneB = true) (h3 : (wellP c).2 = true) (h4 : 6 < (wellP c).1) : checkS c = 5 := by
  unfold checkS; rw [if_pos (by rw [h2]; simp [h1]), if_pos h3, if_pos h4]
theorem deep_le (c : List Step) : deepS c ≤ 6 := by
  unfold deepS; split
  · exact (check_ok c (by assumption)).2.2.2
  · exact Nat.zero_le _
end Go.Proofs.Ytilfkohckmknkaa.Code
