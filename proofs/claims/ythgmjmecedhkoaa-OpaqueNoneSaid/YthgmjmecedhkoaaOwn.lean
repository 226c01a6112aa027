/-
  WORDS ON MEMORY, of my own: stores into a slice of the call's own, cells that 'make' has laid, lists changed at places. No conditions beyond those that each theorem states. Nothing of the program is named here.
-/
import Derived.Test.YthgmjmecedhkoaaMem2
import Derived.OwnWalk
import Derived.Lib.SliceRun
namespace Go.Proofs.Ythgmjmecedhkoaa.Mem
open Go.ChangeShapes Go.WideShapes Go.ChangeAt Go.RowKit

theorem own_set {w0 w : World} {e size n cap g : Nat} {xs : List Value} (h : Own w0 w e size (.slice (some ⟨g, 0, none⟩) n cap) n xs) (j : Nat) (u : Value) :
    Own w0 (w.setCell ⟨g, j, none⟩ u) e size (.slice (some ⟨g, 0, none⟩) n cap) n (xs.set j u) :=
  ⟨(h.1.stored j u).1, h.2.setCell (h.base g rfl) u⟩
theorem own_lay {w0 w : World} {e size n : Nat} {v : Value} {xs : List Value} (h : Own w0 w e size v n xs) (hn : 0 < n) : ∃ g cap, v = .slice (some ⟨g, 0, none⟩) n cap := by
  rcases h.1.2 with ⟨_, h0⟩ | ⟨g, cap, cur, rfl, _⟩
  · omega
  · exact ⟨g, cap, rfl⟩
theorem own_rd {w0 w : World} {e size n cap g : Nat} {xs : List Value} (h : Own w0 w e size (.slice (some ⟨g, 0, none⟩) n cap) n xs) : Rd w size (some ⟨g, 0, none⟩) n xs := by
  obtain ⟨B, d, hv, hrd⟩ := h.form
  injection hv with e1 _ e3
  subst e1 e3
  exact hrd
/-- What is returned: a slice of the call's own. -/
def RetO (w : World) (t K n : Nat) (xs : List Value) (e : Ending) (w' : World) : Prop := ∃ v, e = .returned v ∧ Own w w' t K v n xs
theorem RetO.toS {w w' : World} {t K n : Nat} {xs : List Value} {e : Ending} (h : RetO w t K n xs e w') : RetS w K n xs e w' := by
  obtain ⟨v, rfl, ho⟩ := h
  obtain ⟨B, d, rfl, hrd⟩ := ho.form
  exact ⟨B, d, rfl, hrd, ho.2⟩
/-- Of the call's own since later is of the call's own since sooner. -/
theorem Own.wide {w0 w1 w : World} {e size n : Nat} {v : Value} {xs : List Value} (h : Own w1 w e size v n xs) (hb : Below w0.heap.size w0 w1) : Own w0 w e size v n xs := by
  refine ⟨⟨h.1.1, ?_⟩, bl_trans hb h.2⟩
  rcases h.1.2 with hv | ⟨g, cap, cur, hv, hg, hrest⟩
  · exact .inl hv
  · exact .inr ⟨g, cap, cur, hv, Nat.le_trans hb.size hg, hrest⟩
theorem Own.other {w0 w1 w2 : World} {e size n cap g e2 size2 q d : Nat} {B : Option Addr} {xs ys : List Value} (h1 : Own w0 w1 e size (.slice (some ⟨g, 0, none⟩) n cap) n xs) (h2 : Own w1 w2 e2 size2 (.slice B q d) q ys) :
    ∀ b off, B = some ⟨b, off, none⟩ → b ≠ g := by
  rintro b off rfl rfl
  have l1 := h1.lt b rfl
  rcases h2.1.2 with ⟨hv, _⟩ | ⟨g', cap', cur, hv, hg, _⟩
  · cases hv
  · injection hv with e1
    injection e1 with e1
    injection e1 with e1
    omega
theorem cell_set_ne {w : World} {p q : Addr} (h : q.block ≠ p.block) (u : Value) : (w.setCell q u).cell? p = w.cell? p := by
  unfold World.cell? World.setCell
  simp [Array.getElem?_modify, h]
theorem Rd.set_other {w : World} {k n g : Nat} {B : Option Addr} {xs : List Value} (h : Rd w k B n xs) (hne : ∀ b off, B = some ⟨b, off, none⟩ → b ≠ g) (j : Nat) (u : Value) : Rd (w.setCell ⟨g, j, none⟩ u) k B n xs :=
  ⟨h.1, fun hn => by
    obtain ⟨b, off, e, hc⟩ := h.2 hn
    refine ⟨b, off, e, fun i v hv => ?_⟩
    rw [cell_set_ne (fun h => hne b off e h.symm)]
    exact hc i v hv⟩
theorem rd_nil {w : World} {k n : Nat} {xs : List Value} (hr : Rd w k none n xs) : n = 0 ∧ xs = [] := by
  have h0 : n = 0 := by
    rcases Nat.eq_zero_or_pos n with h0 | h0
    · exact h0
    · obtain ⟨b, off, hh, _⟩ := hr.2 h0
      cases hh
  subst h0
  exact ⟨rfl, List.eq_nil_of_length_eq_zero (by simpa using hr.1)⟩
theorem made_two (a b : Value) (n : Nat) : (madeCells #[a, b] (n * 2)).toList = (List.replicate n ()).flatMap (fun _ => [a, b]) := by
  unfold madeCells
  rw [Array.toList_map, Array.toList_range]
  induction n with
  | zero => rfl
  | succ n ih =>
    have e : (n + 1) * 2 = n * 2 + 1 + 1 := by omega
    rw [e, List.range_succ, List.range_succ, List.map_append, List.map_append, ih, List.replicate_succ', List.flatMap_append]
    have e1 : n * 2 % 2 = 0 := by omega
    have e2 : (n * 2 + 1) % 2 = 1 := by omega
    simp [e1, e2]

section
variable {τ : Type} {K : Nat} {code : τ → List Value}
/-- A flat list with one element's cell changed. -/
theorem flat_set (hcode : ∀ x, (code x).length = K) (l : List τ) (k j : Nat) (hj : j < K) (x y : τ) (u : Value) (hx : l[k]? = some x) (hy : (code x).set j u = code y) :
    (l.flatMap code).set (k * K + j) u = (l.set k y).flatMap code := by
  induction l generalizing k with
  | nil => simp at hx
  | cons a l ih =>
    cases k with
    | zero =>
      simp only [List.getElem?_cons_zero, Option.some.injEq] at hx
      subst hx
      simp only [List.flatMap_cons, List.set_cons_zero, Nat.zero_mul, Nat.zero_add]
      rw [List.set_append_left _ _ (by rw [hcode]; exact hj), hy]
    | succ k =>
      simp only [List.getElem?_cons_succ] at hx
      simp only [List.flatMap_cons, List.set_cons_succ]
      have e : (k + 1) * K + j = (code a).length + (k * K + j) := by rw [hcode, Nat.succ_mul]; omega
      rw [e, List.set_append_right _ _ (by omega), Nat.add_sub_cancel_left, ih k hx]
end

/-- A list changed at places that are given as numbers. -/
def setAll {τ : Type} (f : τ → τ) (t : List τ) (ps : List Int) : List τ := ps.foldl (fun t p => t.modify p.toNat f) t
section
variable {τ : Type} (f : τ → τ)
theorem setAll_len (t : List τ) (ps : List Int) : (setAll f t ps).length = t.length := by
  unfold setAll
  induction ps generalizing t with
  | nil => rfl
  | cons p ps ih => simp only [List.foldl_cons]; rw [ih]; simp
theorem setAll_take (t : List τ) (ps : List Int) (j : Nat) (p : Int) (hj : ps[j]? = some p) : setAll f t (ps.take (j + 1)) = (setAll f t (ps.take j)).modify p.toNat f := by
  unfold setAll
  rw [List.take_add_one, hj, List.foldl_append]; rfl
theorem modify_set (t : List τ) (k : Nat) (x : τ) (hx : t[k]? = some x) : t.modify k f = t.set k (f x) := by
  apply List.ext_getElem?
  intro i
  rw [List.getElem?_modify, List.getElem?_set]
  by_cases h : k = i
  · subst h
    obtain ⟨h1, rfl⟩ := List.getElem?_eq_some_iff.1 hx
    simp [h1]
  · simp [h]
theorem setAll_at (hf : ∀ x, f (f x) = f x) (t : List τ) (ps : List Int) (h0 : ∀ p ∈ ps, 0 ≤ p) (k : Nat) (x : τ) (hx : t[k]? = some x) :
    (setAll f t ps)[k]? = some (if ps.any (fun p => p == (k : Int)) = true then f x else x) := by
  induction ps generalizing t x with
  | nil => simpa [setAll] using hx
  | cons p ps ih =>
    have hp := h0 p (List.mem_cons_self ..)
    have ht : (t.modify p.toNat f)[k]? = some (if p = (k : Int) then f x else x) := by
      rw [List.getElem?_modify, hx]
      by_cases h : p = (k : Int)
      · subst h; simp
      · have h' : ¬ p.toNat = k := by omega
        rw [if_neg h]; simp [h']
    have := ih (t.modify p.toNat f) (fun q hq => h0 q (List.mem_cons_of_mem _ hq)) _ ht
    have e : setAll f t (p :: ps) = setAll f (t.modify p.toNat f) ps := rfl
    rw [e, this]
    by_cases h : p = (k : Int)
    · subst h
      simp only [if_true, hf, List.any_cons, beq_self_eq_true, Bool.true_or]
      split <;> rfl
    · have h' : (p == (k : Int)) = false := beq_eq_false_iff_ne.2 h
      simp only [h, if_false, List.any_cons, h', Bool.false_or]
/-- Changed at the places that a test picks: by place. -/
theorem setAll_pick (hf : ∀ x, f (f x) = f x) (t : List τ) (p : Nat → Bool) : setAll f t (pick p t.length) = t.mapIdx (fun k x => if p k = true then f x else x) := by
  apply List.ext_getElem?
  intro k
  by_cases hk : k < t.length
  · have hx : t[k]? = some t[k] := List.getElem?_eq_getElem hk
    rw [setAll_at f hf t _ (fun q hq => by obtain ⟨j, _, _, rfl⟩ := (pick_mem _ _ _).1 hq; omega) k _ hx, pick_any p _ k hk, List.getElem?_mapIdx, hx]; rfl
  · rw [List.getElem?_eq_none (by rw [setAll_len]; omega), List.getElem?_eq_none (by rw [List.length_mapIdx]; omega)]
end
end Go.Proofs.Ythgmjmecedhkoaa.Mem
