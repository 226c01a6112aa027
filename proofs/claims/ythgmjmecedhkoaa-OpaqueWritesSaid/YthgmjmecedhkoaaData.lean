/-
  LISTS IN MEMORY, of my own: elements of whatever plain struct, and whole numbers; small laws on lists. No conditions beyond those that each theorem states. Nothing of the program is named here.
-/
import Derived.Test.YthgmjmecedhkoaaOpen
namespace Go.Proofs.Ythgmjmecedhkoaa.Mem
open Go.ChangeShapes Go.WideShapes Go.ChangeAt Go.RowKit

section
variable {τ : Type} {K : Nat} {code : τ → List Value}
/-- One element, in memory. -/
theorem Rd.at_ (hcode : ∀ x, (code x).length = K) {w : World} {A : Option Addr} {n : Nat} {xs : List τ} (h : Rd w K A n (xs.flatMap code)) (hK : 0 < K) (k : Nat) (hk : k < n) :
    ∃ b off, ∃ x : τ, A = some ⟨b, off, none⟩ ∧ xs[k]? = some x ∧ ∀ j u, (code x)[j]? = some u → w.cell? ⟨b, off + k * K + j, none⟩ = some u := by
  have hl : xs.length = n := by
    have := h.1; rw [flat_len hcode] at this; exact Nat.eq_of_mul_eq_mul_right hK this
  obtain ⟨b, off, rfl, hc⟩ := h.2 (by omega)
  have hkl : k < xs.length := by omega
  refine ⟨b, off, xs[k], rfl, List.getElem?_eq_getElem hkl, fun j u hu => ?_⟩
  have hj : j < K := by have := (List.getElem?_eq_some_iff.1 hu).1; rwa [hcode] at this
  have := flat_at hcode xs k _ (List.getElem?_eq_getElem hkl) j hj
  rw [Nat.add_assoc]
  exact hc _ _ (this.trans hu)
theorem Rd.len (hcode : ∀ x, (code x).length = K) {w : World} {A : Option Addr} {n : Nat} {xs : List τ} (h : Rd w K A n (xs.flatMap code)) (hK : 0 < K) : xs.length = n := by
  have := h.1; rw [flat_len hcode] at this; exact Nat.eq_of_mul_eq_mul_right hK this
theorem flat_take (l : List τ) (k : Nat) (x : τ) (hk : l[k]? = some x) : (l.take (k + 1)).flatMap code = (l.take k).flatMap code ++ code x := by
  rw [List.take_add_one, hk]; simp
theorem flat_one (h1 : ∀ x, ∀ u ∈ code x, u.oneCell' = true) (l : List τ) : ∀ u ∈ l.flatMap code, u.oneCell' = true := by
  intro u hu
  obtain ⟨x, _, hx⟩ := List.mem_flatMap.1 hu
  exact h1 x u hx
end

/-- Whole numbers. -/
def zc (z : Int) : List Value := [.int .i64 z]
def zs (l : List Int) : List Value := l.flatMap zc
theorem zc_len (z : Int) : (zc z).length = 1 := rfl
theorem zc_one (z : Int) : ∀ u ∈ zc z, u.oneCell' = true := one_cons rfl one_nil
theorem at_z {w : World} {A : Option Addr} {n : Nat} {l : List Int} (hr : Rd w 1 A n (zs l)) (k : Nat) (hk : k < n) :
    ∃ b off, ∃ x : Int, A = some ⟨b, off, none⟩ ∧ l[k]? = some x ∧ w.cell? ⟨b, off + k, none⟩ = some (.int .i64 x) := by
  obtain ⟨b, off, x, hA, hx, hc⟩ := Rd.at_ zc_len hr (by decide) k hk
  exact ⟨b, off, x, hA, hx, by have := hc 0 _ rfl; simpa using this⟩
theorem zs_len {w : World} {A : Option Addr} {n : Nat} {l : List Int} (hr : Rd w 1 A n (zs l)) : l.length = n := Rd.len zc_len hr (by decide)
theorem zs_take (l : List Int) (k : Nat) (x : Int) (hk : l[k]? = some x) : zs (l.take (k + 1)) = zs (l.take k) ++ [.int .i64 x] := flat_take l k x hk
theorem zs_app (a b : List Int) : zs (a ++ b) = zs a ++ zs b := by unfold zs; rw [List.flatMap_append]
theorem zs_one (l : List Int) : ∀ u ∈ zs l, u.oneCell' = true := flat_one zc_one l

/-- Two whole numbers: structs of two fields that are ints. -/
theorem at_2 {τ : Type} {code : τ → List Value} (f g : τ → Int) (hcode : ∀ x, code x = [.int .i64 (f x), .int .i64 (g x)]) {w : World} {A : Option Addr} {n : Nat} {l : List τ} (hr : Rd w 2 A n (l.flatMap code)) (k : Nat) (hk : k < n) :
    ∃ b off, ∃ x : τ, A = some ⟨b, off, none⟩ ∧ l[k]? = some x ∧ w.cell? ⟨b, off + k * 2, none⟩ = some (.int .i64 (f x)) ∧ w.cell? ⟨b, off + k * 2 + 1, none⟩ = some (.int .i64 (g x)) := by
  obtain ⟨b, off, x, hA, hx, hc⟩ := Rd.at_ (fun x => by rw [hcode]; rfl) hr (by decide) k hk
  exact ⟨b, off, x, hA, hx, by have := hc 0 _ (by rw [hcode]; rfl); simpa using this, hc 1 _ (by rw [hcode]; rfl)⟩

theorem take_all {α : Type} (h : List α) (p : α → Bool) (k : Nat) (x : α) (hk : h[k]? = some x) : (h.take (k + 1)).all p = ((h.take k).all p && p x) := by
  obtain ⟨hl, rfl⟩ := List.getElem?_eq_some_iff.1 hk
  rw [List.take_succ_eq_append_getElem hl, List.all_append]; simp
theorem take_any {α : Type} (h : List α) (p : α → Bool) (k : Nat) (x : α) (hk : h[k]? = some x) : (h.take (k + 1)).any p = ((h.take k).any p || p x) := by
  obtain ⟨hl, rfl⟩ := List.getElem?_eq_some_iff.1 hk
  rw [List.take_succ_eq_append_getElem hl, List.any_append]; simp
theorem take_eq {α : Type} (x y : List α) (k : Nat) (c : α) (hx : x[k]? = some c) (hy : y[k]? = some c) (h : x.take k = y.take k) : x.take (k + 1) = y.take (k + 1) := by
  rw [List.take_add_one, List.take_add_one, h, hx, hy]
theorem take_ne {α : Type} [DecidableEq α] (x y : List α) (k : Nat) (c d : α) (hx : x[k]? = some c) (hy : y[k]? = some d) (h : c ≠ d) : decide (x = y) = false := by
  refine decide_eq_false ?_
  rintro rfl
  rw [hx] at hy; injection hy with e; exact h e
theorem all_bad {α : Type} (h : List α) (p : α → Bool) (k : Nat) (x : α) (hk : h[k]? = some x) (hx : p x = false) : h.all p = false := by
  rw [List.all_eq_false]; exact ⟨x, List.mem_of_getElem? hk, by simp [hx]⟩
theorem any_good {α : Type} (h : List α) (p : α → Bool) (k : Nat) (x : α) (hk : h[k]? = some x) (hx : p x = true) : h.any p = true := by
  rw [List.any_eq_true]; exact ⟨x, List.mem_of_getElem? hk, hx⟩
/-- The first n numbers that a test takes, as ints: one more round. -/
def pick (p : Nat → Bool) (n : Nat) : List Int := ((List.range n).filter p).map Int.ofNat
theorem pick_yes (p : Nat → Bool) (n : Nat) (h : p n = true) : pick p (n + 1) = pick p n ++ [(n : Int)] := by
  unfold pick; rw [List.range_succ, List.filter_append]; simp [h]
theorem pick_no (p : Nat → Bool) (n : Nat) (h : p n = false) : pick p (n + 1) = pick p n := by
  unfold pick; rw [List.range_succ, List.filter_append]; simp [h]
theorem pick_len (p : Nat → Bool) (n : Nat) : (pick p n).length ≤ n := by
  unfold pick; have := List.length_filter_le p (List.range n); simpa using this
theorem pick_mem (p : Nat → Bool) (n : Nat) (z : Int) : z ∈ pick p n ↔ ∃ k : Nat, k < n ∧ p k = true ∧ z = (k : Int) := by
  unfold pick
  rw [List.mem_map]
  constructor
  · rintro ⟨k, hk, rfl⟩
    rw [List.mem_filter, List.mem_range] at hk
    exact ⟨k, hk.1, hk.2, rfl⟩
  · rintro ⟨k, h1, h2, rfl⟩
    exact ⟨k, by rw [List.mem_filter, List.mem_range]; exact ⟨h1, h2⟩, rfl⟩
theorem pick_any (p : Nat → Bool) (n k : Nat) (hk : k < n) : (pick p n).any (fun z => z == (k : Int)) = p k := by
  rw [Bool.eq_iff_iff, List.any_eq_true]
  constructor
  · rintro ⟨z, hz, he⟩
    obtain ⟨j, _, hp, rfl⟩ := (pick_mem p n z).1 hz
    have : j = k := by have := eq_of_beq he; omega
    rwa [← this]
  · intro hp
    exact ⟨(k : Int), (pick_mem p n _).2 ⟨k, hk, hp, rfl⟩, by simp⟩
theorem pick_congr (p q : Nat → Bool) (n : Nat) (h : ∀ k, k < n → p k = q k) : pick p n = pick q n := by
  unfold pick; rw [List.filter_congr]; intro k hk; exact h k (List.mem_range.1 hk)

/-- What is returned: a truth, with new memory at most. -/
def RetB (w : World) (b : Bool) (e : Ending) (w' : World) : Prop := e = .returned (.bool b) ∧ Below w.heap.size w w'
/-- What is returned: a slice that reads as a list of cells. -/
def RetS (w : World) (K n : Nat) (xs : List Value) (e : Ending) (w' : World) : Prop :=
  ∃ B d, e = .returned (.slice B n d) ∧ Rd w' K B n xs ∧ Below w.heap.size w w'
/-- What is returned: such a slice, and an error's number. -/
def RetSE (w : World) (K n : Nat) (xs : List Value) (f : Int) (e : Ending) (w' : World) : Prop :=
  ∃ B d, e = .returned (.tuple #[.slice B n d, .int .i64 f]) ∧ Rd w' K B n xs ∧ Below w.heap.size w w'
end Go.Proofs.Ythgmjmecedhkoaa.Mem
