/-
  A ROW THAT IS SORTED BLOCK BY BLOCK ('Good'), and merging two sorted stretches at whatever lengths (slices.symMergeCmpFunc). No conditions beyond those that each theorem states.
-/
import Derived.Test.YtdbgpmfdiljopaaTickMerge1
import Derived.Test.YtdbgpmfdiljopaaTickMerge2
namespace Go.Proofs.Ytdbgpmfdiljopaa.Tick
open Go.ChangeShapes Go.WideShapes Go.ChangeAt Go.RowKit Mem

theorem merge_all (l : List Int) (w0 : World) (cb : Array Value) (hC : Cmp l w0 cb) (g q cap : Nat) (hq : q ≤ 1000000) (N : Nat) : MergeC l w0 cb g q cap N := by
  induction N with
  | zero => intro a m b P L R Q W h1 _ _ _ _ h2; omega
  | succ N ih =>
    intro a m b P L R Q W hN hRw ha hm hb h1 h2 hL hR hlt hlL hlR
    by_cases hl1 : L.length = 1
    · obtain ⟨x, rfl⟩ := List.length_eq_one_iff.1 hl1
      exact merge_left l w0 cb hC g q cap a m b x P R Q W hRw hq ha hm hb hR (fun y hy => hlt x (by simp) y hy) (hlL x (by simp)) hlR
    · by_cases hr1 : R.length = 1
      · obtain ⟨y, rfl⟩ := List.length_eq_one_iff.1 hr1
        refine (merge_right l w0 cb hC g q cap a m b y P L Q W hRw hq ha hm hb hl1 hL (fun x hx => hlt x hx y (by simp)) (hlR y (by simp)) hlL).mono ?_
        rintro e w' ⟨he, M, h3, h4, h5⟩
        exact ⟨he, M, h3, h4, h5.trans (List.perm_append_singleton y L).symm⟩
      · by_cases hmid : (a + b) / 2 < m
        · exact merge_mid1 l w0 cb hC g q cap N ih a m b _ P L R Q W hRw hq hN ha hm hb (by omega) (by omega) rfl hmid hL hR hlt hlL hlR
        · exact merge_mid2 l w0 cb hC g q cap N ih a m b _ P L R Q W hRw hq hN ha hm hb (by omega) (by omega) rfl (by omega) hL hR hlt hlL hlR

/-- D and E, block by block: each block of E is the block of D, sorted. -/
inductive Good (l : List Int) (bs : Nat) : List Nat → List Nat → Prop
  | last (D E : List Nat) : D.length ≤ bs → E.Pairwise (bef l) → E.Perm D → Good l bs D E
  | step (C B D E : List Nat) : C.length = bs → B.Pairwise (bef l) → B.Perm C → Good l bs D E → Good l bs (C ++ D) (B ++ E)
theorem Good.perm {l : List Int} {bs : Nat} {D E : List Nat} (h : Good l bs D E) : E.Perm D := by
  induction h with
  | last D E _ _ hp => exact hp
  | step C B D E _ _ hp _ ih => exact hp.append ih
theorem Good.one {l : List Int} {bs : Nat} {D E : List Nat} (h : Good l bs D E) (hl : D.length ≤ bs) : E.Pairwise (bef l) ∧ E.Perm D := by
  refine ⟨?_, h.perm⟩
  cases h with
  | last _ _ _ hs _ => exact hs
  | step C B D E hc hs hp hr =>
    have : D = [] := by
      rw [List.length_append] at hl
      exact List.eq_nil_of_length_eq_zero (by omega)
    subst this
    have : E = [] := List.eq_nil_of_length_eq_zero (by have := hr.perm.length_eq; simpa using this)
    subst this
    simpa using hs
theorem Good.two {l : List Int} {bs : Nat} {D E : List Nat} (h : Good l bs D E) (hl : bs < D.length) :
    ∃ C1 D1 B1 E1, D = C1 ++ D1 ∧ E = B1 ++ E1 ∧ C1.length = bs ∧ B1.Pairwise (bef l) ∧ B1.Perm C1 ∧ Good l bs D1 E1 := by
  cases h with
  | last _ _ h1 _ _ => omega
  | step C B D E hc hs hp hr => exact ⟨C, D, B, E, rfl, rfl, hc, hs, hp, hr⟩
/-- Two blocks at the head, whole. -/
theorem Good.pair {l : List Int} {bs : Nat} {D E : List Nat} (h : Good l bs D E) (hb : 0 < bs) (hl : 2 * bs ≤ D.length) :
    ∃ C1 C2 D1 B1 B2 E1, D = C1 ++ (C2 ++ D1) ∧ E = B1 ++ (B2 ++ E1) ∧ C1.length = bs ∧ C2.length = bs ∧ B1.Pairwise (bef l) ∧ B2.Pairwise (bef l) ∧ B1.Perm C1 ∧ B2.Perm C2 ∧ Good l bs D1 E1 := by
  obtain ⟨C1, D1, B1, E1, rfl, rfl, c1, s1, p1, g1⟩ := h.two (by omega)
  rw [List.length_append] at hl
  cases g1 with
  | last _ _ h1 h2 h3 => exact ⟨C1, D1, [], B1, E1, [], by simp, by simp, c1, by omega, s1, h2, p1, h3, .last [] [] (by simp) (by simp) (by simp)⟩
  | step C B D E hc hs hp hr => exact ⟨C1, C, D, B1, B, E, rfl, rfl, c1, hc, s1, hs, p1, hp, hr⟩
theorem Good.rest {l : List Int} {bs : Nat} {D E : List Nat} (h : Good l bs D E) (hl : bs < D.length) (hl2 : D.length < 2 * bs) :
    ∃ C1 C2 B1 B2, D = C1 ++ C2 ∧ E = B1 ++ B2 ∧ C1.length = bs ∧ 0 < C2.length ∧ B1.Pairwise (bef l) ∧ B2.Pairwise (bef l) ∧ B1.Perm C1 ∧ B2.Perm C2 := by
  obtain ⟨C1, D1, B1, E1, rfl, rfl, c1, s1, p1, g1⟩ := h.two hl
  rw [List.length_append] at hl hl2
  have := g1.one (by omega)
  exact ⟨C1, D1, B1, E1, rfl, rfl, c1, by omega, s1, this.1, p1, this.2⟩
theorem parts_less (C1 C2 B1 B2 : List Nat) (h : (C1 ++ C2).Pairwise (· < ·)) (p1 : B1.Perm C1) (p2 : B2.Perm C2) : ∀ x ∈ B1, ∀ y ∈ B2, x < y :=
  fun x hx y hy => (List.pairwise_append.1 h).2.2 x (p1.mem_iff.1 hx) y (p2.mem_iff.1 hy)
end Go.Proofs.Ytdbgpmfdiljopaa.Tick
