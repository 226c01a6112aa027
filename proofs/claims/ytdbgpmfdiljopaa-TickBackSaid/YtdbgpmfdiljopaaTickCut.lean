/-
  PLAIN LEMMAS ON SORTED PLACES: where one more belongs, and where two sorted stretches are to be cut. No conditions beyond those that each theorem states.
-/
import Derived.Test.YtdbgpmfdiljopaaTickInsert
namespace Go.Proofs.Ytdbgpmfdiljopaa.Tick
open Mem

theorem be_at (l : List Int) (S : List Nat) (h : S.Pairwise (bef l)) (i j x y : Nat) (hx : S[i]? = some x) (hy : S[j]? = some y) (hij : i ≤ j) : x = y ∨ bef l x y := by
  obtain ⟨h1, rfl⟩ := List.getElem?_eq_some_iff.1 hx
  obtain ⟨h2, rfl⟩ := List.getElem?_eq_some_iff.1 hy
  rcases Nat.lt_or_ge i j with hlt | hge
  · exact .inr ((List.pairwise_iff_getElem.1 h) i j h1 h2 hlt)
  · have : i = j := by omega
    subst this; exact .inl rfl
theorem be_two (l : List Int) (x x0 y0 y : Nat) (h1 : x = x0 ∨ bef l x x0) (h2 : bef l x0 y0) (h3 : y0 = y ∨ bef l y0 y) : bef l x y := by
  rcases h1 with rfl | h1
  · rcases h3 with rfl | h3
    · exact h2
    · exact bef_trans l _ _ _ h2 h3
  · rcases h3 with rfl | h3
    · exact bef_trans l _ _ _ h1 h2
    · exact bef_trans l _ _ _ (bef_trans l _ _ _ h1 h2) h3
theorem bef_less (l : List Int) (x y : Nat) (h : x < y) : bef l y x ↔ tm l y < tm l x := by unfold bef; omega
theorem bef_not (l : List Int) (x y : Nat) (h : x < y) : bef l x y ↔ ¬ tm l y < tm l x := by unfold bef; omega

/-- Where z belongs in S: not ahead of place p, not behind place s. -/
def Bs (l : List Int) (z : Nat) (S : List Nat) (p s : Nat) : Prop :=
  (∀ t y, t < p → S[t]? = some y → bef l y z) ∧ (∀ t y, s ≤ t → S[t]? = some y → bef l z y)
theorem Bs.start (l : List Int) (z : Nat) (S : List Nat) : Bs l z S 0 S.length :=
  ⟨fun t _ h => absurd h (by omega), fun t y h hy => by have := (List.getElem?_eq_some_iff.1 hy).1; omega⟩
theorem Bs.lo {l : List Int} {z : Nat} {S : List Nat} {p s : Nat} (hb : Bs l z S p s) (hS : S.Pairwise (bef l)) (h y : Nat) (hy : S[h]? = some y) (hz : bef l y z) : Bs l z S (h + 1) s :=
  ⟨fun t x ht hx => by
    rcases be_at l S hS t h x y hx hy (by omega) with rfl | h1
    · exact hz
    · exact bef_trans l _ _ _ h1 hz, hb.2⟩
theorem Bs.hi {l : List Int} {z : Nat} {S : List Nat} {p s : Nat} (hb : Bs l z S p s) (hS : S.Pairwise (bef l)) (h y : Nat) (hy : S[h]? = some y) (hz : bef l z y) : Bs l z S p h :=
  ⟨hb.1, fun t x ht hx => by
    rcases be_at l S hS h t y x hy hx ht with rfl | h1
    · exact hz
    · exact bef_trans l _ _ _ hz h1⟩
theorem Bs.out {l : List Int} {z : Nat} {S : List Nat} {p : Nat} (hb : Bs l z S p p) (hS : S.Pairwise (bef l)) : (S.take p ++ z :: S.drop p).Pairwise (bef l) := by
  refine ins_out l _ _ z (by rw [List.take_append_drop]; exact hS) (fun y hy => ?_) (fun y hy => ?_)
  · rw [List.mem_take_iff_getElem] at hy
    obtain ⟨j, hj, rfl⟩ := hy
    exact hb.1 j _ (by omega) (List.getElem?_eq_getElem _)
  · rw [List.mem_drop_iff_getElem] at hy
    obtain ⟨j, hj, rfl⟩ := hy
    exact hb.2 (p + j) _ (by omega) (List.getElem?_eq_getElem _)
theorem cut_perm (z : Nat) (S : List Nat) (p : Nat) : (S.take p ++ z :: S.drop p).Perm (z :: S) := by
  refine List.perm_middle.trans ?_
  rw [List.take_append_drop]

/-- Where L and R, each sorted, are to be cut so that the first half of all is L's first and R's first: not ahead of s, not behind r. -/
def Sb (l : List Int) (L R : List Nat) (a mid lo hi s r : Nat) : Prop :=
  (∀ c x y, lo ≤ c → c < s → L[c - a]? = some x → R[mid - 1 - c]? = some y → bef l x y) ∧ (∀ c x y, r ≤ c → c < hi → L[c - a]? = some x → R[mid - 1 - c]? = some y → bef l y x)
theorem Sb.start (l : List Int) (L R : List Nat) (a mid lo hi : Nat) : Sb l L R a mid lo hi lo hi :=
  ⟨fun c _ _ h1 h2 => absurd h2 (by omega), fun c _ _ h1 h2 => absurd h2 (by omega)⟩
theorem Sb.lo {l : List Int} {L R : List Nat} {a mid lo hi s r : Nat} (h : Sb l L R a mid lo hi s r) (hL : L.Pairwise (bef l)) (hR : R.Pairwise (bef l)) (c x y : Nat) (hx : L[c - a]? = some x) (hy : R[mid - 1 - c]? = some y) (hb : bef l x y) : Sb l L R a mid lo hi (c + 1) r :=
  ⟨fun c' x' y' h1 h2 hx' hy' => be_two l x' x y y' (be_at l L hL _ _ _ _ hx' hx (by omega)) hb (be_at l R hR _ _ _ _ hy hy' (by omega)), h.2⟩
theorem Sb.hi {l : List Int} {L R : List Nat} {a mid lo hi s r : Nat} (h : Sb l L R a mid lo hi s r) (hL : L.Pairwise (bef l)) (hR : R.Pairwise (bef l)) (c x y : Nat) (hx : L[c - a]? = some x) (hy : R[mid - 1 - c]? = some y) (hb : bef l y x) : Sb l L R a mid lo hi s c :=
  ⟨h.1, fun c' x' y' h1 h2 hx' hy' => be_two l y' y x x' (be_at l R hR _ _ _ _ hy' hy (by omega)) hb (be_at l L hL _ _ _ _ hx hx' (by omega))⟩
theorem Sb.out {l : List Int} {L R : List Nat} {a mid lo hi s : Nat} (h : Sb l L R a mid lo hi s s) (hL : L.Pairwise (bef l)) (hR : R.Pairwise (bef l)) (ha : a ≤ lo) (h1 : lo ≤ s) (h2 : s ≤ hi) (h3 : hi ≤ mid) (h4 : hi ≤ a + L.length) (h5 : mid ≤ lo + R.length)
    (hlo : lo = a ∨ mid = lo + R.length) (hhi : hi = mid ∨ hi = a + L.length) :
    (∀ x ∈ L.take (s - a), ∀ y ∈ R.drop (mid - s), bef l x y) ∧ (∀ y ∈ R.take (mid - s), ∀ x ∈ L.drop (s - a), bef l y x) := by
  constructor
  · intro x hx y hy
    rw [List.mem_take_iff_getElem] at hx
    obtain ⟨i, hi', rfl⟩ := hx
    rw [List.mem_drop_iff_getElem] at hy
    obtain ⟨j, hj, rfl⟩ := hy
    have hs : lo < s := by omega
    have e1 : s - 1 - a < L.length := by omega
    have e2 : mid - 1 - (s - 1) < R.length := by omega
    exact be_two l _ _ _ _ (be_at l L hL i (s - 1 - a) _ _ (List.getElem?_eq_getElem _) (List.getElem?_eq_getElem e1) (by omega)) (h.1 (s - 1) _ _ (by omega) (by omega) (List.getElem?_eq_getElem e1) (List.getElem?_eq_getElem e2))
      (be_at l R hR (mid - 1 - (s - 1)) (mid - s + j) _ _ (List.getElem?_eq_getElem e2) (List.getElem?_eq_getElem _) (by omega))
  · intro y hy x hx
    rw [List.mem_take_iff_getElem] at hy
    obtain ⟨j, hj, rfl⟩ := hy
    rw [List.mem_drop_iff_getElem] at hx
    obtain ⟨i, hi', rfl⟩ := hx
    have hs : s < hi := by omega
    have e1 : s - a < L.length := by omega
    have e2 : mid - 1 - s < R.length := by omega
    exact be_two l _ _ _ _ (be_at l R hR j (mid - 1 - s) _ _ (List.getElem?_eq_getElem _) (List.getElem?_eq_getElem e2) (by omega)) (h.2 s _ _ (by omega) (by omega) (List.getElem?_eq_getElem e1) (List.getElem?_eq_getElem e2))
      (be_at l L hL (s - a) (s - a + i) _ _ (List.getElem?_eq_getElem e1) (List.getElem?_eq_getElem _) (by omega))

/-- Two halves, each sorted, all of the one ahead of all of the other. -/
theorem halves (l : List Int) (L R : List Nat) (s k : Nat) (M1 M2 : List Nat) (hL : L.Pairwise (bef l)) (hR : R.Pairwise (bef l)) (h1 : M1.Pairwise (bef l)) (h2 : M2.Pairwise (bef l)) (p1 : M1.Perm (L.take s ++ R.take k)) (p2 : M2.Perm (L.drop s ++ R.drop k))
    (hx : ∀ x ∈ L.take s, ∀ y ∈ R.drop k, bef l x y) (hy : ∀ y ∈ R.take k, ∀ x ∈ L.drop s, bef l y x) : (M1 ++ M2).Pairwise (bef l) ∧ (M1 ++ M2).Perm (L ++ R) := by
  have eL := List.take_append_drop s L
  have eR := List.take_append_drop k R
  constructor
  · rw [List.pairwise_append]
    refine ⟨h1, h2, fun u hu v hv => ?_⟩
    rw [← eL, List.pairwise_append] at hL
    rw [← eR, List.pairwise_append] at hR
    rcases List.mem_append.1 (p1.mem_iff.1 hu) with a | a <;> rcases List.mem_append.1 (p2.mem_iff.1 hv) with b | b
    · exact hL.2.2 u a v b
    · exact hx u a v b
    · exact hy u a v b
    · exact hR.2.2 u a v b
  · refine (p1.append p2).trans ?_
    have e : L ++ R = (L.take s ++ L.drop s) ++ (R.take k ++ R.drop k) := by rw [eL, eR]
    rw [e, List.append_assoc, List.append_assoc]
    refine List.Perm.append_left _ ?_
    rw [← List.append_assoc, ← List.append_assoc]
    exact List.Perm.append_right _ List.perm_append_comm
end Go.Proofs.Ytdbgpmfdiljopaa.Tick
