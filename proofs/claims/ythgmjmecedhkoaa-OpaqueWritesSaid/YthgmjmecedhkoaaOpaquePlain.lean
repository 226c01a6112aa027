/-
  PLAIN DEFINITIONS: pasts, and what the chapter on opaque asks of them; small laws on these. No conditions beyond those that each theorem states. Nothing of the program is named here.
-/
import Derived.Test.YthgmjmecedhkoaaHeapMore2
import Derived.Test.YthgmjmecedhkoaaReadsPlain
namespace Go.Proofs.Ythgmjmecedhkoaa.Opaque
open Mem

structure St where
  v : Int
  h : List Heap.Cell
  deriving DecidableEq, Inhabited

def likeB (a b : List Heap.Cell) : Bool := decide (a.map Heap.Cell.live = b.map Heap.Cell.live)
def okB (s : St) : Bool := Reads.timeB s.v && Heap.rightB s.h
def folB (s t : St) : Bool := decide (s.v < t.v) && likeB s.h t.h
/-- The one at a place may stand there. -/
def atB (L : List St) (k : Nat) : Bool :=
  match L[k]? with
  | some t => okB t && (match k with | 0 => true | j + 1 => (match L[j]? with | some s => folB s t | none => false))
  | none => false
def uptoB (L : List St) (n : Nat) : Bool := (List.range n).all (atB L)
def rightB (L : List St) : Bool := decide (0 < L.length) && uptoB L L.length
theorem upto_0 (L : List St) : uptoB L 0 = true := rfl
theorem upto_succ (L : List St) (n : Nat) : uptoB L (n + 1) = (uptoB L n && atB L n) := by
  unfold uptoB; rw [List.range_succ, List.all_append]; simp
theorem at_first (L : List St) (t : St) (h : L[0]? = some t) : atB L 0 = okB t := by unfold atB; rw [h]; simp
theorem at_next (L : List St) (k : Nat) (s t : St) (hs : L[k]? = some s) (h : L[k + 1]? = some t) : atB L (k + 1) = (okB t && folB s t) := by unfold atB; rw [h]; simp only [hs]
theorem right_at (L : List St) (h : rightB L = true) (k : Nat) (hk : k < L.length) : atB L k = true := by
  unfold rightB uptoB at h
  rw [Bool.and_eq_true, List.all_eq_true] at h
  exact h.2 k (List.mem_range.2 hk)
theorem right_pos (L : List St) (h : rightB L = true) : 0 < L.length := by
  unfold rightB at h; rw [Bool.and_eq_true, decide_eq_true_eq] at h; exact h.1
theorem right_bad (L : List St) (k : Nat) (hk : k < L.length) (h : atB L k = false) : rightB L = false := by
  cases hr : rightB L
  · rfl
  · rw [right_at L hr k hk] at h; cases h
theorem right_all (L : List St) (h0 : 0 < L.length) (h : uptoB L L.length = true) : rightB L = true := by unfold rightB; rw [h]; simp [h0]
theorem at_ok (L : List St) (k : Nat) (t : St) (ht : L[k]? = some t) (h : atB L k = true) : okB t = true := by
  cases k with
  | zero => rw [at_first L t ht] at h; exact h
  | succ k =>
    unfold atB at h; rw [ht] at h; simp only [Bool.and_eq_true] at h; exact h.1
theorem right_ok (L : List St) (h : rightB L = true) (k : Nat) (t : St) (ht : L[k]? = some t) : okB t = true :=
  at_ok L k t ht (right_at L h k (List.getElem?_eq_some_iff.1 ht).1)
theorem right_heap (L : List St) (h : rightB L = true) (k : Nat) (t : St) (ht : L[k]? = some t) : Reads.timeB t.v = true ∧ Heap.rightB t.h = true := by
  have := right_ok L h k t ht
  unfold okB at this
  rwa [Bool.and_eq_true] at this
theorem right_fol (L : List St) (h : rightB L = true) (k : Nat) (s t : St) (hs : L[k]? = some s) (ht : L[k + 1]? = some t) : s.v < t.v ∧ likeB s.h t.h = true := by
  have := right_at L h (k + 1) (List.getElem?_eq_some_iff.1 ht).1
  rw [at_next L k s t hs ht, Bool.and_eq_true] at this
  have := this.2
  unfold folB at this
  rwa [Bool.and_eq_true, decide_eq_true_eq] at this
/-- The versions rise. -/
theorem right_rise (L : List St) (h : rightB L = true) (i j : Nat) (hij : i < j) (s t : St) (hs : L[i]? = some s) (ht : L[j]? = some t) : s.v < t.v := by
  induction j generalizing t with
  | zero => omega
  | succ j ih =>
    have hj : j < L.length := by have := (List.getElem?_eq_some_iff.1 ht).1; omega
    have hm := List.getElem?_eq_getElem hj
    have h1 := (right_fol L h j _ t hm ht).1
    rcases Nat.lt_or_ge i j with h2 | h2
    · have := ih h2 _ hm; omega
    · obtain rfl : i = j := by omega
      rw [hs] at hm; injection hm with e; rw [e]; exact h1

/-- The last one whose version is not above that. -/
def asOf (L : List St) (v : Int) : Option St := L.reverse.find? (fun s => decide (s.v ≤ v))
def atS (L : List St) (v : Int) : List Heap.Cell × Int :=
  if rightB L = true then (match asOf L v with | some s => (s.h, 0) | none => ([], 3)) else ([], 1)
def holdsS (L : List St) (v : Int) (l : List Reads.Read) : Bool := decide ((atS L v).2 = 0) && Reads.sameS l (atS L v).1
def spanS (L : List St) (l : List Reads.Read) : List Int :=
  if rightB L = true then (L.filter (fun s => Reads.sameS l s.h)).map St.v else []
def beginS (v : Int) (h : List Heap.Cell) : List St × Int := if okB ⟨v, h⟩ = true then ([⟨v, h⟩], 0) else ([], 1)
def nextS (L : List St) (v : Int) (l : List Heap.Write) : List St × Int :=
  if rightB L = true then
    (match L.getLast? with
     | some s => if (Reads.timeB v && decide (s.v < v)) = true then (if (Heap.putS s.h l).2 = 0 then (L ++ [⟨v, (Heap.putS s.h l).1⟩], 0) else (L, (Heap.putS s.h l).2)) else (L, 1)
     | none => (L, 1))
  else (L, 1)

theorem asOf_at (L : List St) (v : Int) (k : Nat) (s : St) (hs : L[k]? = some s) (hv : s.v ≤ v) (ha : ∀ (j : Nat) (t : St), k < j → L[j]? = some t → v < t.v) : asOf L v = some s := by
  obtain ⟨hk, e⟩ := List.getElem?_eq_some_iff.1 hs
  have hsplit : L = L.take k ++ [s] ++ L.drop (k + 1) := by
    conv => lhs; rw [← List.take_append_drop (k + 1) L, List.take_succ_eq_append_getElem hk, e]
  unfold asOf
  conv => lhs; rw [hsplit]
  rw [List.reverse_append, List.find?_append]
  have h1 : (L.drop (k + 1)).reverse.find? (fun s => decide (s.v ≤ v)) = none := by
    rw [List.find?_eq_none]
    intro t ht
    rw [List.mem_reverse] at ht
    obtain ⟨j, hj, e2⟩ := List.getElem_of_mem ht
    rw [List.getElem_drop] at e2
    have hj2 : k + 1 + j < L.length := by rw [List.length_drop] at hj; omega
    have := ha (k + 1 + j) t (by omega) (by rw [List.getElem?_eq_getElem hj2, e2])
    simp; omega
  rw [h1, List.reverse_append]
  simp [hv]
theorem asOf_none (L : List St) (v : Int) (ha : ∀ (j : Nat) (t : St), L[j]? = some t → v < t.v) : asOf L v = none := by
  unfold asOf
  rw [List.find?_eq_none]
  intro t ht
  rw [List.mem_reverse] at ht
  obtain ⟨j, hj, e2⟩ := List.getElem_of_mem ht
  have := ha j t (by rw [List.getElem?_eq_getElem hj, e2])
  simp; omega
theorem like_refl (a : List Heap.Cell) : likeB a a = true := by unfold likeB; simp
theorem like_len (a b : List Heap.Cell) (h : likeB a b = true) : a.length = b.length := by
  unfold likeB at h; rw [decide_eq_true_eq] at h
  have := congrArg List.length h
  simpa using this
theorem like_of (a b : List Heap.Cell) (hl : a.length = b.length) (h : ∀ (k : Nat) (x y : Heap.Cell), a[k]? = some x → b[k]? = some y → x.live = y.live) : likeB a b = true := by
  unfold likeB; rw [decide_eq_true_eq]
  apply List.ext_getElem
  · simpa using hl
  · intro k h1 h2
    simp only [List.length_map] at h1 h2
    simp only [List.getElem_map]
    exact h k _ _ (List.getElem?_eq_getElem h1) (List.getElem?_eq_getElem h2)
theorem like_not (a b : List Heap.Cell) (k : Nat) (x y : Heap.Cell) (hx : a[k]? = some x) (hy : b[k]? = some y) (h : x.live ≠ y.live) : likeB a b = false := by
  unfold likeB; refine decide_eq_false (fun e => h ?_)
  have := congrArg (fun l => l[k]?) e
  simpa [hx, hy] using this
theorem like_put (h : List Heap.Cell) (l : List Heap.Write) (hl : l.all (fun w => Heap.liveAt h w.cell) = true) : likeB h (Heap.putAll h l) = true := by
  refine like_of _ _ (Heap.putAll_len h l).symm (fun k x y hx hy => ?_)
  rw [Heap.putAll_at h l hl k x hx] at hy
  injection hy with hy
  rw [← hy]
theorem put_parts (h : List Heap.Cell) (l : List Heap.Write) (he : (Heap.putS h l).2 = 0) : Heap.rightB h = true ∧ l.all (fun w => Heap.vB w.value) = true ∧ l.all (fun w => Heap.liveAt h w.cell) = true ∧ (Heap.putS h l).1 = Heap.putAll h l := by
  unfold Heap.putS at he ⊢
  split at he
  · rename_i h1
    rw [if_pos h1]
    split at he
    · rename_i h2
      rw [if_pos h2]
      rw [Bool.and_eq_true] at h1
      exact ⟨h1.1, h1.2, h2, rfl⟩
    · simp at he
  · simp at he
theorem atB_left (L M : List St) (k : Nat) (hk : k < L.length) : atB (L ++ M) k = atB L k := by
  unfold atB
  rw [List.getElem?_append_left hk]
  cases k with
  | zero => rfl
  | succ j => simp only [List.getElem?_append_left (show j < L.length by omega)]
theorem uptoB_left (L M : List St) (n : Nat) (hn : n ≤ L.length) : uptoB (L ++ M) n = uptoB L n := by
  induction n with
  | zero => rfl
  | succ n ih => rw [upto_succ, upto_succ, ih (by omega), atB_left L M n (by omega)]
/-- A past with one more is a past. -/
theorem next_right (L : List St) (v : Int) (l : List Heap.Write) (h0 : (nextS L v l).2 = 0) :
    ∃ s, rightB L = true ∧ L.getLast? = some s ∧ s.v < v ∧ Reads.timeB v = true ∧ (Heap.putS s.h l).2 = 0 ∧ nextS L v l = (L ++ [⟨v, Heap.putAll s.h l⟩], 0) ∧ rightB (L ++ [⟨v, Heap.putAll s.h l⟩]) = true := by
  unfold nextS at h0 ⊢
  split at h0
  · rename_i hr
    rw [if_pos hr]
    cases hl : L.getLast? with
    | none => rw [hl] at h0; simp at h0
    | some s =>
      rw [hl] at h0
      dsimp only at h0 ⊢
      split at h0
      · rename_i hv
        rw [if_pos hv]
        split at h0
        · rename_i hp
          rw [if_pos hp]
          rw [Bool.and_eq_true, decide_eq_true_eq] at hv
          obtain ⟨p1, p2, p3, p4⟩ := put_parts s.h l hp
          refine ⟨s, hr, rfl, hv.2, hv.1, hp, by rw [p4], ?_⟩
          have hpos := right_pos L hr
          refine right_all _ (by simp) ?_
          rw [List.length_append, List.length_singleton, upto_succ, uptoB_left L _ _ (Nat.le_refl _)]
          have hu : uptoB L L.length = true := by unfold rightB at hr; rw [Bool.and_eq_true] at hr; exact hr.2
          rw [hu, Bool.true_and]
          obtain ⟨j, hj⟩ : ∃ j, L.length = j + 1 := ⟨L.length - 1, by omega⟩
          have hs : L[j]? = some s := by rw [List.getLast?_eq_getElem?, hj] at hl; simpa using hl
          rw [hj, at_next _ j s ⟨v, Heap.putAll s.h l⟩ (by rw [List.getElem?_append_left (by omega)]; exact hs) (by rw [← hj, List.getElem?_append_right (Nat.le_refl _)]; simp)]
          unfold okB folB
          dsimp only
          rw [hv.1, Heap.putAll_right s.h l p1 p2, like_put s.h l p3]
          simp [hv.2]
        · rename_i hp; exact absurd h0 hp
      · simp at h0
  · simp at h0
theorem last_at (L : List St) (s : St) (h : L.getLast? = some s) : L[L.length - 1]? = some s := by rw [List.getLast?_eq_getElem?] at h; exact h
/-- As of the new version: the new heap; as of the version ahead: the last one. -/
theorem next_at (L : List St) (v : Int) (s : St) (g : List Heap.Cell) (hr : rightB (L ++ [⟨v, g⟩]) = true) (hl : L.getLast? = some s) (hv : s.v < v) :
    atS (L ++ [⟨v, g⟩]) v = (g, 0) ∧ atS (L ++ [⟨v, g⟩]) (v - 1) = (s.h, 0) := by
  have hlen : L.length ≠ 0 := by rintro h0; have := List.eq_nil_of_length_eq_zero h0; subst this; simp at hl
  have e1 : asOf (L ++ [⟨v, g⟩]) v = some ⟨v, g⟩ := asOf_at _ v L.length _ (by rw [List.getElem?_append_right (Nat.le_refl _)]; simp) (Int.le_refl _) (fun j t hj ht => by
    have := (List.getElem?_eq_some_iff.1 ht).1; simp at this; omega)
  have hs := last_at L s hl
  have e2 : asOf (L ++ [⟨v, g⟩]) (v - 1) = some s := asOf_at _ (v - 1) (L.length - 1) s (by rw [List.getElem?_append_left (by omega)]; exact hs) (by omega) (fun j t hj ht => by
    have hj2 := (List.getElem?_eq_some_iff.1 ht).1
    simp at hj2
    obtain rfl : j = L.length := by omega
    rw [List.getElem?_append_right (Nat.le_refl _)] at ht
    simp at ht
    subst ht
    show v - 1 < v
    omega)
  unfold atS
  rw [if_pos hr, if_pos hr, e1, e2]
  exact ⟨rfl, rfl⟩

/-- The versions of those that a test takes, of the first k. -/
theorem span_take (L : List St) (p : St → Bool) (k : Nat) (s : St) (hs : L[k]? = some s) : ((L.take (k + 1)).filter p).map St.v = ((L.take k).filter p).map St.v ++ (if p s = true then [s.v] else []) := by
  rw [List.take_add_one, hs, List.filter_append, List.map_append]
  by_cases h : p s = true
  · simp [h]
  · simp [h]
/-- Of no reads each heap of a past holds. -/
theorem span_nil (L : List St) (h : rightB L = true) : spanS L [] = L.map St.v := by
  unfold spanS
  rw [if_pos h, List.filter_eq_self.2]
  intro s hs
  obtain ⟨k, hk, e⟩ := List.getElem_of_mem hs
  have := (right_heap L h k s (by rw [List.getElem?_eq_getElem hk, e])).2
  unfold Reads.sameS
  rw [this]
  rfl
def hitB (c : Int) (s : St) : Bool := Heap.liveAt s.h c && (Heap.valAt s.h c == 5)
theorem span_hit (L : List St) (c : Int) (h : rightB L = true) : spanS L [⟨c, 0, 5⟩] = (L.filter (hitB c)).map St.v := by
  unfold spanS
  rw [if_pos h]
  congr 1
  refine List.filter_congr (fun s hs => ?_)
  obtain ⟨k, hk, e⟩ := List.getElem_of_mem hs
  have h1 := (right_heap L h k s (by rw [List.getElem?_eq_getElem hk, e])).2
  unfold Reads.sameS hitB
  rw [h1]
  by_cases hc : 0 ≤ c
  · have : Reads.rightB [⟨c, 0, 5⟩] = true := by
      unfold Reads.rightB Reads.goodB Reads.oneB
      simp [hc]
      decide
    rw [this]
    simp [Reads.stillB]
  · have h2 : Heap.liveAt s.h c = false := Heap.live_out s.h c (by omega)
    have : Reads.rightB [⟨c, 0, 5⟩] = false := by
      unfold Reads.rightB Reads.goodB Reads.oneB
      simp [hc]
    rw [this, h2]
    rfl
end Go.Proofs.Ythgmjmecedhkoaa.Opaque
