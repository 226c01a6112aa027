/-
  PLAIN DEFINITIONS: write logs, and what the chapter on writes asks of them; small laws. No conditions. Nothing of the program is named here.
-/
import Derived.Test.YtjmilnfemjnhoaaGrew
import Derived.Test.YtjmilnfemjnhoaaHeapMore2
namespace Go.Proofs.Ytjmilnfemjnhoaa.Writes
open Mem
open Heap (Write wc ws ws_len vB)

structure Log where
  list : List Write
  marks : List Int
  deriving DecidableEq, Inhabited

def oneB (x : Write) : Bool := decide (0 ≤ x.cell) && vB x.value
/-- Numbers that do not fall, from lo to n. -/
def marksB (n : Int) : Int → List Int → Bool
  | _, [] => true
  | lo, m :: ms => (decide (lo ≤ m) && decide (m ≤ n)) && marksB n m ms
def listB (l : List Write) : Bool := decide (l.length ≤ 24) && l.all oneB
def markB (n : Int) (ms : List Int) : Bool := decide (ms.length ≤ 6) && marksB n 0 ms
def rightB (l : Log) : Bool := listB l.list && markB (l.list.length : Int) l.marks
def putS (l : Log) (x : Write) : Log × Int :=
  if (rightB l && oneB x) = true then (if l.list.length = 24 then (l, 5) else (⟨l.list ++ [x], l.marks⟩, 0)) else (l, 1)
/-- A cell's write: the last one of it. -/
def getL (l : List Write) (c : Int) : Option Int := l.foldl (fun v w => if w.cell = c then some w.value else v) none
def orNo : Option Int → Int × Bool
  | some v => (v, true)
  | none => (0, false)
def getS (l : Log) (c : Int) : Int × Bool := if rightB l = true then orNo (getL l.list c) else (0, false)
def markS (l : Log) : Log × Int :=
  if rightB l = true then (if l.marks.length = 6 then (l, 5) else (⟨l.list, l.marks ++ [(l.list.length : Int)]⟩, 0)) else (l, 1)
def keepS (l : Log) : Log × Int :=
  if rightB l = true then (if l.marks.length = 0 then (l, 3) else (⟨l.list, l.marks.take (l.marks.length - 1)⟩, 0)) else (l, 1)
def backS (l : Log) : Log × Int :=
  if rightB l = true then (match l.marks[l.marks.length - 1]? with | none => (l, 3) | some m => (⟨l.list.take m.toNat, l.marks.take (l.marks.length - 1)⟩, 0)) else (l, 1)
/-- A write taken into a list that rises by cells. -/
def upd (x : Write) : List Write → List Write
  | [] => [x]
  | y :: ys => if y.cell < x.cell then y :: upd x ys else if y.cell = x.cell then x :: ys else x :: y :: ys
def lastL (l : List Write) : List Write := l.foldl (fun L x => upd x L) []
def lastS (l : Log) : List Write := if rightB l = true then lastL l.list else []
def Rises (L : List Write) : Prop := L.Pairwise (fun a b => a.cell < b.cell)

theorem get_take (l : List Write) (k : Nat) (x : Write) (c : Int) (hk : l[k]? = some x) : getL (l.take (k + 1)) c = if x.cell = c then some x.value else getL (l.take k) c := by
  unfold getL; rw [List.take_add_one, hk]; simp
theorem get_app (l : List Write) (x : Write) (c : Int) : getL (l ++ [x]) c = if x.cell = c then some x.value else getL l c := by
  unfold getL; simp
theorem last_take (l : List Write) (k : Nat) (x : Write) (hk : l[k]? = some x) : lastL (l.take (k + 1)) = upd x (lastL (l.take k)) := by
  unfold lastL; rw [List.take_add_one, hk]; simp
theorem get_fold (l : List Write) (c : Int) (v : Option Int) : l.foldl (fun v w => if w.cell = c then some w.value else v) v = (match getL l c with | some u => some u | none => v) := by
  unfold getL
  induction l generalizing v with
  | nil => rfl
  | cons y l ih =>
    simp only [List.foldl_cons]
    rw [ih (if y.cell = c then some y.value else v), ih (if y.cell = c then some y.value else none)]
    cases l.foldl (fun v w => if w.cell = c then some w.value else v) none with
    | some u => rfl
    | none => by_cases h : y.cell = c <;> simp [h]
theorem get_cons (y : Write) (l : List Write) (c : Int) : getL (y :: l) c = (match getL l c with | some u => some u | none => if y.cell = c then some y.value else none) := by
  have := get_fold l c (if y.cell = c then some y.value else none)
  unfold getL at *; simpa using this
theorem get_none (l : List Write) (c : Int) (h : ∀ x ∈ l, x.cell ≠ c) : getL l c = none := by
  induction l with
  | nil => rfl
  | cons y l ih =>
    rw [get_cons, ih (fun x hx => h x (List.mem_cons_of_mem _ hx))]
    have := h y (List.mem_cons_self ..)
    simp [this]
theorem get_some (l : List Write) (c v : Int) (h : getL l c = some v) : (⟨c, v⟩ : Write) ∈ l := by
  induction l with
  | nil => cases h
  | cons y l ih =>
    rw [get_cons] at h
    cases hg : getL l c with
    | some u =>
      rw [hg] at h
      simp only [Option.some.injEq] at h
      subst h
      exact List.mem_cons_of_mem _ (ih hg)
    | none =>
      rw [hg] at h
      by_cases hy : y.cell = c
      · simp only [hy, if_true, Option.some.injEq] at h
        have : y = ⟨c, v⟩ := by cases y; simp_all
        rw [this]; exact List.mem_cons_self ..
      · simp [hy] at h
theorem get_has (l : List Write) (c : Int) (x : Write) (hx : x ∈ l) (hc : x.cell = c) : ∃ v, getL l c = some v := by
  cases h : getL l c with
  | some v => exact ⟨v, rfl⟩
  | none =>
    exfalso
    induction l with
    | nil => cases hx
    | cons y l ih =>
      rw [get_cons] at h
      cases hg : getL l c with
      | some u => rw [hg] at h; cases h
      | none =>
        rw [hg] at h
        rcases List.mem_cons.1 hx with rfl | hx
        · simp [hc] at h
        · exact ih hx hg
theorem rise_get (L : List Write) (hr : Rises L) (x : Write) (hx : x ∈ L) : getL L x.cell = some x.value := by
  induction L with
  | nil => cases hx
  | cons y L ih =>
    unfold Rises at hr
    rw [List.pairwise_cons] at hr
    rw [get_cons]
    rcases List.mem_cons.1 hx with rfl | hx
    · rw [get_none L _ (fun z hz => by have := hr.1 z hz; omega)]; simp
    · rw [ih hr.2 hx]
theorem upd_get (x : Write) (L : List Write) (hr : Rises L) (c : Int) : getL (upd x L) c = if x.cell = c then some x.value else getL L c := by
  induction L with
  | nil => unfold upd getL; simp
  | cons y L ih =>
    unfold Rises at hr
    rw [List.pairwise_cons] at hr
    unfold upd
    split
    · rw [get_cons, ih hr.2, get_cons]
      by_cases h : x.cell = c
      · simp [h]
      · simp [h]
    · rename_i h1
      split
      · rename_i h2
        rw [get_cons, get_cons]
        by_cases h : x.cell = c
        · rw [get_none L c (fun z hz => by have := hr.1 z hz; omega)]; simp [h]
        · have : ¬ y.cell = c := by omega
          simp [h, this]
      · rename_i h2
        rw [get_cons]
        by_cases h : x.cell = c
        · rw [get_none (y :: L) c (fun z hz => by
            rcases List.mem_cons.1 hz with rfl | hz
            · omega
            · have := hr.1 z hz; omega)]
        · simp only [h, if_false]
          cases getL (y :: L) c <;> rfl
theorem upd_mem (x z : Write) (L : List Write) (hz : z ∈ upd x L) : z = x ∨ z ∈ L := by
  induction L with
  | nil => unfold upd at hz; left; simpa using hz
  | cons y L ih =>
    unfold upd at hz
    split at hz
    · rcases List.mem_cons.1 hz with rfl | hz
      · right; exact List.mem_cons_self ..
      · rcases ih hz with h | h
        · exact .inl h
        · exact .inr (List.mem_cons_of_mem _ h)
    · split at hz
      · rcases List.mem_cons.1 hz with h | h
        · exact .inl h
        · exact .inr (List.mem_cons_of_mem _ h)
      · rcases List.mem_cons.1 hz with h | h
        · exact .inl h
        · exact .inr h
theorem upd_rise (x : Write) (L : List Write) (hr : Rises L) : Rises (upd x L) := by
  induction L with
  | nil => unfold upd Rises; simp
  | cons y L ih =>
    unfold Rises at *
    rw [List.pairwise_cons] at hr
    unfold upd
    split
    · rename_i h1
      rw [List.pairwise_cons]
      refine ⟨fun z hz => ?_, ih hr.2⟩
      rcases upd_mem x z L hz with rfl | hz
      · exact h1
      · exact hr.1 z hz
    · split
      · rename_i h2
        rw [List.pairwise_cons]
        exact ⟨fun z hz => by have := hr.1 z hz; omega, hr.2⟩
      · rename_i h1 h2
        rw [List.pairwise_cons, List.pairwise_cons]
        refine ⟨fun z hz => ?_, hr.1, hr.2⟩
        rcases List.mem_cons.1 hz with rfl | hz
        · omega
        · have := hr.1 z hz; omega
theorem upd_len (x : Write) (L : List Write) : (upd x L).length ≤ L.length + 1 := by
  induction L with
  | nil => unfold upd; simp
  | cons y L ih =>
    unfold upd
    split
    · simp only [List.length_cons]; omega
    · split <;> simp
theorem last_both (l : List Write) (L : List Write) (hr : Rises L) : Rises (l.foldl (fun L x => upd x L) L) ∧ (l.foldl (fun L x => upd x L) L).length ≤ L.length + l.length := by
  induction l generalizing L with
  | nil => exact ⟨hr, by simp⟩
  | cons x l ih =>
    obtain ⟨h1, h2⟩ := ih (upd x L) (upd_rise x L hr)
    refine ⟨h1, ?_⟩
    have := upd_len x L
    simp only [List.foldl_cons, List.length_cons]; omega
theorem last_rise (l : List Write) : Rises (lastL l) := (last_both l [] (by unfold Rises; simp)).1
theorem last_len (l : List Write) : (lastL l).length ≤ l.length := by have := (last_both l [] (by unfold Rises; simp)).2; simpa [lastL] using this
theorem last_get (l : List Write) (c : Int) : getL (lastL l) c = getL l c := by
  have h : ∀ k, k ≤ l.length → getL (lastL (l.take k)) c = getL (l.take k) c := by
    intro k
    induction k with
    | zero => intro _; rfl
    | succ k ih =>
      intro hk
      have hx : l[k]? = some l[k] := List.getElem?_eq_getElem (by omega)
      rw [last_take l k _ hx, upd_get _ _ (last_rise _), ih (by omega), get_take l k _ c hx]
  have := h l.length (Nat.le_refl _)
  rwa [List.take_length] at this
theorem last_mem (l : List Write) (x : Write) (hx : x ∈ lastL l) : getL l x.cell = some x.value := by
  rw [← last_get]; exact rise_get _ (last_rise l) x hx
theorem last_cell (l : List Write) (x : Write) (hx : x ∈ l) : ∃ y ∈ lastL l, y.cell = x.cell := by
  obtain ⟨v, hv⟩ := get_has l x.cell x hx rfl
  rw [← last_get] at hv
  exact ⟨⟨x.cell, v⟩, get_some _ _ _ hv, rfl⟩
theorem last_sub (l : List Write) (x : Write) (hx : x ∈ lastL l) : x ∈ l := get_some _ _ _ (last_mem l x hx)

/-- A cell's place in a list that rises: how many lie ahead of it, and whether it is there. -/
def Found (L : List Write) (c : Int) (p : Nat) (f : Bool) : Prop :=
  p ≤ L.length ∧ (∀ x ∈ L.take p, x.cell < c) ∧ (∀ x ∈ L.drop p, c ≤ x.cell) ∧ (match L[p]? with | some y => (y.cell == c) | none => false) = f
theorem upd_app (x : Write) (A B : List Write) (h : ∀ a ∈ A, a.cell < x.cell) : upd x (A ++ B) = A ++ upd x B := by
  induction A with
  | nil => rfl
  | cons a A ih =>
    show upd x (a :: (A ++ B)) = a :: (A ++ upd x B)
    rw [upd, if_pos (h a (List.mem_cons_self ..)), ih (fun z hz => h z (List.mem_cons_of_mem _ hz))]
theorem found_split (L : List Write) (x : Write) (p : Nat) (f : Bool) (h : Found L x.cell p f) : upd x L = L.take p ++ upd x (L.drop p) := by
  have := upd_app x (L.take p) (L.drop p) h.2.1
  rwa [List.take_append_drop] at this
theorem found_yes (L : List Write) (x : Write) (p : Nat) (h : Found L x.cell p true) : p < L.length ∧ upd x L = L.set p x := by
  obtain ⟨h1, h2, h3, h4⟩ := h
  cases hp : L[p]? with
  | none => rw [hp] at h4; cases h4
  | some y =>
    obtain ⟨hl, hy⟩ := List.getElem?_eq_some_iff.1 hp
    rw [hp] at h4
    have hc : y.cell = x.cell := by simpa using h4
    refine ⟨hl, ?_⟩
    rw [found_split L x p true ⟨h1, h2, h3, by rw [hp]; exact h4⟩, List.drop_eq_getElem_cons hl, hy, upd, if_neg (by omega), if_pos hc, List.set_eq_take_append_cons_drop, if_pos hl]
theorem found_no (L : List Write) (x : Write) (p : Nat) (h : Found L x.cell p false) : upd x L = L.take p ++ x :: L.drop p := by
  obtain ⟨h1, h2, h3, h4⟩ := h
  rw [found_split L x p false ⟨h1, h2, h3, h4⟩]
  cases hd : L.drop p with
  | nil => rfl
  | cons y ys =>
    have hp : L[p]? = some y := by
      have := congrArg (·[0]?) hd
      simpa using this
    rw [hp] at h4
    have hc : ¬ y.cell = x.cell := by simpa using h4
    have := h3 y (by rw [hd]; exact List.mem_cons_self ..)
    rw [upd, if_neg (by omega), if_neg hc]

/-- The least cell above a number, among some writes; -1: there is none. -/
def IsBest (l : List Write) (a b : Int) : Prop :=
  (b = -1 ∧ ∀ x ∈ l, x.cell ≤ a) ∨ (a < b ∧ (∃ x ∈ l, x.cell = b) ∧ ∀ y ∈ l, a < y.cell → b ≤ y.cell)
theorem best_take (l : List Write) (k : Nat) (x : Write) (a b : Int) (ha : -1 ≤ a) (hk : l[k]? = some x) (h : IsBest (l.take k) a b) :
    IsBest (l.take (k + 1)) a (if a < x.cell ∧ (b < 0 ∨ x.cell < b) then x.cell else b) := by
  have e : l.take (k + 1) = l.take k ++ [x] := by rw [List.take_add_one, hk]; rfl
  rw [e]
  by_cases h1 : a < x.cell
  · rcases h with ⟨rfl, h⟩ | ⟨hb, ⟨z, hz, hzb⟩, h⟩
    · rw [if_pos ⟨h1, .inl (by omega)⟩]
      refine .inr ⟨h1, ⟨x, by simp, rfl⟩, fun y hy hya => ?_⟩
      rcases List.mem_append.1 hy with hy | hy
      · have := h y hy; omega
      · simp at hy; subst hy; exact Int.le_refl _
    · by_cases h2 : x.cell < b
      · rw [if_pos ⟨h1, .inr h2⟩]
        refine .inr ⟨h1, ⟨x, by simp, rfl⟩, fun y hy hya => ?_⟩
        rcases List.mem_append.1 hy with hy | hy
        · have := h y hy hya; omega
        · simp at hy; subst hy; exact Int.le_refl _
      · rw [if_neg (fun hh => by omega)]
        refine .inr ⟨hb, ⟨z, List.mem_append_left _ hz, hzb⟩, fun y hy hya => ?_⟩
        rcases List.mem_append.1 hy with hy | hy
        · exact h y hy hya
        · simp at hy; subst hy; omega
  · rw [if_neg (fun hh => h1 hh.1)]
    rcases h with ⟨rfl, h⟩ | ⟨hb, ⟨z, hz, hzb⟩, h⟩
    · refine .inl ⟨rfl, fun y hy => ?_⟩
      rcases List.mem_append.1 hy with hy | hy
      · exact h y hy
      · simp at hy; subst hy; omega
    · refine .inr ⟨hb, ⟨z, List.mem_append_left _ hz, hzb⟩, fun y hy hya => ?_⟩
      rcases List.mem_append.1 hy with hy | hy
      · exact h y hy hya
      · simp at hy; subst hy; omega
/-- How far the document's answer has come, cell by cell. -/
def UpTo (L : List Write) (k : Nat) (a : Int) : Prop := k ≤ L.length ∧ -1 ≤ a ∧ (∀ x ∈ L.take k, x.cell ≤ a) ∧ (∀ x ∈ L.drop k, a < x.cell)
theorem upto_zero (l : List Write) (h : l.all oneB = true) : UpTo (lastL l) 0 (-1) := by
  refine ⟨Nat.zero_le _, by omega, by simp, fun x hx => ?_⟩
  have := List.all_eq_true.1 h x (last_sub l x (by simpa using hx))
  unfold oneB at this
  simp at this; omega
theorem upto_end (l : List Write) (k : Nat) (a : Int) (h : UpTo (lastL l) k a) (hb : IsBest l a (-1)) : (lastL l).take k = lastL l := by
  obtain ⟨h1, h2, h3, h4⟩ := h
  rcases hb with ⟨_, hb⟩ | ⟨hb, _, _⟩
  · rw [List.take_of_length_le]
    rcases Nat.lt_or_ge k (lastL l).length with hk | hk
    · exfalso
      have hm : (lastL l)[k] ∈ (lastL l).drop k := by rw [List.drop_eq_getElem_cons hk]; exact List.mem_cons_self ..
      have := h4 _ hm
      have := hb _ (last_sub l _ (List.getElem_mem hk))
      omega
    · exact hk
  · omega
theorem upto_step (l : List Write) (k : Nat) (a b : Int) (h : UpTo (lastL l) k a) (hb : IsBest l a b) (hb0 : 0 ≤ b) :
    ∃ v, getL l b = some v ∧ (lastL l)[k]? = some ⟨b, v⟩ ∧ UpTo (lastL l) (k + 1) b := by
  obtain ⟨h1, h2, h3, h4⟩ := h
  rcases hb with ⟨hb, _⟩ | ⟨hab, ⟨x, hx, hxb⟩, hmin⟩
  · omega
  · obtain ⟨z, hz, hzb⟩ := last_cell l x hx
    have hr := last_rise l
    have hzd : z ∈ (lastL l).drop k := by
      have : z ∈ (lastL l).take k ++ (lastL l).drop k := by rw [List.take_append_drop]; exact hz
      rcases List.mem_append.1 this with h | h
      · have := h3 z h; omega
      · exact h
    have hk : k < (lastL l).length := by
      rcases Nat.lt_or_ge k (lastL l).length with hk | hk
      · exact hk
      · rw [List.drop_of_length_le hk] at hzd; cases hzd
    have hd := List.drop_eq_getElem_cons hk
    have hrd : Rises ((lastL l).drop k) := List.Pairwise.sublist (List.drop_sublist ..) hr
    rw [hd] at hzd hrd h4
    unfold Rises at hrd
    rw [List.pairwise_cons] at hrd
    have hy1 : b ≤ (lastL l)[k].cell := hmin _ (last_sub l _ (List.getElem_mem hk)) (h4 _ (List.mem_cons_self ..))
    have hy2 : (lastL l)[k].cell ≤ b := by
      rcases List.mem_cons.1 hzd with h | h
      · rw [← h]; omega
      · have := hrd.1 z h; omega
    have hyb : (lastL l)[k].cell = b := by omega
    have hg := last_mem l _ (List.getElem_mem hk)
    rw [hyb] at hg
    refine ⟨_, hg, ?_, by omega, by omega, fun y hy => ?_, fun y hy => ?_⟩
    · rw [List.getElem?_eq_getElem hk]
      congr 1
      rw [← hyb]
    · rw [List.take_add_one, List.getElem?_eq_getElem hk] at hy
      rcases List.mem_append.1 hy with hy | hy
      · have := h3 y hy; omega
      · simp at hy; subst hy; omega
    · have := hrd.1 y hy; omega
end Go.Proofs.Ytjmilnfemjnhoaa.Writes
