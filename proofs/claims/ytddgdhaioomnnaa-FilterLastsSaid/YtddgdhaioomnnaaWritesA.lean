/-
  WHAT THE DOCUMENT'S ANSWER FOR LAYER 6 RETURNS: Right, Get.
-/
import Derived.Test.YtddgdhaioomnnaaMemA
import Derived.Test.YtddgdhaioomnnaaHeapA
import Derived.Deep.LoopGhost
import Derived.Deep.RegionHeld3
import Derived.Lib.SliceRun
import Derived.Shelf.Abstract
import Derived.Laws.StructEq
namespace Go.Proofs.Ytddgdhaioomnnaa.Writes
open Mem
open Heap (Write wc ws ws_len vB)

structure Log where
  list : List Write
  marks : List Int
  deriving DecidableEq, Inhabited

def oneB (x : Write) : Bool := decide (0 ≤ x.cell) && vB x.value
/-- Numbers that do not fall, from lo to n. -/
def marksB (n : Int) : Int → List Int → Bool
  | _, [] => true
  | lo, m :: ms => (decide (lo ≤ m) && decide (m ≤ n)) && marksB n m ms
def listB (l : List Write) : Bool := decide (l.length ≤ 24) && l.all oneB
def markB (n : Int) (ms : List Int) : Bool := decide (ms.length ≤ 6) && marksB n 0 ms
def rightB (l : Log) : Bool := listB l.list && markB (l.list.length : Int) l.marks
def putS (l : Log) (x : Write) : Log × Int :=
  if (rightB l && oneB x) = true then (if l.list.length = 24 then (l, 5) else (⟨l.list ++ [x], l.marks⟩, 0)) else (l, 1)
/-- A cell's write: the last one of it. -/
def getL (l : List Write) (c : Int) : Option Int := l.foldl (fun v w => if w.cell = c then some w.value else v) none
def orNo : Option Int → Int × Bool
  | some v => (v, true)
  | none => (0, false)
def getS (l : Log) (c : Int) : Int × Bool := if rightB l = true then orNo (getL l.list c) else (0, false)
def markS (l : Log) : Log × Int :=
  if rightB l = true then (if l.marks.length = 6 then (l, 5) else (⟨l.list, l.marks ++ [(l.list.length : Int)]⟩, 0)) else (l, 1)
def keepS (l : Log) : Log × Int :=
  if rightB l = true then (if l.marks.length = 0 then (l, 3) else (⟨l.list, l.marks.take (l.marks.length - 1)⟩, 0)) else (l, 1)
def backS (l : Log) : Log × Int :=
  if rightB l = true then (match l.marks[l.marks.length - 1]? with | none => (l, 3) | some m => (⟨l.list.take m.toNat, l.marks.take (l.marks.length - 1)⟩, 0)) else (l, 1)
/-- A write taken into a list that rises by cells. -/
def upd (x : Write) : List Write → List Write
  | [] => [x]
  | y :: ys => if y.cell < x.cell then y :: upd x ys else if y.cell = x.cell then x :: ys else x :: y :: ys
def lastL (l : List Write) : List Write := l.foldl (fun L x => upd x L) []
def lastS (l : Log) : List Write := if rightB l = true then lastL l.list else []
def Rises (L : List Write) : Prop := L.Pairwise (fun a b => a.cell < b.cell)

theorem get_take (l : List Write) (k : Nat) (x : Write) (c : Int) (hk : l[k]? = some x) : getL (l.take (k + 1)) c = if x.cell = c then some x.value else getL (l.take k) c := by
  unfold getL; rw [List.take_add_one, hk]; simp
theorem get_app (l : List Write) (x : Write) (c : Int) : getL (l ++ [x]) c = if x.cell = c then some x.value else getL l c := by
  unfold getL; simp
theorem last_take (l : List Write) (k : Nat) (x : Write) (hk : l[k]? = some x) : lastL (l.take (k + 1)) = upd x (lastL (l.take k)) := by
  unfold lastL; rw [List.take_add_one, hk]; simp
theorem get_fold (l : List Write) (c : Int) (v : Option Int) : l.foldl (fun v w => if w.cell = c then some w.value else v) v = (match getL l c with | some u => some u | none => v) := by
  unfold getL
  induction l generalizing v with
  | nil => rfl
  | cons y l ih =>
    simp only [List.foldl_cons]
    rw [ih (if y.cell = c then some y.value else v), ih (if y.cell = c then some y.value else none)]
    cases l.foldl (fun v w => if w.cell = c then some w.value else v) none with
    | some u => rfl
    | none => by_cases h : y.cell = c <;> simp [h]
theorem get_cons (y : Write) (l : List Write) (c : Int) : getL (y :: l) c = (match getL l c with | some u => some u | none => if y.cell = c then some y.value else none) := by
  have := get_fold l c (if y.cell = c then some y.value else none)
  unfold getL at *; simpa using this
theorem get_none (l : List Write) (c : Int) (h : ∀ x ∈ l, x.cell ≠ c) : getL l c = none := by
  induction l with
  | nil => rfl
  | cons y l ih =>
    rw [get_cons, ih (fun x hx => h x (List.mem_cons_of_mem _ hx))]
    have := h y (List.mem_cons_self ..)
    simp [this]
theorem get_some (l : List Write) (c v : Int) (h : getL l c = some v) : (⟨c, v⟩ : Write) ∈ l := by
  induction l with
  | nil => cases h
  | cons y l ih =>
    rw [get_cons] at h
    cases hg : getL l c with
    | some u =>
      rw [hg] at h
      simp only [Option.some.injEq] at h
      subst h
      exact List.mem_cons_of_mem _ (ih hg)
    | none =>
      rw [hg] at h
      by_cases hy : y.cell = c
      · simp only [hy, if_true, Option.some.injEq] at h
        have : y = ⟨c, v⟩ := by cases y; simp_all
        rw [this]; exact List.mem_cons_self ..
      · simp [hy] at h
theorem get_has (l : List Write) (c : Int) (x : Write) (hx : x ∈ l) (hc : x.cell = c) : ∃ v, getL l c = some v := by
  cases h : getL l c with
  | some v => exact ⟨v, rfl⟩
  | none =>
    exfalso
    induction l with
    | nil => cases hx
    | cons y l ih =>
      rw [get_cons] at h
      cases hg : getL l c with
      | some u => rw [hg] at h; cases h
      | none =>
        rw [hg] at h
        rcases List.mem_cons.1 hx with rfl | hx
        · simp [hc] at h
        · exact ih hx hg
theorem rise_get (L : List Write) (hr : Rises L) (x : Write) (hx : x ∈ L) : getL L x.cell = some x.value := by
  induction L with
  | nil => cases hx
  | cons y L ih =>
    unfold Rises at hr
    rw [List.pairwise_cons] at hr
    rw [get_cons]
    rcases List.mem_cons.1 hx with rfl | hx
    · rw [get_none L _ (fun z hz => by have := hr.1 z hz; omega)]; simp
    · rw [ih hr.2 hx]
theorem upd_get (x : Write) (L : List Write) (hr : Rises L) (c : Int) : getL (upd x L) c = if x.cell = c then some x.value else getL L c := by
  induction L with
  | nil => unfold upd getL; simp
  | cons y L ih =>
    unfold Rises at hr
    rw [List.pairwise_cons] at hr
    unfold upd
    split
    · rw [get_cons, ih hr.2, get_cons]
      by_cases h : x.cell = c
      · simp [h]
      · simp [h]
    · rename_i h1
      split
      · rename_i h2
        rw [get_cons, get_cons]
        by_cases h : x.cell = c
        · rw [get_none L c (fun z hz => by have := hr.1 z hz; omega)]; simp [h]
        · have : ¬ y.cell = c := by omega
          simp [h, this]
      · rename_i h2
        rw [get_cons]
        by_cases h : x.cell = c
        · rw [get_none (y :: L) c (fun z hz => by
            rcases List.mem_cons.1 hz with rfl | hz
            · omega
            · have := hr.1 z hz; omega)]
        · simp only [h, if_false]
          cases getL (y :: L) c <;> rfl
theorem upd_mem (x z : Write) (L : List Write) (hz : z ∈ upd x L) : z = x ∨ z ∈ L := by
  induction L with
  | nil => unfold upd at hz; left; simpa using hz
  | cons y L ih =>
    unfold upd at hz
    split at hz
    · rcases List.mem_cons.1 hz with rfl | hz
      · right; exact List.mem_cons_self ..
      · rcases ih hz with h | h
        · exact .inl h
        · exact .inr (List.mem_cons_of_mem _ h)
    · split at hz
      · rcases List.mem_cons.1 hz with h | h
        · exact .inl h
        · exact .inr (List.mem_cons_of_mem _ h)
      · rcases List.mem_cons.1 hz with h | h
        · exact .inl h
        · exact .inr h
theorem upd_rise (x : Write) (L : List Write) (hr : Rises L) : Rises (upd x L) := by
  induction L with
  | nil => unfold upd Rises; simp
  | cons y L ih =>
    unfold Rises at *
    rw [List.pairwise_cons] at hr
    unfold upd
    split
    · rename_i h1
      rw [List.pairwise_cons]
      refine ⟨fun z hz => ?_, ih hr.2⟩
      rcases upd_mem x z L hz with rfl | hz
      · exact h1
      · exact hr.1 z hz
    · split
      · rename_i h2
        rw [List.pairwise_cons]
        exact ⟨fun z hz => by have := hr.1 z hz; omega, hr.2⟩
      · rename_i h1 h2
        rw [List.pairwise_cons, List.pairwise_cons]
        refine ⟨fun z hz => ?_, hr.1, hr.2⟩
        rcases List.mem_cons.1 hz with rfl | hz
        · omega
        · have := hr.1 z hz; omega
theorem upd_len (x : Write) (L : List Write) : (upd x L).length ≤ L.length + 1 := by
  induction L with
  | nil => unfold upd; simp
  | cons y L ih =>
    unfold upd
    split
    · simp only [List.length_cons]; omega
    · split <;> simp
theorem last_both (l : List Write) (L : List Write) (hr : Rises L) : Rises (l.foldl (fun L x => upd x L) L) ∧ (l.foldl (fun L x => upd x L) L).length ≤ L.length + l.length := by
  induction l generalizing L with
  | nil => exact ⟨hr, by simp⟩
  | cons x l ih =>
    obtain ⟨h1, h2⟩ := ih (upd x L) (upd_rise x L hr)
    refine ⟨h1, ?_⟩
    have := upd_len x L
    simp only [List.foldl_cons, List.length_cons]; omega
theorem last_rise (l : List Write) : Rises (lastL l) := (last_both l [] (by unfold Rises; simp)).1
theorem last_len (l : List Write) : (lastL l).length ≤ l.length := by have := (last_both l [] (by unfold Rises; simp)).2; simpa [lastL] using this
theorem last_get (l : List Write) (c : Int) : getL (lastL l) c = getL l c := by
  have h : ∀ k, k ≤ l.length → getL (lastL (l.take k)) c = getL (l.take k) c := by
    intro k
    induction k with
    | zero => intro _; rfl
    | succ k ih =>
      intro hk
      have hx : l[k]? = some l[k] := List.getElem?_eq_getElem (by omega)
      rw [last_take l k _ hx, upd_get _ _ (last_rise _), ih (by omega), get_take l k _ c hx]
  have := h l.length (Nat.le_refl _)
  rwa [List.take_length] at this
theorem last_mem (l : List Write) (x : Write) (hx : x ∈ lastL l) : getL l x.cell = some x.value := by
  rw [← last_get]; exact rise_get _ (last_rise l) x hx
theorem last_cell (l : List Write) (x : Write) (hx : x ∈ l) : ∃ y ∈ lastL l, y.cell = x.cell := by
  obtain ⟨v, hv⟩ := get_has l x.cell x hx rfl
  rw [← last_get] at hv
  exact ⟨⟨x.cell, v⟩, get_some _ _ _ hv, rfl⟩
theorem last_sub (l : List Write) (x : Write) (hx : x ∈ lastL l) : x ∈ l := get_some _ _ _ (last_mem l x hx)

/-- A cell's place in a list that rises: how many lie ahead of it, and whether it is there. -/
def Found (L : List Write) (c : Int) (p : Nat) (f : Bool) : Prop :=
  p ≤ L.length ∧ (∀ x ∈ L.take p, x.cell < c) ∧ (∀ x ∈ L.drop p, c ≤ x.cell) ∧ (match L[p]? with | some y => (y.cell == c) | none => false) = f
theorem upd_app (x : Write) (A B : List Write) (h : ∀ a ∈ A, a.cell < x.cell) : upd x (A ++ B) = A ++ upd x B := by
  induction A with
  | nil => rfl
  | cons a A ih =>
    show upd x (a :: (A ++ B)) = a :: (A ++ upd x B)
    rw [upd, if_pos (h a (List.mem_cons_self ..)), ih (fun z hz => h z (List.mem_cons_of_mem _ hz))]
theorem found_split (L : List Write) (x : Write) (p : Nat) (f : Bool) (h : Found L x.cell p f) : upd x L = L.take p ++ upd x (L.drop p) := by
  have := upd_app x (L.take p) (L.drop p) h.2.1
  rwa [List.take_append_drop] at this
theorem found_yes (L : List Write) (x : Write) (p : Nat) (h : Found L x.cell p true) : p < L.length ∧ upd x L = L.set p x := by
  obtain ⟨h1, h2, h3, h4⟩ := h
  cases hp : L[p]? with
  | none => rw [hp] at h4; cases h4
  | some y =>
    obtain ⟨hl, hy⟩ := List.getElem?_eq_some_iff.1 hp
    rw [hp] at h4
    have hc : y.cell = x.cell := by simpa using h4
    refine ⟨hl, ?_⟩
    rw [found_split L x p true ⟨h1, h2, h3, by rw [hp]; exact h4⟩, List.drop_eq_getElem_cons hl, hy, upd, if_neg (by omega), if_pos hc, List.set_eq_take_append_cons_drop, if_pos hl]
theorem found_no (L : List Write) (x : Write) (p : Nat) (h : Found L x.cell p false) : upd x L = L.take p ++ x :: L.drop p := by
  obtain ⟨h1, h2, h3, h4⟩ := h
  rw [found_split L x p false ⟨h1, h2, h3, h4⟩]
  cases hd : L.drop p with
  | nil => rfl
  | cons y ys =>
    have hp : L[p]? = some y := by
      have := congrArg (·[0]?) hd
      simpa using this
    rw [hp] at h4
    have hc : ¬ y.cell = x.cell := by simpa using h4
    have := h3 y (by rw [hd]; exact List.mem_cons_self ..)
    rw [upd, if_neg (by omega), if_neg hc]

/-- The least cell above a number, among some writes; -1: there is none. -/
def IsBest (l : List Write) (a b : Int) : Prop :=
  (b = -1 ∧ ∀ x ∈ l, x.cell ≤ a) ∨ (a < b ∧ (∃ x ∈ l, x.cell = b) ∧ ∀ y ∈ l, a < y.cell → b ≤ y.cell)
theorem best_take (l : List Write) (k : Nat) (x : Write) (a b : Int) (ha : -1 ≤ a) (hk : l[k]? = some x) (h : IsBest (l.take k) a b) :
    IsBest (l.take (k + 1)) a (if a < x.cell ∧ (b < 0 ∨ x.cell < b) then x.cell else b) := by
  have e : l.take (k + 1) = l.take k ++ [x] := by rw [List.take_add_one, hk]; rfl
  rw [e]
  by_cases h1 : a < x.cell
  · rcases h with ⟨rfl, h⟩ | ⟨hb, ⟨z, hz, hzb⟩, h⟩
    · rw [if_pos ⟨h1, .inl (by omega)⟩]
      refine .inr ⟨h1, ⟨x, by simp, rfl⟩, fun y hy hya => ?_⟩
      rcases List.mem_append.1 hy with hy | hy
      · have := h y hy; omega
      · simp at hy; subst hy; exact Int.le_refl _
    · by_cases h2 : x.cell < b
      · rw [if_pos ⟨h1, .inr h2⟩]
        refine .inr ⟨h1, ⟨x, by simp, rfl⟩, fun y hy hya => ?_⟩
        rcases List.mem_append.1 hy with hy | hy
        · have := h y hy hya; omega
        · simp at hy; subst hy; exact Int.le_refl _
      · rw [if_neg (fun hh => by omega)]
        refine .inr ⟨hb, ⟨z, List.mem_append_left _ hz, hzb⟩, fun y hy hya => ?_⟩
        rcases List.mem_append.1 hy with hy | hy
        · exact h y hy hya
        · simp at hy; subst hy; omega
  · rw [if_neg (fun hh => h1 hh.1)]
    rcases h with ⟨rfl, h⟩ | ⟨hb, ⟨z, hz, hzb⟩, h⟩
    · refine .inl ⟨rfl, fun y hy => ?_⟩
      rcases List.mem_append.1 hy with hy | hy
      · exact h y hy
      · simp at hy; subst hy; omega
    · refine .inr ⟨hb, ⟨z, List.mem_append_left _ hz, hzb⟩, fun y hy hya => ?_⟩
      rcases List.mem_append.1 hy with hy | hy
      · exact h y hy hya
      · simp at hy; subst hy; omega
/-- How far the document's answer has come, cell by cell. -/
def UpTo (L : List Write) (k : Nat) (a : Int) : Prop := k ≤ L.length ∧ -1 ≤ a ∧ (∀ x ∈ L.take k, x.cell ≤ a) ∧ (∀ x ∈ L.drop k, a < x.cell)
theorem upto_zero (l : List Write) (h : l.all oneB = true) : UpTo (lastL l) 0 (-1) := by
  refine ⟨Nat.zero_le _, by omega, by simp, fun x hx => ?_⟩
  have := List.all_eq_true.1 h x (last_sub l x (by simpa using hx))
  unfold oneB at this
  simp at this; omega
theorem upto_end (l : List Write) (k : Nat) (a : Int) (h : UpTo (lastL l) k a) (hb : IsBest l a (-1)) : (lastL l).take k = lastL l := by
  obtain ⟨h1, h2, h3, h4⟩ := h
  rcases hb with ⟨_, hb⟩ | ⟨hb, _, _⟩
  · rw [List.take_of_length_le]
    rcases Nat.lt_or_ge k (lastL l).length with hk | hk
    · exfalso
      have hm : (lastL l)[k] ∈ (lastL l).drop k := by rw [List.drop_eq_getElem_cons hk]; exact List.mem_cons_self ..
      have := h4 _ hm
      have := hb _ (last_sub l _ (List.getElem_mem hk))
      omega
    · exact hk
  · omega
theorem upto_step (l : List Write) (k : Nat) (a b : Int) (h : UpTo (lastL l) k a) (hb : IsBest l a b) (hb0 : 0 ≤ b) :
    ∃ v, getL l b = some v ∧ (lastL l)[k]? = some ⟨b, v⟩ ∧ UpTo (lastL l) (k + 1) b := by
  obtain ⟨h1, h2, h3, h4⟩ := h
  rcases hb with ⟨hb, _⟩ | ⟨hab, ⟨x, hx, hxb⟩, hmin⟩
  · omega
  · obtain ⟨z, hz, hzb⟩ := last_cell l x hx
    have hr := last_rise l
    have hzd : z ∈ (lastL l).drop k := by
      have : z ∈ (lastL l).take k ++ (lastL l).drop k := by rw [List.take_append_drop]; exact hz
      rcases List.mem_append.1 this with h | h
      · have := h3 z h; omega
      · exact h
    have hk : k < (lastL l).length := by
      rcases Nat.lt_or_ge k (lastL l).length with hk | hk
      · exact hk
      · rw [List.drop_of_length_le hk] at hzd; cases hzd
    have hd := List.drop_eq_getElem_cons hk
    have hrd : Rises ((lastL l).drop k) := List.Pairwise.sublist (List.drop_sublist ..) hr
    rw [hd] at hzd hrd h4
    unfold Rises at hrd
    rw [List.pairwise_cons] at hrd
    have hy1 : b ≤ (lastL l)[k].cell := hmin _ (last_sub l _ (List.getElem_mem hk)) (h4 _ (List.mem_cons_self ..))
    have hy2 : (lastL l)[k].cell ≤ b := by
      rcases List.mem_cons.1 hzd with h | h
      · rw [← h]; omega
      · have := hrd.1 z h; omega
    have hyb : (lastL l)[k].cell = b := by omega
    have hg := last_mem l _ (List.getElem_mem hk)
    rw [hyb] at hg
    refine ⟨_, hg, ?_, by omega, by omega, fun y hy => ?_, fun y hy => ?_⟩
    · rw [List.getElem?_eq_getElem hk]
      congr 1
      rw [← hyb]
    · rw [List.take_add_one, List.getElem?_eq_getElem hk] at hy
      rcases List.mem_append.1 hy with hy | hy
      · have := h3 y hy; omega
      · simp at hy; subst hy; omega
    · have := hrd.1 y hy; omega
end Go.Proofs.Ytddgdhaioomnnaa.Writes

namespace Go.Proofs.Ytddgdhaioomnnaa.Writes
open Mem
open Heap (Write wc ws ws_len vB)

theorem marks_mono (n n' : Int) (lo : Int) (ms : List Int) (h : marksB n lo ms = true) (hn : n ≤ n') : marksB n' lo ms = true := by
  induction ms generalizing lo with
  | nil => rfl
  | cons m ms ih =>
    rw [marksB] at h ⊢
    simp only [Bool.and_eq_true, decide_eq_true_eq] at h ⊢
    exact ⟨⟨h.1.1, by omega⟩, ih m h.2⟩
theorem marks_snoc (n lo : Int) (ms : List Int) (h : marksB n lo ms = true) (hlo : lo ≤ n) : marksB n lo (ms ++ [n]) = true := by
  induction ms generalizing lo with
  | nil => simp [marksB, hlo]
  | cons m ms ih =>
    simp only [List.cons_append]
    rw [marksB] at h ⊢
    simp only [Bool.and_eq_true, decide_eq_true_eq] at h ⊢
    exact ⟨h.1, ih m h.2 h.1.2⟩
/-- Without the last one, and down to it. -/
theorem marks_init (n lo : Int) (ms : List Int) (m : Int) (h : marksB n lo (ms ++ [m]) = true) : marksB m lo ms = true ∧ lo ≤ m ∧ m ≤ n := by
  induction ms generalizing lo with
  | nil => simp [marksB] at *; exact h
  | cons x ms ih =>
    simp only [List.cons_append] at h
    rw [marksB] at h ⊢
    simp only [Bool.and_eq_true, decide_eq_true_eq] at h ⊢
    obtain ⟨h1, h2, h3⟩ := ih x h.2
    exact ⟨⟨⟨h.1.1, h2⟩, h1⟩, by omega, h3⟩
theorem marks_take (n lo : Int) (ms : List Int) (k : Nat) (h : marksB n lo ms = true) : marksB n lo (ms.take k) = true := by
  induction ms generalizing lo k with
  | nil => simpa using h
  | cons x ms ih =>
    cases k with
    | zero => rfl
    | succ k =>
      simp only [List.take_succ_cons]
      rw [marksB] at h ⊢
      simp only [Bool.and_eq_true] at h ⊢
      exact ⟨h.1, ih x k h.2⟩
/-- One more mark looked at, from the left. -/
theorem marks_drop (n lo : Int) (ms : List Int) (k : Nat) (m : Int) (hk : ms[k]? = some m) : marksB n lo (ms.drop k) = ((decide (lo ≤ m) && decide (m ≤ n)) && marksB n m (ms.drop (k + 1))) := by
  obtain ⟨hl, rfl⟩ := List.getElem?_eq_some_iff.1 hk
  rw [List.drop_eq_getElem_cons hl, marksB]

theorem right_parts (l : Log) : rightB l = true ↔ l.list.length ≤ 24 ∧ l.list.all oneB = true ∧ l.marks.length ≤ 6 ∧ marksB (l.list.length : Int) 0 l.marks = true := by
  unfold rightB listB markB
  simp only [Bool.and_eq_true, decide_eq_true_eq]
  constructor
  · rintro ⟨⟨a, b⟩, c, d⟩; exact ⟨a, b, c, d⟩
  · rintro ⟨a, b, c, d⟩; exact ⟨⟨a, b⟩, c, d⟩
theorem last_split (ms : List Int) (h : ms.length ≠ 0) : ∃ m, ms[ms.length - 1]? = some m ∧ ms = ms.take (ms.length - 1) ++ [m] := by
  have hl : ms.length - 1 < ms.length := by omega
  refine ⟨ms[ms.length - 1], List.getElem?_eq_getElem hl, ?_⟩
  have := List.take_succ_eq_append_getElem hl
  rw [← this, show ms.length - 1 + 1 = ms.length by omega, List.take_length]
/-- The last mark of a log. -/
theorem right_last (l : Log) (h : rightB l = true) (h0 : l.marks.length ≠ 0) :
    ∃ m : Nat, l.marks[l.marks.length - 1]? = some (m : Int) ∧ m ≤ l.list.length ∧ marksB (m : Int) 0 (l.marks.take (l.marks.length - 1)) = true := by
  obtain ⟨h1, h2, h3, h4⟩ := (right_parts l).1 h
  obtain ⟨m, hm, e⟩ := last_split l.marks h0
  rw [e] at h4
  obtain ⟨g1, g2, g3⟩ := marks_init _ _ _ _ h4
  obtain ⟨k, rfl⟩ := Int.eq_ofNat_of_zero_le g2
  exact ⟨k, hm, by omega, g1⟩

theorem put_no (l : Log) (x : Write) (h : (rightB l && oneB x) = false) : putS l x = (l, 1) := by unfold putS; rw [h]; rfl
theorem put_big (l : Log) (x : Write) (h : (rightB l && oneB x) = true) (hl : l.list.length = 24) : putS l x = (l, 5) := by unfold putS; rw [if_pos h, if_pos hl]
theorem put_new (l : Log) (x : Write) (h : (rightB l && oneB x) = true) (hl : l.list.length ≠ 24) : putS l x = (⟨l.list ++ [x], l.marks⟩, 0) := by unfold putS; rw [if_pos h, if_neg hl]
theorem mark_no (l : Log) (h : rightB l = false) : markS l = (l, 1) := by unfold markS; rw [h]; rfl
theorem mark_big (l : Log) (h : rightB l = true) (hl : l.marks.length = 6) : markS l = (l, 5) := by unfold markS; rw [if_pos h, if_pos hl]
theorem mark_new (l : Log) (h : rightB l = true) (hl : l.marks.length ≠ 6) : markS l = (⟨l.list, l.marks ++ [(l.list.length : Int)]⟩, 0) := by unfold markS; rw [if_pos h, if_neg hl]
theorem keep_no (l : Log) (h : rightB l = false) : keepS l = (l, 1) := by unfold keepS; rw [h]; rfl
theorem keep_none (l : Log) (h : rightB l = true) (hl : l.marks.length = 0) : keepS l = (l, 3) := by unfold keepS; rw [if_pos h, if_pos hl]
theorem keep_new (l : Log) (h : rightB l = true) (hl : l.marks.length ≠ 0) : keepS l = (⟨l.list, l.marks.take (l.marks.length - 1)⟩, 0) := by unfold keepS; rw [if_pos h, if_neg hl]
theorem back_no (l : Log) (h : rightB l = false) : backS l = (l, 1) := by unfold backS; rw [h]; rfl
theorem back_none (l : Log) (h : rightB l = true) (hl : l.marks.length = 0) : backS l = (l, 3) := by
  unfold backS; rw [if_pos h, List.getElem?_eq_none (by omega)]
theorem back_new (l : Log) (h : rightB l = true) (m : Nat) (hm : l.marks[l.marks.length - 1]? = some (m : Int)) : backS l = (⟨l.list.take m, l.marks.take (l.marks.length - 1)⟩, 0) := by
  unfold backS; rw [if_pos h, hm]; rfl

theorem put_right (l : Log) (x : Write) (h : rightB l = true) (hx : oneB x = true) (hl : l.list.length ≠ 24) : rightB ⟨l.list ++ [x], l.marks⟩ = true := by
  obtain ⟨h1, h2, h3, h4⟩ := (right_parts l).1 h
  rw [right_parts]
  refine ⟨by simp; omega, by simp only [List.all_append, h2, List.all_cons, hx, List.all_nil, Bool.and_self], h3, ?_⟩
  exact marks_mono _ _ _ _ h4 (by simp; omega)
theorem mark_right (l : Log) (h : rightB l = true) (hl : l.marks.length ≠ 6) : rightB ⟨l.list, l.marks ++ [(l.list.length : Int)]⟩ = true := by
  obtain ⟨h1, h2, h3, h4⟩ := (right_parts l).1 h
  rw [right_parts]
  exact ⟨h1, h2, by simp; omega, marks_snoc _ _ _ h4 (by omega)⟩
theorem keep_right (l : Log) (h : rightB l = true) : rightB ⟨l.list, l.marks.take (l.marks.length - 1)⟩ = true := by
  obtain ⟨h1, h2, h3, h4⟩ := (right_parts l).1 h
  rw [right_parts]
  exact ⟨h1, h2, by rw [List.length_take]; omega, marks_take _ _ _ _ h4⟩
theorem back_right (l : Log) (h : rightB l = true) (m : Nat) (hm : l.marks[l.marks.length - 1]? = some (m : Int)) : rightB ⟨l.list.take m, l.marks.take (l.marks.length - 1)⟩ = true := by
  have h0 : l.marks.length ≠ 0 := by have := (List.getElem?_eq_some_iff.1 hm).1; omega
  obtain ⟨m', hm', hle, hmk⟩ := right_last l h h0
  rw [hm] at hm'
  obtain rfl : m = m' := by injection hm' with e; omega
  obtain ⟨h1, h2, h3, h4⟩ := (right_parts l).1 h
  rw [right_parts]
  refine ⟨by rw [List.length_take]; omega, ?_, by rw [List.length_take]; omega, ?_⟩
  · rw [List.all_eq_true] at *
    exact fun x hx => h2 x (List.mem_of_mem_take hx)
  · rw [List.length_take, Nat.min_eq_left hle]; exact hmk

/-- A log that was marked as l, with more writes behind. -/
def Ext (l m : Log) : Prop := (∃ xs, m = ⟨l.list ++ xs, l.marks ++ [(l.list.length : Int)]⟩) ∧ rightB m = true
theorem mark_ext (l m : Log) (h : markS l = (m, 0)) : Ext l m := by
  cases hr : rightB l with
  | false => rw [mark_no l hr] at h; injection h with _ h; cases h
  | true =>
    by_cases hl : l.marks.length = 6
    · rw [mark_big l hr hl] at h; injection h with _ h; cases h
    · rw [mark_new l hr hl] at h
      injection h with h _
      subst h
      exact ⟨⟨[], by simp⟩, mark_right l hr hl⟩
theorem mark_err (l m : Log) (e : Int) (h : markS l = (m, e)) (he : e ≠ 0) : m = l := by
  unfold markS at h
  split at h
  · split at h
    · injection h with h _; exact h.symm
    · injection h with _ h; exact absurd h.symm he
  · injection h with h _; exact h.symm
theorem put_err (l m : Log) (x : Write) (e : Int) (h : putS l x = (m, e)) (he : e ≠ 0) : m = l := by
  unfold putS at h
  split at h
  · split at h
    · injection h with h _; exact h.symm
    · injection h with _ h; exact absurd h.symm he
  · injection h with h _; exact h.symm
theorem put_ok (l m : Log) (x : Write) (h : putS l x = (m, 0)) : rightB l = true ∧ oneB x = true ∧ l.list.length ≠ 24 ∧ m = ⟨l.list ++ [x], l.marks⟩ ∧ rightB m = true := by
  unfold putS at h
  split at h
  · rename_i h1
    rw [Bool.and_eq_true] at h1
    split at h
    · injection h with _ h; cases h
    · rename_i h2
      injection h with h _
      subst h
      exact ⟨h1.1, h1.2, h2, rfl, put_right l x h1.1 h1.2 h2⟩
  · injection h with _ h; cases h
theorem put_ext (l m : Log) (x : Write) (a : Log) (e : Int) (h : Ext l m) (hp : putS m x = (a, e)) : Ext l a := by
  by_cases he : e = 0
  · subst he
    obtain ⟨_, _, _, rfl, hr⟩ := put_ok m a x hp
    obtain ⟨⟨xs, rfl⟩, _⟩ := h
    exact ⟨⟨xs ++ [x], by simp⟩, hr⟩
  · rw [put_err m a x e hp he]; exact h
theorem back_ext (l m : Log) (h : Ext l m) : backS m = (l, 0) ∧ keepS m = (⟨m.list, l.marks⟩, 0) := by
  obtain ⟨⟨xs, rfl⟩, hr⟩ := h
  constructor
  · rw [back_new _ hr l.list.length (by simp)]
    simp
  · rw [keep_new _ hr (by simp)]; simp

theorem put_len (l : Log) (x : Write) : (putS l x).1.list.length ≤ l.list.length + 1 ∧ (putS l x).1.marks.length = l.marks.length := by
  unfold putS
  split
  · split <;> simp
  · simp
theorem mark_len (l : Log) : (markS l).1.list.length = l.list.length ∧ (markS l).1.marks.length ≤ l.marks.length + 1 := by
  unfold markS
  split
  · split <;> simp
  · simp
theorem keep_len (l : Log) : (keepS l).1.list.length = l.list.length ∧ (keepS l).1.marks.length ≤ l.marks.length := by
  unfold keepS
  split
  · split
    · simp
    · simp
  · simp
theorem back_len (l : Log) : (backS l).1.list.length ≤ l.list.length ∧ (backS l).1.marks.length ≤ l.marks.length := by
  unfold backS
  split
  · split
    · simp
    · simp only [List.length_take]; omega
  · simp
theorem lastS_len (l : Log) : (lastS l).length ≤ l.list.length := by
  unfold lastS
  split
  · exact last_len _
  · simp

/-- Behind a write. -/
theorem other_law (l m : Log) (x : Write) (h : putS l x = (m, 0)) : getS m x.cell = (x.value, true) ∧ (∀ c, c ≠ x.cell → getS m c = getS l c) ∧ m.list.length = l.list.length + 1 := by
  obtain ⟨h1, _, _, rfl, h5⟩ := put_ok l m x h
  have e : ∀ c, getS ⟨l.list ++ [x], l.marks⟩ c = orNo (getL (l.list ++ [x]) c) := fun c => by unfold getS; rw [if_pos h5]
  refine ⟨by rw [e, get_app, if_pos rfl]; rfl, fun c hc => ?_, by simp⟩
  rw [e, get_app, if_neg (fun e => hc e.symm)]
  unfold getS; rw [if_pos h1]
/-- Behind a mark. -/
theorem mark_told (l m : Log) (hr : rightB l = true) (e : Int) (h : markS l = (m, e)) (c : Int) : getS m c = getS l c ∧ lastS m = lastS l := by
  by_cases he : e = 0
  · subst he
    have hm := (mark_ext l m h).2
    have hl : m.list = l.list := by
      have := mark_ext l m h
      unfold markS at h
      rw [if_pos hr] at h
      split at h
      · injection h with h _; rw [h]
      · injection h with h _; rw [← h]
    unfold getS lastS
    rw [if_pos hr, if_pos hm, if_pos hr, if_pos hm, hl]
    exact ⟨rfl, rfl⟩
  · rw [mark_err l m e h he]; exact ⟨rfl, rfl⟩
theorem keep_told (l : Log) (hr : rightB l = true) : lastS ⟨l.list, l.marks.take (l.marks.length - 1)⟩ = lastS l := by
  unfold lastS; rw [if_pos hr, if_pos (keep_right l hr)]

/-- What a heap makes of the last writes. -/
theorem lastV_get (i : Nat) (l : List Write) (v : Int) : Heap.lastV i l v = (getL l (i : Int)).getD v := by
  unfold Heap.lastV
  induction l generalizing v with
  | nil => rfl
  | cons y l ih =>
    simp only [List.foldl_cons]
    rw [ih, get_cons]
    cases getL l (i : Int) with
    | some u => rfl
    | none => by_cases h : y.cell = (i : Int) <;> simp [h]
theorem last_all (l : List Write) (p : Int → Bool) : (lastL l).all (fun w => p w.cell) = l.all (fun w => p w.cell) := by
  rw [Bool.eq_iff_iff, List.all_eq_true, List.all_eq_true]
  constructor
  · intro h x hx
    obtain ⟨y, hy, hc⟩ := last_cell l x hx
    rw [← hc]; exact h y hy
  · intro h x hx
    exact h x (last_sub l x hx)
theorem last_put (l : Log) (hr : rightB l = true) (h : List Heap.Cell) : Heap.putS h (lastS l) = Heap.putS h l.list := by
  obtain ⟨_, h2, _, _⟩ := (right_parts l).1 hr
  have hv : l.list.all (fun w => vB w.value) = true := by
    rw [List.all_eq_true] at *
    intro x hx
    have := h2 x hx
    unfold oneB at this
    rw [Bool.and_eq_true] at this
    exact this.2
  have hv2 : (lastL l.list).all (fun w => vB w.value) = true := by
    rw [List.all_eq_true] at *
    exact fun x hx => hv x (last_sub _ _ hx)
  have hlv := last_all l.list (fun c => Heap.liveAt h c)
  unfold lastS
  rw [if_pos hr]
  unfold Heap.putS
  rw [hv, hv2, hlv]
  by_cases hh : (Heap.rightB h && true) = true
  · rw [if_pos hh, if_pos hh]
    by_cases hl : l.list.all (fun w => Heap.liveAt h w.cell) = true
    · rw [if_pos hl, if_pos hl]
      congr 1
      apply List.ext_getElem?
      intro i
      by_cases hi : i < h.length
      · have hx : h[i]? = some h[i] := List.getElem?_eq_getElem hi
        rw [Heap.putAll_at h _ hl i _ hx, Heap.putAll_at h _ (hlv.trans hl) i _ hx, lastV_get, lastV_get, last_get]
      · rw [List.getElem?_eq_none (by rw [Heap.putAll_len]; omega), List.getElem?_eq_none (by rw [Heap.putAll_len]; omega)]
    · rw [if_neg hl, if_neg hl]
  · rw [if_neg hh, if_neg hh]
/-- What is told of each of the last writes. -/
theorem last_told (l : Log) (hr : rightB l = true) (i : Nat) (x : Write) (hx : (lastS l)[i]? = some x) : getS l x.cell = (x.value, true) ∧ ∀ y, 0 < i → (lastS l)[i - 1]? = some y → y.cell < x.cell := by
  unfold lastS at *
  rw [if_pos hr] at *
  obtain ⟨hi, rfl⟩ := List.getElem?_eq_some_iff.1 hx
  constructor
  · unfold getS; rw [if_pos hr, last_mem _ _ (List.getElem_mem hi)]; rfl
  · intro y h0 hy
    obtain ⟨hj, rfl⟩ := List.getElem?_eq_some_iff.1 hy
    exact List.pairwise_iff_getElem.1 (last_rise l.list) (i - 1) i hj hi (by omega)
end Go.Proofs.Ytddgdhaioomnnaa.Writes

namespace Go.Proofs.Ytddgdhaioomnnaa.Writes
open Go.ChangeShapes Go.WideShapes Go.ChangeAt Go.RowKit Mem
open Heap (Write wc ws ws_len vB at_write)

set_option maxRecDepth 100000 in
theorem tWrite : SliceT Try.prog 24 32 2 16 := SliceT.mk_ (z := .agg #[.int .i64 0, .int .i64 0]) Try.underlying24 (by kernel_rfl) rfl (by decide)
set_option maxRecDepth 100000 in
theorem tInt : SliceT Try.prog 28 3 1 8 := SliceT.mk_ (z := .int .i64 0) Try.underlying28 (by kernel_rfl) rfl (by decide)
theorem wc_len (r : Write) : (wc r).length = 2 := rfl
theorem wc_one (r : Write) : ∀ u ∈ wc r, u.oneCell' = true := one_cons rfl (one_cons rfl one_nil)
theorem ws_one (l : List Write) : ∀ u ∈ ws l, u.oneCell' = true := flat_one wc_one l
theorem ws_app (a b : List Write) : ws (a ++ b) = ws a ++ ws b := by unfold ws; rw [List.flatMap_append]
theorem ws_take (l : List Write) (k : Nat) (x : Write) (hk : l[k]? = some x) : ws (l.take (k + 1)) = ws (l.take k) ++ wc x := flat_take l k x hk
theorem ws_n {w : World} {A : Option Addr} {n : Nat} {l : List Write} (hr : Rd w 2 A n (ws l)) : l.length = n := Rd.len wc_len hr (by decide)

/-- The two slices of a log, in memory. -/
structure LogAt (w : World) (A : Option Addr) (n c : Nat) (B : Option Addr) (m d : Nat) (l : Log) : Prop where
  rl : Rd w 2 A n (ws l.list)
  rm : Rd w 1 B m (zs l.marks)
  nc : n ≤ c
  md : m ≤ d
section
variable {w w' : World} {A B : Option Addr} {n c m d : Nat} {l : Log}
theorem LogAt.below (h : LogAt w A n c B m d l) (hb : Below w.heap.size w w') : LogAt w' A n c B m d l := ⟨h.rl.below hb, h.rm.below hb, h.nc, h.md⟩
theorem LogAt.alloc (h : LogAt w A n c B m d l) (o : Obj) : LogAt (w.alloc o) A n c B m d l := ⟨h.rl.alloc o, h.rm.alloc o, h.nc, h.md⟩
theorem LogAt.drewN (h : LogAt w A n c B m d l) (q : Nat) : LogAt (w.drewN q) A n c B m d l := ⟨h.rl, h.rm, h.nc, h.md⟩
theorem LogAt.ln (h : LogAt w A n c B m d l) : l.list.length = n := ws_n h.rl
theorem LogAt.lm (h : LogAt w A n c B m d l) : l.marks.length = m := zs_len h.rm
end
/-- What is returned: a log, and an error's number. -/
def RetL (w : World) (n m : Nat) (l : Log) (f : Int) (e : Ending) (w' : World) : Prop :=
  ∃ A c B d, e = .returned (.tuple #[.agg #[.slice A n c, .slice B m d], .int .i64 f]) ∧ LogAt w' A n c B m d l ∧ Below w.heap.size w w'
/-- What is returned: a value, and whether there is one. -/
def RetV (w : World) (r : Int × Bool) (e : Ending) (w' : World) : Prop := e = .returned (.tuple #[.int .i64 r.1, .bool r.2]) ∧ Below w.heap.size w w'

/-- Two slices of the call's own, side by side. -/
structure Pair (w0 w : World) (v1 : Value) (n : Nat) (v2 : Value) (m : Nat) (l : Log) : Prop where
  ol : Own w0 w 32 2 v1 n (ws l.list)
  om : Own w0 w 3 1 v2 m (zs l.marks)
  ap : Apart v1 v2
section
variable {w0 w w' : World} {v1 v2 : Value} {n m : Nat} {l : Log}
theorem Pair.below (h : Pair w0 w v1 n v2 m l) (hb : Below w.heap.size w w') : Pair w0 w' v1 n v2 m l := ⟨h.ol.below hb, h.om.below hb, h.ap⟩
theorem Pair.alloc (h : Pair w0 w v1 n v2 m l) (o : Obj) : Pair w0 (w.alloc o) v1 n v2 m l := ⟨h.ol.alloc o, h.om.alloc o, h.ap⟩
theorem Pair.wide {wa : World} (h : Pair w0 w v1 n v2 m l) (hb : Below wa.heap.size wa w0) : Pair wa w v1 n v2 m l := ⟨h.ol.wide hb, h.om.wide hb, h.ap⟩
theorem Pair.set_ne {g : Nat} (h : Pair w0 w v1 n v2 m l) (hg : w0.heap.size ≤ g) (n1 : v1.ownBlock ≠ some g) (n2 : v2.ownBlock ≠ some g) (i : Nat) (u : Value) : Pair w0 (w.setCell ⟨g, i, none⟩ u) v1 n v2 m l := ⟨h.ol.set_ne hg n1 i u, h.om.set_ne hg n2 i u, h.ap⟩
theorem Pair.log {A B : Option Addr} {c d : Nat} (h : Pair w0 w (.slice A n c) n (.slice B m d) m l) : LogAt w A n c B m d l := by
  obtain ⟨_, h1, h2⟩ := own_cap h.ol
  obtain ⟨_, h3, h4⟩ := own_cap h.om
  exact ⟨h2, h4, h1, h3⟩
end
/-- What is returned: a log of the call's own, and an error's number. -/
def RetLP (w : World) (n m : Nat) (l : Log) (f : Int) (e : Ending) (w' : World) : Prop :=
  ∃ A c B d, e = .returned (.tuple #[.agg #[.slice A n c, .slice B m d], .int .i64 f]) ∧ Pair w w' (.slice A n c) n (.slice B m d) m l
theorem RetLP.toL {w : World} {n m : Nat} {l : Log} {f : Int} {e : Ending} {w' : World} (h : RetLP w n m l f e w') : RetL w n m l f e w' := by
  obtain ⟨A, c, B, d, h1, h2⟩ := h
  exact ⟨A, c, B, d, h1, h2.log, h2.ol.2⟩
/-- A log of a call's own, behind one store into a block that lay there ahead of it. -/
theorem pair_old {w0 w : World} {v1 v2 : Value} {n m g : Nat} {l : Log} (h : Pair w0 w v1 n v2 m l) (hg : g < w0.heap.size) : v1.ownBlock ≠ some g ∧ v2.ownBlock ≠ some g := ⟨h.ol.ne_old hg, h.om.ne_old hg⟩
theorem LogAt.set_ne {w : World} {A B : Option Addr} {n c m d g : Nat} {l : Log} (h : LogAt w A n c B m d l) (n1 : (Value.slice A n c).ownBlock ≠ some g) (n2 : (Value.slice B m d).ownBlock ≠ some g) (i : Nat) (u : Value) : LogAt (w.setCell ⟨g, i, none⟩ u) A n c B m d l :=
  ⟨h.rl.set_ne (own_ne n1) i u, h.rm.set_ne (own_ne n2) i u, h.nc, h.md⟩
theorem log_eq (x y : Log) : decide (x = y) = (decide (x.list = y.list) && decide (x.marks = y.marks)) := by
  obtain ⟨a, b⟩ := x
  obtain ⟨c, d⟩ := y
  rw [Bool.eq_iff_iff]; simp
end Go.Proofs.Ytddgdhaioomnnaa.Writes

namespace Go.Proofs.Ytddgdhaioomnnaa.Writes
open Go.ChangeShapes Go.WideShapes Go.ChangeAt Go.RowKit Mem
open Heap (Write wc ws ws_len vB at_write)





end Go.Proofs.Ytddgdhaioomnnaa.Writes

namespace Go.Proofs.Ytddgdhaioomnnaa.Writes
open Go.ChangeShapes Go.WideShapes Go.ChangeAt Go.RowKit Mem
open Heap (Write wc ws ws_len vB at_write)

set_option maxRecDepth 100000 in
theorem clonew_c (h : List Write) (A : Option Addr) (n c : Nat) (w : World) (hr : Rd w 2 A n (ws h)) (hn : n ≤ 1000000) :
    Calls Try.prog 48 #[.slice A n c] w (Mem.RetO w 32 2 n (ws h)) := by
  have hnil := fun W => Lib.run_eql_slice_nil (P := Try.prog) W 24 32 A n c 0 0 Try.underlying24
  rcases A with _ | ad
  · obtain ⟨rfl, hx⟩ := rd_nil hr
    have HX := Lib.hid hx
    clear hr hx
    go_enter Try.func48, Try.ntmps48
    go_wp2
    go_ret
    exact ⟨_, rfl, by rw [HX.out]; exact Own.nil_ (Below.refl _ _)⟩
  · have HR := Lib.hid hr
    clear hr
    go_enter Try.func48, Try.ntmps48
    go_wp2_with (at_builtin; refine append_rd rfl _ _ 24 rfl tWrite w _ 0 [] rfl (Own.empty w _ _) _ n c (ws h) rfl (HR.out.alloc _) (ws_one h) (by omega) (by omega) ?_; intro v' w' hown' hg; have HO := Lib.hid hown'; clear hown' hg)
    go_ret
    exact ⟨v', rfl, by have := HO.out; simpa using this⟩


theorem own_apart {w0 w1 w2 : World} {e size n e2 size2 n2 : Nat} {v1 v2 : Value} {xs ys : List Value} (h1 : Own w0 w1 e size v1 n xs) (h2 : Own w1 w2 e2 size2 v2 n2 ys) : Apart v1 v2 := by
  cases hv : v1.ownBlock with
  | none => exact .inl hv
  | some g =>
    refine .inr (.inr ?_)
    rw [hv]
    intro e
    have l1 := h1.lt g hv
    have l2 := h2.base g e.symm
    omega
/-- What is returned: a log of the call's own. -/
def RetP (w : World) (n m : Nat) (l : Log) (e : Ending) (w' : World) : Prop :=
  ∃ A c B d, e = .returned (.agg #[.slice A n c, .slice B m d]) ∧ Pair w w' (.slice A n c) n (.slice B m d) m l

end Go.Proofs.Ytddgdhaioomnnaa.Writes

namespace Go.Proofs.Ytddgdhaioomnnaa.Writes
open Go.ChangeShapes Go.WideShapes Go.ChangeAt Go.RowKit Mem
open Heap (Write wc ws ws_len vB at_write)

def cmpS (x y : Int) : Int := if x < y then -1 else if y < x then 1 else 0
set_option maxRecDepth 100000 in
theorem isnan_any (x : Int) (w : World) :
    Calls Try.prog 67 #[.int .i64 x] w fun e w' => e = .returned (.bool false) ∧ w = w' := by
  go_enter Try.func67, Try.ntmps67
  go_wp2
  go_ret
  exact ⟨ret_bool (by simp), rfl⟩
set_option maxRecDepth 100000 in
theorem compare_any (x y : Int) (w : World) :
    Calls Try.prog 47 #[.int .i64 x, .int .i64 y] w fun e w' => e = .returned (.int .i64 (cmpS x y)) ∧ w = w' := by
  by_cases h1 : x < y
  · have HF : Hid (cmpS x y = -1) := Lib.hid (by unfold cmpS; rw [if_pos h1])
    go_enter Try.func47, Try.ntmps47
    go_wp2_with (go_at_call 67; refine (isnan_any _ _).mono ?_; rintro e w' ⟨rfl, rfl⟩)
    go_ret
    exact ⟨ret_int (by rw [HF.out]), rfl⟩
  · by_cases h2 : y < x
    · have HF : Hid (cmpS x y = 1) := Lib.hid (by unfold cmpS; rw [if_neg h1, if_pos h2])
      go_enter Try.func47, Try.ntmps47
      go_wp2_with (go_at_call 67; refine (isnan_any _ _).mono ?_; rintro e w' ⟨rfl, rfl⟩)
      go_ret
      exact ⟨ret_int (by rw [HF.out]), rfl⟩
    · have HF : Hid (cmpS x y = 0) := Lib.hid (by unfold cmpS; rw [if_neg h1, if_neg h2])
      go_enter Try.func47, Try.ntmps47
      go_wp2_with (go_at_call 67; refine (isnan_any _ _).mono ?_; rintro e w' ⟨rfl, rfl⟩)
      go_ret
      exact ⟨ret_int (by rw [HF.out]), rfl⟩
/-- What is returned: a number; the world has grown. -/
def RetIG (w : World) (v : Int) (e : Ending) (w' : World) : Prop := e = .returned (.int .i64 v) ∧ Grew w w'

theorem found_mk (L : List Write) (c : Int) (p : Nat) (hp : p ≤ L.length) (h1 : ∀ t x, t < p → L[t]? = some x → x.cell < c) (h2 : ∀ t x, p ≤ t → L[t]? = some x → c ≤ x.cell) (f : Bool) (hf : (match L[p]? with | some y => (y.cell == c) | none => false) = f) : Found L c p f := by
  refine ⟨hp, fun x hx => ?_, fun x hx => ?_, hf⟩
  · obtain ⟨t, ht, e⟩ := List.mem_take_iff_getElem.1 hx
    exact h1 t x (by omega) (by rw [List.getElem?_eq_getElem (by omega), e])
  · obtain ⟨t, ht, e⟩ := List.mem_drop_iff_getElem.1 hx
    exact h2 (p + t) x (by omega) (by rw [List.getElem?_eq_getElem (by omega), ← e])
theorem rise_at (L : List Write) (hr : Rises L) (a b : Nat) (x y : Write) (hab : a < b) (hx : L[a]? = some x) (hy : L[b]? = some y) : x.cell < y.cell := by
  obtain ⟨h1, rfl⟩ := List.getElem?_eq_some_iff.1 hx
  obtain ⟨h2, rfl⟩ := List.getElem?_eq_some_iff.1 hy
  exact List.pairwise_iff_getElem.1 hr a b h1 h2 hab


end Go.Proofs.Ytddgdhaioomnnaa.Writes

namespace Go.Proofs.Ytddgdhaioomnnaa.Writes
open Go.ChangeShapes Go.WideShapes Go.ChangeAt Go.RowKit Mem
open Heap (Write wc ws ws_len vB at_write)



end Go.Proofs.Ytddgdhaioomnnaa.Writes

namespace Go.Proofs.Ytddgdhaioomnnaa.Writes
open Go.ChangeShapes Go.WideShapes Go.ChangeAt Go.RowKit Mem
open Heap (Write wc ws ws_len vB at_write)


end Go.Proofs.Ytddgdhaioomnnaa.Writes
