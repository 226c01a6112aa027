/-
  PLAIN DEFINITIONS: who sleeps, and what the chapter on sleep asks of them; small laws on these. No conditions beyond those that each theorem states. Nothing of the program is named here.
-/
import Derived.Test.YtddgdhaioomnnaaGreatHeapA
import Derived.Test.YtddgdhaioomnnaaGreatReadsA
import Derived.Test.YtddgdhaioomnnaaGreatTermA
namespace Go.Proofs.YtddgdhaioomnnaaGreat.Sleep
open Mem
open Heap (Write)

structure Sl where
  who : Int
  mode : Int
  til : Int
  watch : List Write
  term : List Term.Op
  deriving DecidableEq, Inhabited

/-- Rising. -/
def upB (l : List Int) : Bool := decide (l.Pairwise (· < ·))
def lastOr (d : Int) (l : List Int) : Int := l.getLast?.getD d
theorem last_nil (d : Int) : lastOr d [] = d := rfl
theorem last_snoc (d : Int) (l : List Int) (x : Int) : lastOr d (l ++ [x]) = x := by unfold lastOr; simp
theorem up_snoc (l : List Int) (x d : Int) (hd : d < x) : upB (l ++ [x]) = (upB l && decide (lastOr d l < x)) := by
  unfold upB
  rw [Bool.eq_iff_iff, Bool.and_eq_true, decide_eq_true_eq, decide_eq_true_eq, decide_eq_true_eq, List.pairwise_append]
  constructor
  · rintro ⟨h1, -, h3⟩
    refine ⟨h1, ?_⟩
    rcases List.eq_nil_or_concat l with rfl | ⟨m, y, rfl⟩
    · exact hd
    · rw [List.concat_eq_append, last_snoc]; exact h3 y (by simp) x (by simp)
  · rintro ⟨h1, h2⟩
    refine ⟨h1, List.pairwise_singleton _ _, fun a ha b hb => ?_⟩
    rw [List.mem_singleton] at hb; subst hb
    rcases List.eq_nil_or_concat l with rfl | ⟨m, y, rfl⟩
    · cases ha
    · rw [List.concat_eq_append] at h1 ha h2
      rw [last_snoc] at h2
      rw [List.pairwise_append] at h1
      rcases List.mem_append.1 ha with ha | ha
      · have := h1.2.2 a ha y (by simp); omega
      · rw [List.mem_singleton] at ha; omega
theorem up_pre (a b : List Int) (h : upB (a ++ b) = true) : upB a = true := by
  unfold upB at h ⊢
  rw [decide_eq_true_eq] at h ⊢
  exact (List.pairwise_append.1 h).1
theorem up_at (l : List Int) (h : upB l = true) (i j : Nat) (hij : i < j) (x y : Int) (hx : l[i]? = some x) (hy : l[j]? = some y) : x < y := by
  unfold upB at h
  rw [decide_eq_true_eq] at h
  obtain ⟨h1, rfl⟩ := List.getElem?_eq_some_iff.1 hx
  obtain ⟨h2, rfl⟩ := List.getElem?_eq_some_iff.1 hy
  exact List.pairwise_iff_getElem.1 h i j h1 h2 hij
theorem map_take_succ {α : Type} (f : α → Int) (l : List α) (k : Nat) (x : α) (hk : l[k]? = some x) : (l.take (k + 1)).map f = (l.take k).map f ++ [f x] := by
  rw [List.take_add_one, hk]; simp
theorem last_take {α : Type} (f : α → Int) (d : Int) (l : List α) (k : Nat) (x : α) (hk : l[k]? = some x) : lastOr d ((l.take (k + 1)).map f) = f x := by
  rw [map_take_succ f l k x hk, last_snoc]

/-- May a cell be watched? -/
def wOk (w : Write) : Bool := decide (0 ≤ w.cell ∧ w.cell ≤ 63) && Heap.vB w.value
def goodW (l : List Write) : Bool := l.all wOk && upB (l.map Write.cell)
def watchB (l : List Write) : Bool := decide (l.length ≤ 24) && goodW l
theorem good_0 : goodW [] = true := rfl
theorem good_take (l : List Write) (k : Nat) (x : Write) (hk : l[k]? = some x) :
    goodW (l.take (k + 1)) = (goodW (l.take k) && (wOk x && decide (lastOr (-1) ((l.take k).map Write.cell) < x.cell))) := by
  unfold goodW
  rw [map_take_succ _ l k x hk, take_all l wOk k x hk]
  by_cases h : wOk x = true
  · have hx : (-1 : Int) < x.cell := by unfold wOk at h; rw [Bool.and_eq_true, decide_eq_true_eq] at h; omega
    rw [up_snoc _ _ (-1) hx]
    simp only [h, Bool.true_and, Bool.and_true]
    rw [Bool.and_assoc]
  · rw [Bool.not_eq_true] at h
    rw [h]; simp
theorem good_bad (l : List Write) (k : Nat) (h : goodW (l.take k) = false) : goodW l = false := by
  cases hg : goodW l
  · rfl
  · exfalso
    unfold goodW at hg h
    rw [Bool.and_eq_true] at hg
    have h1 : (l.take k).all wOk = true := by
      rw [List.all_eq_true] at *; exact fun x hx => hg.1 x (List.mem_of_mem_take hx)
    have h2 : upB ((l.take k).map Write.cell) = true := up_pre _ ((l.drop k).map Write.cell) (by rw [← List.map_append, List.take_append_drop]; exact hg.2)
    rw [h1, h2] at h; cases h
/-- May the Term be, of that Mode and that Watch? -/
def termB (mode : Int) (W : List Write) (T : List Term.Op) : Bool :=
  if mode = 1 ∨ mode = 2 then decide (T.length = 0)
  else if mode = 3 then decide (Term.checkS T = 0) && (!(T.any (fun o => decide (o.kind = 3))) && decide (Term.cellsS T = W.map Write.cell)) else false
def oneB (s : Sl) : Bool := (decide (1 ≤ s.who ∧ s.who ≤ 8) && Reads.timeB s.til) && (watchB s.watch && termB s.mode s.watch s.term)
theorem one_who (s : Sl) (h : oneB s = true) : 1 ≤ s.who ∧ s.who ≤ 8 := by
  unfold oneB at h
  rw [Bool.and_eq_true, Bool.and_eq_true, decide_eq_true_eq] at h
  exact h.1.1
def whos (L : List Sl) : List Int := L.map Sl.who
def rightB (L : List Sl) : Bool := L.all oneB && upB (whos L)
theorem right_take (L : List Sl) (k : Nat) (x : Sl) (hk : L[k]? = some x) :
    rightB (L.take (k + 1)) = (rightB (L.take k) && (oneB x && decide (lastOr 0 (whos (L.take k)) < x.who))) := by
  unfold rightB whos
  rw [map_take_succ _ L k x hk, take_all L oneB k x hk]
  by_cases h : oneB x = true
  · have hx := one_who x h
    rw [up_snoc _ _ 0 (by omega)]
    simp only [h, Bool.true_and, Bool.and_true]
    rw [Bool.and_assoc]
  · rw [Bool.not_eq_true] at h
    rw [h]; simp
theorem right_sub (L M : List Sl) (hs : M.Sublist L) (h : rightB L = true) : rightB M = true := by
  unfold rightB upB whos at *
  rw [Bool.and_eq_true, List.all_eq_true, decide_eq_true_eq] at *
  exact ⟨fun x hx => h.1 x (hs.subset hx), h.2.sublist (hs.map _)⟩
theorem right_bad (L : List Sl) (k : Nat) (h : rightB (L.take k) = false) : rightB L = false := by
  cases hr : rightB L
  · rfl
  · rw [right_sub L _ (List.take_sublist k L) hr] at h; cases h
theorem right_one (L : List Sl) (h : rightB L = true) (x : Sl) (hx : x ∈ L) : oneB x = true := by
  unfold rightB at h; rw [Bool.and_eq_true, List.all_eq_true] at h; exact h.1 x hx
theorem right_up (L : List Sl) (h : rightB L = true) : upB (whos L) = true := by
  unfold rightB at h; rw [Bool.and_eq_true] at h; exact h.2
theorem right_at (L : List Sl) (h : rightB L = true) (i j : Nat) (hij : i < j) (x y : Sl) (hx : L[i]? = some x) (hy : L[j]? = some y) : x.who < y.who :=
  up_at (whos L) (right_up L h) i j hij _ _ (by unfold whos; rw [List.getElem?_map, hx]; rfl) (by unfold whos; rw [List.getElem?_map, hy]; rfl)
/-- The Whos of a right list lie from 1 to 8: it has eight at most. -/
theorem right_len (L : List Sl) (h : rightB L = true) : L.length ≤ 8 := by
  have hk : ∀ (k : Nat) (x : Sl), L[k]? = some x → (k : Int) + 1 ≤ x.who := by
    intro k
    induction k with
    | zero => intro x hx; have := one_who x (right_one L h x (List.mem_of_getElem? hx)); omega
    | succ k ih =>
      intro x hx
      have hl : k < L.length := by have := (List.getElem?_eq_some_iff.1 hx).1; omega
      have h1 := ih _ (List.getElem?_eq_getElem hl)
      have h2 := right_at L h k (k + 1) (by omega) _ _ (List.getElem?_eq_getElem hl) hx
      omega
  rcases Nat.lt_or_ge 8 L.length with h8 | h8
  · have h1 := hk 8 _ (List.getElem?_eq_getElem h8)
    have h2 := one_who _ (right_one L h _ (List.getElem_mem h8))
    omega
  · exact h8

def hasB (L : List Sl) (w : Int) : Bool := L.any (fun s => s.who == w)
def zero : Sl := ⟨0, 0, 0, [], []⟩
def findG (L : List Sl) (w : Int) : Option Sl := L.find? (fun s => s.who == w)
def findS (L : List Sl) (w : Int) : Sl × Int :=
  if rightB L = true then (match findG L w with | some s => (s, 0) | none => (zero, 3)) else (zero, 1)
def insS (L : List Sl) (s : Sl) : List Sl := L.filter (fun x => decide (x.who < s.who)) ++ s :: L.filter (fun x => !decide (x.who < s.who))
def addS (L : List Sl) (s : Sl) : List Sl × Int :=
  if (rightB L && oneB s) = true then (if hasB L s.who = true then (L, 9) else (insS L s, 0)) else (L, 1)
def delS (L : List Sl) (w : Int) : List Sl := L.filter (fun x => x.who != w)
def dropG : List Sl → List Int → Option (List Sl)
  | L, [] => some L
  | L, w :: t => if hasB L w = true then dropG (delS L w) t else none
def dropS (L : List Sl) (ws : List Int) : List Sl × Int :=
  if rightB L = true then (match dropG L ws with | some R => (R, 0) | none => (L, 3)) else (L, 1)
def seesB (W : List Write) (cells : List Int) : Bool := W.any (fun w => cells.any (fun c => c == w.cell))
def ofS (L : List Sl) (cells : List Int) : List Int :=
  if rightB L = true then (L.filter (fun s => seesB s.watch cells)).map Sl.who else []
def valOf (l : List Reads.Read) (c : Int) : Int := match Reads.findS l c with | some r => r.value | none => 0
def watchedS (l : List Reads.Read) : List Write := (Reads.cellsS l).map (fun c => ⟨c, valOf l c⟩)

/-- Where somebody stands, or would stand. -/
def Found (L : List Sl) (c : Int) (p : Nat) (f : Bool) : Prop :=
  p ≤ L.length ∧ (∀ x ∈ L.take p, x.who < c) ∧ (∀ x ∈ L.drop p, c ≤ x.who) ∧ (match L[p]? with | some y => (y.who == c) | none => false) = f
theorem found_mk (L : List Sl) (c : Int) (p : Nat) (hp : p ≤ L.length) (h1 : ∀ t x, t < p → L[t]? = some x → x.who < c) (h2 : ∀ t x, p ≤ t → L[t]? = some x → c ≤ x.who) (f : Bool) (hf : (match L[p]? with | some y => (y.who == c) | none => false) = f) : Found L c p f := by
  refine ⟨hp, fun x hx => ?_, fun x hx => ?_, hf⟩
  · obtain ⟨t, ht, e⟩ := List.mem_take_iff_getElem.1 hx
    exact h1 t x (by omega) (by rw [List.getElem?_eq_getElem (by omega), e])
  · obtain ⟨t, ht, e⟩ := List.mem_drop_iff_getElem.1 hx
    exact h2 (p + t) x (by omega) (by rw [List.getElem?_eq_getElem (by omega), ← e])
theorem split_at (L : List Sl) (p : Nat) : L.take p ++ L.drop p = L := List.take_append_drop p L
theorem found_has (L : List Sl) (c : Int) (p : Nat) (f : Bool) (hr : rightB L = true) (h : Found L c p f) : hasB L c = f := by
  obtain ⟨hp, h1, h2, h3⟩ := h
  rw [Bool.eq_iff_iff]
  unfold hasB
  rw [List.any_eq_true, ← h3]
  constructor
  · rintro ⟨x, hx, e⟩
    rw [beq_iff_eq] at e
    obtain ⟨k, hk, rfl⟩ := List.getElem_of_mem hx
    rcases Nat.lt_trichotomy k p with hlt | rfl | hlt
    · have := h1 L[k] (List.mem_take_iff_getElem.2 ⟨k, by omega, rfl⟩); omega
    · rw [List.getElem?_eq_getElem hk]; simpa using e
    · have hpl : p < L.length := by omega
      have := right_at L hr p k hlt _ _ (List.getElem?_eq_getElem hpl) (List.getElem?_eq_getElem hk)
      have h4 := h2 L[p] (List.mem_drop_iff_getElem.2 ⟨0, by omega, by simp⟩)
      omega
  · intro h
    cases hx : L[p]? with
    | none => rw [hx] at h; cases h
    | some y => rw [hx] at h; exact ⟨y, List.mem_of_getElem? hx, h⟩
theorem found_find (L : List Sl) (c : Int) (p : Nat) (h : Found L c p true) : ∃ x, L[p]? = some x ∧ x.who = c ∧ findG L c = some x := by
  obtain ⟨hp, h1, h2, h3⟩ := h
  cases hx : L[p]? with
  | none => rw [hx] at h3; cases h3
  | some y =>
    rw [hx] at h3
    refine ⟨y, rfl, by simpa using h3, ?_⟩
    unfold findG
    obtain ⟨hl, e⟩ := List.getElem?_eq_some_iff.1 hx
    conv => lhs; rw [← split_at L p, List.drop_eq_getElem_cons hl, e]
    rw [List.find?_append, List.find?_eq_none.2 (fun x hx => by have := h1 x hx; simp; omega)]
    simp only [Option.none_or]
    have h3' : (y.who == c) = true := h3
    simp [List.find?_cons, h3']
theorem find_none (L : List Sl) (c : Int) (h : hasB L c = false) : findG L c = none := by
  unfold findG hasB at *
  rw [List.find?_eq_none]
  rw [List.any_eq_false] at h
  exact h
theorem found_ins (L : List Sl) (s : Sl) (p : Nat) (f : Bool) (h : Found L s.who p f) : insS L s = L.take p ++ s :: L.drop p := by
  obtain ⟨hp, h1, h2, h3⟩ := h
  have e1 : L.filter (fun x => decide (x.who < s.who)) = L.take p := by
    conv => lhs; rw [← split_at L p]
    rw [List.filter_append, List.filter_eq_self.2 (fun x hx => by simpa using h1 x hx), List.filter_eq_nil_iff.2 (fun x hx => by have := h2 x hx; simp; omega), List.append_nil]
  have e2 : L.filter (fun x => !decide (x.who < s.who)) = L.drop p := by
    conv => lhs; rw [← split_at L p]
    rw [List.filter_append, List.filter_eq_nil_iff.2 (fun x hx => by have := h1 x hx; simp; omega), List.filter_eq_self.2 (fun x hx => by have := h2 x hx; simp; omega), List.nil_append]
  unfold insS
  rw [e1, e2]
theorem found_del (L : List Sl) (c : Int) (p : Nat) (hr : rightB L = true) (h : Found L c p true) : delS L c = L.take p ++ L.drop (p + 1) := by
  obtain ⟨x, hx, hc, -⟩ := found_find L c p h
  obtain ⟨hp, h1, h2, h3⟩ := h
  obtain ⟨hl, e⟩ := List.getElem?_eq_some_iff.1 hx
  unfold delS
  conv => lhs; rw [← split_at L p, List.drop_eq_getElem_cons hl, e]
  rw [List.filter_append, List.filter_eq_self.2 (fun y hy => by have := h1 y hy; simp; omega), List.filter_cons_of_neg (by simp [hc])]
  congr 1
  rw [List.filter_eq_self]
  intro y hy
  obtain ⟨t, ht, e2⟩ := List.mem_drop_iff_getElem.1 hy
  have := right_at L hr p (p + 1 + t) (by omega) x y hx (by rw [List.getElem?_eq_getElem (by omega), ← e2])
  simp; omega
theorem del_right (L : List Sl) (c : Int) (h : rightB L = true) : rightB (delS L c) = true := right_sub L _ List.filter_sublist h
theorem take_app_drop (L : List Sl) (p : Nat) (s : Sl) (hr : rightB L = true) (hs : oneB s = true) (h : Found L s.who p false) : rightB (L.take p ++ s :: L.drop p) = true := by
  obtain ⟨hp, h1, h2, h3⟩ := h
  have hd : ∀ x ∈ L.drop p, s.who < x.who := by
    intro x hx
    obtain ⟨t, ht, e⟩ := List.mem_drop_iff_getElem.1 hx
    have h4 := h2 x hx
    rcases Nat.eq_zero_or_pos t with rfl | h0
    · rw [List.getElem?_eq_getElem (by omega)] at h3
      simp only [Nat.add_zero] at e
      rw [e] at h3
      have : x.who ≠ s.who := by simpa using h3
      omega
    · have hpl : p < L.length := by omega
      have h5 := h2 L[p] (List.mem_drop_iff_getElem.2 ⟨0, by omega, by simp⟩)
      have := right_at L hr p (p + t) (by omega) _ x (List.getElem?_eq_getElem hpl) (by rw [List.getElem?_eq_getElem (by omega), e])
      omega
  have hu := right_up L hr
  unfold rightB upB whos at *
  rw [Bool.and_eq_true, List.all_eq_true, decide_eq_true_eq] at *
  refine ⟨fun x hx => ?_, ?_⟩
  · rcases List.mem_append.1 hx with hx | hx
    · exact hr.1 x (List.mem_of_mem_take hx)
    · rcases List.mem_cons.1 hx with rfl | hx
      · exact hs
      · exact hr.1 x (List.mem_of_mem_drop hx)
  · rw [← split_at L p, List.map_append, List.pairwise_append] at hu
    rw [List.map_append, List.map_cons, List.pairwise_append]
    refine ⟨hu.1, List.pairwise_cons.2 ⟨fun a ha => ?_, hu.2.1⟩, fun a ha b hb => ?_⟩
    · obtain ⟨x, hx, rfl⟩ := List.mem_map.1 ha
      exact hd x hx
    · rcases List.mem_cons.1 hb with rfl | hb
      · obtain ⟨x, hx, rfl⟩ := List.mem_map.1 ha
        exact h1 x hx
      · exact hu.2.2 a ha b hb
/-- Of any right list there is a place for anybody. -/
theorem found_ex (L : List Sl) (c : Int) (hr : rightB L = true) : ∃ p, Found L c p (hasB L c) := by
  have key : ∀ M : List Sl, rightB M = true → ∃ p, p ≤ M.length ∧ (∀ x ∈ M.take p, x.who < c) ∧ (∀ x ∈ M.drop p, c ≤ x.who) := by
    intro M
    induction M with
    | nil => intro _; exact ⟨0, Nat.le_refl _, by simp, by simp⟩
    | cons a M ih =>
      intro h
      by_cases hlt : a.who < c
      · obtain ⟨p, h0, h1, h2⟩ := ih (right_sub _ _ (List.sublist_cons_self a M) h)
        refine ⟨p + 1, by simpa using h0, fun x hx => ?_, fun x hx => h2 x (by simpa using hx)⟩
        rw [List.take_succ_cons] at hx
        rcases List.mem_cons.1 hx with rfl | hx
        · exact hlt
        · exact h1 x hx
      · refine ⟨0, Nat.zero_le _, by simp, fun x hx => ?_⟩
        rw [List.drop_zero] at hx
        rcases List.mem_cons.1 hx with rfl | hx
        · omega
        · obtain ⟨k, hk, rfl⟩ := List.getElem_of_mem hx
          have := right_at _ h 0 (k + 1) (by omega) a M[k] rfl (by simp)
          omega
  obtain ⟨p, h0, h1, h2⟩ := key L hr
  have hF : Found L c p (match L[p]? with | some y => (y.who == c) | none => false) := ⟨h0, h1, h2, rfl⟩
  exact ⟨p, by rw [found_has L c p _ hr hF]; exact hF⟩
theorem add_ok (L : List Sl) (s : Sl) (h : (addS L s).2 = 0) : rightB L = true ∧ oneB s = true ∧ hasB L s.who = false ∧ addS L s = (insS L s, 0) ∧ rightB (insS L s) = true := by
  unfold addS at h ⊢
  split at h
  · rename_i h1
    rw [if_pos h1]
    rw [Bool.and_eq_true] at h1
    split at h
    · simp at h
    · rename_i h2
      rw [if_neg h2]
      rw [Bool.not_eq_true] at h2
      obtain ⟨p, hp⟩ := found_ex L s.who h1.1
      rw [h2] at hp
      refine ⟨h1.1, h1.2, h2, rfl, ?_⟩
      rw [found_ins L s p _ hp]
      exact take_app_drop L p s h1.1 h1.2 hp
  · simp at h
theorem ins_has (L : List Sl) (s : Sl) (w : Int) : hasB (insS L s) w = (hasB L w || (s.who == w)) := by
  rw [Bool.eq_iff_iff]
  unfold hasB insS
  simp only [List.any_eq_true, Bool.or_eq_true, List.mem_append, List.mem_cons, List.mem_filter]
  constructor
  · rintro ⟨x, (⟨h, -⟩ | rfl | ⟨h, -⟩), e⟩
    · exact .inl ⟨x, h, e⟩
    · exact .inr e
    · exact .inl ⟨x, h, e⟩
  · rintro (⟨x, h, e⟩ | e)
    · by_cases hd : x.who < s.who
      · exact ⟨x, .inl ⟨h, by simpa using hd⟩, e⟩
      · exact ⟨x, .inr (.inr ⟨h, by simpa using hd⟩), e⟩
    · exact ⟨s, .inr (.inl rfl), e⟩
theorem ins_len (L : List Sl) (s : Sl) : (insS L s).length ≤ L.length + L.length + 1 := by
  unfold insS
  rw [List.length_append, List.length_cons]
  have h1 := List.length_filter_le (fun x => decide (x.who < s.who)) L
  have h2 := List.length_filter_le (fun x => !decide (x.who < s.who)) L
  omega
theorem ins_find (L : List Sl) (s : Sl) (h : hasB L s.who = false) : findG (insS L s) s.who = some s := by
  unfold findG insS
  rw [List.find?_append, List.find?_eq_none.2 (fun x hx => by have := (List.mem_filter.1 hx).2; simp at this; simp; omega)]
  simp
theorem ins_del (L : List Sl) (s : Sl) (hr : rightB L = true) (h : hasB L s.who = false) : delS (insS L s) s.who = L := by
  obtain ⟨p, hp⟩ := found_ex L s.who hr
  rw [h] at hp
  rw [found_ins L s p _ hp]
  have hn : ∀ x ∈ L, x.who ≠ s.who := fun x hx e => by
    unfold hasB at h; rw [List.any_eq_false] at h; exact h x hx (by simpa using e)
  unfold delS
  rw [List.filter_append, List.filter_cons_of_neg (by simp), ← List.filter_append, split_at, List.filter_eq_self]
  intro x hx
  simpa using hn x hx
theorem del_has (L : List Sl) (w v : Int) : hasB (delS L w) v = (hasB L v && (v != w)) := by
  rw [Bool.eq_iff_iff]
  unfold hasB delS
  simp only [List.any_eq_true, Bool.and_eq_true, List.mem_filter, beq_iff_eq, bne_iff_ne]
  constructor
  · rintro ⟨x, ⟨h1, h2⟩, rfl⟩; exact ⟨⟨x, h1, rfl⟩, h2⟩
  · rintro ⟨⟨x, h1, rfl⟩, h2⟩; exact ⟨x, ⟨h1, h2⟩, rfl⟩
end Go.Proofs.YtddgdhaioomnnaaGreat.Sleep
