/-
  LAWS OF WRITE LOGS: marks, backs, keeps, and what a heap makes of a log's last writes. No conditions beyond those that each theorem states. Nothing of the program is named here.
-/
import Derived.Test.YtjmilnfemjnhoaaWritesPlain
namespace Go.Proofs.Ytjmilnfemjnhoaa.Writes
open Mem
open Heap (Write wc ws ws_len vB)

theorem marks_mono (n n' : Int) (lo : Int) (ms : List Int) (h : marksB n lo ms = true) (hn : n ≤ n') : marksB n' lo ms = true := by
  induction ms generalizing lo with
  | nil => rfl
  | cons m ms ih =>
    rw [marksB] at h ⊢
    simp only [Bool.and_eq_true, decide_eq_true_eq] at h ⊢
    exact ⟨⟨h.1.1, by omega⟩, ih m h.2⟩
theorem marks_snoc (n lo : Int) (ms : List Int) (h : marksB n lo ms = true) (hlo : lo ≤ n) : marksB n lo (ms ++ [n]) = true := by
  induction ms generalizing lo with
  | nil => simp [marksB, hlo]
  | cons m ms ih =>
    simp only [List.cons_append]
    rw [marksB] at h ⊢
    simp only [Bool.and_eq_true, decide_eq_true_eq] at h ⊢
    exact ⟨h.1, ih m h.2 h.1.2⟩
/-- Without the last one, and down to it. -/
theorem marks_init (n lo : Int) (ms : List Int) (m : Int) (h : marksB n lo (ms ++ [m]) = true) : marksB m lo ms = true ∧ lo ≤ m ∧ m ≤ n := by
  induction ms generalizing lo with
  | nil => simp [marksB] at *; exact h
  | cons x ms ih =>
    simp only [List.cons_append] at h
    rw [marksB] at h ⊢
    simp only [Bool.and_eq_true, decide_eq_true_eq] at h ⊢
    obtain ⟨h1, h2, h3⟩ := ih x h.2
    exact ⟨⟨⟨h.1.1, h2⟩, h1⟩, by omega, h3⟩
theorem marks_take (n lo : Int) (ms : List Int) (k : Nat) (h : marksB n lo ms = true) : marksB n lo (ms.take k) = true := by
  induction ms generalizing lo k with
  | nil => simpa using h
  | cons x ms ih =>
    cases k with
    | zero => rfl
    | succ k =>
      simp only [List.take_succ_cons]
      rw [marksB] at h ⊢
      simp only [Bool.and_eq_true] at h ⊢
      exact ⟨h.1, ih x k h.2⟩
/-- One more mark looked at, from the left. -/
theorem marks_drop (n lo : Int) (ms : List Int) (k : Nat) (m : Int) (hk : ms[k]? = some m) : marksB n lo (ms.drop k) = ((decide (lo ≤ m) && decide (m ≤ n)) && marksB n m (ms.drop (k + 1))) := by
  obtain ⟨hl, rfl⟩ := List.getElem?_eq_some_iff.1 hk
  rw [List.drop_eq_getElem_cons hl, marksB]

theorem right_parts (l : Log) : rightB l = true ↔ l.list.length ≤ 24 ∧ l.list.all oneB = true ∧ l.marks.length ≤ 6 ∧ marksB (l.list.length : Int) 0 l.marks = true := by
  unfold rightB listB markB
  simp only [Bool.and_eq_true, decide_eq_true_eq]
  constructor
  · rintro ⟨⟨a, b⟩, c, d⟩; exact ⟨a, b, c, d⟩
  · rintro ⟨a, b, c, d⟩; exact ⟨⟨a, b⟩, c, d⟩
theorem last_split (ms : List Int) (h : ms.length ≠ 0) : ∃ m, ms[ms.length - 1]? = some m ∧ ms = ms.take (ms.length - 1) ++ [m] := by
  have hl : ms.length - 1 < ms.length := by omega
  refine ⟨ms[ms.length - 1], List.getElem?_eq_getElem hl, ?_⟩
  have := List.take_succ_eq_append_getElem hl
  rw [← this, show ms.length - 1 + 1 = ms.length by omega, List.take_length]
/-- The last mark of a log. -/
theorem right_last (l : Log) (h : rightB l = true) (h0 : l.marks.length ≠ 0) :
    ∃ m : Nat, l.marks[l.marks.length - 1]? = some (m : Int) ∧ m ≤ l.list.length ∧ marksB (m : Int) 0 (l.marks.take (l.marks.length - 1)) = true := by
  obtain ⟨h1, h2, h3, h4⟩ := (right_parts l).1 h
  obtain ⟨m, hm, e⟩ := last_split l.marks h0
  rw [e] at h4
  obtain ⟨g1, g2, g3⟩ := marks_init _ _ _ _ h4
  obtain ⟨k, rfl⟩ := Int.eq_ofNat_of_zero_le g2
  exact ⟨k, hm, by omega, g1⟩

theorem put_no (l : Log) (x : Write) (h : (rightB l && oneB x) = false) : putS l x = (l, 1) := by unfold putS; rw [h]; rfl
theorem put_big (l : Log) (x : Write) (h : (rightB l && oneB x) = true) (hl : l.list.length = 24) : putS l x = (l, 5) := by unfold putS; rw [if_pos h, if_pos hl]
theorem put_new (l : Log) (x : Write) (h : (rightB l && oneB x) = true) (hl : l.list.length ≠ 24) : putS l x = (⟨l.list ++ [x], l.marks⟩, 0) := by unfold putS; rw [if_pos h, if_neg hl]
theorem mark_no (l : Log) (h : rightB l = false) : markS l = (l, 1) := by unfold markS; rw [h]; rfl
theorem mark_big (l : Log) (h : rightB l = true) (hl : l.marks.length = 6) : markS l = (l, 5) := by unfold markS; rw [if_pos h, if_pos hl]
theorem mark_new (l : Log) (h : rightB l = true) (hl : l.marks.length ≠ 6) : markS l = (⟨l.list, l.marks ++ [(l.list.length : Int)]⟩, 0) := by unfold markS; rw [if_pos h, if_neg hl]
theorem keep_no (l : Log) (h : rightB l = false) : keepS l = (l, 1) := by unfold keepS; rw [h]; rfl
theorem keep_none (l : Log) (h : rightB l = true) (hl : l.marks.length = 0) : keepS l = (l, 3) := by unfold keepS; rw [if_pos h, if_pos hl]
theorem keep_new (l : Log) (h : rightB l = true) (hl : l.marks.length ≠ 0) : keepS l = (⟨l.list, l.marks.take (l.marks.length - 1)⟩, 0) := by unfold keepS; rw [if_pos h, if_neg hl]
theorem back_no (l : Log) (h : rightB l = false) : backS l = (l, 1) := by unfold backS; rw [h]; rfl
theorem back_none (l : Log) (h : rightB l = true) (hl : l.marks.length = 0) : backS l = (l, 3) := by
  unfold backS; rw [if_pos h, List.getElem?_eq_none (by omega)]
theorem back_new (l : Log) (h : rightB l = true) (m : Nat) (hm : l.marks[l.marks.length - 1]? = some (m : Int)) : backS l = (⟨l.list.take m, l.marks.take (l.marks.length - 1)⟩, 0) := by
  unfold backS; rw [if_pos h, hm]; rfl

theorem put_right (l : Log) (x : Write) (h : rightB l = true) (hx : oneB x = true) (hl : l.list.length ≠ 24) : rightB ⟨l.list ++ [x], l.marks⟩ = true := by
  obtain ⟨h1, h2, h3, h4⟩ := (right_parts l).1 h
  rw [right_parts]
  refine ⟨by simp; omega, by simp only [List.all_append, h2, List.all_cons, hx, List.all_nil, Bool.and_self], h3, ?_⟩
  exact marks_mono _ _ _ _ h4 (by simp; omega)
theorem mark_right (l : Log) (h : rightB l = true) (hl : l.marks.length ≠ 6) : rightB ⟨l.list, l.marks ++ [(l.list.length : Int)]⟩ = true := by
  obtain ⟨h1, h2, h3, h4⟩ := (right_parts l).1 h
  rw [right_parts]
  exact ⟨h1, h2, by simp; omega, marks_snoc _ _ _ h4 (by omega)⟩
theorem keep_right (l : Log) (h : rightB l = true) : rightB ⟨l.list, l.marks.take (l.marks.length - 1)⟩ = true := by
  obtain ⟨h1, h2, h3, h4⟩ := (right_parts l).1 h
  rw [right_parts]
  exact ⟨h1, h2, by rw [List.length_take]; omega, marks_take _ _ _ _ h4⟩
theorem back_right (l : Log) (h : rightB l = true) (m : Nat) (hm : l.marks[l.marks.length - 1]? = some (m : Int)) : rightB ⟨l.list.take m, l.marks.take (l.marks.length - 1)⟩ = true := by
  have h0 : l.marks.length ≠ 0 := by have := (List.getElem?_eq_some_iff.1 hm).1; omega
  obtain ⟨m', hm', hle, hmk⟩ := right_last l h h0
  rw [hm] at hm'
  obtain rfl : m = m' := by injection hm' with e; omega
  obtain ⟨h1, h2, h3, h4⟩ := (right_parts l).1 h
  rw [right_parts]
  refine ⟨by rw [List.length_take]; omega, ?_, by rw [List.length_take]; omega, ?_⟩
  · rw [List.all_eq_true] at *
    exact fun x hx => h2 x (List.mem_of_mem_take hx)
  · rw [List.length_take, Nat.min_eq_left hle]; exact hmk

/-- A log that was marked as l, with more writes behind. -/
def Ext (l m : Log) : Prop := (∃ xs, m = ⟨l.list ++ xs, l.marks ++ [(l.list.length : Int)]⟩) ∧ rightB m = true
theorem mark_ext (l m : Log) (h : markS l = (m, 0)) : Ext l m := by
  cases hr : rightB l with
  | false => rw [mark_no l hr] at h; injection h with _ h; cases h
  | true =>
    by_cases hl : l.marks.length = 6
    · rw [mark_big l hr hl] at h; injection h with _ h; cases h
    · rw [mark_new l hr hl] at h
      injection h with h _
      subst h
      exact ⟨⟨[], by simp⟩, mark_right l hr hl⟩
theorem mark_err (l m : Log) (e : Int) (h : markS l = (m, e)) (he : e ≠ 0) : m = l := by
  unfold markS at h
  split at h
  · split at h
    · injection h with h _; exact h.symm
    · injection h with _ h; exact absurd h.symm he
  · injection h with h _; exact h.symm
theorem put_err (l m : Log) (x : Write) (e : Int) (h : putS l x = (m, e)) (he : e ≠ 0) : m = l := by
  unfold putS at h
  split at h
  · split at h
    · injection h with h _; exact h.symm
    · injection h with _ h; exact absurd h.symm he
  · injection h with h _; exact h.symm
theorem put_ok (l m : Log) (x : Write) (h : putS l x = (m, 0)) : rightB l = true ∧ oneB x = true ∧ l.list.length ≠ 24 ∧ m = ⟨l.list ++ [x], l.marks⟩ ∧ rightB m = true := by
  unfold putS at h
  split at h
  · rename_i h1
    rw [Bool.and_eq_true] at h1
    split at h
    · injection h with _ h; cases h
    · rename_i h2
      injection h with h _
      subst h
      exact ⟨h1.1, h1.2, h2, rfl, put_right l x h1.1 h1.2 h2⟩
  · injection h with _ h; cases h
theorem put_ext (l m : Log) (x : Write) (a : Log) (e : Int) (h : Ext l m) (hp : putS m x = (a, e)) : Ext l a := by
  by_cases he : e = 0
  · subst he
    obtain ⟨_, _, _, rfl, hr⟩ := put_ok m a x hp
    obtain ⟨⟨xs, rfl⟩, _⟩ := h
    exact ⟨⟨xs ++ [x], by simp⟩, hr⟩
  · rw [put_err m a x e hp he]; exact h
theorem back_ext (l m : Log) (h : Ext l m) : backS m = (l, 0) ∧ keepS m = (⟨m.list, l.marks⟩, 0) := by
  obtain ⟨⟨xs, rfl⟩, hr⟩ := h
  constructor
  · rw [back_new _ hr l.list.length (by simp)]
    simp
  · rw [keep_new _ hr (by simp)]; simp

theorem put_len (l : Log) (x : Write) : (putS l x).1.list.length ≤ l.list.length + 1 ∧ (putS l x).1.marks.length = l.marks.length := by
  unfold putS
  split
  · split <;> simp
  · simp
theorem mark_len (l : Log) : (markS l).1.list.length = l.list.length ∧ (markS l).1.marks.length ≤ l.marks.length + 1 := by
  unfold markS
  split
  · split <;> simp
  · simp
theorem keep_len (l : Log) : (keepS l).1.list.length = l.list.length ∧ (keepS l).1.marks.length ≤ l.marks.length := by
  unfold keepS
  split
  · split
    · simp
    · simp
  · simp
theorem back_len (l : Log) : (backS l).1.list.length ≤ l.list.length ∧ (backS l).1.marks.length ≤ l.marks.length := by
  unfold backS
  split
  · split
    · simp
    · simp only [List.length_take]; omega
  · simp
theorem lastS_len (l : Log) : (lastS l).length ≤ l.list.length := by
  unfold lastS
  split
  · exact last_len _
  · simp

/-- Behind a write. -/
theorem other_law (l m : Log) (x : Write) (h : putS l x = (m, 0)) : getS m x.cell = (x.value, true) ∧ (∀ c, c ≠ x.cell → getS m c = getS l c) ∧ m.list.length = l.list.length + 1 := by
  obtain ⟨h1, _, _, rfl, h5⟩ := put_ok l m x h
  have e : ∀ c, getS ⟨l.list ++ [x], l.marks⟩ c = orNo (getL (l.list ++ [x]) c) := fun c => by unfold getS; rw [if_pos h5]
  refine ⟨by rw [e, get_app, if_pos rfl]; rfl, fun c hc => ?_, by simp⟩
  rw [e, get_app, if_neg (fun e => hc e.symm)]
  unfold getS; rw [if_pos h1]
/-- Behind a mark. -/
theorem mark_told (l m : Log) (hr : rightB l = true) (e : Int) (h : markS l = (m, e)) (c : Int) : getS m c = getS l c ∧ lastS m = lastS l := by
  by_cases he : e = 0
  · subst he
    have hm := (mark_ext l m h).2
    have hl : m.list = l.list := by
      have := mark_ext l m h
      unfold markS at h
      rw [if_pos hr] at h
      split at h
      · injection h with h _; rw [h]
      · injection h with h _; rw [← h]
    unfold getS lastS
    rw [if_pos hr, if_pos hm, if_pos hr, if_pos hm, hl]
    exact ⟨rfl, rfl⟩
  · rw [mark_err l m e h he]; exact ⟨rfl, rfl⟩
theorem keep_told (l : Log) (hr : rightB l = true) : lastS ⟨l.list, l.marks.take (l.marks.length - 1)⟩ = lastS l := by
  unfold lastS; rw [if_pos hr, if_pos (keep_right l hr)]

/-- What a heap makes of the last writes. -/
theorem lastV_get (i : Nat) (l : List Write) (v : Int) : Heap.lastV i l v = (getL l (i : Int)).getD v := by
  unfold Heap.lastV
  induction l generalizing v with
  | nil => rfl
  | cons y l ih =>
    simp only [List.foldl_cons]
    rw [ih, get_cons]
    cases getL l (i : Int) with
    | some u => rfl
    | none => by_cases h : y.cell = (i : Int) <;> simp [h]
theorem last_all (l : List Write) (p : Int → Bool) : (lastL l).all (fun w => p w.cell) = l.all (fun w => p w.cell) := by
  rw [Bool.eq_iff_iff, List.all_eq_true, List.all_eq_true]
  constructor
  · intro h x hx
    obtain ⟨y, hy, hc⟩ := last_cell l x hx
    rw [← hc]; exact h y hy
  · intro h x hx
    exact h x (last_sub l x hx)
theorem last_put (l : Log) (hr : rightB l = true) (h : List Heap.Cell) : Heap.putS h (lastS l) = Heap.putS h l.list := by
  obtain ⟨_, h2, _, _⟩ := (right_parts l).1 hr
  have hv : l.list.all (fun w => vB w.value) = true := by
    rw [List.all_eq_true] at *
    intro x hx
    have := h2 x hx
    unfold oneB at this
    rw [Bool.and_eq_true] at this
    exact this.2
  have hv2 : (lastL l.list).all (fun w => vB w.value) = true := by
    rw [List.all_eq_true] at *
    exact fun x hx => hv x (last_sub _ _ hx)
  have hlv := last_all l.list (fun c => Heap.liveAt h c)
  unfold lastS
  rw [if_pos hr]
  unfold Heap.putS
  rw [hv, hv2, hlv]
  by_cases hh : (Heap.rightB h && true) = true
  · rw [if_pos hh, if_pos hh]
    by_cases hl : l.list.all (fun w => Heap.liveAt h w.cell) = true
    · rw [if_pos hl, if_pos hl]
      congr 1
      apply List.ext_getElem?
      intro i
      by_cases hi : i < h.length
      · have hx : h[i]? = some h[i] := List.getElem?_eq_getElem hi
        rw [Heap.putAll_at h _ hl i _ hx, Heap.putAll_at h _ (hlv.trans hl) i _ hx, lastV_get, lastV_get, last_get]
      · rw [List.getElem?_eq_none (by rw [Heap.putAll_len]; omega), List.getElem?_eq_none (by rw [Heap.putAll_len]; omega)]
    · rw [if_neg hl, if_neg hl]
  · rw [if_neg hh, if_neg hh]
/-- What is told of each of the last writes. -/
theorem last_told (l : Log) (hr : rightB l = true) (i : Nat) (x : Write) (hx : (lastS l)[i]? = some x) : getS l x.cell = (x.value, true) ∧ ∀ y, 0 < i → (lastS l)[i - 1]? = some y → y.cell < x.cell := by
  unfold lastS at *
  rw [if_pos hr] at *
  obtain ⟨hi, rfl⟩ := List.getElem?_eq_some_iff.1 hx
  constructor
  · unfold getS; rw [if_pos hr, last_mem _ _ (List.getElem_mem hi)]; rfl
  · intro y h0 hy
    obtain ⟨hj, rfl⟩ := List.getElem?_eq_some_iff.1 hy
    exact List.pairwise_iff_getElem.1 (last_rise l.list) (i - 1) i hj hi (by omega)
end Go.Proofs.Ytjmilnfemjnhoaa.Writes
