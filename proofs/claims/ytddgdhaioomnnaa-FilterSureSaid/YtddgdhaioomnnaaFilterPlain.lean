/-
  PLAIN DEFINITIONS: who may go on, who is woken by what is written, and who may lie down, as the chapter on the filter asks; small laws on these. No conditions beyond those that each theorem states. Nothing of the program is named here.
-/
import Derived.Test.YtddgdhaioomnnaaSleepPlain
import Derived.Test.YtddgdhaioomnnaaTermB
namespace Go.Proofs.Ytddgdhaioomnnaa.Filter
open Heap (Write)
open Sleep (Sl)

/-- Is a cell not as it was watched? -/
def diffB (h : List Heap.Cell) (w : Write) : Bool := !((Heap.getS h w.cell).2 == 0 && (Heap.getS h w.cell).1 == w.value)
def otherB (W : List Write) (h : List Heap.Cell) : Bool := W.any (diffB h)
def heldB (T : List Term.Op) (h : List Heap.Cell) : Bool := (Term.evalS T h []).2 == 0 && (Term.evalS T h []).1 != 0
def modeB (s : Sl) (h : List Heap.Cell) : Bool := if s.mode = 1 then true else if s.mode = 2 then otherB s.watch h else heldB s.term h
def mayS (s : Sl) (h : List Heap.Cell) : Bool := (Sleep.oneB s && Heap.rightB h) && modeB s h
def wakeB (h : List Heap.Cell) (cs : List Int) (s : Sl) : Bool := Sleep.seesB s.watch cs && mayS s h
def wokenS (L : List Sl) (h : List Heap.Cell) (cs : List Int) : List Int := if Sleep.rightB L = true then (L.filter (wakeB h cs)).map Sl.who else []
def restS (L : List Sl) (h : List Heap.Cell) (cs : List Int) : List Sl := if Sleep.rightB L = true then L.filter (fun s => !wakeB h cs s) else L
def lieS (L : List Sl) (s : Sl) (h : List Heap.Cell) : List Sl × Int :=
  if Heap.rightB h = true then (if (Sleep.addS L s).2 = 0 then (if s.mode ≠ 1 ∧ mayS s h = true then (L, 9) else Sleep.addS L s) else (L, (Sleep.addS L s).2)) else (L, 1)

theorem add_err (L : List Sl) (s : Sl) (h : (Sleep.addS L s).2 ≠ 0) : Sleep.addS L s = (L, (Sleep.addS L s).2) := by
  unfold Sleep.addS at *
  split
  · split
    · rfl
    · rename_i h1 h2; rw [if_pos h1, if_neg h2] at h; exact absurd rfl h
  · rfl
theorem mode_one (s : Sl) (h : Sleep.oneB s = true) : s.mode = 1 ∨ s.mode = 2 ∨ s.mode = 3 := by
  unfold Sleep.oneB at h
  rw [Bool.and_eq_true, Bool.and_eq_true, Bool.and_eq_true] at h
  have h2 := h.2.2
  unfold Sleep.termB at h2
  by_cases h1 : s.mode = 1
  · exact .inl h1
  · by_cases h3 : s.mode = 2
    · exact .inr (.inl h3)
    · by_cases h4 : s.mode = 3
      · exact .inr (.inr h4)
      · rw [if_neg (by omega), if_neg h4] at h2; cases h2
theorem one_of (s : Sl) (h : Sleep.oneB s = true) : Sleep.rightB [s] = true := by
  unfold Sleep.rightB Sleep.upB Sleep.whos
  simp [h]
theorem one_right (s : Sl) : Sleep.rightB [s] = Sleep.oneB s := by
  unfold Sleep.rightB Sleep.upB Sleep.whos
  simp
theorem who_inj (L : List Sl) (hr : Sleep.rightB L = true) (x y : Sl) (hx : x ∈ L) (hy : y ∈ L) (e : x.who = y.who) : x = y := by
  obtain ⟨i, hi, rfl⟩ := List.getElem_of_mem hx
  obtain ⟨j, hj, rfl⟩ := List.getElem_of_mem hy
  rcases Nat.lt_trichotomy i j with h | rfl | h
  · have := Sleep.right_at L hr i j h _ _ (List.getElem?_eq_getElem hi) (List.getElem?_eq_getElem hj); omega
  · rfl
  · have := Sleep.right_at L hr j i h _ _ (List.getElem?_eq_getElem hj) (List.getElem?_eq_getElem hi); omega
theorem find_mem (L : List Sl) (hr : Sleep.rightB L = true) (x : Sl) (hx : x ∈ L) : Sleep.findG L x.who = some x := by
  unfold Sleep.findG
  cases h : L.find? (fun s => s.who == x.who) with
  | none => rw [List.find?_eq_none] at h; have := h x hx; simp at this
  | some y =>
    have h1 := List.mem_of_find?_eq_some h
    have h2 := List.find?_some h
    rw [who_inj L hr y x h1 hx (by simpa using h2)]
theorem findS_mem (L : List Sl) (hr : Sleep.rightB L = true) (x : Sl) (hx : x ∈ L) : Sleep.findS L x.who = (x, 0) := by
  unfold Sleep.findS; rw [if_pos hr, find_mem L hr x hx]
/-- Who is woken, by one by one of those who watch. -/
theorem woken_of (L : List Sl) (h : List Heap.Cell) (cs : List Int) : wokenS L h cs = (Sleep.ofS L cs).filter (fun w => mayS (Sleep.findS L w).1 h) := by
  unfold wokenS Sleep.ofS
  by_cases hr : Sleep.rightB L = true
  · rw [if_pos hr, if_pos hr, List.filter_map, List.filter_filter]
    congr 1
    refine List.filter_congr (fun s hs => ?_)
    simp only [Function.comp]
    rw [findS_mem L hr s hs]
    unfold wakeB
    exact Bool.and_comm _ _
  · rw [if_neg hr, if_neg hr]; rfl
theorem dropG_all (ws : List Int) : ∀ L : List Sl, ws.Pairwise (· < ·) → (∀ w ∈ ws, Sleep.hasB L w = true) → Sleep.dropG L ws = some (L.filter (fun x => !ws.contains x.who)) := by
  induction ws with
  | nil => intro L _ _; show some L = _; congr 1; symm; rw [List.filter_eq_self]; intro x _; rfl
  | cons w t ih =>
    intro L hp hh
    rw [List.pairwise_cons] at hp
    show (if Sleep.hasB L w = true then Sleep.dropG (Sleep.delS L w) t else none) = _
    rw [if_pos (hh w (List.mem_cons_self ..)), ih (Sleep.delS L w) hp.2 (fun v hv => by
      rw [Sleep.del_has, hh v (List.mem_cons_of_mem _ hv)]
      have := hp.1 v hv
      have hne : v ≠ w := by omega
      simpa using hne)]
    congr 1
    unfold Sleep.delS
    rw [List.filter_filter]
    refine List.filter_congr (fun x _ => ?_)
    rw [List.contains_cons]
    cases h1 : x.who == w <;> simp [bne, h1]
theorem filt_up (L : List Sl) (p : Sl → Bool) (hr : Sleep.rightB L = true) : ((L.filter p).map Sl.who).Pairwise (· < ·) := by
  have h := Sleep.right_up _ (Sleep.right_sub L (L.filter p) List.filter_sublist hr)
  unfold Sleep.upB Sleep.whos at h
  simpa using h
theorem mem_woken (L : List Sl) (p : Sl → Bool) (hr : Sleep.rightB L = true) (x : Sl) (hx : x ∈ L) : ((L.filter p).map Sl.who).contains x.who = p x := by
  rw [Bool.eq_iff_iff, List.contains_iff_mem, List.mem_map]
  constructor
  · rintro ⟨y, hy, e⟩
    have h1 := List.mem_filter.1 hy
    rw [← who_inj L hr y x h1.1 hx e]; exact h1.2
  · intro h; exact ⟨x, List.mem_filter.2 ⟨hx, h⟩, rfl⟩
theorem drop_filt (L : List Sl) (p : Sl → Bool) (hr : Sleep.rightB L = true) : Sleep.dropS L ((L.filter p).map Sl.who) = (L.filter (fun s => !p s), 0) := by
  unfold Sleep.dropS
  rw [if_pos hr, dropG_all _ L (filt_up L p hr) (fun w hw => by
    obtain ⟨x, hx, rfl⟩ := List.mem_map.1 hw
    unfold Sleep.hasB; rw [List.any_eq_true]; exact ⟨x, (List.mem_filter.1 hx).1, by simp⟩)]
  have : L.filter (fun x => !((L.filter p).map Sl.who).contains x.who) = L.filter (fun s => !p s) := by
    refine List.filter_congr (fun x hx => ?_)
    rw [mem_woken L p hr x hx]
  rw [this]
theorem drop_woken (L : List Sl) (h : List Heap.Cell) (cs : List Int) : (Sleep.dropS L (wokenS L h cs)).1 = restS L h cs := by
  unfold wokenS restS
  by_cases hr : Sleep.rightB L = true
  · rw [if_pos hr, if_pos hr, drop_filt L _ hr]
  · rw [if_neg hr, if_neg hr]; unfold Sleep.dropS; rw [if_neg hr]
theorem drop_none (L : List Sl) : (Sleep.dropS L []).1 = L := by
  unfold Sleep.dropS
  split
  · rfl
  · rfl
theorem take_fk {α : Type} (l : List α) (p : α → Bool) (k : Nat) (x : α) (hx : l[k]? = some x) : (l.take (k + 1)).filter p = (l.take k).filter p ++ (if p x = true then [x] else []) := by
  rw [List.take_add_one, hx, List.filter_append]
  by_cases h : p x = true
  · simp [h]
  · simp [h]
theorem of_len (L : List Sl) (cs : List Int) : (Sleep.ofS L cs).length ≤ L.length := by
  unfold Sleep.ofS
  split
  · rw [List.length_map]; exact List.length_filter_le _ _
  · exact Nat.zero_le _
end Go.Proofs.Ytddgdhaioomnnaa.Filter
