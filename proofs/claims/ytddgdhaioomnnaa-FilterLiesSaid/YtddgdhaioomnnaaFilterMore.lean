/-
  PLAIN LAWS ON WHO IS WOKEN: what each statement of layer 16 asks, of the plain definitions. No conditions beyond those that each theorem states. Nothing of the program is named here.
-/
import Derived.Test.YtddgdhaioomnnaaFilterPlain
namespace Go.Proofs.Ytddgdhaioomnnaa.Filter
open Heap (Write)
open Sleep (Sl)

theorem filt_two {α : Type} (l : List α) (p : α → Bool) : (l.filter (fun x => !p x)).length + (l.filter p).length = l.length := by
  induction l with
  | nil => rfl
  | cons a l ih =>
    by_cases h : p a = true
    · simp [h]; omega
    · simp [h]; omega
theorem rest_len (L : List Sl) (h : List Heap.Cell) (cs : List Int) : (restS L h cs).length + (wokenS L h cs).length = L.length := by
  unfold restS wokenS
  by_cases hr : Sleep.rightB L = true
  · rw [if_pos hr, if_pos hr, List.length_map]; exact filt_two L _
  · rw [if_neg hr, if_neg hr]; rfl
theorem rest_sub (L : List Sl) (h : List Heap.Cell) (cs : List Int) : (restS L h cs).Sublist L := by
  unfold restS
  split
  · exact List.filter_sublist
  · exact List.Sublist.refl _
theorem rest_right (L : List Sl) (h : List Heap.Cell) (cs : List Int) : Sleep.rightB (restS L h cs) = Sleep.rightB L := by
  cases hr : Sleep.rightB L
  · unfold restS; rw [if_neg (by rw [hr]; decide), hr]
  · exact Sleep.right_sub L _ (rest_sub L h cs) hr
theorem sees_app (W : List Write) (a b : List Int) : Sleep.seesB W (a ++ b) = (Sleep.seesB W a || Sleep.seesB W b) := by
  rw [Bool.eq_iff_iff, Bool.or_eq_true]
  unfold Sleep.seesB
  simp only [List.any_eq_true, List.mem_append]
  constructor
  · rintro ⟨w, hw, c, hc | hc, e⟩
    · exact .inl ⟨w, hw, c, hc, e⟩
    · exact .inr ⟨w, hw, c, hc, e⟩
  · rintro (⟨w, hw, c, hc, e⟩ | ⟨w, hw, c, hc, e⟩)
    · exact ⟨w, hw, c, .inl hc, e⟩
    · exact ⟨w, hw, c, .inr hc, e⟩
theorem wake_app (h : List Heap.Cell) (a b : List Int) (s : Sl) : wakeB h (a ++ b) s = (wakeB h a s || wakeB h b s) := by
  unfold wakeB; rw [sees_app]
  cases Sleep.seesB s.watch a <;> cases Sleep.seesB s.watch b <;> cases mayS s h <;> rfl
theorem rest_yes (L : List Sl) (h : List Heap.Cell) (cs : List Int) (hr : Sleep.rightB L = true) : restS L h cs = L.filter (fun s => !wakeB h cs s) := by unfold restS; rw [if_pos hr]
/-- In two parts, or at once: who sleeps on. -/
theorem parts_rest (L : List Sl) (h : List Heap.Cell) (a b : List Int) : restS (restS L h a) h b = restS L h (a ++ b) := by
  have hr := rest_right L h a
  by_cases hL : Sleep.rightB L = true
  · rw [hL] at hr
    rw [rest_yes _ h b hr, rest_yes L h a hL, rest_yes L h (a ++ b) hL, List.filter_filter]
    refine List.filter_congr (fun s _ => ?_)
    rw [wake_app]
    cases wakeB h a s <;> cases wakeB h b s <;> rfl
  · unfold restS; rw [if_neg hL, if_neg hL, if_neg hL]
theorem parts_len (L : List Sl) (h : List Heap.Cell) (a b : List Int) : (wokenS L h a).length + (wokenS (restS L h a) h b).length = (wokenS L h (a ++ b)).length := by
  have h1 := rest_len L h a
  have h2 := rest_len (restS L h a) h b
  have h3 := rest_len L h (a ++ b)
  rw [parts_rest] at h2
  omega
theorem woken_le (L : List Sl) (h : List Heap.Cell) (cs : List Int) : (wokenS L h cs).length ≤ L.length := by have := rest_len L h cs; omega

/-- Whoever is told of watches; whoever is woken does both. -/
theorem sure_of (L : List Sl) (cs : List Int) (hr : Sleep.rightB L = true) (s : Sl) (hs : s ∈ L) : (Sleep.ofS L cs).contains s.who = Sleep.seesB s.watch cs := by
  unfold Sleep.ofS; rw [if_pos hr]; exact mem_woken L (fun s => Sleep.seesB s.watch cs) hr s hs
theorem sure_woken (L : List Sl) (h : List Heap.Cell) (cs : List Int) (hr : Sleep.rightB L = true) (s : Sl) (hs : s ∈ L) : (wokenS L h cs).contains s.who = (Sleep.seesB s.watch cs && mayS s h) := by
  unfold wokenS; rw [if_pos hr]; exact mem_woken L (wakeB h cs) hr s hs
theorem sure_has (L : List Sl) (h : List Heap.Cell) (cs : List Int) (hr : Sleep.rightB L = true) (s : Sl) (hs : s ∈ L) : Sleep.hasB (restS L h cs) s.who = !(Sleep.seesB s.watch cs && mayS s h) := by
  have hw : (Sleep.seesB s.watch cs && mayS s h) = wakeB h cs s := rfl
  rw [hw]
  unfold restS; rw [if_pos hr]
  rw [Bool.eq_iff_iff]
  unfold Sleep.hasB
  rw [List.any_eq_true]
  constructor
  · rintro ⟨y, hy, e⟩
    have h1 := List.mem_filter.1 hy
    rw [← who_inj L hr y s h1.1 hs (by simpa using e)]; exact h1.2
  · intro h; exact ⟨s, List.mem_filter.2 ⟨hs, h⟩, by simp⟩
theorem has_find (L : List Sl) (w : Int) (hr : Sleep.rightB L = true) : ((Sleep.findS L w).2 == 0) = Sleep.hasB L w := by
  unfold Sleep.findS; rw [if_pos hr]
  cases hb : Sleep.hasB L w
  · rw [Sleep.find_none L w hb]; rfl
  · obtain ⟨p, hp⟩ := Sleep.found_ex L w hr
    rw [hb] at hp
    obtain ⟨x, -, -, hx⟩ := Sleep.found_find L w p hp
    rw [hx]; rfl
theorem sure_find (L : List Sl) (h : List Heap.Cell) (cs : List Int) (hr : Sleep.rightB L = true) (s : Sl) (hs : s ∈ L) : ((Sleep.findS (restS L h cs) s.who).2 == 0) = !(Sleep.seesB s.watch cs && mayS s h) := by
  rw [has_find _ _ (by rw [rest_right]; exact hr), sure_has L h cs hr s hs]

/-- Who lies down. -/
theorem lie_ok (L : List Sl) (s : Sl) (h : List Heap.Cell) (e : (lieS L s h).2 = 0) :
    Heap.rightB h = true ∧ lieS L s h = Sleep.addS L s ∧ (Sleep.addS L s).2 = 0 ∧ (s.mode = 1 ∨ mayS s h = false) := by
  unfold lieS at e ⊢
  by_cases h1 : Heap.rightB h = true
  · rw [if_pos h1] at e ⊢
    by_cases h2 : (Sleep.addS L s).2 = 0
    · rw [if_pos h2] at e ⊢
      by_cases h3 : s.mode ≠ 1 ∧ mayS s h = true
      · rw [if_pos h3] at e; exact absurd e (by show ¬ (9 : Int) = 0; decide)
      · rw [if_neg h3]
        refine ⟨h1, rfl, h2, ?_⟩
        by_cases h4 : s.mode = 1
        · exact .inl h4
        · exact .inr (by cases hm : mayS s h
                         · rfl
                         · exact absurd ⟨h4, hm⟩ h3)
    · rw [if_neg h2] at e; exact absurd e h2
  · rw [if_neg h1] at e; exact absurd e (by show ¬ (1 : Int) = 0; decide)
theorem lie_no (L : List Sl) (s : Sl) (h : List Heap.Cell) (e : (lieS L s h).2 ≠ 0) : (lieS L s h).1 = L := by
  unfold lieS at e ⊢
  by_cases h1 : Heap.rightB h = true
  · rw [if_pos h1] at e ⊢
    by_cases h2 : (Sleep.addS L s).2 = 0
    · rw [if_pos h2] at e ⊢
      by_cases h3 : s.mode ≠ 1 ∧ mayS s h = true
      · rw [if_pos h3]
      · rw [if_neg h3] at e; exact absurd h2 e
    · rw [if_neg h2]
  · rw [if_neg h1]
theorem lie_again (L : List Sl) (s : Sl) (h : List Heap.Cell) (e : (lieS L s h).2 = 0) : (lieS (lieS L s h).1 s h).2 = 9 := by
  obtain ⟨h1, h2, h3, -⟩ := lie_ok L s h e
  obtain ⟨g1, g2, g3, g4, g5⟩ := Sleep.add_ok L s h3
  rw [h2, g4]
  show (lieS (Sleep.insS L s) s h).2 = 9
  have ha : Sleep.addS (Sleep.insS L s) s = (Sleep.insS L s, 9) := by
    unfold Sleep.addS; rw [g5, g2, if_pos (by rfl), if_pos (by rw [Sleep.ins_has]; simp)]
  unfold lieS
  rw [if_pos h1, ha, if_neg (by show ¬ (9 : Int) = 0; decide)]
theorem lie_drop (L : List Sl) (s : Sl) (h : List Heap.Cell) (e : (lieS L s h).2 = 0) : Sleep.dropS (lieS L s h).1 [s.who] = (L, 0) := by
  obtain ⟨h1, h2, h3, -⟩ := lie_ok L s h e
  obtain ⟨g1, g2, g3, g4, g5⟩ := Sleep.add_ok L s h3
  rw [h2, g4]
  show Sleep.dropS (Sleep.insS L s) [s.who] = (L, 0)
  unfold Sleep.dropS
  rw [if_pos g5]
  have : Sleep.dropG (Sleep.insS L s) [s.who] = some L := by
    show (if Sleep.hasB (Sleep.insS L s) s.who = true then Sleep.dropG (Sleep.delS (Sleep.insS L s) s.who) [] else none) = _
    rw [if_pos (by rw [Sleep.ins_has]; simp), Sleep.ins_del L s g1 g3]; rfl
  rw [this]
theorem lie_nil (s : Sl) (h : List Heap.Cell) (e : (lieS [] s h).2 = 0) : lieS [] s h = ([s], 0) ∧ Sleep.oneB s = true ∧ Heap.rightB h = true ∧ (s.mode = 1 ∨ mayS s h = false) := by
  obtain ⟨h1, h2, h3, h4⟩ := lie_ok [] s h e
  obtain ⟨g1, g2, g3, g4, g5⟩ := Sleep.add_ok [] s h3
  exact ⟨by rw [h2, g4]; rfl, g2, h1, h4⟩

/-- A write of what is not watched does not change whether they may go on. -/
theorem get_set (h : List Heap.Cell) (a : Nat) (v c : Int) (hr : Heap.rightB h = true) (hr2 : Heap.rightB (h.set a ⟨true, v⟩) = true) (hc : 0 ≤ c) (hne : c ≠ (a : Int)) : Heap.getS (h.set a ⟨true, v⟩) c = Heap.getS h c := by
  have e3 : (h.set a ⟨true, v⟩)[c.toNat]? = h[c.toNat]? := List.getElem?_set_ne (fun e => hne (by omega))
  have e4 : Heap.liveAt (h.set a ⟨true, v⟩) c = Heap.liveAt h c := by unfold Heap.liveAt; rw [e3]
  have e5 : Heap.valAt (h.set a ⟨true, v⟩) c = Heap.valAt h c := by unfold Heap.valAt; rw [e3]
  unfold Heap.getS
  rw [if_pos hr, if_pos hr2, e4, e5]
theorem one_watch (s : Sl) (h : Sleep.oneB s = true) : Sleep.watchB s.watch = true ∧ Sleep.termB s.mode s.watch s.term = true := by
  unfold Sleep.oneB at h
  rw [Bool.and_eq_true, Bool.and_eq_true, Bool.and_eq_true] at h
  exact h.2
theorem watch_cell (W : List Write) (h : Sleep.watchB W = true) (w : Write) (hw : w ∈ W) : 0 ≤ w.cell ∧ w.cell ≤ 63 := by
  unfold Sleep.watchB Sleep.goodW at h
  rw [Bool.and_eq_true, Bool.and_eq_true, List.all_eq_true] at h
  have := h.2.1 w hw
  unfold Sleep.wOk at this
  rw [Bool.and_eq_true, decide_eq_true_eq] at this
  exact this.1
theorem put_one_ok (g : List Heap.Cell) (x : Write) (next : List Heap.Cell) (hg : Heap.rightB g = true) (hp : Heap.putS g [x] = (next, 0)) :
    ∃ k : Nat, x.cell = (k : Int) ∧ k < 64 ∧ Heap.vB x.value = true ∧ next = g.set k ⟨true, x.value⟩ ∧ Heap.rightB next = true ∧ next.length = g.length := by
  rcases Heap.put_cases g [x] hg with ⟨h1, h2, h3⟩ | ⟨e, he, h3, -⟩
  · rw [h3] at hp
    have hn : Heap.putAll g [x] = next := congrArg Prod.fst hp
    simp only [List.all_cons, List.all_nil, Bool.and_true] at h1 h2
    obtain ⟨h0, hl, -⟩ := Heap.live_in g x.cell h2
    have h6 := (Heap.right_len g hg).2
    obtain ⟨k, hk⟩ := Int.eq_ofNat_of_zero_le h0
    have hs : next = g.set k ⟨true, x.value⟩ := by
      rw [← hn]; show Heap.setAt g x.cell ⟨true, x.value⟩ = _
      unfold Heap.setAt; rw [if_neg (by omega), hk]; rfl
    refine ⟨k, hk, by rw [hk] at hl; simp at hl; omega, h1, hs, ?_, by rw [hs, List.length_set]⟩
    rw [← hn]; exact Heap.putAll_right g [x] hg (by simpa using h1)
  · rw [h3] at hp; injection hp with _ hp; exact absurd hp he
theorem may_other (s : Sl) (g : List Heap.Cell) (x : Write) (next : List Heap.Cell) (hs : Sleep.oneB s = true) (hm : s.mode ≠ 1) (hg : Heap.rightB g = true) (hp : Heap.putS g [x] = (next, 0))
    (hn : Sleep.seesB s.watch [x.cell] = false) : mayS s next = mayS s g := by
  obtain ⟨k, hk, hk64, hv, hnx, hnr, -⟩ := put_one_ok g x next hg hp
  obtain ⟨hw, ht⟩ := one_watch s hs
  have hno : ∀ w ∈ s.watch, w.cell ≠ x.cell := by
    intro w hwm e
    unfold Sleep.seesB at hn
    rw [List.any_eq_false] at hn
    exact hn w hwm (by simp [e])
  unfold mayS
  rw [hg, hnr]
  congr 1
  unfold modeB
  rw [if_neg hm, if_neg hm]
  by_cases h2 : s.mode = 2
  · rw [if_pos h2, if_pos h2]
    unfold otherB
    rw [Bool.eq_iff_iff, List.any_eq_true, List.any_eq_true]
    have hd : ∀ w ∈ s.watch, diffB next w = diffB g w := by
      intro w hwm
      unfold diffB
      rw [hnx, get_set g k x.value w.cell hg (by rw [← hnx]; exact hnr) (watch_cell _ hw w hwm).1 (by rw [← hk]; exact hno w hwm)]
    constructor
    · rintro ⟨w, hwm, e⟩; exact ⟨w, hwm, by rw [← hd w hwm]; exact e⟩
    · rintro ⟨w, hwm, e⟩; exact ⟨w, hwm, by rw [hd w hwm]; exact e⟩
  · rw [if_neg h2, if_neg h2]
    have h3 : s.mode = 3 := by rcases mode_one s hs with h | h | h <;> omega
    unfold Sleep.termB at ht
    rw [if_neg (by omega), if_pos h3, Bool.and_eq_true, Bool.and_eq_true, decide_eq_true_eq, decide_eq_true_eq] at ht
    have hc : Term.cellsS s.term = s.watch.map Write.cell := ht.2.2
    have hin : (k : Int) ∉ Term.cellsS s.term := by
      rw [hc, List.mem_map]
      rintro ⟨w, hwm, e⟩
      exact hno w hwm (by rw [e, hk])
    have hone : Term.evalS s.term next [] = Term.evalS s.term g [] ∨ (Term.evalS s.term g []).2 = 1 := by
      rw [hnx]
      rcases Term.names_other s.term g [] k ⟨true, x.value⟩ (by unfold Heap.cellB; simp [hv]) hin hk64 with h | h
      · exact .inr h
      · exact .inl h
    rcases hone with h | h
    · unfold heldB; rw [h]
    · -- the other way round
      have hback : (Term.evalS s.term next []).2 = 1 ∨ Term.evalS s.term (next.set k (g[k]?.getD ⟨false, 0⟩)) [] = Term.evalS s.term next [] := by
        refine Term.names_other s.term next [] k _ ?_ hin hk64
        cases hgk : g[k]? with
        | none => rfl
        | some c => exact Heap.right_cell g hg k c hgk
      have hgg : next.set k (g[k]?.getD ⟨false, 0⟩) = g := by
        rw [hnx, List.set_set]
        apply List.ext_getElem?
        intro i
        by_cases hi : i = k
        · subst hi
          by_cases hl : i < g.length
          · rw [List.getElem?_set_self hl, List.getElem?_eq_getElem hl]; rfl
          · rw [List.getElem?_eq_none (by rw [List.length_set]; omega), List.getElem?_eq_none (by omega)]
        · rw [List.getElem?_set_ne (fun e => hi e.symm)]
      unfold heldB
      rcases hback with h5 | h5
      · rw [h, h5]; rfl
      · rw [hgg] at h5; rw [h5]
theorem last_sees (s : Sl) (g : List Heap.Cell) (x : Write) (next : List Heap.Cell) (hs : Sleep.oneB s = true) (hm : s.mode ≠ 1) (hg : Heap.rightB g = true) (hp : Heap.putS g [x] = (next, 0)) (hf : mayS s g = false) :
    wakeB next [x.cell] s = mayS s next := by
  unfold wakeB
  cases hn : Sleep.seesB s.watch [x.cell]
  · rw [may_other s g x next hs hm hg hp hn, hf]; rfl
  · rfl
theorem woken_one (s : Sl) (h : List Heap.Cell) (cs : List Int) (hs : Sleep.oneB s = true) : wokenS [s] h cs = if wakeB h cs s = true then [s.who] else [] := by
  unfold wokenS; rw [if_pos (one_of s hs)]
  by_cases hw : wakeB h cs s = true
  · simp [hw]
  · simp [hw]
theorem rest_one (s : Sl) (h : List Heap.Cell) (cs : List Int) (hs : Sleep.oneB s = true) : restS [s] h cs = if wakeB h cs s = true then [] else [s] := by
  unfold restS; rw [if_pos (one_of s hs)]
  by_cases hw : wakeB h cs s = true
  · simp [hw]
  · simp [hw]
theorem woken_bad (s : Sl) (h : List Heap.Cell) (cs : List Int) (hs : Sleep.oneB s = false) : wokenS [s] h cs = [] := by
  unfold wokenS; rw [if_neg (by rw [one_right, hs]; decide)]

/-- Any and Other that watch the same. -/
def anyS (n : Int) (W : List Write) : Sl := ⟨n, 1, 0, W, []⟩
def othS (n : Int) (W : List Write) : Sl := ⟨n, 2, 0, W, []⟩
theorem one_same (n : Int) (W : List Write) : Sleep.oneB (othS n W) = Sleep.oneB (anyS n W) := by
  unfold Sleep.oneB othS anyS Sleep.termB
  rfl
theorem modes_le (n : Int) (W : List Write) (h : List Heap.Cell) (cs : List Int) : (wokenS [othS n W] h cs).length ≤ (wokenS [anyS n W] h cs).length ∧ (wokenS [anyS n W] h cs).length ≤ 1 := by
  refine ⟨?_, woken_le _ _ _⟩
  cases ho : Sleep.oneB (anyS n W)
  · rw [woken_bad _ _ _ ho, woken_bad _ _ _ (by rw [one_same]; exact ho)]; exact Nat.le_refl _
  · rw [woken_one _ _ _ ho, woken_one _ _ _ (by rw [one_same]; exact ho)]
    cases hw : wakeB h cs (othS n W)
    · simp
    · have : wakeB h cs (anyS n W) = true := by
        unfold wakeB mayS at hw ⊢
        rw [Bool.and_eq_true, Bool.and_eq_true, one_same] at hw
        rw [Bool.and_eq_true, Bool.and_eq_true]
        exact ⟨hw.1, hw.2.1, rfl⟩
      rw [this]; simp
theorem modes_met (n : Int) (W : List Write) (h : List Heap.Cell) (w : List Write) (hm : w.any (fun x => W.any (fun y => x.cell == y.cell)) = false) : wokenS [anyS n W] h (w.map Write.cell) = [] := by
  cases ho : Sleep.oneB (anyS n W)
  · exact woken_bad _ _ _ ho
  · rw [woken_one _ _ _ ho, if_neg]
    have hs : Sleep.seesB W (w.map Write.cell) = false := by
      unfold Sleep.seesB
      rw [List.any_eq_false]
      intro y hy
      rw [List.any_map, Bool.not_eq_true, List.any_eq_false]
      intro x hx
      rw [List.any_eq_false] at hm
      have h1 := hm x hx
      rw [Bool.not_eq_true, List.any_eq_false] at h1
      exact h1 y hy
    unfold wakeB
    show ¬ (Sleep.seesB W (w.map Write.cell) && _) = true
    rw [hs]; simp
theorem lastV_none (i : Nat) (l : List Write) (v : Int) (h : ∀ y ∈ l, y.cell ≠ (i : Int)) : Heap.lastV i l v = v := by
  induction l generalizing v with
  | nil => rfl
  | cons a l ih =>
    show Heap.lastV i l (if a.cell = (i : Int) then a.value else v) = v
    rw [if_neg (h a (List.mem_cons_self ..))]
    exact ih v (fun y hy => h y (List.mem_cons_of_mem _ hy))
theorem lastV_mem (i : Nat) (l : List Write) (v : Int) (hp : (l.map Write.cell).Pairwise (· < ·)) (y : Write) (hy : y ∈ l) (e : y.cell = (i : Int)) : Heap.lastV i l v = y.value := by
  induction l generalizing v with
  | nil => cases hy
  | cons a l ih =>
    rw [List.map_cons, List.pairwise_cons] at hp
    show Heap.lastV i l (if a.cell = (i : Int) then a.value else v) = y.value
    rcases List.mem_cons.1 hy with rfl | hy
    · rw [if_pos e]
      exact lastV_none i l _ (fun z hz e2 => by have := hp.1 z.cell (List.mem_map.2 ⟨z, hz, rfl⟩); omega)
    · exact ih _ hp.2 hy
theorem modes_put (n : Int) (W : List Write) (h g : List Heap.Cell) (hp : Heap.putS h W = (g, 0)) (cs : List Int) : wokenS [othS n W] g cs = [] := by
  cases ho : Sleep.oneB (othS n W)
  · exact woken_bad _ _ _ ho
  · rw [woken_one _ _ _ ho, if_neg]
    have hw := (one_watch _ ho).1
    have hw' : Sleep.watchB W = true := hw
    unfold Sleep.watchB Sleep.goodW Sleep.upB at hw'
    rw [Bool.and_eq_true, Bool.and_eq_true, decide_eq_true_eq, decide_eq_true_eq] at hw'
    have hrh : Heap.rightB h = true := by
      cases hb : Heap.rightB h
      · unfold Heap.putS at hp; rw [hb] at hp
        injection hp with _ hp; exact absurd hp (by decide)
      · rfl
    have hk : ∀ y ∈ W, diffB g y = false := by
      intro y hy
      rcases Heap.put_cases h W hrh with ⟨h1, h2, h3⟩ | ⟨e, he, h3, -⟩
      · rw [h3] at hp
        have hg : Heap.putAll h W = g := congrArg Prod.fst hp
        have hlive := List.all_eq_true.1 h2 y hy
        obtain ⟨h0, hl, c, hc, hcl⟩ := Heap.live_in h y.cell hlive
        obtain ⟨k, hk⟩ := Int.eq_ofNat_of_zero_le h0
        have hrg : Heap.rightB g = true := by rw [← hg]; exact Heap.putAll_right h W hrh h1
        have hcc : h[k]? = some c := by rw [hk] at hc; exact hc
        have hat := Heap.putAll_at h W h2 k c hcc
        rw [hg, lastV_mem k W c.value hw'.2.2 y hy hk] at hat
        have hlg : Heap.liveAt g y.cell = true := by rw [← hg, Heap.putAll_live h W h2]; exact hlive
        have hvg : Heap.valAt g y.cell = y.value := by rw [hk]; exact Heap.val_at g k _ hat
        unfold diffB Heap.getS
        rw [if_pos hrg, if_pos hlg, hvg]; simp
      · rw [h3] at hp; injection hp with _ hp; exact absurd hp he
    have hob : otherB W g = false := by
      unfold otherB; rw [List.any_eq_false]; intro y hy; rw [hk y hy]; decide
    unfold wakeB mayS modeB
    show ¬ (_ && (_ && (if (2 : Int) = 1 then true else if (2 : Int) = 2 then otherB W g else _))) = true
    rw [if_neg (by decide), if_pos rfl, hob]; simp
end Go.Proofs.Ytddgdhaioomnnaa.Filter
