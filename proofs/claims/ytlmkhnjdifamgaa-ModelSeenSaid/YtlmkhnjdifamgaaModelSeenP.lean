/-
  PLAIN LEMMAS for the law ModelSeen: a heap with other values in the cells that were not seen. No conditions beyond those that each theorem states. Nothing of the program is named here.
-/
import Derived.Test.YtlmkhnjdifamgaaModelLaws3
namespace Go.Proofs.Ytlmkhnjdifamgaa.Model
open Go.ChangeShapes Go.WideShapes Go.ChangeAt Go.RowKit Mem Go.Proofs.Ytlmkhnjdifamgaa.Code

/-- What is seen is live. -/
theorem part_seenlive (f : Nat) : ∀ (c : List Step) (s : St) (n : Nat), (partF f c s).seen n = true → s.seen n = true ∨ Heap.liveAt s.h (n : Int) = true := by
  induction f with
  | zero => intro c s n h; exact .inl h
  | succ f ih =>
    intro c s n
    cases c with
    | nil => intro h; exact .inl h
    | cons x c =>
      simp only [partF]
      split
      · split
        · rename_i hl
          intro h
          rcases ih c _ n h with h1 | h1
          · change (if s.wrote x.b.toNat = true then s.seen else upd s.seen x.b.toNat) n = true at h1
            split at h1
            · exact .inl h1
            · unfold upd at h1
              split at h1
              · rename_i e
                have h0 := (Heap.live_in s.h x.b hl).1
                refine .inr ?_
                rw [e, Int.toNat_of_nonneg h0]
                exact hl
              · exact .inl h1
          · exact .inr h1
        · intro h; exact .inl h
      split
      · intro h; exact ih c (setTo s x.a (tellM s x.t)) n h
      split
      · split
        · rename_i hl
          intro h
          rcases ih c _ n h with h1 | h1
          · exact .inl h1
          · exact .inr (by rw [← (keeps_stored s x.a (tellM s x.t) hl (tell_v s _)).live]; exact h1)
        · intro h; exact .inl h
      split
      · split
        · exact ih _ s n
        · exact ih _ s n
      split
      · intro h; exact .inl h
      split
      · intro h; exact .inl h
      · have h1 : ∀ n, (partF f (c.take x.a.toNat) (onPath s 1)).seen n = true → s.seen n = true ∨ Heap.liveAt s.h (n : Int) = true := fun n => ih _ _ n
        have h2 : ∀ r : St, r = (if (partF f (c.take x.a.toNat) (onPath s 1)).kind = 2 then partF f ((c.drop x.a.toNat).take x.b.toNat) (saw (onPath s 2) (partF f (c.take x.a.toNat) (onPath s 1)).seen) else partF f (c.take x.a.toNat) (onPath s 1)) → (∀ n, r.seen n = true → s.seen n = true ∨ Heap.liveAt s.h (n : Int) = true) ∧ Keeps s r := by
          rintro r rfl
          have hk1 : Keeps s (partF f (c.take x.a.toNat) (onPath s 1)) := (keeps_path s 1).trans (part_keeps f _ _)
          split
          · refine ⟨fun n h => ?_, (keeps_saw s _ hk1).trans (part_keeps f _ _)⟩
            rcases ih _ _ n h with h3 | h3
            · exact h1 n h3
            · exact .inr h3
          · exact ⟨h1, hk1⟩
        revert h2
        generalize (if (partF f (c.take x.a.toNat) (onPath s 1)).kind = 2 then partF f ((c.drop x.a.toNat).take x.b.toNat) (saw (onPath s 2) (partF f (c.take x.a.toNat) (onPath s 1)).seen) else partF f (c.take x.a.toNat) (onPath s 1)) = r
        intro h2
        obtain ⟨h3, hk⟩ := h2 r rfl
        split
        · intro h
          rcases ih _ _ n h with h4 | h4
          · exact h3 n h4
          · exact .inr (by rw [← hk.live]; exact h4)
        · exact h3 n
/-- A heap with the values of a list in the cells that are live, up to a place. -/
def mix (h : List Heap.Cell) (vs : List Int) : Nat → List Heap.Cell
  | 0 => h
  | j + 1 => match h[j]? with
    | some x => if x.live = true then (mix h vs j).set j ⟨true, (vs[j]?).getD 0⟩ else mix h vs j
    | none => mix h vs j
theorem mix_get (h : List Heap.Cell) (vs : List Int) (j k : Nat) : (mix h vs j)[k]? = (h[k]?).map (fun x => if k < j ∧ x.live = true then ⟨true, (vs[k]?).getD 0⟩ else x) := by
  induction j with
  | zero =>
    show h[k]? = _
    cases h[k]? with
    | none => rfl
    | some x => simp
  | succ j ih =>
    unfold mix
    cases hj : h[j]? with
    | none =>
      simp only
      rw [ih]
      cases hk : h[k]? with
      | none => rfl
      | some x =>
        have hne : k ≠ j := fun e => by rw [e, hj] at hk; cases hk
        have : k < j + 1 ↔ k < j := by omega
        simp [this]
    | some y =>
      simp only
      by_cases hkj : k = j
      · subst hkj
        rw [hj]
        by_cases hy : y.live = true
        · rw [if_pos hy]
          have hlt : k < (mix h vs k).length := by
            have h1 : (mix h vs k)[k]? = some y := by rw [ih, hj]; simp
            exact (List.getElem?_eq_some_iff.1 h1).1
          rw [List.getElem?_set_self hlt]
          simp [hy]
        · rw [if_neg hy, ih, hj]
          simp [hy]
      · have h2 : (if y.live = true then (mix h vs j).set j ⟨true, (vs[j]?).getD 0⟩ else mix h vs j)[k]? = (mix h vs j)[k]? := by
          split
          · rw [List.getElem?_set_ne (fun e => hkj e.symm)]
          · rfl
        rw [h2, ih]
        have : k < j + 1 ↔ k < j := by omega
        simp [this]
theorem mix_len (h : List Heap.Cell) (vs : List Int) (j : Nat) : (mix h vs j).length = h.length := by
  induction j with
  | zero => rfl
  | succ j ih =>
    unfold mix
    split
    · split
      · rw [List.length_set, ih]
      · exact ih
    · exact ih
theorem mix_yes (h : List Heap.Cell) (vs : List Int) (j : Nat) (x : Heap.Cell) (v : Int) (hx : h[j]? = some x) (hv : vs[j]? = some v) (hl : x.live = true) : mix h vs (j + 1) = (mix h vs j).set j ⟨x.live, v⟩ := by
  conv => lhs; unfold mix
  rw [hx, hv]; simp [hl]
theorem mix_no (h : List Heap.Cell) (vs : List Int) (j : Nat) (x : Heap.Cell) (hx : h[j]? = some x) (hl : x.live = false) : mix h vs (j + 1) = mix h vs j := by
  conv => lhs; unfold mix
  rw [hx]; simp [hl]
theorem mix_at (h : List Heap.Cell) (vs : List Int) (j : Nat) : (mix h vs j)[j]? = h[j]? := by
  rw [mix_get]
  cases h[j]? <;> simp
/-- It, with what was there in some cells. -/
def back (h G : List Heap.Cell) (l : List Int) : List Heap.Cell := l.foldl (fun G z => match h[z.toNat]? with | some x => G.set z.toNat x | none => G) G
theorem back_take (h G : List Heap.Cell) (l : List Int) (q : Nat) (z : Int) (x : Heap.Cell) (hz : l[q]? = some z) (hx : h[z.toNat]? = some x) : back h G (l.take (q + 1)) = (back h G (l.take q)).set z.toNat x := by
  unfold back
  rw [List.take_add_one, hz, List.foldl_append]
  simp [hx]
theorem back_get (h : List Heap.Cell) (l : List Int) (k : Nat) (h0 : ∀ z ∈ l, 0 ≤ z) : ∀ G : List Heap.Cell, G.length = h.length → (back h G l)[k]? = if (k : Int) ∈ l then h[k]? else G[k]? := by
  induction l with
  | nil => intro G _; simp [back]
  | cons z l ih =>
    intro G hG
    have hz := h0 z (List.mem_cons_self ..)
    have h1 := fun y hy => h0 y (List.mem_cons_of_mem _ hy)
    show (back h (match h[z.toNat]? with | some x => G.set z.toNat x | none => G) l)[k]? = _
    cases hx : h[z.toNat]? with
    | none =>
      simp only
      rw [ih h1 G hG]
      by_cases hk : (k : Int) = z
      · have e : z.toNat = k := by omega
        rw [e] at hx
        have h3 : G[k]? = none := by rw [List.getElem?_eq_none_iff] at hx ⊢; omega
        simp [hk, hx, h3]
      · simp [hk]
    | some x =>
      simp only
      rw [ih h1 _ (by rw [List.length_set, hG])]
      by_cases hk : (k : Int) = z
      · have e : z.toNat = k := by omega
        rw [e] at hx
        have hlt : k < G.length := by rw [hG]; exact (List.getElem?_eq_some_iff.1 hx).1
        rw [e, List.getElem?_set_self hlt, hx]
        simp [hk]
      · rw [List.getElem?_set_ne (by omega)]
        simp [hk]
theorem back_len (h : List Heap.Cell) (l : List Int) : ∀ G : List Heap.Cell, (back h G l).length = G.length := by
  induction l with
  | nil => intro G; rfl
  | cons z l ih =>
    intro G
    show (back h (match h[z.toNat]? with | some x => G.set z.toNat x | none => G) l).length = _
    rw [ih]
    cases h[z.toNat]? <;> simp
/-- A run hangs on what it saw alone, as the law has it. -/
theorem seen_facts (c : List Step) (h : List Heap.Cell) (vs : List Int) (ho : okR c h = true) (hvs : ∀ v ∈ vs, -2147483648 ≤ v ∧ v ≤ 2147483647) (hl : h.length ≤ vs.length) :
    (∀ z ∈ (runS c h).1.seen, 0 ≤ z ∧ z < (h.length : Int)) ∧ okR c (back h (mix h vs h.length) (runS c h).1.seen) = true ∧ (runS c (back h (mix h vs h.length) (runS c h).1.seen)).1 = (runS c h).1 := by
  obtain ⟨hck, _, _, _, _, hr⟩ := ok_parts ho
  have hsee : (runS c h).1.seen = pick (part c (s0 h)).seen 64 := by rw [run_ok _ _ ho, out_seen]
  have hin : ∀ z ∈ (runS c h).1.seen, 0 ≤ z ∧ z < (h.length : Int) := by
    intro z hz
    rw [hsee] at hz
    obtain ⟨k, _, hk, rfl⟩ := (pick_mem _ _ z).1 hz
    rcases part_seenlive _ _ _ _ hk with h1 | h1
    · cases h1
    · obtain ⟨_, h2, _⟩ := Heap.live_in _ _ h1
      have h3 : ((k : Int)).toNat < h.length := h2
      omega
  have hget : ∀ k : Nat, (back h (mix h vs h.length) (runS c h).1.seen)[k]? = if (k : Int) ∈ (runS c h).1.seen then h[k]? else (mix h vs h.length)[k]? := fun k => back_get h _ k (fun z hz => (hin z hz).1) _ (mix_len _ _ _)
  have hlen : (back h (mix h vs h.length) (runS c h).1.seen).length = h.length := by rw [back_len, mix_len]
  have hform : ∀ (k : Nat) (x : Heap.Cell), h[k]? = some x → ∃ y, (back h (mix h vs h.length) (runS c h).1.seen)[k]? = some y ∧ y.live = x.live ∧ Heap.cellB y = true := by
    intro k x hx
    have hcx := Heap.right_cell h hr k x hx
    have hk : k < h.length := (List.getElem?_eq_some_iff.1 hx).1
    rw [hget k]
    by_cases hm : (k : Int) ∈ (runS c h).1.seen
    · rw [if_pos hm]; exact ⟨x, hx, rfl, hcx⟩
    · rw [if_neg hm, mix_get, hx]
      by_cases hy : x.live = true
      · refine ⟨⟨true, (vs[k]?).getD 0⟩, by simp [hk, hy], by simp [hy], ?_⟩
        have hv : vs[k]? = some (vs[k]'(by omega)) := List.getElem?_eq_getElem _
        have := hvs _ (List.mem_of_getElem? hv)
        rw [hv]
        unfold Heap.cellB Heap.vB
        simp [this]
      · exact ⟨x, by simp [hy], rfl, hcx⟩
  have hright : Heap.rightB (back h (mix h vs h.length) (runS c h).1.seen) = true := by
    obtain ⟨a1, a2⟩ := Heap.right_len h hr
    unfold Heap.rightB
    rw [hlen, Bool.and_eq_true, decide_eq_true_eq, List.all_eq_true]
    refine ⟨⟨a1, a2⟩, fun y hy => ?_⟩
    obtain ⟨k, hk, hky⟩ := List.mem_iff_getElem.1 hy
    have hkh : k < h.length := by rw [hlen] at hk; exact hk
    obtain ⟨y', e1, _, e3⟩ := hform k _ (List.getElem?_eq_getElem hkh)
    rw [List.getElem?_eq_getElem hk, hky] at e1
    injection e1 with e1
    rw [e1]; exact e3
  have hok : okR c (back h (mix h vs h.length) (runS c h).1.seen) = true := by unfold okR; rw [hck, hright]; rfl
  refine ⟨hin, hok, ?_⟩
  rw [run_ok _ _ hok, run_ok c h ho]
  simp only
  have := seen_same c h (back h (mix h vs h.length) (runS c h).1.seen) ho hright hlen.symm (fun i => ?_) (fun n hn => ?_)
  · rw [run_ok c h ho] at this
    exact this.symm
  · unfold Heap.liveAt
    split
    · rfl
    · cases hx : h[i.toNat]? with
      | none =>
        have : (back h (mix h vs h.length) (runS c h).1.seen)[i.toNat]? = none := by rw [List.getElem?_eq_none_iff] at hx ⊢; omega
        rw [this]
      | some x =>
        obtain ⟨y, e1, e2, _⟩ := hform _ _ hx
        rw [e1]; simp [e2]
  · have hm : (n : Int) ∈ (runS c h).1.seen := by
      rw [hsee]
      have hk : n < h.length := by
        rcases part_seenlive _ _ _ _ hn with h1 | h1
        · cases h1
        · obtain ⟨_, h2, _⟩ := Heap.live_in _ _ h1
          have h3 : ((n : Int)).toNat < h.length := h2
          omega
      have := (Heap.right_len h hr).2
      exact (pick_mem _ _ _).2 ⟨n, by omega, hn, rfl⟩
    rw [hget n, if_pos hm]
end Go.Proofs.Ytlmkhnjdifamgaa.Model
