/-
  PLAIN LEMMAS ON TERMS: two terms put together, what is not named does not matter, a long sum. No conditions beyond those that each theorem states. Nothing of the program is named here.
-/
import Derived.Test.YtcdcikjkpbcjgaaTermPlain
namespace Go.Proofs.Ytcdcikjkpbcjgaa.Term
open Mem

theorem own_zero {w0 w : World} {e size n : Nat} {v : Value} {ys : List Value} (h : Own w0 w e size v (0 + n) ([] ++ ys)) : Own w0 w e size v n ys := by
  rw [Nat.zero_add, List.nil_append] at h; exact h
/-- A term of which something is told is a tree of that value. -/
theorem eval_ok (l : List Op) (h : List Heap.Cell) (rg : List Int) (x : Int) (he : evalS l h rg = (x, 0)) :
    ∃ T : Tree, T.ok ∧ T.ops = l ∧ T.val h rg = (x, true) ∧ Heap.rightB h = true ∧ l.all oneB = true ∧ Heap.vB x = true ∧ 0 < l.length ∧ l.length < 13 := by
  by_cases h0 : checkS l = 0
  · cases h1 : Heap.rightB h
    · unfold evalS at he; rw [if_pos h0, h1] at he; cases he
    · obtain ⟨g1, g2, g3, g4⟩ := check_ok l h0
      obtain ⟨T, t1, t2⟩ := well_tree l g4
      have := eval_tree T t1 (by rw [t2]; exact h0) h rg h1
      rw [t2, he] at this
      have hv := val_v h rg h1 T t1 (by rw [t2]; exact g3)
      cases hb : (T.val h rg).2
      · rw [hb] at this; cases this
      · rw [hb, if_pos rfl] at this
        injection this with e1 _
        exact ⟨T, t1, t2, by rw [e1, ← hb], h1 ▸ rfl, g3, by rw [e1]; exact hv, g1, g2⟩
  · unfold evalS at he; rw [if_neg h0] at he; injection he with _ e; exact absurd e h0
theorem tree_eval (T : Tree) (h : List Heap.Cell) (rg : List Int) (x : Int) (t1 : T.ok) (h1 : Heap.rightB h = true) (g3 : T.ops.all oneB = true) (g2 : T.ops.length < 13) (hv : T.val h rg = (x, true)) :
    evalS T.ops h rg = (x, 0) := by
  rw [eval_tree T t1 (check_mk _ T.pos g2 g3 (tree_well T t1)) h rg h1, hv]; rfl
theorem takes_bin (k : Int) (h1 : 4 ≤ k) (h2 : k ≤ 10) : takes k = 2 := by unfold takes; rw [if_neg (by omega), if_neg (by omega)]
theorem one_bin (k : Int) (h1 : 4 ≤ k) (h2 : k ≤ 11) : oneB ⟨k, 0⟩ = true := by
  unfold oneB
  simp only
  rw [if_neg (by omega), if_neg (by omega), if_neg (by omega)]; simp; omega
theorem eval_two (a b : List Op) (h : List Heap.Cell) (rg : List Int) (x y k : Int) (ha : evalS a h rg = (x, 0)) (hb : evalS b h rg = (y, 0)) (h1 : 4 ≤ k) (h2 : k ≤ 10) (hl : a.length + b.length < 12) :
    evalS (a ++ b ++ [⟨k, 0⟩]) h rg = (two k x y, 0) := by
  obtain ⟨T, t1, t2, t3, t4, t5, _⟩ := eval_ok a h rg x ha
  obtain ⟨U, u1, u2, u3, u4, u5, _⟩ := eval_ok b h rg y hb
  have e : (Tree.bin ⟨k, 0⟩ T U).ops = a ++ b ++ [⟨k, 0⟩] := by simp [Tree.ops, t2, u2]
  rw [← e]
  refine tree_eval _ h rg _ ⟨takes_bin k h1 h2, t1, u1⟩ t4 ?_ ?_ ?_
  · rw [e, List.all_append, List.all_append, t5, u5]; simp [one_bin k h1 (by omega)]
  · rw [e]; simp; omega
  · simp [Tree.val, t3, u3]
theorem eval_not (a : List Op) (h : List Heap.Cell) (rg : List Int) (x : Int) (ha : evalS a h rg = (x, 0)) (hl : a.length < 12) : evalS (a ++ [⟨11, 0⟩]) h rg = (truthI (x == 0), 0) := by
  obtain ⟨T, t1, t2, t3, t4, t5, _⟩ := eval_ok a h rg x ha
  have e : (Tree.un ⟨11, 0⟩ T).ops = a ++ [⟨11, 0⟩] := by simp [Tree.ops, t2]
  rw [← e]
  refine tree_eval _ h rg _ ⟨rfl, t1⟩ t4 ?_ ?_ ?_
  · rw [e, List.all_append, t5]; rfl
  · rw [e]; simp; omega
  · simp [Tree.val, t3]
theorem eval_const (x : Int) (h : List Heap.Cell) (rg : List Int) (hx : Heap.vB x = true) (hr : Heap.rightB h = true) : evalS [⟨1, x⟩] h rg = (x, 0) :=
  tree_eval (.leaf ⟨1, x⟩) h rg x rfl hr (by simp [Tree.ops, oneB, hx]) (by simp [Tree.ops]) rfl
theorem eval_consts (x y k : Int) (h : List Heap.Cell) (rg : List Int) (hx : Heap.vB x = true) (hy : Heap.vB y = true) (hr : Heap.rightB h = true) (h1 : 4 ≤ k) (h2 : k ≤ 10) : evalS [⟨1, x⟩, ⟨1, y⟩, ⟨k, 0⟩] h rg = (two k x y, 0) :=
  eval_two [⟨1, x⟩] [⟨1, y⟩] h rg x y k (eval_const x h rg hx hr) (eval_const y h rg hy hr) h1 h2 (by simp)
theorem check_two (a b : List Op) (h : List Heap.Cell) (rg : List Int) (x y : Int) (ha : evalS a h rg = (x, 0)) (hb : evalS b h rg = (y, 0)) (hl : a.length + b.length < 12) : checkS (a ++ b) = 2 := by
  obtain ⟨T, t1, t2, t3, t4, t5, _, t7, _⟩ := eval_ok a h rg x ha
  obtain ⟨U, u1, u2, u3, u4, u5, _⟩ := eval_ok b h rg y hb
  have hp := pile_tree T t1 U.ops 0 0
  have hq := pile_tree U u1 [] (0 + 1) (max 0 (0 + T.deep))
  rw [List.append_nil] at hq
  rw [hq, t2, u2] at hp
  unfold checkS wellB
  rw [List.all_append, t5, u5, hp, if_pos (by simp; omega), if_neg (by simp [pile])]

theorem run_congr (h g : List Heap.Cell) (rg sg : List Int) (l : List Op) (hl : ∀ o ∈ l, ∀ xs, tellS h rg o xs = tellS g sg o xs) : ∀ xs, run h rg l xs = run g sg l xs := by
  induction l with
  | nil => intro xs; rfl
  | cons o t ih =>
    intro xs
    unfold run
    rw [hl o (by simp)]
    cases tellS g sg o (xs.drop (xs.length - takes o.kind)) with
    | none => rfl
    | some v => exact ih (fun o' ho' => hl o' (by simp [ho'])) _
theorem right_set (h : List Heap.Cell) (k : Nat) (c : Heap.Cell) (hr : Heap.rightB h = true) (hc : Heap.cellB c = true) : Heap.rightB (h.set k c) = true := by
  unfold Heap.rightB at hr ⊢
  rw [Bool.and_eq_true] at hr ⊢
  refine ⟨by rw [List.length_set]; exact hr.1, ?_⟩
  rw [List.all_eq_true]
  intro x hx
  rcases List.mem_or_eq_of_mem_set hx with h1 | h1
  · exact List.all_eq_true.1 hr.2 x h1
  · rw [h1]; exact hc
/-- What is told does not hang on a cell that is not named. -/
theorem names_other (l : List Op) (h : List Heap.Cell) (rg : List Int) (k : Nat) (c : Heap.Cell) (hc : Heap.cellB c = true) (hk : (k : Int) ∉ cellsS l) (hk64 : k < 64) :
    (evalS l h rg).2 = 1 ∨ evalS l (h.set k c) rg = evalS l h rg := by
  by_cases h0 : checkS l = 0
  · cases h1 : Heap.rightB h
    · exact .inl (by unfold evalS; rw [if_pos h0, h1]; rfl)
    · refine .inr ?_
      obtain ⟨g1, g2, g3, g4⟩ := check_ok l h0
      have hrun : run (h.set k c) rg l [] = run h rg l [] := by
        refine run_congr _ _ _ _ l (fun o ho xs => ?_) []
        unfold tellS
        by_cases e2 : o.kind = 2
        · have hone := List.all_eq_true.1 g3 o ho
          unfold oneB at hone
          rw [if_neg (by omega), if_pos e2] at hone
          have hb : 0 ≤ o.n ∧ o.n ≤ 63 := by simpa using hone
          have hne : o.n.toNat ≠ k := by
            intro e
            apply hk
            unfold cellsS
            rw [if_pos h0, pick_mem]
            refine ⟨k, hk64, ?_, rfl⟩
            rw [List.any_eq_true]
            exact ⟨o, ho, by simp [e2]; omega⟩
          have e3 : (h.set k c)[o.n.toNat]? = h[o.n.toNat]? := List.getElem?_set_ne (fun e => hne e.symm)
          have e4 : Heap.liveAt (h.set k c) o.n = Heap.liveAt h o.n := by unfold Heap.liveAt; rw [e3]
          have e5 : Heap.valAt (h.set k c) o.n = Heap.valAt h o.n := by unfold Heap.valAt; rw [e3]
          rw [e4, e5]
        · simp only [if_neg e2]
      unfold evalS
      simp only [h0, h1, right_set h k c h1 hc, hrun]
  · refine .inr ?_
    unfold evalS
    rw [if_neg h0, if_neg h0]
def regsB (l : List Op) (k : Int) : Bool := l.any fun o => decide (o.kind = 3) && decide (o.n = k)
/-- Nor on a register that is not named, nor on how one that is named is written. -/
theorem regs_other (l : List Op) (h : List Heap.Cell) (rg : List Int) (k : Nat) (v z : Int) (hz : rg[k]? = some z) (hv : regsB l k = true → v = Span.sw z) : evalS l h (rg.set k v) = evalS l h rg := by
  by_cases h0 : checkS l = 0
  · obtain ⟨g1, g2, g3, g4⟩ := check_ok l h0
    have hrun : run h (rg.set k v) l [] = run h rg l [] := by
      refine run_congr _ _ _ _ l (fun o ho xs => ?_) []
      unfold tellS
      by_cases e3 : o.kind = 3
      · have hone := List.all_eq_true.1 g3 o ho
        unfold oneB at hone
        rw [if_neg (by omega), if_neg (by omega), if_pos e3] at hone
        have hb : 0 ≤ o.n ∧ o.n ≤ 7 := by simpa using hone
        suffices e5 : ((rg.set k v)[o.n.toNat]?).map Span.sw = (rg[o.n.toNat]?).map Span.sw by rw [e5]
        by_cases e4 : o.n.toNat = k
        · have hn : regsB l k = true := by
            unfold regsB; rw [List.any_eq_true]
            exact ⟨o, ho, by simp [e3]; omega⟩
          have hlt : k < rg.length := (List.getElem?_eq_some_iff.1 hz).1
          rw [e4, hv hn, List.getElem?_set_self hlt, hz]
          simp [Span.sw_sw]
        · rw [List.getElem?_set_ne (fun e => e4 e.symm)]
      · simp only [if_neg e3]
    unfold evalS
    rw [if_pos h0, if_pos h0, hrun]
  · unfold evalS
    rw [if_neg h0, if_neg h0]

/-- A sum of so many numbers, each added as soon as it is told; or all piled first. -/
def chainT (v : Int) : Nat → Tree
  | 0 => .leaf ⟨1, v⟩
  | i + 1 => .bin ⟨4, 0⟩ (chainT v i) (.leaf ⟨1, v⟩)
def pileT (v : Int) : Nat → Tree
  | 0 => .leaf ⟨1, v⟩
  | i + 1 => .bin ⟨4, 0⟩ (.leaf ⟨1, v⟩) (pileT v i)
def chainL (v : Int) : Nat → List Op
  | 0 => []
  | 1 => [⟨1, v⟩]
  | i + 2 => chainL v (i + 1) ++ [⟨1, v⟩, ⟨4, 0⟩]
theorem chain_ops (v : Int) (i : Nat) : (chainT v i).ops = chainL v (i + 1) := by
  induction i with
  | zero => rfl
  | succ i ih => simp only [chainT, Tree.ops, ih, chainL]; simp
theorem pile_ops (v : Int) (i : Nat) : (pileT v i).ops = List.replicate (i + 1) ⟨1, v⟩ ++ List.replicate i ⟨4, 0⟩ := by
  induction i with
  | zero => rfl
  | succ i ih =>
    simp only [pileT, Tree.ops, ih]
    rw [List.replicate_succ' (n := i) (a := (⟨4, 0⟩ : Op)), List.replicate_succ (n := i + 1) (a := (⟨1, v⟩ : Op))]; simp
theorem chain_ok (v : Int) (i : Nat) : (chainT v i).ok := by
  induction i with
  | zero => rfl
  | succ i ih => exact ⟨rfl, ih, rfl⟩
theorem pile_ok (v : Int) (i : Nat) : (pileT v i).ok := by
  induction i with
  | zero => rfl
  | succ i ih => exact ⟨rfl, rfl, ih⟩
theorem chain_deep (v : Int) (i : Nat) : (chainT v i).deep = min (i + 1) 2 := by
  induction i with
  | zero => rfl
  | succ i ih => simp only [chainT, Tree.deep, ih]; omega
theorem pileT_deep (v : Int) (i : Nat) : (pileT v i).deep = i + 1 := by
  induction i with
  | zero => rfl
  | succ i ih => simp only [pileT, Tree.deep, ih]; omega
theorem one_v (v : Int) (hv : -32768 ≤ v ∧ v ≤ 32767) : oneB ⟨1, v⟩ = true := by unfold oneB Heap.vB; simp; omega
theorem chain_all (v : Int) (hv : -32768 ≤ v ∧ v ≤ 32767) (i : Nat) : (chainL v i).all oneB = true := by
  induction i using Nat.strongRecOn with
  | ind i ih =>
    match i with
    | 0 => rfl
    | 1 => simp [chainL, one_v v hv]
    | i + 2 => rw [chainL, List.all_append, ih (i + 1) (by omega)]; simp [one_v v hv]; decide
theorem pile_all (v : Int) (hv : -32768 ≤ v ∧ v ≤ 32767) (a b : Nat) : (List.replicate a (⟨1, v⟩ : Op) ++ List.replicate b (⟨4, 0⟩ : Op)).all oneB = true := by
  rw [List.all_append, List.all_eq_true.2, List.all_eq_true.2]
  · rfl
  · intro x hx; rw [List.eq_of_mem_replicate hx]; decide
  · intro x hx; rw [List.eq_of_mem_replicate hx]; exact one_v v hv
theorem chain_len (v : Int) (i : Nat) : (chainL v (i + 1)).length = 2 * i + 1 := by
  induction i with
  | zero => rfl
  | succ i ih => rw [chainL, List.length_append, ih]; simp; omega
theorem two_4 (a b : Int) (h : -2147483648 ≤ a + b ∧ a + b ≤ 2147483647) : two 4 a b = a + b := by unfold two; rw [if_pos rfl]; exact Span.sw_in _ h
theorem chain_val (v : Int) (hv : -32768 ≤ v ∧ v ≤ 32767) (h : List Heap.Cell) (rg : List Int) (i : Nat) (hi : i < 100) : (chainT v i).val h rg = (((i : Int) + 1) * v, true) := by
  induction i with
  | zero => simp [chainT, Tree.val, tellS]
  | succ i ih =>
    have e := ih (by omega)
    have h1 : -3276800 ≤ ((i : Int) + 1) * v := by
      have := Int.mul_le_mul_of_nonneg_left hv.1 (by omega : (0 : Int) ≤ (i : Int) + 1); omega
    have h2 : ((i : Int) + 1) * v ≤ 3276700 := by
      have := Int.mul_le_mul_of_nonneg_left hv.2 (by omega : (0 : Int) ≤ (i : Int) + 1); omega
    have e2 : (Tree.leaf ⟨1, v⟩).val h rg = (v, true) := by simp [Tree.val, tellS]
    show (two 4 ((chainT v i).val h rg).1 ((Tree.leaf ⟨1, v⟩).val h rg).1, ((Tree.leaf ⟨1, v⟩).val h rg).2 && ((chainT v i).val h rg).2) = _
    rw [e, e2]
    simp only [Bool.and_self]
    rw [two_4 _ _ (by omega)]
    congr 1
    rw [show ((i + 1 : Nat) : Int) + 1 = ((i : Int) + 1) + 1 from by omega, Int.add_mul (↑i + 1) 1 v, Int.one_mul]
theorem pileT_val (v : Int) (hv : -32768 ≤ v ∧ v ≤ 32767) (h : List Heap.Cell) (rg : List Int) (i : Nat) (hi : i < 100) : (pileT v i).val h rg = (((i : Int) + 1) * v, true) := by
  induction i with
  | zero => simp [pileT, Tree.val, tellS]
  | succ i ih =>
    have e := ih (by omega)
    have h1 : -3276800 ≤ ((i : Int) + 1) * v := by
      have := Int.mul_le_mul_of_nonneg_left hv.1 (by omega : (0 : Int) ≤ (i : Int) + 1); omega
    have h2 : ((i : Int) + 1) * v ≤ 3276700 := by
      have := Int.mul_le_mul_of_nonneg_left hv.2 (by omega : (0 : Int) ≤ (i : Int) + 1); omega
    have e2 : (Tree.leaf ⟨1, v⟩).val h rg = (v, true) := by simp [Tree.val, tellS]
    show (two 4 ((Tree.leaf ⟨1, v⟩).val h rg).1 ((pileT v i).val h rg).1, ((pileT v i).val h rg).2 && ((Tree.leaf ⟨1, v⟩).val h rg).2) = _
    rw [e, e2]
    simp only [Bool.and_self]
    rw [two_4 _ _ (by omega)]
    congr 1
    rw [show ((i + 1 : Nat) : Int) + 1 = ((i : Int) + 1) + 1 from by omega, Int.add_mul (↑i + 1) 1 v, Int.one_mul]; omega
/-- The operations behind all rounds of the first loop, and behind so many of the second one. -/
def longL (v : Int) (piled : Bool) (i : Nat) : List Op := if piled then List.replicate i ⟨1, v⟩ else chainL v i
theorem long_len (v : Int) (piled : Bool) (i : Nat) : (longL v piled i).length ≤ 2 * i := by
  unfold longL; cases piled
  · cases i with
    | zero => simp [chainL]
    | succ i => simp only [Bool.false_eq_true, if_false]; rw [chain_len]; omega
  · simp; omega
def longB (v : Int) (piled : Bool) (i j : Nat) : List Op := if piled then List.replicate i ⟨1, v⟩ ++ List.replicate j ⟨4, 0⟩ else chainL v i
theorem longB_len (v : Int) (piled : Bool) (i : Nat) : (longB v piled (i + 1) i).length = 2 * i + 1 := by
  unfold longB; cases piled
  · simp only [Bool.false_eq_true, if_false]; exact chain_len v i
  · simp; omega
theorem long_check (v : Int) (hv : -32768 ≤ v ∧ v ≤ 32767) (piled : Bool) (i : Nat) (hi : i < 6) : checkS (longB v piled (i + 1) i) = 0 := by
  refine check_mk _ (by rw [longB_len]; omega) (by rw [longB_len]; omega) ?_ ?_
  · unfold longB; cases piled
    · exact chain_all v hv _
    · exact pile_all v hv _ _
  · unfold longB; cases piled
    · have := tree_well (chainT v i) (chain_ok v i); rw [chain_ops] at this; exact this
    · have := tree_well (pileT v i) (pile_ok v i); rw [pile_ops] at this; exact this
theorem long_eval (v : Int) (hv : -32768 ≤ v ∧ v ≤ 32767) (piled : Bool) (i : Nat) (hi : i < 6) : evalS (longB v piled (i + 1) i) [⟨false, 0⟩] [] = (((i : Int) + 1) * v, 0) := by
  have hl := longB_len v piled i
  unfold longB at hl ⊢; cases piled
  · simp only [Bool.false_eq_true, if_false] at hl ⊢
    rw [← chain_ops] at hl ⊢
    exact tree_eval _ _ _ _ (chain_ok v i) rfl (by rw [chain_ops]; exact chain_all v hv _) (by rw [hl]; omega) (chain_val v hv _ _ i (by omega))
  · simp only [if_true] at hl ⊢
    rw [← pile_ops] at hl ⊢
    exact tree_eval _ _ _ _ (pile_ok v i) rfl (by rw [pile_ops]; exact pile_all v hv _ _) (by rw [hl]; omega) (pileT_val v hv _ _ i (by omega))
theorem long_deep (v : Int) (hv : -32768 ≤ v ∧ v ≤ 32767) (piled : Bool) (i : Nat) (hi : i < 6) : deepS (longB v piled (i + 1) i) = if piled then i + 1 else min (i + 1) 2 := by
  unfold deepS
  rw [if_pos (long_check v hv piled i hi)]
  unfold longB; cases piled
  · simp only [Bool.false_eq_true, if_false]
    rw [← chain_ops, tree_pile _ (chain_ok v i), chain_deep]; rfl
  · simp only [if_true]
    rw [← pile_ops, tree_pile _ (pile_ok v i), pileT_deep]; rfl
theorem long_big (v : Int) (piled : Bool) (h : List Heap.Cell) (rg : List Int) : evalS (longB v piled 7 6) h rg = (0, 1) ∧ deepS (longB v piled 7 6) = 0 := by
  have hl := longB_len v piled 6
  have hc : checkS (longB v piled 7 6) = 1 := check_len _ (by rw [hl]; omega)
  unfold evalS deepS
  rw [hc]; exact ⟨rfl, rfl⟩
end Go.Proofs.Ytcdcikjkpbcjgaa.Term
