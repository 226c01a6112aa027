/-
  WHAT THE DOCUMENT'S ANSWER FOR LAYER 7 RETURNS: Eval, Cells.
-/
import Derived.Test.YtddgdhaioomnnaaHeapA
import Derived.Test.YtddgdhaioomnnaaMemA
import Derived.Test.YtddgdhaioomnnaaRows
namespace Go.Proofs.Ytddgdhaioomnnaa.Term
open Go.ChangeShapes Go.WideShapes Go.ChangeAt Go.RowKit Mem

structure Op where
  kind : Int
  n : Int
  deriving DecidableEq, Inhabited

def oc (o : Op) : List Value := [.int .i64 o.kind, .int .i64 o.n]
def ops (l : List Op) : List Value := l.flatMap oc
theorem oc_len (o : Op) : (oc o).length = 2 := rfl
theorem oc_one (o : Op) : ∀ u ∈ oc o, u.oneCell' = true := one_cons rfl (one_cons rfl one_nil)
theorem ops_one (l : List Op) : ∀ u ∈ ops l, u.oneCell' = true := flat_one oc_one l
theorem ops_len {w : World} {A : Option Addr} {n : Nat} {l : List Op} (hr : Rd w 2 A n (ops l)) : l.length = n := Rd.len oc_len hr (by decide)
theorem ops_take (l : List Op) (k : Nat) (x : Op) (hk : l[k]? = some x) : ops (l.take (k + 1)) = ops (l.take k) ++ oc x := flat_take l k x hk
theorem ops_app (a b : List Op) : ops (a ++ b) = ops a ++ ops b := by unfold ops; rw [List.flatMap_append]
theorem at_op {w : World} {A : Option Addr} {n : Nat} {l : List Op} (hr : Rd w 2 A n (ops l)) (k : Nat) (hk : k < n) :
    ∃ b off, ∃ x : Op, A = some ⟨b, off, none⟩ ∧ l[k]? = some x ∧ w.cell? ⟨b, off + k * 2, none⟩ = some (.int .i64 x.kind) ∧ w.cell? ⟨b, off + k * 2 + 1, none⟩ = some (.int .i64 x.n) :=
  at_2 Op.kind Op.n (fun _ => rfl) hr k hk

/-- May an operation be? -/
def oneB (o : Op) : Bool :=
  if o.kind = 1 then Heap.vB o.n else if o.kind = 2 then decide (0 ≤ o.n ∧ o.n ≤ 63) else if o.kind = 3 then decide (0 ≤ o.n ∧ o.n ≤ 7) else decide (4 ≤ o.kind ∧ o.kind ≤ 11 ∧ o.n = 0)
theorem one_kind (o : Op) (h : oneB o = true) : 1 ≤ o.kind ∧ o.kind ≤ 11 := by
  unfold oneB at h
  by_cases h1 : o.kind = 1
  · omega
  by_cases h2 : o.kind = 2
  · omega
  by_cases h3 : o.kind = 3
  · omega
  rw [if_neg h1, if_neg h2, if_neg h3] at h
  simp at h; omega
/-- How many numbers it takes. -/
def takes (k : Int) : Nat := if k ≤ 3 then 0 else if k = 11 then 1 else 2
theorem takes_le (k : Int) : takes k ≤ 2 := by unfold takes; split <;> (try split) <;> omega
theorem takes_0 (k : Int) (h : takes k = 0) : k ≤ 3 := by unfold takes at h; split at h <;> (try split at h) <;> omega
theorem takes_1 (k : Int) (h : takes k = 1) : k = 11 := by unfold takes at h; split at h <;> (try split at h) <;> omega
theorem takes_2 (k : Int) (h : takes k = 2) : 4 ≤ k ∧ k ≠ 11 := by unfold takes at h; split at h <;> (try split at h) <;> omega

/-- How many numbers there are behind all operations, and the most; none: one does not find its own. -/
def pile : List Op → Nat → Nat → Option (Nat × Nat)
  | [], c, d => some (c, d)
  | o :: t, c, d => if c < takes o.kind then none else pile t (c + 1 - takes o.kind) (max d (c + 1 - takes o.kind))

inductive Tree
  | leaf (o : Op)
  | un (o : Op) (a : Tree)
  | bin (o : Op) (a b : Tree)
def Tree.ops : Tree → List Op
  | .leaf o => [o]
  | .un o a => a.ops ++ [o]
  | .bin o a b => a.ops ++ (b.ops ++ [o])
def Tree.ok : Tree → Prop
  | .leaf o => takes o.kind = 0
  | .un o a => takes o.kind = 1 ∧ a.ok
  | .bin o a b => takes o.kind = 2 ∧ a.ok ∧ b.ok
def Tree.deep : Tree → Nat
  | .leaf _ => 1
  | .un _ a => a.deep
  | .bin _ a b => max a.deep (b.deep + 1)
theorem Tree.pos (T : Tree) : 0 < T.ops.length := by cases T <;> simp [Tree.ops] <;> omega
theorem Tree.deep_pos : (T : Tree) → 1 ≤ T.deep
  | .leaf _ => Nat.le_refl _
  | .un _ a => a.deep_pos
  | .bin _ a b => by have := a.deep_pos; unfold Tree.deep; omega

theorem pile_tree : (T : Tree) → T.ok → ∀ (r : List Op) (c d : Nat), pile (T.ops ++ r) c d = pile r (c + 1) (max d (c + T.deep))
  | .leaf o, h, r, c, d => by
    have h : takes o.kind = 0 := h
    simp [Tree.ops, Tree.deep, pile, h]
  | .un o a, h, r, c, d => by
    obtain ⟨h1, h2⟩ : takes o.kind = 1 ∧ a.ok := h
    have ha := a.deep_pos
    simp only [Tree.ops, Tree.deep, List.append_assoc, pile_tree a h2, List.cons_append, List.nil_append, pile, h1]
    rw [if_neg (by omega)]
    congr 1; omega
  | .bin o a b, h, r, c, d => by
    obtain ⟨h1, h2, h3⟩ : takes o.kind = 2 ∧ a.ok ∧ b.ok := h
    have ha := a.deep_pos
    have hb := b.deep_pos
    simp only [Tree.ops, Tree.deep, List.append_assoc, pile_tree a h2, pile_tree b h3, List.cons_append, List.nil_append, pile, h1]
    rw [if_neg (by omega)]
    congr 1 <;> omega
theorem tree_pile (T : Tree) (h : T.ok) : pile T.ops 0 0 = some (1, T.deep) := by
  have := pile_tree T h [] 0 0
  rw [List.append_nil] at this
  rw [this]; simp [pile]

theorem last_two {α : Type} (F : List α) (h : 2 ≤ F.length) : ∃ G a b, F = G ++ [a, b] := by
  refine ⟨F.take (F.length - 2), F[F.length - 2]'(by omega), F[F.length - 1]'(by omega), ?_⟩
  apply List.ext_getElem?
  intro i
  by_cases h1 : i < F.length - 2
  · rw [List.getElem?_append_left (by simp; omega), List.getElem?_take_of_lt h1]
  · rw [List.getElem?_append_right (by simp; omega), List.length_take]
    by_cases h2 : i = F.length - 2
    · subst h2
      rw [show F.length - 2 - min (F.length - 2) F.length = 0 from by omega, List.getElem?_eq_getElem (by omega)]; rfl
    · by_cases h3 : i = F.length - 1
      · subst h3
        rw [show F.length - 1 - min (F.length - 2) F.length = 1 from by omega, List.getElem?_eq_getElem (by omega)]; rfl
      · rw [List.getElem?_eq_none (by omega), List.getElem?_eq_none (by simp; omega)]
theorem last_one {α : Type} (F : List α) (h : 1 ≤ F.length) : ∃ G a, F = G ++ [a] :=
  ⟨F.dropLast, F.getLast (by intro e; rw [e] at h; simp at h), (List.dropLast_concat_getLast _).symm⟩
theorem pile_forest : (t : List Op) → (F : List Tree) → (∀ T ∈ F, T.ok) → ∀ (d : Nat) (p : Nat × Nat), pile t F.length d = some p →
    ∃ G : List Tree, (∀ T ∈ G, T.ok) ∧ G.length = p.1 ∧ F.flatMap Tree.ops ++ t = G.flatMap Tree.ops
  | [], F, hF, d, p, h => by
    simp only [pile, Option.some.injEq] at h
    subst h
    exact ⟨F, hF, rfl, List.append_nil _⟩
  | o :: t, F, hF, d, p, h => by
    unfold pile at h
    by_cases hlt : F.length < takes o.kind
    · rw [if_pos hlt] at h; cases h
    rw [if_neg hlt] at h
    have hle := takes_le o.kind
    rcases (by omega : takes o.kind = 0 ∨ takes o.kind = 1 ∨ takes o.kind = 2) with h0 | h0 | h0
    · rw [h0] at h
      obtain ⟨G, h1, h2, h3⟩ := pile_forest t (F ++ [.leaf o]) (by
        intro T hT; rcases List.mem_append.1 hT with hT | hT
        · exact hF T hT
        · rw [List.mem_singleton.1 hT]; exact h0) _ p (by rw [List.length_append]; exact h)
      exact ⟨G, h1, h2, by rw [← h3]; simp [Tree.ops]⟩
    · obtain ⟨F0, a, rfl⟩ := last_one F (by omega)
      rw [h0] at h
      obtain ⟨G, h1, h2, h3⟩ := pile_forest t (F0 ++ [.un o a]) (by
        intro T hT; rcases List.mem_append.1 hT with hT | hT
        · exact hF T (by simp [hT])
        · rw [List.mem_singleton.1 hT]; exact ⟨h0, hF a (by simp)⟩) _ p (by simp at h ⊢; exact h)
      exact ⟨G, h1, h2, by rw [← h3]; simp [Tree.ops]⟩
    · obtain ⟨F0, a, b, rfl⟩ := last_two F (by omega)
      rw [h0] at h
      obtain ⟨G, h1, h2, h3⟩ := pile_forest t (F0 ++ [.bin o a b]) (by
        intro T hT; rcases List.mem_append.1 hT with hT | hT
        · exact hF T (by simp [hT])
        · rw [List.mem_singleton.1 hT]; exact ⟨h0, hF a (by simp), hF b (by simp)⟩) _ p (by simp at h ⊢; exact h)
      exact ⟨G, h1, h2, by rw [← h3]; simp [Tree.ops]⟩

/-- Does it stand well? -/
def wellB (t : List Op) : Bool := match pile t 0 0 with
  | some p => decide (p.1 = 1)
  | none => false
theorem well_tree (t : List Op) (h : wellB t = true) : ∃ T : Tree, T.ok ∧ T.ops = t := by
  unfold wellB at h
  cases hp : pile t 0 0 with
  | none => rw [hp] at h; cases h
  | some p =>
    rw [hp] at h
    have h1 : p.1 = 1 := by simpa using h
    obtain ⟨G, g1, g2, g3⟩ := pile_forest t [] (by simp) 0 p hp
    rw [h1] at g2
    match G, g2 with
    | [T], _ => exact ⟨T, g1 T (by simp), by simpa using g3.symm⟩
theorem tree_well (T : Tree) (h : T.ok) : wellB T.ops = true := by unfold wellB; rw [tree_pile T h]; rfl

def checkS (t : List Op) : Int := if (decide (0 < t.length ∧ t.length < 13) && t.all oneB) = true then (if wellB t = true then 0 else 2) else 1
theorem check_ok (t : List Op) (h : checkS t = 0) : 0 < t.length ∧ t.length < 13 ∧ t.all oneB = true ∧ wellB t = true := by
  unfold checkS at h
  split at h
  · rename_i h1
    rw [Bool.and_eq_true] at h1
    have h2 : 0 < t.length ∧ t.length < 13 := by simpa using h1.1
    split at h
    · exact ⟨h2.1, h2.2, h1.2, by assumption⟩
    · cases h
  · cases h
theorem check_mk (t : List Op) (h1 : 0 < t.length) (h2 : t.length < 13) (h3 : t.all oneB = true) (h4 : wellB t = true) : checkS t = 0 := by
  unfold checkS; rw [if_pos (by rw [h3]; simp; omega), if_pos h4]
theorem check_bad (t : List Op) (k : Nat) (x : Op) (hk : t[k]? = some x) (hx : oneB x = false) : checkS t = 1 := by
  unfold checkS; rw [if_neg (by rw [all_bad t oneB k x hk hx]; simp)]
theorem check_len (t : List Op) (h : ¬ (0 < t.length ∧ t.length < 13)) : checkS t = 1 := by
  unfold checkS; rw [if_neg (by rw [decide_eq_false h]; simp)]
theorem check_three (t : List Op) : checkS t = 0 ∨ checkS t = 1 ∨ checkS t = 2 := by
  unfold checkS; split
  · split <;> simp
  · simp
def deepS (t : List Op) : Nat := if checkS t = 0 then ((pile t 0 0).map (·.2)).getD 0 else 0
def cellsS (t : List Op) : List Int := if checkS t = 0 then pick (fun c => t.any fun o => decide (o.kind = 2) && decide (o.n = (c : Int))) 64 else []

def truthI (b : Bool) : Int := if b then 1 else 0
/-- What is told of two. -/
def two (k a b : Int) : Int :=
  if k = 4 then Span.sw (a + b) else if k = 5 then Span.sw (a - b) else if k = 6 then Span.sw (a * b) else if k = 7 then truthI (a == b)
  else if k = 8 then truthI (decide (a < b)) else if k = 9 then truthI (a != 0 && b != 0) else truthI (a != 0 || b != 0)
/-- What an operation tells, of the numbers that it takes. -/
def tellS (h : List Heap.Cell) (rg : List Int) (o : Op) (xs : List Int) : Option Int :=
  if o.kind = 1 then some o.n
  else if o.kind = 2 then (if Heap.liveAt h o.n = true then some (Heap.valAt h o.n) else none)
  else if o.kind = 3 then (rg[o.n.toNat]?).map Span.sw
  else if o.kind = 11 then some (truthI (xs.getD 0 0 == 0))
  else some (two o.kind (xs.getD 0 0) (xs.getD 1 0))
def run (h : List Heap.Cell) (rg : List Int) : List Op → List Int → Option (List Int)
  | [], xs => some xs
  | o :: t, xs => match tellS h rg o (xs.drop (xs.length - takes o.kind)) with
    | none => none
    | some v => run h rg t (xs.take (xs.length - takes o.kind) ++ [v])
/-- A tree's number, and whether all is there. -/
def Tree.val (h : List Heap.Cell) (rg : List Int) : Tree → Int × Bool
  | .leaf o => match tellS h rg o [] with
    | some v => (v, true)
    | none => (0, false)
  | .un _ a => (truthI ((a.val h rg).1 == 0), (a.val h rg).2)
  | .bin o a b => (two o.kind (a.val h rg).1 (b.val h rg).1, (b.val h rg).2 && (a.val h rg).2)
def Tree.ev (h : List Heap.Cell) (rg : List Int) (T : Tree) : Option Int := bif (T.val h rg).2 then some (T.val h rg).1 else none

theorem tell_1 (h : List Heap.Cell) (rg : List Int) (o : Op) (x : Int) (hk : takes o.kind = 1) : tellS h rg o [x] = some (truthI (x == 0)) := by
  have := takes_1 _ hk
  unfold tellS
  rw [if_neg (by omega), if_neg (by omega), if_neg (by omega), if_pos this]; rfl
theorem tell_2 (h : List Heap.Cell) (rg : List Int) (o : Op) (x y : Int) (hk : takes o.kind = 2) : tellS h rg o [x, y] = some (two o.kind x y) := by
  have := takes_2 _ hk
  unfold tellS
  rw [if_neg (by omega), if_neg (by omega), if_neg (by omega), if_neg (by omega)]; rfl
theorem run_tree (h : List Heap.Cell) (rg : List Int) : (T : Tree) → T.ok → ∀ (r : List Op) (xs : List Int),
    run h rg (T.ops ++ r) xs = match T.ev h rg with
      | none => none
      | some v => run h rg r (xs ++ [v])
  | .leaf o, hk, r, xs => by
    have hk : takes o.kind = 0 := hk
    simp only [Tree.ops, List.cons_append, List.nil_append, run, hk, Nat.sub_zero, List.drop_length, List.take_length, Tree.ev, Tree.val]
    cases tellS h rg o [] <;> rfl
  | .un o a, hk, r, xs => by
    obtain ⟨h1, h2⟩ : takes o.kind = 1 ∧ a.ok := hk
    simp only [Tree.ops, List.append_assoc, run_tree h rg a h2, Tree.ev, Tree.val, List.cons_append, List.nil_append]
    cases hv : (a.val h rg).2
    · rfl
    · simp only [cond_true, run, h1]
      have e : (xs ++ [(a.val h rg).1]).length - 1 = xs.length := by simp
      rw [e, List.drop_left, List.take_left, tell_1 _ _ _ _ h1]
  | .bin o a b, hk, r, xs => by
    obtain ⟨h1, h2, h3⟩ : takes o.kind = 2 ∧ a.ok ∧ b.ok := hk
    simp only [Tree.ops, List.append_assoc, run_tree h rg a h2, run_tree h rg b h3, Tree.ev, Tree.val, List.cons_append, List.nil_append]
    cases hv : (a.val h rg).2
    · simp
    · cases hw : (b.val h rg).2
      · simp
      · simp only [cond_true, run, h1, Bool.and_self]
        have e : (xs ++ [(a.val h rg).1, (b.val h rg).1]).length - 2 = xs.length := by simp
        rw [e, List.drop_left, List.take_left, tell_2 _ _ _ _ _ h1]
theorem tree_run (h : List Heap.Cell) (rg : List Int) (T : Tree) (hk : T.ok) : run h rg T.ops [] = (T.ev h rg).map (fun v => [v]) := by
  have := run_tree h rg T hk [] []
  rw [List.append_nil] at this
  rw [this]; cases T.ev h rg <;> rfl

/-- What is told, and the error's number. -/
def evalS (t : List Op) (h : List Heap.Cell) (rg : List Int) : Int × Int :=
  if checkS t = 0 then (if Heap.rightB h = true then (match run h rg t [] with
    | some (v :: _) => (v, 0)
    | _ => (0, 3)) else (0, 1)) else (0, checkS t)
theorem eval_tree (T : Tree) (hk : T.ok) (hc : checkS T.ops = 0) (h : List Heap.Cell) (rg : List Int) (hr : Heap.rightB h = true) :
    evalS T.ops h rg = if (T.val h rg).2 = true then ((T.val h rg).1, 0) else (0, 3) := by
  unfold evalS
  rw [if_pos hc, if_pos hr, tree_run h rg T hk]
  unfold Tree.ev
  cases (T.val h rg).2 <;> rfl

theorem truth_v (b : Bool) : Heap.vB (truthI b) = true := by cases b <;> decide
theorem sw_v (n : Int) : Heap.vB (Span.sw n) = true := by have := Span.sw_bd n; unfold Heap.vB; simpa using this
theorem two_v (k a b : Int) : Heap.vB (two k a b) = true := by
  unfold two
  repeat' split
  all_goals first | exact sw_v _ | exact truth_v _
theorem val_v (h : List Heap.Cell) (rg : List Int) (hr : Heap.rightB h = true) : (T : Tree) → T.ok → T.ops.all oneB = true → Heap.vB (T.val h rg).1 = true
  | .un o a, hk, ho => truth_v _
  | .bin o a b, hk, ho => two_v _ _ _
  | .leaf o, hk, ho => by
    have hk : takes o.kind = 0 := hk
    have h3 := takes_0 _ hk
    have ho : oneB o = true := by simpa [Tree.ops] using ho
    have h1 := one_kind o ho
    unfold Tree.val tellS
    rcases (by omega : o.kind = 1 ∨ o.kind = 2 ∨ o.kind = 3) with e | e | e
    · rw [if_pos e]
      unfold oneB at ho; rw [if_pos e] at ho; exact ho
    · rw [if_neg (by omega), if_pos e]
      cases hl : Heap.liveAt h o.n
      · exact (by decide : Heap.vB 0 = true)
      · obtain ⟨h0, _, x, hx, _⟩ := Heap.live_in h o.n hl
        have hb : Heap.cellB x = true := by
          unfold Heap.rightB at hr
          rw [Bool.and_eq_true] at hr
          exact List.all_eq_true.1 hr.2 x (List.mem_of_getElem? hx)
        have hv : Heap.valAt h o.n = x.value := by unfold Heap.valAt; rw [hx]; rfl
        rw [if_pos rfl, hv]
        unfold Heap.cellB at hb
        rw [Bool.and_eq_true] at hb
        exact hb.1
    · rw [if_neg (by omega), if_neg (by omega), if_pos e]
      cases rg[o.n.toNat]?
      · exact (by decide : Heap.vB 0 = true)
      · exact sw_v _
end Go.Proofs.Ytddgdhaioomnnaa.Term

namespace Go.Proofs.Ytddgdhaioomnnaa.Term
open Go.ChangeShapes Go.WideShapes Go.ChangeAt Go.RowKit Mem



theorem v_bd {n : Int} (h : Heap.vB n = true) : -2147483648 ≤ n ∧ n ≤ 2147483647 := by unfold Heap.vB at h; simpa using h

end Go.Proofs.Ytddgdhaioomnnaa.Term

namespace Go.Proofs.Ytddgdhaioomnnaa.Term
open Go.ChangeShapes Go.WideShapes Go.ChangeAt Go.RowKit Mem

/-- The last operation of a part. -/
theorem part_at (P Q X : List Op) (o : Op) (k : Nat) (hk : k = P.length + X.length) : (P ++ (X ++ [o] ++ Q))[k]? = some o := by
  subst hk
  rw [List.getElem?_append_right (by omega), show P.length + X.length - P.length = X.length from by omega, List.append_assoc, List.getElem?_append_right (Nat.le_refl _), Nat.sub_self]; rfl
theorem same_at {w : World} {A : Option Addr} {n : Nat} {l : List Op} (hr : Rd w 2 A n (ops l)) (k : Nat) (o : Op) (ho : l[k]? = some o) :
    ∃ b off, A = some ⟨b, off, none⟩ ∧ k < n ∧ w.cell? ⟨b, off + k * 2, none⟩ = some (.int .i64 o.kind) ∧ w.cell? ⟨b, off + k * 2 + 1, none⟩ = some (.int .i64 o.n) := by
  have hkn : k < n := by rw [← ops_len hr]; exact (List.getElem?_eq_some_iff.1 ho).1
  obtain ⟨b, off, x, hA, hx, c0, c1⟩ := at_op hr k hkn
  rw [ho] at hx; injection hx with e; subst e
  exact ⟨b, off, hA, hkn, c0, c1⟩


/-- There is a tree that begins at a place and ends ahead of another one. -/
def Begins (l : List Op) (b : Int) (q : Int) : Prop := ∃ (T : Tree) (P Q : List Op), T.ok ∧ l = P ++ (T.ops ++ Q) ∧ (P.length : Int) = b ∧ ((P.length + T.ops.length : Nat) : Int) = q + 1
theorem cut_at {α : Type} (l : List α) (k : Nat) (x : α) (h : l[k]? = some x) : l = l.take k ++ ([x] ++ l.drop (k + 1)) := by
  obtain ⟨hl, rfl⟩ := List.getElem?_eq_some_iff.1 h
  simp
theorem begins_leaf (l : List Op) (k : Nat) (o : Op) (ho : l[k]? = some o) (h : o.kind ≤ 3) : Begins l k k := by
  have hl := (List.getElem?_eq_some_iff.1 ho).1
  exact ⟨.leaf o, l.take k, l.drop (k + 1), by show takes o.kind = 0; unfold takes; rw [if_pos h], cut_at l k o ho, by simp; omega, by simp [Tree.ops]; omega⟩
theorem begins_un (l : List Op) (b : Int) (j : Nat) (o : Op) (ho : l[j + 1]? = some o) (h : o.kind = 11) (hb : Begins l b j) : Begins l b ((j + 1 : Nat) : Int) := by
  obtain ⟨T, P, Q, h1, h2, h3, h4⟩ := hb
  have hq : Q = [o] ++ Q.drop 1 := by
    have : Q[0]? = some o := by
      rw [h2, ← List.append_assoc, List.getElem?_append_right (by simp; omega)] at ho
      rwa [show j + 1 - (P ++ T.ops).length = 0 from by simp; omega] at ho
    exact cut_at Q 0 o this
  exact ⟨.un o T, P, Q.drop 1, ⟨by unfold takes; rw [if_neg (by omega), if_pos h], h1⟩, by rw [h2]; simp only [Tree.ops, List.append_assoc]; rw [← hq], h3, by simp [Tree.ops]; omega⟩
theorem begins_bin (l : List Op) (b c : Int) (j : Nat) (o : Op) (ho : l[j + 1]? = some o) (h3 : ¬ o.kind ≤ 3) (h11 : o.kind ≠ 11) (hb : Begins l b j) (hc : Begins l c (b - 1)) : Begins l c ((j + 1 : Nat) : Int) := by
  obtain ⟨T, P, Q, g1, g2, g3, g4⟩ := hb
  obtain ⟨U, P', Q', u1, u2, u3, u4⟩ := hc
  have hq : Q = [o] ++ Q.drop 1 := by
    have : Q[0]? = some o := by
      rw [g2, ← List.append_assoc, List.getElem?_append_right (by simp; omega)] at ho
      rwa [show j + 1 - (P ++ T.ops).length = 0 from by simp; omega] at ho
    exact cut_at Q 0 o this
  have hP : P' ++ U.ops = P := by
    have e : (P' ++ U.ops) ++ Q' = P ++ (T.ops ++ Q) := by rw [List.append_assoc, ← u2, g2]
    have hlen : (P' ++ U.ops).length = P.length := by simp; omega
    exact (List.append_inj e hlen).1
  refine ⟨.bin o U T, P', Q.drop 1, ⟨by unfold takes; rw [if_neg h3, if_neg h11], u1, g1⟩, ?_, u3, ?_⟩
  · rw [g2, ← hP]; simp only [Tree.ops, List.append_assoc]; rw [← hq]
  · have : (P' ++ U.ops).length = P.length := by rw [hP]
    simp [Tree.ops] at this ⊢; omega


end Go.Proofs.Ytddgdhaioomnnaa.Term

namespace Go.Proofs.Ytddgdhaioomnnaa.Term
open Go.ChangeShapes Go.WideShapes Go.ChangeAt Go.RowKit Mem

def RetI (w : World) (v : Int) (e : Ending) (w' : World) : Prop := e = .returned (.int .i64 v) ∧ Below w.heap.size w w'


set_option maxRecDepth 100000 in
theorem tROp : SliceT Try.prog 74 107 2 16 := SliceT.mk_ (z := .agg #[.int .i64 0, .int .i64 0]) Try.underlying74 (by kernel_rfl) rfl (by decide)
set_option maxRecDepth 100000 in
/-- A term as the document's. -/
theorem ref_o (l : List Op) (A : Option Addr) (n c : Nat) (w : World) (hr : Rd w 2 A n (ops l)) (hn : n ≤ 1000000) :
    Calls Try.prog 58 #[.slice A n c] w (RetO w 107 2 n (ops l)) := by
  have HL := Lib.hid (ops_len hr)
  have HR := Lib.hid hr
  clear hr
  go_enter Try.func58, Try.ntmps58
  go_wp2
  go_loopw [3, 8] (fun v i wr => ∃ k : Nat, k ≤ n ∧ i = .int .i64 k ∧ Own w wr 107 2 v k (ops (l.take k))) (fun _ i _ => n - (intOf i).toNat)
  case atStart => exact ⟨0, Nat.zero_le _, rfl, Own.nil_ (Below.refl _ _)⟩
  case round =>
    obtain ⟨k, hk, rfl, hown⟩ := hrel
    by_cases hlt : k < n
    · obtain ⟨b, off, ⟨kd, nn⟩, rfl, hx, c0, c1⟩ := at_op (HR.out.below hown.2) k hlt
      have HT := Lib.hid (ops_take l k _ hx)
      clear hx
      go_wp2_with (at_builtin; refine append_rd rfl _ _ 74 rfl tROp w _ _ _ rfl ((hown.alloc _).alloc _) _ 1 1 [.int .i64 kd, .int .i64 nn] rfl (Rd.builtAt _ 2 1 [.int .i64 kd, .int .i64 nn] _ rfl (by simp)) (one_cons rfl (one_cons rfl one_nil)) (by omega) (by omega) ?_; intro v' w' hown' hg; clear hg)
      go_roundw
      case rel => exact ⟨k + 1, by omega, by go_num, by rw [HT.out]; exact hown'⟩
      case measure => simp [intOf]; omega
    · obtain rfl : k = n := by omega
      have ho := hown
      rw [List.take_of_length_le (by rw [HL.out]; exact Nat.le_refl _)] at ho
      have HO := Lib.hid ho
      clear ho hown
      go_wp2
      go_ret
      exact ⟨_, rfl, HO.out⟩
theorem ref_c (l : List Op) (A : Option Addr) (n c : Nat) (w : World) (hr : Rd w 2 A n (ops l)) (hn : n ≤ 1000000) :
    Calls Try.prog 58 #[.slice A n c] w (RetS w 2 n (ops l)) := (ref_o l A n c w hr hn).mono (fun _ _ => RetO.toS)
end Go.Proofs.Ytddgdhaioomnnaa.Term

namespace Go.Proofs.Ytddgdhaioomnnaa.Term
open Go.ChangeShapes Go.WideShapes Go.ChangeAt Go.RowKit Mem

/-- What is returned: a number, and a truth. -/
def RetV (w : World) (r : Int × Bool) (e : Ending) (w' : World) : Prop := e = .returned (.tuple #[.int .i64 r.1, .bool r.2]) ∧ Below w.heap.size w w'

theorem all_app {α : Type} {p : α → Bool} {a b : List α} (h : (a ++ b).all p = true) : a.all p = true ∧ b.all p = true := by
  rw [List.all_append, Bool.and_eq_true] at h; exact h
theorem live_at_ {h : List Heap.Cell} {A : Option Addr} {m : Nat} {w : World} (hh : Rd w 2 A m (Heap.cs h)) (nn : Int) (hl : Heap.liveAt h nn = true) :
    ∃ b off, ∃ k : Nat, A = some ⟨b, off, none⟩ ∧ nn = (k : Int) ∧ k < m ∧ w.cell? ⟨b, off + k * 2 + 1, none⟩ = some (.int .i64 (Heap.valAt h nn)) := by
  obtain ⟨h0, h1, x, hx, _⟩ := Heap.live_in h nn hl
  obtain ⟨k, rfl⟩ := Int.eq_ofNat_of_zero_le h0
  simp only [Int.toNat_natCast] at hx h1
  have hln : h.length = m := by have := hh.1; rw [Heap.cs_len] at this; omega
  obtain ⟨b, off, y, hA, hy, c0, c1⟩ := Heap.at_cell hh k (by omega)
  rw [hx] at hy; injection hy with e; subst e
  exact ⟨b, off, k, hA, rfl, by omega, by rw [Heap.val_at h k _ hx]; exact c1⟩

end Go.Proofs.Ytddgdhaioomnnaa.Term

namespace Go.Proofs.Ytddgdhaioomnnaa.Term
open Go.ChangeShapes Go.WideShapes Go.ChangeAt Go.RowKit Mem

/-- What is returned: two numbers. -/
def RetG (w : World) (r : Int × Int) (e : Ending) (w' : World) : Prop := e = .returned (.tuple #[.int .i64 r.1, .int .i64 r.2]) ∧ Below w.heap.size w w'


def namesB (l : List Op) (c : Nat) : Bool := l.any fun o => decide (o.kind = 2) && decide (o.n = (c : Int))
end Go.Proofs.Ytddgdhaioomnnaa.Term
