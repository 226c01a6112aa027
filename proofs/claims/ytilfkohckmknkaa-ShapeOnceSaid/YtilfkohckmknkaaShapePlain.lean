/-
  PLAIN DEFINITIONS: codes as bytes, and what the chapter on their shape asks. No conditions beyond those that each theorem states. Nothing of the program is named here.
-/
import Derived.Test.YtilfkohckmknkaaCodePlain
namespace Go.Proofs.Ytilfkohckmknkaa.Shape
open Go.ChangeShapes Go.WideShapes Go.ChangeAt Go.RowKit Mem Go.Proofs.Ytilfkohckmknkaa.Code

/-- A number's four bytes. -/
def highS (n : Int) : Int := if n < 0 then n + 4294967296 else n
def fourS (n : Int) : List Int := [highS n / 16777216 % 256, highS n / 65536 % 256, highS n / 256 % 256, highS n % 256]
def opS (o : Term.Op) : List Int := o.kind :: fourS o.n
def stepS (s : Step) : List Int := s.d :: s.a :: s.b :: (s.t.length : Int) :: s.t.flatMap opS
def codeS (c : List Step) : List Int := (c.length : Int) :: c.flatMap stepS
def okB (c : List Step) : Bool := decide (checkS c = 0)
def writeS (l : List (List Step)) : Option (List Int) := if (decide (l.length ≤ 8) && l.all okB) = true then some ((l.length : Int) :: l.flatMap codeS) else none
def sizeS (c : List Step) : Nat := if checkS c = 0 then (codeS c).length else 0
/-- All are bytes. -/
def BB (l : List Int) : Prop := ∀ z ∈ l, 0 ≤ z ∧ z < 256
theorem BB.nil_ : BB [] := by intro z hz; cases hz
theorem BB.cons_ {z : Int} {l : List Int} (h : 0 ≤ z ∧ z < 256) (k : BB l) : BB (z :: l) := by
  intro y hy
  rcases List.mem_cons.1 hy with rfl | hy
  · exact h
  · exact k y hy
theorem BB.app {a b : List Int} (h : BB a) (k : BB b) : BB (a ++ b) := by
  intro y hy
  rcases List.mem_append.1 hy with hy | hy
  · exact h y hy
  · exact k y hy
theorem BB.flat {α : Type} {f : α → List Int} {l : List α} (h : ∀ x ∈ l, BB (f x)) : BB (l.flatMap f) := by
  intro y hy
  obtain ⟨x, hx, hy⟩ := List.mem_flatMap.1 hy
  exact h x hx y hy
theorem four_bb (n : Int) : BB (fourS n) :=
  BB.cons_ (by omega) (BB.cons_ (by omega) (BB.cons_ (by omega) (BB.cons_ (by omega) BB.nil_)))
/-- What is asked of an operation, and a step, so that its bytes tell it. -/
def FitO (o : Term.Op) : Prop := (0 ≤ o.kind ∧ o.kind < 256) ∧ -2147483648 ≤ o.n ∧ o.n ≤ 2147483647
def FitS (s : Step) : Prop := (0 ≤ s.d ∧ s.d < 256) ∧ (0 ≤ s.a ∧ s.a < 256) ∧ (0 ≤ s.b ∧ s.b < 256) ∧ s.t.length < 256 ∧ ∀ o ∈ s.t, FitO o
def FitC (c : List Step) : Prop := c.length < 256 ∧ ∀ s ∈ c, FitS s
theorem op_fit (o : Term.Op) (h : Term.oneB o = true) : FitO o := by
  have hk := Term.one_kind o h
  refine ⟨by omega, ?_⟩
  unfold Term.oneB at h
  split at h
  · unfold Heap.vB at h; simpa using h
  · split at h
    · simp at h; omega
    · split at h
      · simp at h; omega
      · simp at h; omega
theorem reck_fit (t : List Term.Op) (h : reckonsB t = true) : t.length < 256 ∧ ∀ o ∈ t, FitO o := by
  unfold reckonsB at h
  rw [Bool.and_eq_true] at h
  have h0 : Term.checkS t = 0 := by simpa using h.1
  obtain ⟨_, h2, h3, _⟩ := Term.check_ok t h0
  exact ⟨by omega, fun o ho => op_fit o (List.all_eq_true.1 h3 o ho)⟩
theorem bare_fit (t : List Term.Op) (h : t.length = 0) : t.length < 256 ∧ ∀ o ∈ t, FitO o := by
  obtain rfl : t = [] := List.eq_nil_of_length_eq_zero h
  exact ⟨by simp, by intro o ho; cases ho⟩
theorem step_fit (s : Step) (h : oneB s = true) : FitS s := by
  have hd := one_d s h
  unfold oneB at h
  split at h
  · simp only [Bool.and_eq_true, decide_eq_true_eq] at h
    obtain ⟨h1, h2⟩ := h
    have := bare_fit _ h1
    exact ⟨by omega, by omega, by omega, this.1, this.2⟩
  split at h
  · simp only [Bool.and_eq_true, decide_eq_true_eq] at h
    obtain ⟨h1, h2⟩ := h
    have := reck_fit _ h1
    exact ⟨by omega, by omega, by omega, this.1, this.2⟩
  split at h
  · simp only [Bool.and_eq_true, decide_eq_true_eq] at h
    obtain ⟨h1, h2⟩ := h
    have := reck_fit _ h1
    exact ⟨by omega, by omega, by omega, this.1, this.2⟩
  split at h
  · simp only [Bool.and_eq_true, decide_eq_true_eq] at h
    obtain ⟨h1, h2⟩ := h
    have := reck_fit _ h1
    exact ⟨by omega, by omega, by omega, this.1, this.2⟩
  split at h
  · simp only [Bool.and_eq_true, decide_eq_true_eq] at h
    obtain ⟨h1, h2⟩ := h
    have := bare_fit _ h1
    exact ⟨by omega, by omega, by omega, this.1, this.2⟩
  split at h
  · simp only [Bool.and_eq_true, decide_eq_true_eq] at h
    obtain ⟨h1, h2⟩ := h
    have := bare_fit _ h1
    exact ⟨by omega, by omega, by omega, this.1, this.2⟩
  · simp only [Bool.and_eq_true, decide_eq_true_eq] at h
    obtain ⟨_, h1, h2⟩ := h
    have := bare_fit _ h1
    exact ⟨by omega, by omega, by omega, this.1, this.2⟩
theorem code_fit (c : List Step) (h : checkS c = 0) : FitC c := by
  obtain ⟨h1, h2, _, _⟩ := check_ok c h
  exact ⟨by omega, fun s hs => step_fit s (List.all_eq_true.1 h2 s hs)⟩
theorem op_bb (o : Term.Op) (h : FitO o) : BB (opS o) := BB.cons_ h.1 (four_bb _)
theorem step_bb (s : Step) (h : FitS s) : BB (stepS s) :=
  BB.cons_ h.1 (BB.cons_ h.2.1 (BB.cons_ h.2.2.1 (BB.cons_ (by have := h.2.2.2.1; omega) (BB.flat fun o ho => op_bb o (h.2.2.2.2 o ho)))))
theorem code_bb (c : List Step) (h : FitC c) : BB (codeS c) := BB.cons_ (by have := h.1; omega) (BB.flat fun s hs => step_bb s (h.2 s hs))

/-! What bytes are read as. -/
def hd (l : List Int) : Int := l.headD 0
def num (l : List Int) : Int :=
  let n := hd l * 16777216 + hd (l.drop 1) * 65536 + hd (l.drop 2) * 256 + hd (l.drop 3)
  if 2147483647 < n then n - 4294967296 else n
def opR (l : List Int) : Term.Op × List Int := (⟨hd l, num (l.drop 1)⟩, l.drop 5)
def opsR : Nat → List Int → List Term.Op × List Int
  | 0, l => ([], l)
  | n + 1, l => ((opR l).1 :: (opsR n (opR l).2).1, (opsR n (opR l).2).2)
def stepR (l : List Int) : Step × List Int :=
  (⟨hd l, hd (l.drop 1), hd (l.drop 2), (opsR (hd (l.drop 3)).toNat (l.drop 4)).1⟩, (opsR (hd (l.drop 3)).toNat (l.drop 4)).2)
def stepsR : Nat → List Int → List Step × List Int
  | 0, l => ([], l)
  | n + 1, l => ((stepR l).1 :: (stepsR n (stepR l).2).1, (stepsR n (stepR l).2).2)
def codeR (l : List Int) : List Step × List Int := stepsR (hd l).toNat (l.drop 1)
def codesR : Nat → List Int → List (List Step) × List Int
  | 0, l => ([], l)
  | n + 1, l => ((codeR l).1 :: (codesR n (codeR l).2).1, (codesR n (codeR l).2).2)
def parseS (b : List Int) : List (List Step) := (codesR (hd b).toNat (b.drop 1)).1
def readS (b : List Int) : Option (List (List Step)) := if writeS (parseS b) = some b then some (parseS b) else none

/-! What is written is read. -/
theorem num_four (n : Int) (h : -2147483648 ≤ n ∧ n ≤ 2147483647) (Q : List Int) : num (fourS n ++ Q) = n := by
  have e : num (fourS n ++ Q) = let m := (highS n / 16777216 % 256) * 16777216 + (highS n / 65536 % 256) * 65536 + (highS n / 256 % 256) * 256 + highS n % 256; if 2147483647 < m then m - 4294967296 else m := rfl
  rw [e]
  simp only
  have hh : highS n = if n < 0 then n + 4294967296 else n := rfl
  generalize highS n = m at *
  split at hh <;> split <;> omega
theorem op_read (o : Term.Op) (h : FitO o) (Q : List Int) : opR (opS o ++ Q) = (o, Q) := by
  have e1 : (opS o ++ Q).drop 1 = fourS o.n ++ Q := rfl
  have e2 : (opS o ++ Q).drop 5 = Q := rfl
  have e3 : hd (opS o ++ Q) = o.kind := rfl
  unfold opR
  rw [e1, e2, e3, num_four o.n h.2]
theorem ops_read (t : List Term.Op) (h : ∀ o ∈ t, FitO o) (Q : List Int) : opsR t.length (t.flatMap opS ++ Q) = (t, Q) := by
  induction t with
  | nil => rfl
  | cons o t ih =>
    have e : (o :: t).flatMap opS ++ Q = opS o ++ (t.flatMap opS ++ Q) := by rw [List.flatMap_cons, List.append_assoc]
    rw [e]
    show ((opR _).1 :: (opsR t.length (opR _).2).1, (opsR t.length (opR _).2).2) = _
    rw [op_read o (h o (List.mem_cons_self ..)), ih (fun x hx => h x (List.mem_cons_of_mem _ hx))]
theorem step_read (s : Step) (h : FitS s) (Q : List Int) : stepR (stepS s ++ Q) = (s, Q) := by
  have e1 : (stepS s ++ Q).drop 4 = s.t.flatMap opS ++ Q := rfl
  have e2 : hd ((stepS s ++ Q).drop 3) = (s.t.length : Int) := rfl
  unfold stepR
  rw [e1, e2, Int.toNat_natCast, ops_read s.t h.2.2.2.2]
  rfl
theorem steps_read (c : List Step) (h : ∀ s ∈ c, FitS s) (Q : List Int) : stepsR c.length (c.flatMap stepS ++ Q) = (c, Q) := by
  induction c with
  | nil => rfl
  | cons s c ih =>
    have e : (s :: c).flatMap stepS ++ Q = stepS s ++ (c.flatMap stepS ++ Q) := by rw [List.flatMap_cons, List.append_assoc]
    rw [e]
    show ((stepR _).1 :: (stepsR c.length (stepR _).2).1, (stepsR c.length (stepR _).2).2) = _
    rw [step_read s (h s (List.mem_cons_self ..)), ih (fun x hx => h x (List.mem_cons_of_mem _ hx))]
theorem code_read (c : List Step) (h : FitC c) (Q : List Int) : codeR (codeS c ++ Q) = (c, Q) := by
  have e1 : (codeS c ++ Q).drop 1 = c.flatMap stepS ++ Q := rfl
  have e2 : hd (codeS c ++ Q) = (c.length : Int) := rfl
  unfold codeR
  rw [e1, e2, Int.toNat_natCast, steps_read c h.2]
theorem codes_read (l : List (List Step)) (h : ∀ c ∈ l, FitC c) (Q : List Int) : codesR l.length (l.flatMap codeS ++ Q) = (l, Q) := by
  induction l with
  | nil => rfl
  | cons c l ih =>
    have e : (c :: l).flatMap codeS ++ Q = codeS c ++ (l.flatMap codeS ++ Q) := by rw [List.flatMap_cons, List.append_assoc]
    rw [e]
    show ((codeR _).1 :: (codesR l.length (codeR _).2).1, (codesR l.length (codeR _).2).2) = _
    rw [code_read c (h c (List.mem_cons_self ..)), ih (fun x hx => h x (List.mem_cons_of_mem _ hx))]
theorem write_ok {l : List (List Step)} {b : List Int} (h : writeS l = some b) : l.length ≤ 8 ∧ l.all okB = true ∧ b = (l.length : Int) :: l.flatMap codeS := by
  unfold writeS at h
  split at h
  · rename_i h1
    rw [Bool.and_eq_true] at h1
    injection h with h
    exact ⟨by simpa using h1.1, h1.2, h.symm⟩
  · cases h
theorem write_mk (l : List (List Step)) (h1 : l.length ≤ 8) (h2 : l.all okB = true) : writeS l = some ((l.length : Int) :: l.flatMap codeS) := by
  unfold writeS; rw [if_pos (by rw [h2]; simp [h1])]
theorem write_many (l : List (List Step)) (h : 8 < l.length) : writeS l = none := by
  unfold writeS; rw [if_neg (by rw [decide_eq_false (by omega)]; simp)]
theorem write_bad (l : List (List Step)) (k : Nat) (c : List Step) (hk : l[k]? = some c) (hc : checkS c ≠ 0) : writeS l = none := by
  unfold writeS; rw [if_neg (by rw [all_bad l okB k c hk (by unfold okB; exact decide_eq_false hc)]; simp)]
theorem all_fit {l : List (List Step)} (h : l.all okB = true) : ∀ c ∈ l, FitC c := by
  intro c hc
  have := List.all_eq_true.1 h c hc
  exact code_fit c (by unfold okB at this; simpa using this)
theorem read_of_write {l : List (List Step)} {b : List Int} (h : writeS l = some b) : parseS b = l := by
  obtain ⟨_, h2, rfl⟩ := write_ok h
  unfold parseS
  have e1 : hd ((l.length : Int) :: l.flatMap codeS) = (l.length : Int) := rfl
  have e2 : ((l.length : Int) :: l.flatMap codeS).drop 1 = l.flatMap codeS ++ [] := by simp
  rw [e1, e2, Int.toNat_natCast, codes_read l (all_fit h2)]
theorem read_some {l : List (List Step)} {b : List Int} (h : writeS l = some b) : readS b = some l := by
  unfold readS; rw [read_of_write h, if_pos h]
theorem read_iff (b : List Int) (l : List (List Step)) : readS b = some l ↔ writeS l = some b := by
  constructor
  · intro h
    unfold readS at h
    split at h
    · injection h with h; subst h; assumption
    · cases h
  · exact read_some
theorem write_bb {l : List (List Step)} {b : List Int} (h : writeS l = some b) : BB b := by
  obtain ⟨h1, h2, rfl⟩ := write_ok h
  exact BB.cons_ (by omega) (BB.flat fun c hc => code_bb c (all_fit h2 c hc))
/-- No beginning, and nothing longer, is codes. -/
theorem write_front {l m : List (List Step)} {b Q : List Int} (h : writeS l = some b) (k : writeS m = some (b ++ Q)) : Q = [] ∧ l = m := by
  obtain ⟨_, h2, rfl⟩ := write_ok h
  have e0 := read_of_write k
  unfold parseS at e0
  have e1 : hd ((l.length : Int) :: l.flatMap codeS ++ Q) = (l.length : Int) := rfl
  have e2 : ((l.length : Int) :: l.flatMap codeS ++ Q).drop 1 = l.flatMap codeS ++ Q := rfl
  rw [e1, e2, Int.toNat_natCast, codes_read l (all_fit h2)] at e0
  simp only at e0
  subst e0
  rw [h] at k
  injection k with k
  have := congrArg List.length k
  simp at this
  exact ⟨this, rfl⟩
theorem ops_len (t : List Term.Op) : (t.flatMap opS).length = t.length * 5 := by
  induction t with
  | nil => rfl
  | cons o t ih => rw [List.flatMap_cons, List.length_append, ih, List.length_cons, Nat.succ_mul, Nat.add_comm]; rfl
theorem step_len (s : Step) : (stepS s).length = 4 + 5 * s.t.length := by
  unfold stepS; simp only [List.length_cons, ops_len]; omega
theorem code_app (a b : List Step) : (codeS (a ++ b)).length + 1 = (codeS a).length + (codeS b).length := by
  unfold codeS; simp only [List.length_cons, List.flatMap_append, List.length_append]; omega
theorem code_long (c : List Step) : 1 + 4 * c.length ≤ (codeS c).length := by
  unfold codeS
  have : 4 * c.length ≤ (c.flatMap stepS).length := by
    induction c with
    | nil => simp
    | cons s c ih => rw [List.flatMap_cons, List.length_append, step_len, List.length_cons]; omega
  simp only [List.length_cons]; omega
end Go.Proofs.Ytilfkohckmknkaa.Shape
