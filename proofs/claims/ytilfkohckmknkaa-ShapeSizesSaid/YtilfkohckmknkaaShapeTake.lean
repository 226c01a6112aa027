/-
  BYTES TAKEN ONE BY ONE: what the program's taker makes of them, or that it gives up; it is what the chapter asks. No conditions beyond those that each theorem states. Nothing of the program is named here.
-/
import Derived.Test.YtilfkohckmknkaaShapePlain
namespace Go.Proofs.Ytilfkohckmknkaa.Shape
open Go.ChangeShapes Go.WideShapes Go.ChangeAt Go.RowKit Mem Go.Proofs.Ytilfkohckmknkaa.Code

def manyT {α : Type} (f : List Int → Option (α × List Int)) : Nat → List Int → Option (List α × List Int)
  | 0, l => some ([], l)
  | n + 1, l => (f l).bind fun p => (manyT f n p.2).map fun r => (p.1 :: r.1, r.2)
def opT (l : List Int) : Option (Term.Op × List Int) := if 5 ≤ l.length then some (opR l) else none
def stepT (l : List Int) : Option (Step × List Int) :=
  if 4 ≤ l.length then (manyT opT (hd (l.drop 3)).toNat (l.drop 4)).map fun r => (⟨hd l, hd (l.drop 1), hd (l.drop 2), r.1⟩, r.2) else none
def codeT : List Int → Option (List Step × List Int)
  | [] => none
  | z :: l => (manyT stepT z.toNat l).bind fun r => if checkS r.1 = 0 then some r else none
def codesT : List Int → Option (List (List Step) × List Int)
  | [] => none
  | z :: l => if 8 < z then none else manyT codeT z.toNat l
def readT (b : List Int) : Option (List (List Step)) := (codesT b).bind fun r => if r.2.length = 0 then some r.1 else none
theorem BB.right {a b : List Int} (h : BB (a ++ b)) : BB b := fun y hy => h y (List.mem_append_right _ hy)
theorem BB.head {z : Int} {b : List Int} (h : BB (z :: b)) : 0 ≤ z ∧ z < 256 := h z (List.mem_cons_self ..)
theorem BB.tail {z : Int} {b : List Int} (h : BB (z :: b)) : BB b := fun y hy => h y (List.mem_cons_of_mem _ hy)
section
variable {α : Type} {f : List Int → Option (α × List Int)} {g : α → List Int}
theorem many_one {n : Nat} {l l1 : List Int} {x : α} (h : f l = some (x, l1)) : manyT f (n + 1) l = (manyT f n l1).map fun r => (x :: r.1, r.2) := by
  show (f l).bind _ = _; rw [h]; rfl
theorem many_none {n : Nat} {l : List Int} (h : f l = none) : manyT f (n + 1) l = none := by
  show (f l).bind _ = _; rw [h]; rfl
theorem many_of (hf : ∀ l x q, BB l → f l = some (x, q) → l = g x ++ q) : (n : Nat) → (l : List Int) → (t : List α) → (q : List Int) → BB l → manyT f n l = some (t, q) → l = t.flatMap g ++ q ∧ t.length = n
  | 0, l, t, q, _, h => by
    injection h with h
    injection h with h1 h2
    subst h1 h2
    exact ⟨rfl, rfl⟩
  | n + 1, l, t, q, hb, h => by
    cases e : f l with
    | none => rw [many_none e] at h; cases h
    | some p =>
      obtain ⟨x, l1⟩ := p
      rw [many_one e] at h
      have h1 := hf l x l1 hb e
      cases e2 : manyT f n l1 with
      | none => rw [e2] at h; cases h
      | some r =>
        rw [e2] at h
        obtain ⟨h2, h3⟩ := many_of hf n l1 r.1 r.2 (by rw [h1] at hb; exact hb.right) e2
        injection h with h
        injection h with h4 h5
        subst h4 h5
        rw [List.flatMap_cons, List.append_assoc, ← h2]
        exact ⟨h1, by rw [List.length_cons, h3]⟩
theorem many_back (t : List α) (hf : ∀ x ∈ t, ∀ Q, f (g x ++ Q) = some (x, Q)) (Q : List Int) : manyT f t.length (t.flatMap g ++ Q) = some (t, Q) := by
  induction t with
  | nil => rfl
  | cons x t ih =>
    rw [List.flatMap_cons, List.append_assoc, List.length_cons, many_one (hf x (List.mem_cons_self ..) _), ih (fun y hy => hf y (List.mem_cons_of_mem _ hy))]
    rfl
end
theorem num_cons (a b c d : Int) (q : List Int) : num (a :: b :: c :: d :: q) = if 2147483647 < a * 16777216 + b * 65536 + c * 256 + d then a * 16777216 + b * 65536 + c * 256 + d - 4294967296 else a * 16777216 + b * 65536 + c * 256 + d := rfl
theorem four_num (a b c d : Int) (q : List Int) (ha : 0 ≤ a ∧ a < 256) (hb : 0 ≤ b ∧ b < 256) (hc : 0 ≤ c ∧ c < 256) (hd : 0 ≤ d ∧ d < 256) : fourS (num (a :: b :: c :: d :: q)) = [a, b, c, d] := by
  rw [num_cons]
  obtain ⟨m, hm⟩ : ∃ m, a * 16777216 + b * 65536 + c * 256 + d = m := ⟨_, rfl⟩
  rw [hm]
  have hh : highS (if 2147483647 < m then m - 4294967296 else m) = m := by
    unfold highS
    split <;> split <;> omega
  unfold fourS
  rw [hh]
  have e1 : m / 16777216 % 256 = a := by omega
  have e2 : m / 65536 % 256 = b := by omega
  have e3 : m / 256 % 256 = c := by omega
  have e4 : m % 256 = d := by omega
  rw [e1, e2, e3, e4]
theorem op_of (l : List Int) (o : Term.Op) (q : List Int) (hb : BB l) (h : opT l = some (o, q)) : l = opS o ++ q := by
  unfold opT at h
  split at h
  · rename_i hl
    match l, hl, hb with
    | k :: a :: b :: c :: d :: r, _, hb =>
      injection h with h
      injection h with h1 h2
      subst h1 h2
      show _ = (k :: fourS (num (a :: b :: c :: d :: r))) ++ r
      rw [four_num a b c d r hb.tail.head hb.tail.tail.head hb.tail.tail.tail.head hb.tail.tail.tail.tail.head]
      rfl
  · cases h
theorem step_of (l : List Int) (s : Step) (q : List Int) (hb : BB l) (h : stepT l = some (s, q)) : l = stepS s ++ q := by
  unfold stepT at h
  split at h
  · rename_i hl
    match l, hl, hb with
    | d :: a :: b :: n :: r, _, hb =>
      have e0 : hd ((d :: a :: b :: n :: r).drop 3) = n := rfl
      have e1 : (d :: a :: b :: n :: r).drop 4 = r := rfl
      rw [e0, e1] at h
      cases e : manyT opT n.toNat r with
      | none => rw [e] at h; cases h
      | some p =>
        obtain ⟨t, r'⟩ := p
        rw [e] at h
        obtain ⟨h2, h3⟩ := many_of op_of n.toNat r t r' hb.tail.tail.tail.tail e
        injection h with h
        injection h with h4 h5
        subst h4 h5
        have hn := hb.tail.tail.tail.head
        show _ = (d :: a :: b :: (t.length : Int) :: t.flatMap opS) ++ r'
        rw [h3]
        have e3 : ((n.toNat : Nat) : Int) = n := by omega
        rw [e3]
        show _ = d :: a :: b :: n :: (t.flatMap opS ++ r')
        rw [← h2]
  · cases h
theorem code_of (l : List Int) (c : List Step) (q : List Int) (hb : BB l) (h : codeT l = some (c, q)) : l = codeS c ++ q ∧ checkS c = 0 := by
  match l, hb with
  | [], _ => cases h
  | z :: r, hb =>
    replace h : (manyT stepT z.toNat r).bind (fun r => if checkS r.1 = 0 then some r else none) = some (c, q) := h
    cases e : manyT stepT z.toNat r with
    | none => rw [e] at h; cases h
    | some p =>
      rw [e] at h
      replace h : (if checkS p.1 = 0 then some p else none) = some (c, q) := h
      split at h
      · rename_i h0
        injection h with h
        subst h
        obtain ⟨h2, h3⟩ := many_of step_of z.toNat r c q hb.tail e
        refine ⟨?_, h0⟩
        have hz := hb.head
        show _ = ((c.length : Int) :: c.flatMap stepS) ++ q
        rw [h3]
        have e3 : ((z.toNat : Nat) : Int) = z := by omega
        rw [e3]
        show _ = z :: (c.flatMap stepS ++ q)
        rw [← h2]
      · cases h
theorem many_all {α : Type} {f : List Int → Option (α × List Int)} {g : α → List Int} {p : α → Prop} (hf : ∀ l x q, BB l → f l = some (x, q) → l = g x ++ q) (hp : ∀ l x q, BB l → f l = some (x, q) → p x) :
    (n : Nat) → (l : List Int) → (t : List α) → (q : List Int) → BB l → manyT f n l = some (t, q) → ∀ x ∈ t, p x
  | 0, l, t, q, _, h => by
    injection h with h
    injection h with h1 h2
    subst h1
    intro x hx; cases hx
  | n + 1, l, t, q, hb, h => by
    cases e : f l with
    | none => rw [many_none e] at h; cases h
    | some pr =>
      obtain ⟨x, l1⟩ := pr
      rw [many_one e] at h
      have h1 := hf l x l1 hb e
      cases e2 : manyT f n l1 with
      | none => rw [e2] at h; cases h
      | some r =>
        rw [e2] at h
        have h2 := many_all hf hp n l1 r.1 r.2 (by rw [h1] at hb; exact hb.right) e2
        injection h with h
        injection h with h4 h5
        subst h4
        intro y hy
        rcases List.mem_cons.1 hy with rfl | hy
        · exact hp l y l1 hb e
        · exact h2 y hy
theorem codes_of (b : List Int) (l : List (List Step)) (q : List Int) (hb : BB b) (h : codesT b = some (l, q)) : b = (l.length : Int) :: l.flatMap codeS ++ q ∧ l.length ≤ 8 ∧ l.all okB = true := by
  match b, hb with
  | [], _ => cases h
  | z :: r, hb =>
    replace h : (if 8 < z then none else manyT codeT z.toNat r) = some (l, q) := h
    split at h
    · cases h
    · rename_i h8
      obtain ⟨h2, h3⟩ := many_of (fun l x q hb h => (code_of l x q hb h).1) z.toNat r l q hb.tail h
      have h4 := many_all (p := fun c => checkS c = 0) (fun l x q hb h => (code_of l x q hb h).1) (fun l x q hb h => (code_of l x q hb h).2) z.toNat r l q hb.tail h
      have hz := hb.head
      refine ⟨?_, by omega, List.all_eq_true.2 fun c hc => by unfold okB; exact decide_eq_true (h4 c hc)⟩
      rw [h3]
      have e3 : ((z.toNat : Nat) : Int) = z := by omega
      rw [e3]
      show _ = z :: (l.flatMap codeS ++ q)
      rw [← h2]
theorem op_take (o : Term.Op) (h : FitO o) (Q : List Int) : opT (opS o ++ Q) = some (o, Q) := by
  unfold opT
  rw [if_pos (by rw [List.length_append]; show 5 ≤ 5 + Q.length; omega), op_read o h Q]
theorem step_take (s : Step) (h : FitS s) (Q : List Int) : stepT (stepS s ++ Q) = some (s, Q) := by
  have e1 : (stepS s ++ Q).drop 4 = s.t.flatMap opS ++ Q := rfl
  have e2 : hd ((stepS s ++ Q).drop 3) = (s.t.length : Int) := rfl
  unfold stepT
  rw [if_pos (by rw [List.length_append, step_len]; omega), e1, e2, Int.toNat_natCast, many_back s.t (fun o ho Q => op_take o (h.2.2.2.2 o ho) Q)]
  rfl
theorem code_take (c : List Step) (h : checkS c = 0) (Q : List Int) : codeT (codeS c ++ Q) = some (c, Q) := by
  show (manyT stepT ((c.length : Int)).toNat (c.flatMap stepS ++ Q)).bind _ = _
  rw [Int.toNat_natCast, many_back c (fun s hs Q => step_take s ((code_fit c h).2 s hs) Q)]
  show (if checkS c = 0 then _ else _) = _
  rw [if_pos h]
theorem read_take (b : List Int) (hb : BB b) : readT b = readS b := by
  have hto : ∀ l, readT b = some l → writeS l = some b := by
    intro l h
    unfold readT at h
    cases e : codesT b with
    | none => rw [e] at h; cases h
    | some r =>
      obtain ⟨l', q⟩ := r
      rw [e] at h
      replace h : (if q.length = 0 then some l' else none) = some l := h
      split at h
      · rename_i hq
        injection h with h
        subst h
        obtain ⟨h1, h2, h3⟩ := codes_of b l' q hb e
        obtain rfl : q = [] := List.eq_nil_of_length_eq_zero hq
        rw [List.append_nil] at h1
        rw [h1]
        exact write_mk l' h2 h3
      · cases h
  cases hs : readS b with
  | some l =>
    have hw := (read_iff b l).1 hs
    obtain ⟨h1, h2, h3⟩ := write_ok hw
    have hall : ∀ c ∈ l, checkS c = 0 := fun c hc => by have := List.all_eq_true.1 h2 c hc; unfold okB at this; simpa using this
    unfold readT
    have : codesT b = some (l, []) := by
      rw [h3]
      show (if 8 < ((l.length : Nat) : Int) then none else manyT codeT ((l.length : Int)).toNat (l.flatMap codeS)) = _
      rw [if_neg (by omega), Int.toNat_natCast]
      have := many_back l (fun c hc Q => code_take c (hall c hc) Q) []
      rwa [List.append_nil] at this
    rw [this]
    rfl
  | none =>
    cases ht : readT b with
    | none => rfl
    | some l => rw [(read_iff b l).2 (hto l ht)] at hs; cases hs
end Go.Proofs.Ytilfkohckmknkaa.Shape
