/-
  WHAT THE LAYER model DOES, AS IT IS WRITTEN: Either, if its parts do what they should. No conditions beyond those that each theorem states.
-/
import Derived.Test.YtlmkhnjdifamgaaModelDo3
namespace Go.Proofs.Ytlmkhnjdifamgaa.Model
open Go.ChangeShapes Go.WideShapes Go.ChangeAt Go.RowKit Mem Go.Proofs.Ytlmkhnjdifamgaa.Code

/-- A part that is run. -/
structure PPre (K : Nat → Nat → Prop) (w0 w : World) (g : Nat) (HA : Option Addr) (hn hc : Nat) (h : List Heap.Cell) (m : CS) (x : RL) (c : List Raw) (C : Option Addr) (cn cc e : Nat) : Prop where
  run : RunAt w0 w g (.slice HA hn hc) m x
  ok : KOK K w g x
  heap : Rd w0 2 HA hn (Heap.cs h)
  hn : hn ≤ 64
  part : At w0 C cn c
  cap : cn ≤ cc
  cn : cn ≤ 24
  ccc : cc ≤ 9223372036854775807
  all : (ss c).all oneB = true
  well : (wellP (ss c)).2 = true
  good : Good h m (c.length + e)
  why : m.why = 0
/-- How a part has ended. -/
def PPost (K : Nat → Nat → Prop) (w0 w : World) (g : Nat) (H : Value) (h : List Heap.Cell) (m : CS) (c : List Raw) (e : Nat) (en : Ending) (w' : World) : Prop :=
  ∃ (k : Int) (m' : CS), en = .returned (.int .i64 k) ∧ Kept K w0 w w' g H m' ∧ Good h m' e ∧ part (ss c) (abs h m 0) = abs h m' k
def PartC (f : Nat) : Prop := ∀ (K : Nat → Nat → Prop) (w0 w : World) (g : Nat) (HA : Option Addr) (hn hc : Nat) (h : List Heap.Cell) (m : CS) (x : RL) (c : List Raw) (C : Option Addr) (cn cc e : Nat), c.length ≤ f →
  PPre K w0 w g HA hn hc h m x c C cn cc e → Calls Try.prog 18 #[.pointer (some ⟨g, 0, none⟩), .slice C cn cc] w (PPost K w0 w g (.slice HA hn hc) h m c e)
theorem zero_state : (Try.prog.info? 59).bind (·.zero) = some (.agg #[.int .i64 0, .int .i64 0, .int .i64 0, .int .i64 0, .int .i64 0, .int .i64 0, .int .i64 0, .int .i64 0, .slice none 0 0, .slice none 0 0, .slice none 0 0]) := by kernel_rfl
theorem size_state : (Try.prog.info? 59).map (·.size) = some 11 := by kernel_rfl
/-- The parts of an Either. -/
theorem parts_of (x : Step) (c : List Raw) (ho : oneB x = true) (hd : x.d = 7) (hall : (ss c).all oneB = true) (hw : (wellP (x :: ss c)).2 = true) :
    ∃ a b : Nat, x.a = (a : Int) ∧ x.b = (b : Int) ∧ a + b ≤ c.length ∧ (wellP (ss (c.take a))).2 = true ∧ (wellP (ss ((c.drop a).take b))).2 = true ∧ (wellP (ss (c.drop (a + b)))).2 = true ∧
      ((ss (c.take a)).all oneB = true ∧ (ss ((c.drop a).take b)).all oneB = true ∧ (ss (c.drop (a + b))).all oneB = true) ∧
      ∀ s : St, part (x :: ss c) s = if (eitherS (ss (c.take a)) (ss ((c.drop a).take b)) s).kind = 1 then part (ss (c.drop (a + b))) (eitherS (ss (c.take a)) (ss ((c.drop a).take b)) s) else eitherS (ss (c.take a)) (ss ((c.drop a).take b)) s := by
  have h1 := one_either x ho hd
  refine ⟨x.a.toNat, x.b.toNat, by omega, by omega, ?_⟩
  by_cases hlt : ((ss c).length : Int) < x.a + x.b
  · rw [well_out x (ss c) hd hlt] at hw; cases hw
  have hle : x.a.toNat + x.b.toNat ≤ c.length := by rw [ss_len] at hlt; omega
  have hla : (ss (c.take x.a.toNat)).length = x.a.toNat := by rw [ss_len, List.length_take]; omega
  have hlb : (ss ((c.drop x.a.toNat).take x.b.toNat)).length = x.b.toNat := by rw [ss_len, List.length_take, List.length_drop]; omega
  have e : ss c = ss (c.take x.a.toNat) ++ (ss ((c.drop x.a.toNat).take x.b.toNat) ++ ss (c.drop (x.a.toNat + x.b.toNat))) := by
    rw [← ss_app, ← ss_app, ← List.drop_drop, List.take_append_drop, List.take_append_drop]
  have hw2 := hw
  rw [e, well_either x _ _ _ hd (by rw [hla]; omega) (by rw [hlb]; omega), Bool.and_eq_true, Bool.and_eq_true] at hw2
  have ha := hall
  rw [e, List.all_append, List.all_append, Bool.and_eq_true, Bool.and_eq_true] at ha
  refine ⟨hle, hw2.1.1, hw2.1.2, hw2.2, ⟨ha.1, ha.2.1, ha.2.2⟩, fun s => ?_⟩
  conv => lhs; rw [e]
  exact part_either x s _ _ _ hd (by rw [hla]; omega) (by rw [hlb]; omega)
theorem abs_end (c : List Step) (h : List Heap.Cell) (m : CS) (k j : Int) : part c (abs h m k) = part c (abs h m j) := by
  have : abs h m k = ended (abs h m j) k m.why := rfl
  rw [this, part_end]
section
variable {K : Nat → Nat → Prop} {w0 w : World} {g : Nat} {HA : Option Addr} {hn hc : Nat} {h : List Heap.Cell} {m : CS} {x : RL} {rest : List Raw} {B : Option Addr} {rn rc e : Nat}
/-- A slice's piece. -/
theorem At.piece {l : List Raw} (hat : At w B rn l) (a b : Nat) (hab : a + b ≤ rn) (hc : rn ≤ rc) : At w (if rc = a then B else B.map (·.add (a * 4))) b ((l.drop a).take b) := by
  have h1 := hat.behind a rc (by omega) hc
  exact h1.fst b (by omega)
/-- What comes of a first part. -/
theorem either_one (U V : List Step) (m4 : CS) (k : Int) (h4 : part U (abs h (pathC m 1) 0) = abs h m4 k) (hk : k ≠ 2) : eitherS U V (abs h m 0) = abs h m4 k := by
  unfold eitherS
  have e : onPath (abs h m 0) 1 = abs h (pathC m 1) 0 := rfl
  rw [e, h4, if_neg (show ¬ (abs h m4 k).kind = 2 from hk)]
theorem either_two (U V : List Step) (m4 m7 : CS) (k : Int) (hw : m.why = 0) (h4 : part U (abs h (pathC m 1) 0) = abs h m4 2) (h7 : part V (abs h (pathC ⟨m.regs, m.path, m.log, m4.seen, m4.why⟩ 2) 0) = abs h m7 k) :
    m4.why = 0 ∧ eitherS U V (abs h m 0) = abs h m7 k := by
  have h0 : m4.why = 0 := by
    have h1 := part_again U.length U (abs h (pathC m 1) 0)
    have h2 : partF U.length U (abs h (pathC m 1) 0) = abs h m4 2 := h4
    rw [h2] at h1
    exact h1 rfl
  refine ⟨h0, ?_⟩
  unfold eitherS
  have e : onPath (abs h m 0) 1 = abs h (pathC m 1) 0 := rfl
  rw [e, h4, if_pos (show (abs h m4 2).kind = 2 from rfl)]
  have e2 : saw (onPath (abs h m 0) 2) (abs h m4 2).seen = abs h (pathC ⟨m.regs, m.path, m.log, m4.seen, m4.why⟩ 2) 0 := by
    unfold saw onPath abs pathC
    simp only [h0, hw]
  rw [e2, h7]
theorem either_fin {r : Raw} {w' : World} {R : List Raw} {RB : Option Addr} {ln lc : Nat} (U V : List Step) (m7 : CS) (k : Int) (hat : At w0 RB ln R) (h1 : ln ≤ lc) (h2 : lc ≤ 9223372036854775807) (hall : (ss R).all oneB = true) (hwell : (wellP (ss R)).2 = true) (hl : R.length ≤ rest.length)
    (hspec : part (r.s :: ss rest) (abs h m 0) = if (eitherS U V (abs h m 0)).kind = 1 then part (ss R) (eitherS U V (abs h m 0)) else eitherS U V (abs h m 0)) (h7 : eitherS U V (abs h m 0) = abs h m7 k) (hkept : Kept K w0 w w' g (.slice HA hn hc) m7) (hg : Good h m7 (R.length + e))
    (hw : k = 1 → m7.why = 0) : DoPost K w0 w g (.slice HA hn hc) h m r rest e (.returned (.tuple #[.slice RB ln lc, .int .i64 k])) w' := by
  refine ⟨k, R, RB, ln, lc, m7, rfl, hkept, ?_⟩
  rw [h7] at hspec
  by_cases hk : k = 1
  · refine .inl ⟨hk, hat, h1, h2, hall, hwell, hl, hg, hw hk, ?_⟩
    rw [hspec, if_pos (show (abs h m7 k).kind = 1 from hk)]
    exact abs_end _ h m7 k 0
  · refine .inr ⟨hk, hg.weak _ (by omega), ?_⟩
    rw [hspec, if_neg (show ¬ (abs h m7 k).kind = 1 from hk)]
theorem part_zero (c : List Step) (s : St) (m7 : CS) (k : Int) (h7 : part c s = abs h m7 k) (hk : k = 1) : m7.why = 0 := by
  have := part_no c s (by rw [h7]; exact hk)
  rw [h7] at this
  exact this
end
end Go.Proofs.Ytlmkhnjdifamgaa.Model
