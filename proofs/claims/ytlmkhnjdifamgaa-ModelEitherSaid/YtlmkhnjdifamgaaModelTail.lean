/-
  WORDS FOR THE WALKS OF STAGE 10'S LAWS: an end that stays where another one is stored; what a run comes to, whatever it is. No conditions beyond those that each theorem states.
-/
import Derived.Test.YtlmkhnjdifamgaaModelCases
import Derived.Test.YtlmkhnjdifamgaaModelRunNo
namespace Go.Proofs.Ytlmkhnjdifamgaa.Model
open Go.ChangeShapes Go.WideShapes Go.ChangeAt Go.RowKit Mem Go.Proofs.Ytlmkhnjdifamgaa.Code

section
variable {P : Program} {w : World} {ops : Array Oper} {o : Oper} {a : Act} {K : Act → World → Prop} {Q : Exit → Act → World → Prop} {E : Prop}
theorem calls_step3 (hw : Region.wanted o (yielded ops a.tmps) = true) (f : FuncId) (vs : Array Value) (R : Ending → World → Prop)
    (hc : Calls P f vs w R) (hrun : (execOp a.eval o).run P w = .ok (.enter f vs) w) (h : ∀ e w', R e w' → ∃ v, e = .returned v ∧ K (a.put o.dst v) w') :
    if Region.wanted o (yielded ops a.tmps) = true then Oper.wp P o a w K Q else E := by
  rw [if_pos hw]
  unfold Oper.wp
  rw [hrun, Oper.upon_enter]
  refine hc.mono ?_
  intro e w' hr
  obtain ⟨v, rfl, hk⟩ := h e w' hr
  exact hk
end
theorem ite_yes {c : Prop} [Decidable c] {A B : Prop} (h : c) (a : A) : if c then A else B := by rw [if_pos h]; exact a
section
variable {P : Program} {w : World} {o : Oper} {a : Act} {K : Act → World → Prop} {Q : Exit → Act → World → Prop}
theorem calls_wp (f : FuncId) (vs : Array Value) (R : Ending → World → Prop)
    (hc : Calls P f vs w R) (hrun : (execOp a.eval o).run P w = .ok (.enter f vs) w) (h : ∀ e w', R e w' → ∃ v, e = .returned v ∧ K (a.put o.dst v) w') : Oper.wp P o a w K Q := by
  unfold Oper.wp
  rw [hrun, Oper.upon_enter]
  refine hc.mono ?_
  intro e w' hr
  obtain ⟨v, rfl, hk⟩ := h e w' hr
  exact hk
end
theorem enter_run {P : Program} {F : FuncId} {fn : Func} (hf : P.funcs[F]? = some fn) (hn : (fn.name == "runtime.NumGoroutine") = false) (hb : fn.body.isNone = false) (args : Array Value) (W : World) : (callFunc F args).run P W = .ok (.enter F args) W := by
  have hn' : ¬ fn.name = "runtime.NumGoroutine" := by simpa using hn
  have hb' : ¬ fn.body = none := fun e => by rw [e] at hb; cases hb
  unfold callFunc
  simp [program, Sem.run, hf, hn', hb']
/-- A call of a function by its name. -/
theorem run_call {P : Program} {ρ : Operand → Value} {o : Oper} {w : World} (F : FuncId) (args : Array Operand) (tys : Array TypeId) (ho : o.op = .call { callee := .value (.func F), args := args, argTypes := tys }) (hρ : ρ (.func F) = .func (.func F) #[] #[]) {fn : Func} (hf : P.funcs[F]? = some fn)
    (hn : (fn.name == "runtime.NumGoroutine") = false) (hb : fn.body.isNone = false) (vs : Array Value) (hvs : args.map ρ = vs) : (execOp ρ o).run P w = .ok (.enter F vs) w := by
  unfold execOp
  simp only [ho, resolve, Deferred.ofValue, hρ, invoke, Sem.run_bind, Sem.run_pure, Result.andThen_ok, hvs, Array.append_empty, Array.empty_append]
  exact enter_run hf hn hb vs w
/-- A slice that lies below a block. -/
def Lw (g : Nat) (A : Option Addr) (n : Nat) : Prop := ∀ b off, A = some ⟨b, off, none⟩ → 0 < n → b < g
theorem rd_lw {w : World} {k n g : Nat} {A : Option Addr} {xs : List Value} (h : Rd w k A n xs) (hk : 0 < k) (hg : w.heap.size ≤ g) : Lw g A n := by
  intro b off e hn
  obtain ⟨b1, o1, e1, hc⟩ := h.2 hn
  rw [e] at e1
  injection e1 with e1
  injection e1 with e1 e2
  subst e1
  have hl : 0 < xs.length := by rw [h.1]; exact Nat.mul_pos hn hk
  have := cell_lt (hc 0 _ (List.getElem?_eq_getElem hl))
  have h2 : b < w.heap.size := this
  omega
theorem six_lw {w : World} {g k n : Nat} {B : Option Addr} {xs : List Value} (h : Rd w k B n xs) (hne : Lw g B n) (a0 a1 a2 a3 a4 a5 : Value) : Rd ((((((w.setCell ⟨g, 0, none⟩ a0).setCell ⟨g, 1, none⟩ a1).setCell ⟨g, 2, none⟩ a2).setCell ⟨g, 3, none⟩ a3).setCell ⟨g, 4, none⟩ a4).setCell ⟨g, 5, none⟩ a5) k B n xs := by
  rcases Nat.eq_zero_or_pos n with h0 | h0
  · exact ⟨h.1, fun hn => absurd hn (by omega)⟩
  · exact six_rd h (fun b off e => by have := hne b off e h0; omega) _ _ _ _ _ _
theorem six_nw {w0 w : World} {g k n : Nat} {B : Option Addr} {xs : List Value} (h : Rd w k B n xs) (hne : Nw w0 B) (hg : g < w0.heap.size) (a0 a1 a2 a3 a4 a5 : Value) : Rd ((((((w.setCell ⟨g, 0, none⟩ a0).setCell ⟨g, 1, none⟩ a1).setCell ⟨g, 2, none⟩ a2).setCell ⟨g, 3, none⟩ a3).setCell ⟨g, 4, none⟩ a4).setCell ⟨g, 5, none⟩ a5) k B n xs :=
  six_rd h (fun b off e => by have := hne b off e; omega) _ _ _ _ _ _
/-- An end whose lists lie below a block, and one whose lists are new. -/
structure OLw (g : Nat) (A1 A2 A3 A4 : Option Addr) (n1 n2 n3 n4 : Nat) : Prop where
  a1 : Lw g A1 n1
  a2 : Lw g A2 n2
  a3 : Lw g A3 n3
  a4 : Lw g A4 n4
theorem OutAt.lw {w : World} {o : Out} {A1 A2 A3 A4 : Option Addr} {n1 n2 n3 n4 g : Nat} (h : OutAt w o A1 A2 A3 A4 n1 n2 n3 n4) (hg : w.heap.size ≤ g) : OLw g A1 A2 A3 A4 n1 n2 n3 n4 :=
  ⟨rd_lw h.regs (by decide) hg, rd_lw h.path (by decide) hg, rd_lw h.seen (by decide) hg, rd_lw h.writes (by decide) hg⟩
theorem OutAt.six {w : World} {o : Out} {A1 A2 A3 A4 : Option Addr} {n1 n2 n3 n4 g : Nat} (h : OutAt w o A1 A2 A3 A4 n1 n2 n3 n4) (l : OLw g A1 A2 A3 A4 n1 n2 n3 n4) (a0 a1 a2 a3 a4 a5 : Value) : OutAt ((((((w.setCell ⟨g, 0, none⟩ a0).setCell ⟨g, 1, none⟩ a1).setCell ⟨g, 2, none⟩ a2).setCell ⟨g, 3, none⟩ a3).setCell ⟨g, 4, none⟩ a4).setCell ⟨g, 5, none⟩ a5) o A1 A2 A3 A4 n1 n2 n3 n4 :=
  ⟨six_lw h.regs l.a1 _ _ _ _ _ _, six_lw h.path l.a2 _ _ _ _ _ _, six_lw h.seen l.a3 _ _ _ _ _ _, six_lw h.writes l.a4 _ _ _ _ _ _⟩
theorem OutAt.six_new {w0 w : World} {o : Out} {A1 A2 A3 A4 G : Option Addr} {n1 n2 n3 n4 g : Nat} (h : OutAt w o A1 A2 A3 A4 n1 n2 n3 n4) (l : Nw w0 A1 ∧ Nw w0 A2 ∧ Nw w0 A3 ∧ Nw w0 A4 ∧ Nw w0 G) (hg : g < w0.heap.size) (a0 a1 a2 a3 a4 a5 : Value) : OutAt ((((((w.setCell ⟨g, 0, none⟩ a0).setCell ⟨g, 1, none⟩ a1).setCell ⟨g, 2, none⟩ a2).setCell ⟨g, 3, none⟩ a3).setCell ⟨g, 4, none⟩ a4).setCell ⟨g, 5, none⟩ a5) o A1 A2 A3 A4 n1 n2 n3 n4 :=
  ⟨six_nw h.regs l.1 hg _ _ _ _ _ _, six_nw h.path l.2.1 hg _ _ _ _ _ _, six_nw h.seen l.2.2.1 hg _ _ _ _ _ _, six_nw h.writes l.2.2.2.1 hg _ _ _ _ _ _⟩
theorem six_blk_put {w : World} {g : Nat} {t : TypeId} {b0 b1 b2 b3 b4 b5 : Value} (h : Blk w g t #[b0, b1, b2, b3, b4, b5]) (a0 a1 a2 a3 a4 a5 : Value) : Blk ((((((w.setCell ⟨g, 0, none⟩ a0).setCell ⟨g, 1, none⟩ a1).setCell ⟨g, 2, none⟩ a2).setCell ⟨g, 3, none⟩ a3).setCell ⟨g, 4, none⟩ a4).setCell ⟨g, 5, none⟩ a5) g t #[a0, a1, a2, a3, a4, a5] := by
  have := (((((h.set_ 0 a0).set_ 1 a1).set_ 2 a2).set_ 3 a3).set_ 4 a4).set_ 5 a5
  simpa using this
theorem six_blk_ne {w : World} {g q : Nat} {t : TypeId} {xs : Array Value} (h : Blk w q t xs) (hne : g ≠ q) (a0 a1 a2 a3 a4 a5 : Value) : Blk ((((((w.setCell ⟨g, 0, none⟩ a0).setCell ⟨g, 1, none⟩ a1).setCell ⟨g, 2, none⟩ a2).setCell ⟨g, 3, none⟩ a3).setCell ⟨g, 4, none⟩ a4).setCell ⟨g, 5, none⟩ a5) q t xs :=
  (((((h.beside hne 0 a0).beside hne 1 a1).beside hne 2 a2).beside hne 3 a3).beside hne 4 a4).beside hne 5 a5
/-- Of whatever run the lists are short. -/
structure Short (o : Out) (g h : List Heap.Cell) : Prop where
  regs : o.regs.length ≤ 8
  path : o.path.length ≤ 24
  seen : o.seen.length ≤ 64
  writes : o.writes.length ≤ 64
  heap : g.length = h.length
theorem run_short (c : List Step) (h : List Heap.Cell) : Short (runS c h).1 (runS c h).2.1 h := by
  rcases run_cases c h with hr | ⟨k, y, sn, _, hsn, _, _, hr⟩ | ⟨y, rg, p, sn, ws, g, h1, h2, h3, h4, h5, _, _, _, hr⟩
  · rw [hr]; exact ⟨Nat.zero_le _, Nat.zero_le _, Nat.zero_le _, Nat.zero_le _, rfl⟩
  · rw [hr]; exact ⟨Nat.zero_le _, Nat.zero_le _, hsn, Nat.zero_le _, rfl⟩
  · rw [hr]; exact ⟨by show rg.length ≤ 8; omega, h2, h3, h4, h5⟩
/-- What a run comes to, in names. -/
theorem run_names (c : List Step) (h : List Heap.Cell) : ∃ (o : Out) (g : List Heap.Cell) (ok : Bool) (n1 n2 n3 n4 gn : Nat), runS c h = (o, g, ok) ∧ o.regs.length = n1 ∧ o.path.length = n2 ∧ o.seen.length = n3 ∧ o.writes.length = n4 ∧ g.length = gn ∧ n1 ≤ 8 ∧ n2 ≤ 24 ∧ n3 ≤ 64 ∧ n4 ≤ 64 ∧ gn = h.length := by
  have hs := run_short c h
  exact ⟨(runS c h).1, (runS c h).2.1, (runS c h).2.2, _, _, _, _, _, rfl, rfl, rfl, rfl, rfl, rfl, hs.regs, hs.path, hs.seen, hs.writes, hs.heap⟩
end Go.Proofs.Ytlmkhnjdifamgaa.Model
