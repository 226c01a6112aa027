/-
  WHAT Run RETURNS, AS IT IS WRITTEN, of a code and a heap. No conditions beyond those that each theorem states.
-/
import Derived.Test.YtclbeboiojgejaaGreatModB
import Derived.Laws.Tables
import Derived.Laws.CopyOwn
import Derived.Test.YtclbeboiojgejaaGreatAttF
namespace Go.Proofs.YtclbeboiojgejaaGreat.Model
open Go.ChangeShapes Go.WideShapes Go.ChangeAt Go.RowKit Mem Go.Proofs.YtclbeboiojgejaaGreat.Code

end Go.Proofs.YtclbeboiojgejaaGreat.Model

namespace Go.Proofs.YtclbeboiojgejaaGreat.Model
open Go.ChangeShapes Go.WideShapes Go.ChangeAt Go.RowKit Mem Go.Proofs.YtclbeboiojgejaaGreat.Code

section
variable {P : Program} {w : World} {ops : Array Oper} {o : Oper} {a : Act} {K : Act → World → Prop} {Q : Exit → Act → World → Prop} {E : Prop}
end
section
variable {P : Program} {w : World} {o : Oper} {a : Act} {K : Act → World → Prop} {Q : Exit → Act → World → Prop}
theorem calls_wp (f : FuncId) (vs : Array Value) (R : Ending → World → Prop)
    (hc : Calls P f vs w R) (hrun : (execOp a.eval o).run P w = .ok (.enter f vs) w) (h : ∀ e w', R e w' → ∃ v, e = .returned v ∧ K (a.put o.dst v) w') : Oper.wp P o a w K Q := by
  unfold Oper.wp
  rw [hrun, Oper.upon_enter]
  refine hc.mono ?_
  intro e w' hr
  obtain ⟨v, rfl, hk⟩ := h e w' hr
  exact hk
end
theorem enter_run {P : Program} {F : FuncId} {fn : Func} (hf : P.funcs[F]? = some fn) (hn : (fn.name == "runtime.NumGoroutine") = false) (hb : fn.body.isNone = false) (args : Array Value) (W : World) : (callFunc F args).run P W = .ok (.enter F args) W := by
  have hn' : ¬ fn.name = "runtime.NumGoroutine" := by simpa using hn
  have hb' : ¬ fn.body = none := fun e => by rw [e] at hb; cases hb
  unfold callFunc
  simp [program, Sem.run, hf, hn', hb']
/-- A call of a function by its name. -/
theorem run_call {P : Program} {ρ : Operand → Value} {o : Oper} {w : World} (F : FuncId) (args : Array Operand) (tys : Array TypeId) (ho : o.op = .call { callee := .value (.func F), args := args, argTypes := tys }) (hρ : ρ (.func F) = .func (.func F) #[] #[]) {fn : Func} (hf : P.funcs[F]? = some fn)
    (hn : (fn.name == "runtime.NumGoroutine") = false) (hb : fn.body.isNone = false) (vs : Array Value) (hvs : args.map ρ = vs) : (execOp ρ o).run P w = .ok (.enter F vs) w := by
  unfold execOp
  simp only [ho, resolve, Deferred.ofValue, hρ, invoke, Sem.run_bind, Sem.run_pure, Result.andThen_ok, hvs, Array.append_empty, Array.empty_append]
  exact enter_run hf hn hb vs w
end Go.Proofs.YtclbeboiojgejaaGreat.Model

namespace Go.Proofs.YtclbeboiojgejaaGreat.Model
open Go.ChangeShapes Go.WideShapes Go.ChangeAt Go.RowKit Mem Go.Proofs.YtclbeboiojgejaaGreat.Code

section
variable {K : Nat → Nat → Prop} {w0 w : World} {g : Nat} {HA : Option Addr} {hn hc : Nat} {h : List Heap.Cell} {m : CS} {x : RL} {rest : List Raw} {B : Option Addr} {rn rc e : Nat}
end
end Go.Proofs.YtclbeboiojgejaaGreat.Model

namespace Go.Proofs.YtclbeboiojgejaaGreat.Model
open Go.ChangeShapes Go.WideShapes Go.ChangeAt Go.RowKit Mem Go.Proofs.YtclbeboiojgejaaGreat.Code

section
variable {K : Nat → Nat → Prop} {w0 w : World} {g : Nat} {HA : Option Addr} {hn hc : Nat} {h : List Heap.Cell} {m : CS} {x : RL} {rest : List Raw} {B : Option Addr} {rn rc e : Nat}
end
end Go.Proofs.YtclbeboiojgejaaGreat.Model

namespace Go.Proofs.YtclbeboiojgejaaGreat.Model
open Go.ChangeShapes Go.WideShapes Go.ChangeAt Go.RowKit Mem Go.Proofs.YtclbeboiojgejaaGreat.Code

section
variable {K : Nat → Nat → Prop} {w0 w : World} {g : Nat} {HA : Option Addr} {hn hc : Nat} {h : List Heap.Cell} {m : CS} {x : RL} {rest : List Raw} {B : Option Addr} {rn rc e : Nat}
end
end Go.Proofs.YtclbeboiojgejaaGreat.Model

namespace Go.Proofs.YtclbeboiojgejaaGreat.Model
open Go.ChangeShapes Go.WideShapes Go.ChangeAt Go.RowKit Mem Go.Proofs.YtclbeboiojgejaaGreat.Code

theorem apart_grown {u v : Value} (h : Apart u v) : u.ownBlock = none ∨ u.ownBlock ≠ v.ownBlock := by
  rcases h with h | h | h
  · exact .inl h
  · cases hu : u.ownBlock with
    | none => exact .inl rfl
    | some q => refine .inr ?_; rw [h]; exact fun e => by cases e
  · exact .inr h
/-- What is left of a run where what was seen is sorted in its place. -/
structure Rest (w0 w : World) (g : Nat) (H : Value) (m : CS) (x : RL) : Prop where
  blk : Blk w g 132 (rcells H m x).toArray
  path : Own w0 w 3 1 x.pv x.pn (zs m.path)
  log : Own w0 w 119 2 x.lv x.ln (Heap.ws m.log)
theorem Rest.grown {w0 w w' : World} {g : Nat} {H : Value} {m : CS} {x : RL} (h : Rest w0 w g H m x) (gs : x.sv.ownBlock ≠ some g) (ps : Apart x.pv x.sv) (ls : Apart x.lv x.sv) (hg : w.grownBy w' x.sv.ownBlock) (hb : Below w0.heap.size w0 w') : Rest w0 w' g H m x :=
  ⟨h.blk.grown hg gs, own_grown_ h.path hg (apart_grown ps) hb, own_grown_ h.log hg (apart_grown ls) hb⟩
theorem Rest.below {w0 w w' : World} {g : Nat} {H : Value} {m : CS} {x : RL} (h : Rest w0 w g H m x) (hb : Below w.heap.size w w') : Rest w0 w' g H m x := ⟨h.blk.below hb, h.path.below hb, h.log.below hb⟩
theorem Rest.set {w0 w : World} {g q : Nat} {H : Value} {m : CS} {x : RL} (h : Rest w0 w g H m x) (hq : w0.heap.size ≤ q) (h1 : q ≠ g) (h2 : x.pv.ownBlock ≠ some q) (h3 : x.lv.ownBlock ≠ some q) (i : Nat) (u : Value) : Rest w0 (w.setCell ⟨q, i, none⟩ u) g H m x :=
  ⟨h.blk.beside h1 i u, h.path.set_ne hq h2 i u, h.log.set_ne hq h3 i u⟩
end Go.Proofs.YtclbeboiojgejaaGreat.Model
