/-
  A CALL OF A FUNCTION BY ITS NAME, as one step; a store of a whole struct. No conditions beyond those that each theorem states. Nothing of the program is named here.
-/
import Derived.Test.YtddgdhaioomnnaaMemA
import Derived.Laws.Tables
import Derived.Deep.RegionHeld
namespace Go.Proofs.Ytddgdhaioomnnaa.Step2
open Go.ChangeShapes Go.WideShapes Go.ChangeAt Go.RowKit Mem

section
variable {P : Program} {w : World} {o : Oper} {a : Act} {K : Act → World → Prop} {Q : Exit → Act → World → Prop}
theorem calls_wp (f : FuncId) (vs : Array Value) (R : Ending → World → Prop)
    (hc : Calls P f vs w R) (hrun : (execOp a.eval o).run P w = .ok (.enter f vs) w) (h : ∀ e w', R e w' → ∃ v, e = .returned v ∧ K (a.put o.dst v) w') : Oper.wp P o a w K Q := by
  unfold Oper.wp
  rw [hrun, Oper.upon_enter]
  refine hc.mono ?_
  intro e w' hr
  obtain ⟨v, rfl, hk⟩ := h e w' hr
  exact hk
end
theorem enter_run {P : Program} {F : FuncId} {fn : Func} (hf : P.funcs[F]? = some fn) (hn : (fn.name == "runtime.NumGoroutine") = false) (hb : fn.body.isNone = false) (args : Array Value) (W : World) : (callFunc F args).run P W = .ok (.enter F args) W := by
  have hn' : ¬ fn.name = "runtime.NumGoroutine" := by simpa using hn
  have hb' : ¬ fn.body = none := fun e => by rw [e] at hb; cases hb
  unfold callFunc
  simp [program, Sem.run, hf, hn', hb']
/-- A call of a function by its name. -/
theorem run_call {P : Program} {ρ : Operand → Value} {o : Oper} {w : World} (F : FuncId) (args : Array Operand) (tys : Array TypeId) (ho : o.op = .call { callee := .value (.func F), args := args, argTypes := tys }) (hρ : ρ (.func F) = .func (.func F) #[] #[]) {fn : Func} (hf : P.funcs[F]? = some fn)
    (hn : (fn.name == "runtime.NumGoroutine") = false) (hb : fn.body.isNone = false) (vs : Array Value) (hvs : args.map ρ = vs) : (execOp ρ o).run P w = .ok (.enter F vs) w := by
  unfold execOp
  simp only [ho, resolve, Deferred.ofValue, hρ, invoke, Sem.run_bind, Sem.run_pure, Result.andThen_ok, hvs, Array.append_empty, Array.empty_append]
  exact enter_run hf hn hb vs w
end Go.Proofs.Ytddgdhaioomnnaa.Step2
