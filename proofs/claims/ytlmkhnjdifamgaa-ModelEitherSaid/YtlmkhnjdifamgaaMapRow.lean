/-
  WORDS ON MEMORY, of my own: a map of integer keys, entry by entry: an insert of a key that is not there, a look-up of one that is. No conditions beyond those that each theorem states. Nothing of the program is named here.
-/
import Derived.Test.YtlmkhnjdifamgaaMemA
import Derived.Maps.OwnOps
namespace Go.Proofs.Ytlmkhnjdifamgaa.Mem
open Go.ChangeShapes Go.WideShapes Go.ChangeAt Go.RowKit

/-- Block b is a map of just these entries. -/
def MapAt (w : World) (b : Nat) (es : Array MapEntry) (clock : Nat) : Prop := w.heap[b]? = some (.map es clock)
section
variable {P : Program} {w : World} {t K E : TypeId} {b : Nat} {es : Array MapEntry} {clock : Nat}
theorem run_insert (ht : P.underlying t = some (.map K E)) (hK : P.underlying K = some (.int .i64)) (hb : MapAt w b es clock) (k : Int) (v : Value) (hf : Instr.findNow (.int .i64) (.int .i64 k) es.toList 0 = some none) :
    (Instr.mapUpdate t (.map (some b)) (.int .i64 k) v).run P w = .ok () { w with heap := w.heap.setIfInBounds b (.map (es.push ⟨.int .i64 k, v, clock⟩) (clock + 1)) } := by
  have hb' : w.heap[b]? = some (.map es clock) := hb
  have hk : MapKept.IsKey (.int .i64) (.int .i64 k) := rfl
  simp [Instr.mapUpdate, run_underlying ht, MapKept.run_getObj_map hb', MapKept.run_checkKey hK hk false 9999, MapKept.run_findKey hK hf, MapKept.run_setObj_map _ hb', Result.andThen]
theorem run_look (ht : P.underlying t = some (.map K E)) (hK : P.underlying K = some (.int .i64)) (hb : MapAt w b es clock) (k : Int) (v : Value) (i : Nat) (hf : Instr.findNow (.int .i64) (.int .i64 k) es.toList 0 = some (some (i, v))) :
    (Instr.lookup t (.map (some b)) (.int .i64 k) false).run P w = .ok v w := by
  have hb' : w.heap[b]? = some (.map es clock) := hb
  have hk : MapKept.IsKey (.int .i64) (.int .i64 k) := rfl
  simp [Instr.lookup, run_underlying ht, MapKept.run_getObj_map hb', MapKept.run_checkKey hK hk es.isEmpty 9999, MapKept.run_findKey hK hf, Result.andThen]
theorem MapAt.new (w : World) : MapAt (w.alloc (.map #[] 0)) w.heap.size #[] 0 := (MapKept.heap_alloc w _).1
theorem MapAt.below {w' : World} (h : MapAt w b es clock) (hb : Below w.heap.size w w') : MapAt w' b es clock := (hb.block b (Array.getElem?_eq_some_iff.1 h).1).trans h
theorem insert_row {ops : Array Oper} {rest : List Oper} {o : Oper} {a : Act} {Q : Exit → Act → World → Prop} (hgd : o.guard = none) (t : TypeId) (m k x : Operand) (ho : o.op = .insert t m k x) (K E : TypeId)
    (ht : P.underlying t = some (.map K E)) (hK : P.underlying K = some (.int .i64)) (b : Nat) (hm : a.eval m = .map (some b)) (kk : Int) (hk : a.eval k = .int .i64 kk) (v : Value) (hv : a.eval x = v) (es : Array MapEntry) (clock : Nat) (hb : MapAt w b es clock)
    (hf : Instr.findNow (.int .i64) (.int .i64 kk) es.toList 0 = some none)
    (h : ∀ w', MapAt w' b (es.push ⟨.int .i64 kk, v, clock⟩) (clock + 1) → w.grownBy w' (some b) → wpList P ops Q rest (a.put o.dst undef) w') : wpList P ops Q (o :: rest) a w :=
  wpList_plain hgd fun K' hK' => by
    have hlt : b < w.heap.size := (Array.getElem?_eq_some_iff.1 hb).1
    unfold Oper.wp
    simp [execOp, ho, hm, hk, hv, run_insert ht hK hb kk v hf, Result.andThen]
    exact hK' _ _ (h _ (by unfold MapAt; simp [hlt]) ⟨rfl, rfl, rfl, by simp, fun i _ hi => by
      have hne : b ≠ i := fun e => hi (by rw [e])
      simp [hne]⟩)
end
end Go.Proofs.Ytlmkhnjdifamgaa.Mem
