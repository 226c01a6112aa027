/-
  WHAT THE LAYER model DOES, AS IT IS WRITTEN: the table of its methods; what a term tells. No conditions beyond those that each theorem states.
-/
import Derived.Test.YtlmkhnjdifamgaaModelRun
import Derived.Test.YtlmkhnjdifamgaaMapRow
import Derived.Test.YtlmkhnjdifamgaaModelStep
import Derived.Test.YtlmkhnjdifamgaaTermB
import Derived.Test.YtlmkhnjdifamgaaHeapA
import Derived.Test.YtlmkhnjdifamgaaCodeB
namespace Go.Proofs.Ytlmkhnjdifamgaa.Model
open Go.ChangeShapes Go.WideShapes Go.ChangeAt Go.RowKit Mem Go.Proofs.Ytlmkhnjdifamgaa.Code

/-- The method at each Do. -/
def doing (d : Int) : FuncId :=
  if d = 1 then 42 else if d = 2 then 43 else if d = 3 then 44 else if d = 4 then 45
  else if d = 5 then 46 else if d = 6 then 47 else 48
def Look (es : Array MapEntry) : Prop := ∀ d : Int, 1 ≤ d → d ≤ 7 → ∃ i, Instr.findNow (.int .i64) (.int .i64 d) es.toList 0 = some (some (i, .func (.func (doing d)) #[] #[]))
/-- What is returned: the table. -/
def RetT (w : World) (e : Ending) (w' : World) : Prop := ∃ b es c, e = .returned (.map (some b)) ∧ MapAt w' b es c ∧ Look es ∧ Below w.heap.size w w'
theorem und_doing : ∃ K E, Try.prog.underlying 76 = some (.map K E) ∧ Try.prog.underlying K = some (.int .i64) := ⟨_, _, Try.underlying76, by kernel_rfl⟩
set_option maxRecDepth 100000 in
theorem doings_c (w : World) : Calls Try.prog 29 #[] w (RetT w) := by
  have hmm := @run_makeMap Try.prog
  obtain ⟨K, E, hu, hk⟩ := und_doing
  have HU := Lib.hid hu
  have HK := Lib.hid hk
  clear hu hk
  go_enter Try.func29, Try.ntmps29
  go_wp2_with (first
    | (refine insert_row rfl 76 _ _ _ rfl K E HU.out HK.out w.heap.size rfl 1 rfl (.func (.func 42) #[] #[]) rfl _ _ (MapAt.new w) rfl ?_; intro w1 m1 g1)
    | (refine insert_row rfl 76 _ _ _ rfl K E HU.out HK.out w.heap.size rfl 2 rfl (.func (.func 43) #[] #[]) rfl _ _ m1 rfl ?_; intro w2 m2 g2)
    | (refine insert_row rfl 76 _ _ _ rfl K E HU.out HK.out w.heap.size rfl 3 rfl (.func (.func 44) #[] #[]) rfl _ _ m2 rfl ?_; intro w3 m3 g3)
    | (refine insert_row rfl 76 _ _ _ rfl K E HU.out HK.out w.heap.size rfl 4 rfl (.func (.func 45) #[] #[]) rfl _ _ m3 rfl ?_; intro w4 m4 g4)
    | (refine insert_row rfl 76 _ _ _ rfl K E HU.out HK.out w.heap.size rfl 5 rfl (.func (.func 46) #[] #[]) rfl _ _ m4 rfl ?_; intro w5 m5 g5)
    | (refine insert_row rfl 76 _ _ _ rfl K E HU.out HK.out w.heap.size rfl 6 rfl (.func (.func 47) #[] #[]) rfl _ _ m5 rfl ?_; intro w6 m6 g6)
    | (refine insert_row rfl 76 _ _ _ rfl K E HU.out HK.out w.heap.size rfl 7 rfl (.func (.func 48) #[] #[]) rfl _ _ m6 rfl ?_; intro w7 m7 g7))
  go_ret
  have hb0 : Below w.heap.size w (w.alloc (.map #[] 0)) := bl_alloc (Below.refl _ _) _
  have hb : ∀ u v : World, Below w.heap.size w u → u.grownBy v (some w.heap.size) → Below w.heap.size w v := fun u v h1 h2 => h1.grown h2 h1.size (fun k hk => by injection hk with hk; omega)
  refine ⟨_, _, _, rfl, m7, ?_, hb _ _ (hb _ _ (hb _ _ (hb _ _ (hb _ _ (hb _ _ (hb _ _ hb0 g1) g2) g3) g4) g5) g6) g7⟩
  intro d h1 h7
  rcases (by omega : d = 1 ∨ d = 2 ∨ d = 3 ∨ d = 4 ∨ d = 5 ∨ d = 6 ∨ d = 7) with rfl | rfl | rfl | rfl | rfl | rfl | rfl
  · exact ⟨0, rfl⟩
  · exact ⟨1, rfl⟩
  · exact ⟨2, rfl⟩
  · exact ⟨3, rfl⟩
  · exact ⟨4, rfl⟩
  · exact ⟨5, rfl⟩
  · exact ⟨6, rfl⟩
/-- The registers, as a slice. -/
theorem RunAt.rdregs {w0 w : World} {g : Nat} {H : Value} {m : CS} {x : RL} (h : RunAt w0 w g H m x) : Rd w 1 (some ⟨g, 0, none⟩) 8 (zs m.regs) := by
  refine ⟨by rw [zs_map, List.length_map, h.r8], fun _ => ⟨g, 0, rfl, fun j u hu => ?_⟩⟩
  rw [zs_map, List.getElem?_map] at hu
  cases hz : m.regs[j]? with
  | none => rw [hz] at hu; cases hu
  | some z =>
    rw [hz] at hu
    injection hu with hu
    rw [← hu, Nat.zero_add]
    exact h.reg j z hz
set_option maxRecDepth 100000 in
theorem told_c (t : List Term.Op) (T : Option Addr) (tn tc : Nat) (d a b : Int) (h : List Heap.Cell) (HA : Option Addr) (hn hc g : Nat) (w0 w : World) (m : CS) (x : RL) (v : Int × Int) (hr : RunAt w0 w g (.slice HA hn hc) m x) (hh : Rd w 2 HA hn (Heap.cs h)) (ht : Rd w 2 T tn (Term.ops t))
    (htn : tn ≤ 1000000) (hhn : hn ≤ 1000000) (hv : Term.evalS t h m.regs = v) :
    Calls Try.prog 70 #[.pointer (some ⟨g, 0, none⟩), .agg #[.int .i64 d, .int .i64 a, .int .i64 b, .slice T tn tc]] w fun e w' => e = .returned (.int .i64 v.1) ∧ Below w.heap.size w w' := by
  obtain ⟨w1, hw1⟩ : ∃ w1, w1 = w.alloc (.cells #[.int .i64 d, .int .i64 a, .int .i64 b, .slice T tn tc] 46) := ⟨_, rfl⟩
  have HB : Hid (Below w.heap.size w w1) := Lib.hid (by rw [hw1]; exact bl_alloc (Below.refl _ _) _)
  have HK : Hid (Blk w1 w.heap.size 46 #[.int .i64 d, .int .i64 a, .int .i64 b, .slice T tn tc]) := Lib.hid (by rw [hw1]; exact Blk.new _ _ _)
  have HR := Lib.hid (hr.below HB.out)
  have HC : Hid (∀ W, Below w1.heap.size w1 W → Calls Try.prog 82 #[.slice T tn tc, .slice HA hn hc, .slice (some ⟨g, 0, none⟩) 8 8] W fun e w' => e = .returned (.tuple #[.int .i64 v.1, .int .i64 v.2]) ∧ Below w1.heap.size w1 w') :=
    Lib.hid (fun W hW => (Term.eval_c t h m.regs T HA (some ⟨g, 0, none⟩) tn tc hn hc 8 8 W v ((ht.below HB.out).below hW) ((hh.below HB.out).below hW) ((HR.out.below hW).rdregs) htn hhn hv).mono (fun e w' hp => ⟨hp.1, bl_trans hW hp.2⟩))
  have q3 := HK.out.cell 3 _ rfl
  have q11 := HR.out.at8.2.2.2.1
  have BD : Hid (Below w1.heap.size w1 w1.drew) := Lib.hid (Below.refl _ _).drew
  clear hr hh ht hv
  go_enter Try.func70, Try.ntmps70
  go_wp2_with fail
  rw [← hw1]
  clear hw1
  have i0 : w1.drew.cell? ⟨w.heap.size, 3, none⟩ = some (.slice T tn tc) := q3
  have i1 : w1.drew.cell? ⟨g, 11, none⟩ = some (.slice HA hn hc) := q11
  go_region_held3 (fun w' => w'.cell? ⟨w.heap.size, 3, none⟩ = some (.slice T tn tc) ∧ w'.cell? ⟨g, 11, none⟩ = some (.slice HA hn hc)) (first | exact ⟨a0, a1⟩ | exact ⟨i0, i1⟩ | go_keep)
    ((go_at_call 82
      refine (HC.out _ BD.out).mono ?_
      rintro e w5 ⟨rfl, o5⟩
      have BA := Lib.hid o5
      have a0 := (HK.out.below BA.out).cell 3 _ rfl
      have a1 := (HR.out.below BA.out).at8.2.2.2.1
      clear o5))
  go_wp2
  go_ret
  exact ⟨rfl, bl_trans HB.out BA.out⟩
end Go.Proofs.Ytlmkhnjdifamgaa.Model
