/-
  WHAT THE LAWS OF LAYER 10 ASK OF THE LAYER'S FUNCTION ('Said'); an end handed on. No conditions beyond those that each theorem states.
-/
import Derived.Test.YtlmkhnjdifamgaaModelSame
import Derived.Test.YtlmkhnjdifamgaaModelA
import Derived.Test.YtlmkhnjdifamgaaCodeA
import Derived.Test.YtlmkhnjdifamgaaHeapA
namespace Go.Proofs.Ytlmkhnjdifamgaa.Model
open Go.ChangeShapes Go.WideShapes Go.ChangeAt Go.RowKit Mem Go.Proofs.Ytlmkhnjdifamgaa.Code

/-- What is returned: an end, a heap, and whether it was refused. -/
def RetRun (w : World) (o : Out) (n1 n2 n3 n4 : Nat) (g : List Heap.Cell) (gn : Nat) (f : Int) (e : Ending) (w' : World) : Prop :=
  ∃ A1 c1 A2 c2 A3 c3 A4 c4 G gc, e = .returned (.tuple #[.agg #[.int .i64 o.kind, .int .i64 o.why, .slice A1 n1 c1, .slice A2 n2 c2, .slice A3 n3 c3, .slice A4 n4 c4], .slice G gn gc, .int .i64 f]) ∧ OutAt w' o A1 A2 A3 A4 n1 n2 n3 n4 ∧ Rd w' 2 G gn (Heap.cs g) ∧ Below w.heap.size w w'
/-- An error's number. -/
def errOf (ok : Bool) : Int := if ok = true then 0 else 1
/-- A slice that lies in no block that is older. -/
def Nw (w : World) (A : Option Addr) : Prop := ∀ b off, A = some ⟨b, off, none⟩ → w.heap.size ≤ b
theorem Nw.none_ (w : World) : Nw w none := fun _ _ h => by cases h
theorem Nw.of_own {w w0 w' : World} {e size n d m : Nat} {B : Option Addr} {xs : List Value} (h : Own w0 w' e size (.slice B n d) m xs) (hw : w.heap.size ≤ w0.heap.size) : Nw w B := fun b off hb => by
  have := h.base b (by rw [hb]; rfl); omega
/-- What is returned, in new blocks: an end, a heap, and whether it was refused. -/
def RetRunN (w : World) (o : Out) (n1 n2 n3 n4 : Nat) (g : List Heap.Cell) (gn : Nat) (f : Int) (e : Ending) (w' : World) : Prop :=
  ∃ A1 c1 A2 c2 A3 c3 A4 c4 G gc, e = .returned (.tuple #[.agg #[.int .i64 o.kind, .int .i64 o.why, .slice A1 n1 c1, .slice A2 n2 c2, .slice A3 n3 c3, .slice A4 n4 c4], .slice G gn gc, .int .i64 f]) ∧ OutAt w' o A1 A2 A3 A4 n1 n2 n3 n4 ∧ Rd w' 2 G gn (Heap.cs g) ∧ Below w.heap.size w w' ∧ (Nw w A1 ∧ Nw w A2 ∧ Nw w A3 ∧ Nw w A4 ∧ Nw w G)
theorem RetRunN.plain {w : World} {o : Out} {n1 n2 n3 n4 : Nat} {g : List Heap.Cell} {gn : Nat} {f : Int} {e : Ending} {w' : World} (h : RetRunN w o n1 n2 n3 n4 g gn f e w') : RetRun w o n1 n2 n3 n4 g gn f e w' := by
  obtain ⟨A1, c1, A2, c2, A3, c3, A4, c4, G, gc, h1, h2, h3, h4, _⟩ := h
  exact ⟨A1, c1, A2, c2, A3, c3, A4, c4, G, gc, h1, h2, h3, h4⟩
/-- The layer's function does what the chapter asks. -/
structure Said : Prop where
  runN : ∀ (l : List Raw) (h : List Heap.Cell) (C HA : Option Addr) (n c hn hc : Nat) (w : World) (o : Out) (g : List Heap.Cell) (ok : Bool) (n1 n2 n3 n4 gn : Nat) (f : Int), At w C n l → n ≤ c → c ≤ 9223372036854775807 → Lim l → n ≤ 1000000 → Rd w 2 HA hn (Heap.cs h) → hn ≤ 1000000 →
    runS (ss l) h = (o, g, ok) → o.regs.length = n1 → o.path.length = n2 → o.seen.length = n3 → o.writes.length = n4 → g.length = gn → errOf ok = f →
    Calls Try.prog 10 #[.slice C n c, .slice HA hn hc] w (RetRunN w o n1 n2 n3 n4 g gn f)
theorem Said.run (S : Said) (l : List Raw) (h : List Heap.Cell) (C HA : Option Addr) (n c hn hc : Nat) (w : World) (o : Out) (g : List Heap.Cell) (ok : Bool) (n1 n2 n3 n4 gn : Nat) (f : Int) (h1 : At w C n l) (h2 : n ≤ c) (h3 : c ≤ 9223372036854775807) (h4 : Lim l) (h5 : n ≤ 1000000) (h6 : Rd w 2 HA hn (Heap.cs h)) (h7 : hn ≤ 1000000)
    (h8 : runS (ss l) h = (o, g, ok)) (h9 : o.regs.length = n1) (k1 : o.path.length = n2) (k2 : o.seen.length = n3) (k3 : o.writes.length = n4) (k4 : g.length = gn) (k5 : errOf ok = f) :
    Calls Try.prog 10 #[.slice C n c, .slice HA hn hc] w (RetRun w o n1 n2 n3 n4 g gn f) :=
  (S.runN l h C HA n c hn hc w o g ok n1 n2 n3 n4 gn f h1 h2 h3 h4 h5 h6 h7 h8 h9 k1 k2 k3 k4 k5).mono (fun _ _ h => h.plain)
theorem ref_m (k y : Int) (A1 A2 A3 A4 : Option Addr) (n1 n2 n3 n4 c1 c2 c3 c4 : Nat) (w : World) :
    Calls Try.prog 12 #[.agg #[.int .i64 k, .int .i64 y, .slice A1 n1 c1, .slice A2 n2 c2, .slice A3 n3 c3, .slice A4 n4 c4]] w fun e w' =>
      e = .returned (.agg #[.int .i64 k, .int .i64 y, .slice A1 n1 c1, .slice A2 n2 c2, .slice A3 n3 c3, .slice A4 n4 c4]) ∧ Below w.heap.size w w' := by
  have HB : Hid (Below w.heap.size w ((w.alloc (.cells #[.int .i64 k, .int .i64 y, .slice A1 n1 c1, .slice A2 n2 c2, .slice A3 n3 c3, .slice A4 n4 c4] 30)).alloc (.cells #[.int .i64 k, .int .i64 y, .slice A1 n1 c1, .slice A2 n2 c2, .slice A3 n3 c3, .slice A4 n4 c4] 37))) := Lib.hid (bl_alloc (bl_alloc (Below.refl _ _) _) _)
  have KR : Blk ((w.alloc (.cells #[.int .i64 k, .int .i64 y, .slice A1 n1 c1, .slice A2 n2 c2, .slice A3 n3 c3, .slice A4 n4 c4] 30)).alloc (.cells #[.int .i64 k, .int .i64 y, .slice A1 n1 c1, .slice A2 n2 c2, .slice A3 n3 c3, .slice A4 n4 c4] 37)) (w.heap.size + 1) 37 #[.int .i64 k, .int .i64 y, .slice A1 n1 c1, .slice A2 n2 c2, .slice A3 n3 c3, .slice A4 n4 c4] := by
    have := Blk.new (w.alloc (.cells #[.int .i64 k, .int .i64 y, .slice A1 n1 c1, .slice A2 n2 c2, .slice A3 n3 c3, .slice A4 n4 c4] 30)) 37 #[.int .i64 k, .int .i64 y, .slice A1 n1 c1, .slice A2 n2 c2, .slice A3 n3 c3, .slice A4 n4 c4]; simpa using this
  have q0 := KR.cell 0 _ rfl
  have q1 := KR.cell 1 _ rfl
  have q2 := KR.cell 2 _ rfl
  have q3 := KR.cell 3 _ rfl
  have q4 := KR.cell 4 _ rfl
  have q5 := KR.cell 5 _ rfl
  clear KR
  go_enter Try.func12, Try.ntmps12
  go_wp2
  refine bodyPost_ret (v := .agg #[.int .i64 k, .int .i64 y, .slice A1 n1 c1, .slice A2 n2 c2, .slice A3 n3 c3, .slice A4 n4 c4]) (by simp [results, Try.results12, go_sem, q0, q1, q2, q3, q4, q5]) rfl ?_
  exact ⟨rfl, HB.out⟩
end Go.Proofs.Ytlmkhnjdifamgaa.Model
