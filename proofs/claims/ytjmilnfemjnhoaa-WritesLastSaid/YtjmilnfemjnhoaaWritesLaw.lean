/-
  WHAT THE LAWS OF LAYER 6 ASK OF THE LAYER'S FUNCTIONS ('Said'), and what they make of it: the fixed answer awake; arguments opened.
-/
import Derived.Test.YtjmilnfemjnhoaaWritesRef5
namespace Go.Proofs.Ytjmilnfemjnhoaa.Writes
open Go.ChangeShapes Go.WideShapes Go.ChangeAt Go.RowKit Mem
open Heap (Write wc ws ws_len vB at_write)

/-- The layer's functions do what the chapter asks. -/
structure Said : Prop where
  right : ∀ (l : Log) (A B : Option Addr) (n c m d : Nat) (w : World) (b : Bool), LogAt w A n c B m d l → n ≤ 1000000 → m ≤ 1000000 → rightB l = b →
    Calls Try.prog 23 #[.agg #[.slice A n c, .slice B m d]] w (RetB w b)
  get : ∀ (l : Log) (A B : Option Addr) (n c m d : Nat) (cl : Int) (w : World) (r : Int × Bool), LogAt w A n c B m d l → n ≤ 1000000 → m ≤ 1000000 → getS l cl = r →
    Calls Try.prog 19 #[.agg #[.slice A n c, .slice B m d], .int .i64 cl] w (RetV w r)
  put : ∀ (l : Log) (A B : Option Addr) (n c m d : Nat) (cl vl : Int) (w : World) (a : Log × Int) (p q : Nat), LogAt w A n c B m d l → n ≤ 1000000 → m ≤ 1000000 → putS l ⟨cl, vl⟩ = a → a.1.list.length = p → a.1.marks.length = q →
    Calls Try.prog 12 #[.agg #[.slice A n c, .slice B m d], .agg #[.int .i64 cl, .int .i64 vl]] w (RetLP w p q a.1 a.2)
  mark : ∀ (l : Log) (A B : Option Addr) (n c m d : Nat) (w : World) (a : Log × Int) (p q : Nat), LogAt w A n c B m d l → n ≤ 1000000 → m ≤ 1000000 → markS l = a → a.1.list.length = p → a.1.marks.length = q →
    Calls Try.prog 14 #[.agg #[.slice A n c, .slice B m d]] w (RetLP w p q a.1 a.2)
  back : ∀ (l : Log) (A B : Option Addr) (n c m d : Nat) (w : World) (a : Log × Int) (p q : Nat), LogAt w A n c B m d l → n ≤ 1000000 → m ≤ 1000000 → backS l = a → a.1.list.length = p → a.1.marks.length = q →
    Calls Try.prog 16 #[.agg #[.slice A n c, .slice B m d]] w (RetLP w p q a.1 a.2)
  keep : ∀ (l : Log) (A B : Option Addr) (n c m d : Nat) (w : World) (a : Log × Int) (p q : Nat), LogAt w A n c B m d l → n ≤ 1000000 → m ≤ 1000000 → keepS l = a → a.1.list.length = p → a.1.marks.length = q →
    Calls Try.prog 18 #[.agg #[.slice A n c, .slice B m d]] w (RetLP w p q a.1 a.2)
  last : ∀ (l : Log) (A B : Option Addr) (n c m d : Nat) (w : World) (r : List Write) (q : Nat), LogAt w A n c B m d l → n ≤ 1000000 → m ≤ 1000000 → lastS l = r → r.length = q →
    Calls Try.prog 26 #[.agg #[.slice A n c, .slice B m d]] w (RetS w 2 q (ws r))

theorem small_b (A B : Option Addr) (n c m d : Nat) (w : World) (b : Bool) (hb : (decide (n ≤ 40) && decide (m ≤ 20)) = b) :
    Calls Try.prog 9 #[.agg #[.slice A n c, .slice B m d]] w (RetB w b) := by
  have HB := Lib.hid hb
  clear hb
  by_cases h1 : n ≤ 40
  all_goals by_cases h2 : m ≤ 20
  all_goals
    have HF : Hid (b = _) := Lib.hid (by have := HB.out; simp only [h1, h2, decide_true, decide_false] at this; exact this.symm)
    go_enter Try.func9, Try.ntmps9
    go_wp2
    go_ret
    exact ⟨ret_bool (by rw [HF.out]; first | rfl | (simp; omega)), bl_alloc (Below.refl _ _) _⟩

/-- What is returned: the same log. -/
def RetI (w : World) (v : Value) (e : Ending) (w' : World) : Prop := e = .returned v ∧ Below w.heap.size w w'
theorem ref_c (A B : Option Addr) (n c m d : Nat) (w : World) :
    Calls Try.prog 11 #[.agg #[.slice A n c, .slice B m d]] w (RetI w (.agg #[.slice A n c, .slice B m d])) := by
  go_enter Try.func11, Try.ntmps11
  go_wp2
  (try simp only [Exit.inBlock, Exit.then])
  refine bodyPost_ret (v := .agg #[.slice A n c, .slice B m d]) (by simp [results, Try.results11, go_sem]) rfl ?_
  exact ⟨rfl, bl_alloc (bl_alloc (Below.refl _ _) _) _⟩
end Go.Proofs.Ytjmilnfemjnhoaa.Writes
