/-
  WHAT THE LAWS OF LAYER 4 ASK OF THE LAYER'S FUNCTIONS ('Said'), and what they make of it: the fixed answer awake.
-/
import Derived.Test.YtdbgpmfdiljopaaTickRef
import Derived.Test.YtdbgpmfdiljopaaTickMore
namespace Go.Proofs.Ytdbgpmfdiljopaa.Tick
open Go.ChangeShapes Go.WideShapes Go.ChangeAt Go.RowKit Mem

def RetG (w : World) (r : Int × Int) (e : Ending) (w' : World) : Prop := e = .returned (.tuple #[.int .i64 r.1, .int .i64 r.2]) ∧ Below w.heap.size w w'
def RetN (w : World) (r : Int) (e : Ending) (w' : World) : Prop := e = .returned (.int .i64 r) ∧ Below w.heap.size w w'
/-- The layer's functions do what the chapter asks. -/
structure Said : Prop where
  right : ∀ (n : Int) (w : World) (b : Bool), timeB n = b → Calls Try.prog 15 #[.int .i64 n] w (RetB w b)
  next : ∀ (n : Int) (w : World) (r : Int × Int), nextS n = r → Calls Try.prog 10 #[.int .i64 n] w (RetG w r)
  after : ∀ (n k : Int) (w : World) (r : Int × Int), -9223372036854775808 ≤ k → k ≤ 9223372036854775807 → afterS n k = r → Calls Try.prog 12 #[.int .i64 n, .int .i64 k] w (RetG w r)
  due : ∀ (l : List Int) (A : Option Addr) (n c : Nat) (now : Int) (w : World) (r : List Nat) (q : Nat), Rd w 1 A n (zs l) → n ≤ 1000000 → dueS now l = r → r.length = q → Calls Try.prog 18 #[.int .i64 now, .slice A n c] w (RetS w 1 q (zs (r.map Int.ofNat)))
  first : ∀ (l : List Int) (A : Option Addr) (n c : Nat) (w : World) (r : Int), Rd w 1 A n (zs l) → n ≤ 1000000 → firstS l = r → Calls Try.prog 19 #[.slice A n c] w (RetN w r)

set_option maxRecDepth 100000 in
set_option maxHeartbeats 2000000 in
theorem awake_any (S : Said) (w : World) : Calls Try.prog 9 #[] w (RetB w true) := by
  have HS := Lib.hid S
  clear S
  go_enter Try.func9, Try.ntmps9
  go_wp2_with fail
  refine (HS.out.next 5 _ (6, 0) (by decide)).mono ?_
  rintro e v1 ⟨rfl, b_⟩
  have bb := b_
  clear b_
  go_wp2_with fail
  refine (HS.out.next 2147483647 _ (0, 6) (by decide)).mono ?_
  rintro e v2 ⟨rfl, b_⟩
  replace bb := bl_trans bb b_
  clear b_
  go_wp2_with fail
  refine (HS.out.after 5 3 _ (8, 0) (by decide) (by decide) (by decide)).mono ?_
  rintro e v3 ⟨rfl, b_⟩
  replace bb := bl_trans bb b_
  clear b_
  go_wp2_with fail
  refine (HS.out.after 5 0 _ (0, 1) (by decide) (by decide) (by decide)).mono ?_
  rintro e v4 ⟨rfl, b_⟩
  replace bb := bl_trans bb b_
  clear b_
  go_wp2_with fail
  refine (HS.out.due [7, 5, 3] _ _ _ 5 _ [2, 1] 2 (Rd.built _ 1 3 (zs [7, 5, 3]) _ rfl) (by decide) (by decide) rfl).mono ?_
  rintro e v5 ⟨B1, d1, rfl, s1, b_⟩
  replace bb := bl_trans (bl_alloc bb _) b_
  clear b_
  go_wp2_with fail
  refine (numbers_b [2, 1] [2, 1] _ _ _ _ _ _ _ true (s1.alloc _) (Rd.built _ 1 2 (zs [2, 1]) _ rfl) (by decide) (by decide) (by decide)).mono ?_
  rintro e v6 ⟨rfl, b_⟩
  clear s1
  replace bb := bl_trans (bl_alloc bb _) b_
  clear b_
  go_wp2_with fail
  refine (HS.out.first [] _ _ _ _ (-1) Rd.none_ (by decide) (by decide)).mono ?_
  rintro e v7 ⟨rfl, b_⟩
  replace bb := bl_trans bb b_
  clear b_
  go_wp2_with fail
  refine (HS.out.first [4, 2] _ _ _ _ 1 (Rd.built _ 1 2 (zs [4, 2]) _ rfl) (by decide) (by decide)).mono ?_
  rintro e v8 ⟨rfl, b_⟩
  replace bb := bl_trans (bl_alloc bb _) b_
  clear b_
  go_wp2_with fail
  refine (HS.out.right 0 _ true (by decide)).mono ?_
  rintro e v9 ⟨rfl, b_⟩
  replace bb := bl_trans bb b_
  clear b_
  go_wp2_with fail
  go_ret
  exact ⟨rfl, bb⟩
end Go.Proofs.Ytdbgpmfdiljopaa.Tick
