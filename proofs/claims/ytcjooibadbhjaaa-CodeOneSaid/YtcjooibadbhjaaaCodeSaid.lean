/-
  WHAT THE LAWS OF LAYER 8 ASK OF THE LAYER'S FUNCTIONS ('Said').
-/
import Derived.Test.YtcjooibadbhjaaaCodeLaw2
namespace Go.Proofs.Ytcjooibadbhjaaa.Code
open Go.ChangeShapes Go.WideShapes Go.ChangeAt Go.RowKit Mem

/-- The layer's functions do what the chapter asks. -/
structure Said : Prop where
  check : ∀ (l : List Raw) (A : Option Addr) (n c : Nat) (w : World) (v : Int), At w A n l → n ≤ c → Lim l → n ≤ 1000000 → checkS (ss l) = v → Calls Try.prog 12 #[.slice A n c] w (RetI w v)
  deep : ∀ (l : List Raw) (A : Option Addr) (n c : Nat) (w : World) (v : Nat), At w A n l → n ≤ c → Lim l → n ≤ 1000000 → deepS (ss l) = v → Calls Try.prog 14 #[.slice A n c] w (RetI w (v : Int))
  cells : ∀ (l : List Raw) (A : Option Addr) (n c : Nat) (w : World) (r : List Int) (q : Nat), At w A n l → n ≤ c → Lim l → n ≤ 1000000 → cellsS (ss l) = r → r.length = q → Calls Try.prog 17 #[.slice A n c] w (RetO w 3 1 q (zs r))
theorem cells_le (c : List Step) : (cellsS c).length ≤ 64 := by
  unfold cellsS; split
  · exact pick_len _ _
  · exact Nat.zero_le _
end Go.Proofs.Ytcjooibadbhjaaa.Code
