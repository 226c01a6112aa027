/-
  WHAT EACH FUNCTION OF THE LAYER reads RETURNS, AS IT IS WRITTEN: Find, Add.
-/
import Derived.Test.YthgmjmecedhkoaaReadsCode2
namespace Go.Proofs.Ythgmjmecedhkoaa.Reads
open Go.ChangeShapes Go.WideShapes Go.ChangeAt Go.RowKit Mem



theorem own_room {w0 w : World} {e size n : Nat} {v : Value} {xs : List Value} (h : Own w0 w e size v n xs) : ∃ B d, v = .slice B n d ∧ n ≤ d ∧ Rd w size B n xs := by
  obtain ⟨B, d, hv, hr⟩ := h.form
  refine ⟨B, d, hv, ?_, hr⟩
  rcases h.1.2 with ⟨h1, h2⟩ | ⟨g, cap, cur, h1, _, _, h2, _⟩
  · omega
  · rw [hv] at h1; injection h1 with _ _ h3; omega

end Go.Proofs.Ythgmjmecedhkoaa.Reads
