/-
  WHOLE NUMBERS OF 32 BITS, OPENED. No conditions beyond those that each theorem states.
-/
import Derived.Test.YtadofonlkjkcmaaGreatAttG
namespace Go.Proofs.YtadofonlkjkcmaaGreat.Attempt
open Go.ChangeShapes Go.WideShapes Go.ChangeAt Go.RowKit Go.Deep Mem Go.Proofs.YtadofonlkjkcmaaGreat.Code

def uc (v : Int) : List Value := [.int .u32 v]
theorem uc_len (v : Int) : (uc v).length = 1 := rfl
def us (l : List Int) : List Value := l.flatMap uc
theorem us_len {w : World} {A : Option Addr} {n : Nat} {l : List Int} (hr : Rd w 1 A n (us l)) : l.length = n := Rd.len uc_len hr (by decide)
theorem at_u {w : World} {A : Option Addr} {n : Nat} {l : List Int} (hr : Rd w 1 A n (us l)) (k : Nat) (hk : k < n) : ∃ b off, ∃ x : Int, A = some ⟨b, off, none⟩ ∧ l[k]? = some x ∧ w.cell? ⟨b, off + k, none⟩ = some (.int .u32 x) := by
  obtain ⟨b, off, x, hA, hx, hc⟩ := Rd.at_ uc_len hr (by decide) k hk
  exact ⟨b, off, x, hA, hx, by have := hc 0 _ rfl; simpa using this⟩
set_option maxRecDepth 100000 in
theorem open_u32s {H : Type} {enc : TypeId × Value → H} {W : World} {A : Option Addr} {n c : Nat} {d : DataW H} {p : List MemPlace}
    (h : DataW.Trod enc Tryz.prog W 0 (fun _ => true) true 62 (.slice A n c) d p) :
    n ≤ c ∧ c ≤ 9223372036854775807 ∧ ∃ xs : List Int, Rd W 1 A n (us xs) ∧ xs.length = n ∧ ∀ x ∈ xs, 0 ≤ x ∧ x ≤ 4294967295 := by
  refine open_rows Tryz.underlying62 1 (by kernel_rfl) (by decide) uc (fun _ => rfl) (fun x => 0 ≤ x ∧ x ≤ 4294967295) ?_ h
  intro fuel cs' x hl ht
  obtain ⟨m, e1, _, wf⟩ := DataW.trod_int Tryz.underlying63 ht
  exact ⟨m, e1, bounds_u32 wf⟩
end Go.Proofs.YtadofonlkjkcmaaGreat.Attempt
