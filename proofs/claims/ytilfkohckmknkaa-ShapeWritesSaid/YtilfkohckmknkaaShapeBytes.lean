/-
  BYTES IN MEMORY, and as a string. No conditions beyond those that each theorem states. Of the program only its types are named.
-/
import Derived.Test.YtilfkohckmknkaaShapePlain
import Derived.Test.YtilfkohckmknkaaMemA
import Derived.Laws.BytesArg
import Derived.Laws.Strings
namespace Go.Proofs.Ytilfkohckmknkaa.Shape
open Go.ChangeShapes Go.WideShapes Go.ChangeAt Go.RowKit Mem Go.Proofs.Ytilfkohckmknkaa.Code

/-- Bytes. -/
def bc (z : Int) : List Value := [.int .u8 z]
def bs (l : List Int) : List Value := l.flatMap bc
theorem bc_len (z : Int) : (bc z).length = 1 := rfl
theorem bc_one (z : Int) : ∀ u ∈ bc z, u.oneCell' = true := one_cons rfl one_nil
theorem bs_one (l : List Int) : ∀ u ∈ bs l, u.oneCell' = true := flat_one bc_one l
theorem bs_app (a b : List Int) : bs (a ++ b) = bs a ++ bs b := by unfold bs; rw [List.flatMap_append]
theorem bs_cons (z : Int) (l : List Int) : bs (z :: l) = .int .u8 z :: bs l := rfl
theorem bs_count (l : List Int) : (bs l).length = l.length := by unfold bs; rw [flat_len bc_len, Nat.mul_one]
theorem bs_len {w : World} {A : Option Addr} {n : Nat} {l : List Int} (hr : Rd w 1 A n (bs l)) : l.length = n := Rd.len bc_len hr (by decide)
theorem at_b {w : World} {A : Option Addr} {n : Nat} {l : List Int} (hr : Rd w 1 A n (bs l)) (k : Nat) (hk : k < n) :
    ∃ b off, ∃ x : Int, A = some ⟨b, off, none⟩ ∧ l[k]? = some x ∧ w.cell? ⟨b, off + k, none⟩ = some (.int .u8 x) := by
  obtain ⟨b, off, x, hA, hx, hc⟩ := Rd.at_ bc_len hr (by decide) k hk
  exact ⟨b, off, x, hA, hx, by have := hc 0 _ rfl; simpa using this⟩
theorem str_eq {a b : List Int} (ha : BB a) (hb : BB b) : strOfNums a = strOfNums b ↔ a = b := by
  constructor
  · intro h
    have h1 : (strOfNums a).data.toList = (strOfNums b).data.toList := by rw [h]
    rw [strOfNums_data, strOfNums_data] at h1
    clear h
    induction a generalizing b with
    | nil =>
      cases b with
      | nil => rfl
      | cons y b => simp at h1
    | cons x a ih =>
      cases b with
      | nil => simp at h1
      | cons y b =>
        simp only [List.map_cons, List.cons.injEq] at h1
        have hx := ha x (List.mem_cons_self ..)
        have hy := hb y (List.mem_cons_self ..)
        have e : x = y := by
          have := congrArg UInt8.toNat h1.1
          rw [UInt8.toNat_ofNat', UInt8.toNat_ofNat'] at this
          have h2 : x.toNat % 256 = x.toNat := Nat.mod_eq_of_lt (by omega)
          have h3 : y.toNat % 256 = y.toNat := Nat.mod_eq_of_lt (by omega)
          simp only [Nat.reducePow] at this
          omega
        rw [e, ih (fun z hz => ha z (List.mem_cons_of_mem _ hz)) (fun z hz => hb z (List.mem_cons_of_mem _ hz)) h1.2]
  · rintro rfl; rfl
theorem str_ne {a b : List Int} (ha : BB a) (hb : BB b) (h : a ≠ b) : ((strOfNums a).toList == (strOfNums b).toList) = false := by
  refine beq_eq_false_iff_ne.2 (fun e => h ?_)
  rw [Go.ByteArray.toList_eq, Go.ByteArray.toList_eq] at e
  exact (str_eq ha hb).1 (bytes_inj e)
/-- Bytes as a string. -/
theorem run_str {P : Program} {w : World} {A : Option Addr} {n c : Nat} {l : List Int} (hr : Rd w 1 A n (bs l)) (src e dst : TypeId) (hs : P.underlying src = some (.slice e)) (he : P.underlying e = some (.int .u8)) (hd : P.underlying dst = some .string) :
    (convert src dst (.slice A n c)).run P w = .ok (.string (strOfNums l)) w := by
  have hl := bs_len hr
  rcases A with _ | ⟨b, off, x⟩
  · obtain rfl : n = 0 := by
      rcases Nat.eq_zero_or_pos n with h0 | h0
      · exact h0
      · obtain ⟨b, off, h, _⟩ := hr.2 h0
        cases h
    obtain rfl : l = [] := List.eq_nil_of_length_eq_zero hl
    rw [run_convert_bytes_nil w src e hs he 0 c dst hd]; rfl
  · rcases Nat.eq_zero_or_pos n with rfl | hn
    · obtain rfl : l = [] := List.eq_nil_of_length_eq_zero hl
      rw [run_convert_bytes_string w src dst e _ 0 c hs he hd]
      have := run_bytesToString (P := P) w ⟨b, off, x⟩ 0 c [] (by have := run_loadCells_list (P := P) w ⟨b, off, x⟩ [] (fun j v hj => by simp at hj); simpa using this)
      rw [this]; rfl
    · obtain ⟨b', off', e', hc⟩ := hr.2 hn
      injection e' with e'
      injection e' with e1 e2 e3
      subst e1 e2 e3
      refine run_convert_bytes_arg w src e hs he b off n c l hl (fun i hi => ?_) dst hd
      refine hc i _ ?_
      have hi' : i < l.length := by omega
      rw [List.getD_eq_getElem?_getD, List.getElem?_eq_getElem hi']
      have := flat_at bc_len l i _ (List.getElem?_eq_getElem hi') 0 (by decide)
      simp only [Nat.mul_one, Nat.add_zero] at this
      exact this
end Go.Proofs.Ytilfkohckmknkaa.Shape
