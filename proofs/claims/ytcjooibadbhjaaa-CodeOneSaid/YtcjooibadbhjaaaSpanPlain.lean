/-
  PLAIN ARITHMETIC: the number between -2^31 and 2^31 - 1 to which an integer goes round, by 2^32. No conditions. Nothing of the program is named here.
-/
import Derived.WalkKit
namespace Go.Proofs.Ytcjooibadbhjaaa.Span

/-- The value to which a number goes round. -/
def sw (n : Int) : Int := (n + 2147483648) % 4294967296 - 2147483648

theorem sw_bd (n : Int) : -2147483648 ≤ sw n ∧ sw n ≤ 2147483647 := by unfold sw; omega
theorem sw_in (n : Int) (h : -2147483648 ≤ n ∧ n ≤ 2147483647) : sw n = n := by unfold sw; omega
theorem sw_emod (n : Int) : sw n % 4294967296 = n % 4294967296 := by unfold sw; omega
theorem sw_of (a b : Int) (h : a % 4294967296 = b % 4294967296) : sw a = sw b := by unfold sw; omega
theorem sw_inj (a b : Int) (h : sw a = sw b) : a % 4294967296 = b % 4294967296 := by
  rw [← sw_emod a, ← sw_emod b, h]
theorem sw_sw (n : Int) : sw (sw n) = sw n := sw_of _ _ (sw_emod n)
theorem sw_add (a b : Int) : sw (sw a + sw b) = sw (a + b) :=
  sw_of _ _ (by rw [Int.add_emod, sw_emod, sw_emod, ← Int.add_emod])
theorem sw_addl (a b : Int) : sw (sw a + b) = sw (a + b) :=
  sw_of _ _ (by rw [Int.add_emod, sw_emod, ← Int.add_emod])
theorem sw_addr (a b : Int) : sw (a + sw b) = sw (a + b) :=
  sw_of _ _ (by rw [Int.add_emod, sw_emod, ← Int.add_emod])
theorem sw_sub (a b : Int) : sw (sw a - sw b) = sw (a - b) :=
  sw_of _ _ (by rw [Int.sub_emod, sw_emod, sw_emod, ← Int.sub_emod])
theorem sw_subl (a b : Int) : sw (sw a - b) = sw (a - b) :=
  sw_of _ _ (by rw [Int.sub_emod, sw_emod, ← Int.sub_emod])
theorem sw_mul (a b : Int) : sw (sw a * sw b) = sw (a * b) :=
  sw_of _ _ (by rw [Int.mul_emod, sw_emod, sw_emod, ← Int.mul_emod])
theorem sw_mull (a b : Int) : sw (sw a * b) = sw (a * b) :=
  sw_of _ _ (by rw [Int.mul_emod, sw_emod, ← Int.mul_emod])
theorem sw_mulr (a b : Int) : sw (a * sw b) = sw (a * b) :=
  sw_of _ _ (by rw [Int.mul_emod, sw_emod, ← Int.mul_emod])

/-- A product of two values fits well into 64 bits. -/
theorem mul_bd (x y : Int) (hx : -2147483648 ≤ x ∧ x ≤ 2147483647) (hy : -2147483648 ≤ y ∧ y ≤ 2147483648) :
    -4611686018427387904 ≤ x * y ∧ x * y ≤ 4611686018427387904 := by
  have h1 : x * y ≤ x.natAbs * y.natAbs := by
    rw [← Int.natCast_mul, ← Int.natAbs_mul]; omega
  have h2 : -(x.natAbs * y.natAbs : Int) ≤ x * y := by
    rw [← Int.natCast_mul, ← Int.natAbs_mul]; omega
  have h3 : x.natAbs * y.natAbs ≤ 2147483648 * 2147483648 := Nat.mul_le_mul (by omega) (by omega)
  have h4 : ((x.natAbs * y.natAbs : Nat) : Int) ≤ 4611686018427387904 := by omega
  rw [Int.natCast_mul] at h4
  omega
/-- Left over by 2^32 towards nought, then put right by 2^32, if it is too low or too great. -/
theorem rem_sw (n : Int) : (n.tmod 4294967296 < -2147483648 → sw n = n.tmod 4294967296 + 4294967296) ∧
    (2147483647 < n.tmod 4294967296 → sw n = n.tmod 4294967296 - 4294967296) ∧
    (-2147483648 ≤ n.tmod 4294967296 → n.tmod 4294967296 ≤ 2147483647 → sw n = n.tmod 4294967296) := by
  have h : n.tmod 4294967296 = if 0 ≤ n then n % 4294967296 else -((-n) % 4294967296) := by
    split
    · rw [Int.tmod_eq_emod_of_nonneg (by assumption)]
    · rw [show n = -(-n) from by omega, Int.neg_tmod, Int.tmod_eq_emod_of_nonneg (by omega)]; simp
  simp only [h, sw]
  split
  all_goals omega
theorem rem_bd (n : Int) : -4294967296 < n.tmod 4294967296 ∧ n.tmod 4294967296 < 4294967296 := by
  by_cases h : 0 ≤ n
  · rw [Int.tmod_eq_emod_of_nonneg h]; omega
  · rw [show n = -(-n) from by omega, Int.neg_tmod, Int.tmod_eq_emod_of_nonneg (by omega)]; omega
/-- A number's low half, and how many halves are left. -/
theorem half_bd (y : Int) (hy : -2147483648 ≤ y ∧ y ≤ 2147483647) :
    (-65536 < y.tmod 65536 ∧ y.tmod 65536 < 65536) ∧
    (-32768 ≤ (y - y.tmod 65536).tdiv 65536 ∧ (y - y.tmod 65536).tdiv 65536 ≤ 32768) ∧
    y.tmod 65536 + (y - y.tmod 65536).tdiv 65536 * 65536 = y := by
  have h : y.tmod 65536 = if 0 ≤ y then y % 65536 else -((-y) % 65536) := by
    split
    · rw [Int.tmod_eq_emod_of_nonneg (by assumption)]
    · rw [show y = -(-y) from by omega, Int.neg_tmod, Int.tmod_eq_emod_of_nonneg (by omega)]; simp
  have hd : ∃ q, y - y.tmod 65536 = 65536 * q := by
    rw [h]; split
    · exact ⟨y / 65536, by omega⟩
    · exact ⟨-((-y) / 65536), by omega⟩
  have hl : -65536 < y.tmod 65536 ∧ y.tmod 65536 < 65536 ∧ (0 ≤ y → 0 ≤ y.tmod 65536) ∧ (y ≤ 0 → y.tmod 65536 ≤ 0) := by
    rw [h]; split <;> omega
  obtain ⟨q, hq⟩ := hd
  rw [hq, Int.mul_tdiv_cancel_left q (by omega)]
  omega
theorem whole_mod (n : Int) : (Go.RowKit.wrap64 (n - sw n)).tmod 4294967296 = 0 := by
  have h : ∃ q, Go.RowKit.wrap64 (n - sw n) = 4294967296 * q := by
    refine ⟨Go.RowKit.wrap64 (n - sw n) / 4294967296, ?_⟩
    unfold Go.RowKit.wrap64 sw; omega
  obtain ⟨q, hq⟩ := h
  rw [hq, Int.mul_tmod_right]
theorem half_mul (a b : Int) :
    sw (sw a * (sw b).tmod 65536 + sw (sw a * ((sw b) - (sw b).tmod 65536).tdiv 65536) * 65536) = sw (a * b) := by
  rw [← sw_addr, sw_mull (sw a * _), sw_addr, Int.mul_assoc, ← Int.mul_add, (half_bd (sw b) (sw_bd b)).2.2, sw_mul]
end Go.Proofs.Ytcjooibadbhjaaa.Span
