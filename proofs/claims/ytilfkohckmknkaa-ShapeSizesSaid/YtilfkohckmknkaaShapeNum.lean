/-
  WHAT THE TAKER'S CALLS number AND op RETURN, or that they panic. No conditions beyond those that each theorem states.
-/
import Derived.Test.YtilfkohckmknkaaShapeTk
namespace Go.Proofs.Ytilfkohckmknkaa.Shape
open Go.ChangeShapes Go.WideShapes Go.ChangeAt Go.RowKit Mem Go.Proofs.Ytilfkohckmknkaa.Code

def acc (xs : List Int) : Int := xs.foldl (fun n x => n * 256 + x) 0
theorem acc_end (xs : List Int) (z : Int) : acc (xs ++ [z]) = acc xs * 256 + z := by unfold acc; rw [List.foldl_append]; rfl
theorem acc_bd (xs : List Int) (h : BB xs) (hl : xs.length ≤ 3) : 0 ≤ acc xs ∧ acc xs < 16777216 := by
  match xs, h, hl with
  | [], _, _ => exact ⟨by decide, by decide⟩
  | [a], h, _ => have := h.head; show 0 ≤ 0 * 256 + a ∧ 0 * 256 + a < _; omega
  | [a, b], h, _ => have := h.head; have := h.tail.head; show 0 ≤ (0 * 256 + a) * 256 + b ∧ (0 * 256 + a) * 256 + b < _; omega
  | [a, b, c], h, _ => have := h.head; have := h.tail.head; have := h.tail.tail.head; show 0 ≤ ((0 * 256 + a) * 256 + b) * 256 + c ∧ ((0 * 256 + a) * 256 + b) * 256 + c < _; omega
theorem take_end {l : List Int} {k : Nat} {z : Int} {q : List Int} (h : l.drop k = z :: q) : l.take (k + 1) = l.take k ++ [z] ∧ l.drop (k + 1) = q := by
  have h1 : l[k]? = some z := by rw [← List.head?_drop, h]; rfl
  refine ⟨by rw [List.take_add_one, h1]; rfl, ?_⟩
  rw [← List.drop_drop, h]; rfl
theorem acc_num (a b c d : Int) (q : List Int) (ha : 0 ≤ a ∧ a < 256) (hb : 0 ≤ b ∧ b < 256) (hc : 0 ≤ c ∧ c < 256) (hd : 0 ≤ d ∧ d < 256) : Span.sw (acc [a, b, c, d]) = num (a :: b :: c :: d :: q) := by
  rw [num_cons]
  have e : acc [a, b, c, d] = a * 16777216 + b * 65536 + c * 256 + d := by
    show (((0 * 256 + a) * 256 + b) * 256 + c) * 256 + d = _; omega
  rw [e]
  have h1 : 0 ≤ a * 16777216 + b * 65536 + c * 256 + d ∧ a * 16777216 + b * 65536 + c * 256 + d < 4294967296 := by omega
  generalize a * 16777216 + b * 65536 + c * 256 + d = m at *
  have := Span.sw_bd m
  unfold Span.sw at *
  split <;> omega
theorem join_byte (m z : Int) (h0 : 0 ≤ m) (h1 : m < 16777216) (z0 : 0 ≤ z) (z1 : z < 256) : bits .or .i64 (m * 256) z = m * 256 + z :=
  bits_join .i64 62 (by decide) (fun n hn hl => by rw [IntKind.wrap_i64]; have : (2 : Int) ^ 62 = 4611686018427387904 := by decide
                                                   omega) 8 (m * 256) z (by omega) (by show m * 256 % 256 = 0; omega) (by have : (2 : Int) ^ 62 = 4611686018427387904 := by decide
                                                                                                                          omega) z0 (by show z < 256; exact z1) (by have : (2 : Int) ^ 62 = 4611686018427387904 := by decide
                                                                                                                                                                    omega)
set_option maxRecDepth 100000 in
theorem number_ok (T : Nat) (l : List Int) (w : World) (h : Tk w T l) (h4 : 4 ≤ l.length) :
    Calls Try.prog 61 #[.pointer (some ⟨T, 0, none⟩)] w fun e w' => e = .returned (.int .i64 (num l)) ∧ Tk w' T (l.drop 4) ∧ w.grownBy w' (some T) := by
  have HBB := Lib.hid h.bb
  have HT := Lib.hid h
  have HL := Lib.hid h4
  clear h h4
  go_enter Try.func61, Try.ntmps61
  go_wp2
  go_loopw [3, 4] (fun v i wr => ∃ k : Nat, k ≤ 4 ∧ i = .int .i64 k ∧ v = .int .i64 (acc (l.take k)) ∧ Hid (Tk wr T (l.drop k)) ∧ Hid (w.grownBy wr (some T))) (fun _ i _ => 4 - (intOf i).toNat)
  case atStart => exact ⟨0, Nat.zero_le _, rfl, rfl, HT, Lib.hid (kept_refl _ _)⟩
  case round =>
    obtain ⟨k, hk, rfl, rfl, HTK, HG⟩ := hrel
    generalize wr = w1 at *
    by_cases hlt : k < 4
    · obtain ⟨z, q, hzq⟩ : ∃ z q, l.drop k = z :: q := by
        cases e : l.drop k with
        | nil => have h1 := congrArg List.length e; rw [List.length_drop] at h1; have := HL.out; simp at h1; omega
        | cons z q => exact ⟨z, q, rfl⟩
      obtain ⟨e1, e2⟩ := take_end hzq
      have hbz : 0 ≤ z ∧ z < 256 := HBB.out z (List.mem_of_mem_drop (by rw [hzq]; exact List.mem_cons_self ..))
      obtain ⟨z0, z1⟩ := hbz
      have hac := acc_bd (l.take k) (fun y hy => HBB.out y (List.mem_of_mem_take hy)) (by rw [List.length_take]; omega)
      have HE1 : Hid (acc (l.take (k + 1)) = acc (l.take k) * 256 + z) := Lib.hid (by rw [e1, acc_end])
      have HE2 := Lib.hid e2
      have HTZ : Hid (Tk w1 T (z :: q)) := Lib.hid (by rw [← hzq]; exact HTK.out)
      obtain ⟨m, hm⟩ : ∃ m, acc (l.take k) = m := ⟨_, rfl⟩
      rw [hm] at hac HE1 ⊢
      obtain ⟨m0, m1⟩ := hac
      have hor := join_byte m z m0 m1 z0 z1
      clear hzq e1 e2 hm
      go_wp2_with (go_at_call 38; refine (one_ok T z q _ HTZ.out).mono ?_; rintro e w2 ⟨rfl, ht2, hg2⟩; have HT2 := Lib.hid ht2; have HG2 := Lib.hid (kept_trans HG.out hg2); clear ht2 hg2)
      go_roundw
      case rel => exact ⟨k + 1, by omega, by go_num, by rw [HE1.out], by rw [HE2.out]; exact HT2, HG2⟩
      case measure => simp [intOf]; omega
    · obtain rfl : k = 4 := by omega
      have HV : Hid (Span.sw (acc (l.take 4)) = num l) := Lib.hid (by
        have hl := HL.out
        have hb := HBB.out
        match l, hl, hb with
        | a :: b :: c :: d :: q, _, hb => exact acc_num a b c d q hb.head hb.tail.head hb.tail.tail.head hb.tail.tail.tail.head)
      go_wp2_with (go_at_call 66; refine (Span.wrap_any _ _).mono ?_; rintro e w' ⟨rfl, rfl⟩)
      go_ret
      exact ⟨ret_int HV.out, HTK.out, HG.out⟩
set_option maxRecDepth 100000 in
theorem number_bad (T : Nat) (l : List Int) (w : World) (h : Tk w T l) (h4 : l.length < 4) :
    Calls Try.prog 61 #[.pointer (some ⟨T, 0, none⟩)] w (Pan w T) := by
  have HBB := Lib.hid h.bb
  have HT := Lib.hid h
  have HL := Lib.hid h4
  clear h h4
  go_enter Try.func61, Try.ntmps61
  go_wp2
  go_loopw [3, 4] (fun v i wr => ∃ k : Nat, k ≤ l.length ∧ i = .int .i64 k ∧ v = .int .i64 (acc (l.take k)) ∧ Hid (Tk wr T (l.drop k)) ∧ Hid (w.grownBy wr (some T))) (fun _ i _ => 4 - (intOf i).toNat)
  case atStart => exact ⟨0, Nat.zero_le _, rfl, rfl, HT, Lib.hid (kept_refl _ _)⟩
  case round =>
    obtain ⟨k, hk, rfl, rfl, HTK, HG⟩ := hrel
    generalize wr = w1 at *
    have hlt : k < 4 := by have := HL.out; omega
    have hac := acc_bd (l.take k) (fun y hy => HBB.out y (List.mem_of_mem_take hy)) (by rw [List.length_take]; omega)
    cases hzq : l.drop k with
    | cons z q =>
      obtain ⟨e1, e2⟩ := take_end hzq
      have hbz : 0 ≤ z ∧ z < 256 := HBB.out z (List.mem_of_mem_drop (by rw [hzq]; exact List.mem_cons_self ..))
      obtain ⟨z0, z1⟩ := hbz
      have hkl : k + 1 ≤ l.length := by have h1 := congrArg List.length hzq; rw [List.length_drop, List.length_cons] at h1; omega
      have HE1 : Hid (acc (l.take (k + 1)) = acc (l.take k) * 256 + z) := Lib.hid (by rw [e1, acc_end])
      have HE2 := Lib.hid e2
      have HTZ : Hid (Tk w1 T (z :: q)) := Lib.hid (by rw [← hzq]; exact HTK.out)
      obtain ⟨m, hm⟩ : ∃ m, acc (l.take k) = m := ⟨_, rfl⟩
      rw [hm] at hac HE1 ⊢
      obtain ⟨m0, m1⟩ := hac
      have hor := join_byte m z m0 m1 z0 z1
      clear hzq e1 e2 hm
      go_wp2_with (go_at_call 38; refine (one_ok T z q _ HTZ.out).mono ?_; rintro e w2 ⟨rfl, ht2, hg2⟩; have HT2 := Lib.hid ht2; have HG2 := Lib.hid (kept_trans HG.out hg2); clear ht2 hg2)
      go_roundw
      case rel => exact ⟨k + 1, hkl, by go_num, by rw [HE1.out], by rw [HE2.out]; exact HT2, HG2⟩
      case measure => simp [intOf]; omega
    | nil =>
      have HTZ : Hid (Tk w1 T []) := Lib.hid (by rw [← hzq]; exact HTK.out)
      obtain ⟨m, hm⟩ : ∃ m, acc (l.take k) = m := ⟨_, rfl⟩
      rw [hm] at hac ⊢
      obtain ⟨m0, m1⟩ := hac
      clear hzq hm
      go_wp2_with (go_at_call 38; refine (one_bad T _ HTZ.out).mono ?_; rintro e w2 ⟨rfl, hg2⟩; have HG2 := Lib.hid (kept_trans HG.out hg2); clear hg2)
      exact ⟨rfl, rfl, HG2.out⟩
end Go.Proofs.Ytilfkohckmknkaa.Shape
