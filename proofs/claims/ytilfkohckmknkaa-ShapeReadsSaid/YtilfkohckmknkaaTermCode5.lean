/-
  WHAT EACH FUNCTION OF THE LAYER term RETURNS, AS IT IS WRITTEN: Cells.
-/
import Derived.Test.YtilfkohckmknkaaTermCode4
namespace Go.Proofs.Ytilfkohckmknkaa.Term
open Go.ChangeShapes Go.WideShapes Go.ChangeAt Go.RowKit Mem

/-- The cells that are named, as they come. -/
def named (l : List Op) : List Int := (l.filter (fun o => decide (o.kind = 2))).map Op.n
theorem named_take (l : List Op) (k : Nat) (x : Op) (hk : l[k]? = some x) : named (l.take (k + 1)) = named (l.take k) ++ (if x.kind = 2 then [x.n] else []) := by
  unfold named
  rw [List.take_add_one, hk, List.filter_append, List.map_append]
  by_cases h : x.kind = 2 <;> simp [h]
theorem named_len (l : List Op) : (named l).length ≤ l.length := by unfold named; rw [List.length_map]; exact List.length_filter_le _ _
theorem named_mem (l : List Op) (h : l.all oneB = true) (x : Int) : x ∈ named l ↔ ∃ k : Nat, k < 64 ∧ namesB l k = true ∧ x = (k : Int) := by
  unfold named namesB
  rw [List.mem_map]
  constructor
  · rintro ⟨o, ho, rfl⟩
    rw [List.mem_filter] at ho
    have h1 := List.all_eq_true.1 h o ho.1
    have h2 : o.kind = 2 := by simpa using ho.2
    unfold oneB at h1
    rw [if_neg (by omega), if_pos h2] at h1
    have h3 : 0 ≤ o.n ∧ o.n ≤ 63 := by simpa using h1
    refine ⟨o.n.toNat, by omega, ?_, by omega⟩
    rw [List.any_eq_true]
    exact ⟨o, ho.1, by simp [h2]; omega⟩
  · rintro ⟨k, hk, hn, rfl⟩
    rw [List.any_eq_true] at hn
    obtain ⟨o, ho, h2⟩ := hn
    have h2 : o.kind = 2 ∧ o.n = (k : Int) := by simpa using h2
    exact ⟨o, List.mem_filter.2 ⟨ho, by simp [h2.1]⟩, h2.2⟩
theorem cells_of (l : List Op) (h : checkS l = 0) : cellsS l = Lib.compact (sortZ (named l)) := by
  obtain ⟨_, _, h3, _⟩ := check_ok l h
  rw [compact_pick (named l) (namesB l) 64 (named_mem l h3)]
  unfold cellsS; rw [if_pos h]; rfl

set_option maxHeartbeats 1000000 in
theorem cells_c (l : List Op) (A : Option Addr) (n c : Nat) (w : World) (r : List Int) (q : Nat) (hr : Rd w 2 A n (ops l)) (hn : n ≤ 1000000) (hv : cellsS l = r) (hq : r.length = q) :
    Calls Try.prog 51 #[.slice A n c] w (RetO w 3 1 q (zs r)) := by
  have HL := Lib.hid (ops_len hr)
  have HR := Lib.hid hr
  have HQ := Lib.hid hq
  clear hr hq
  by_cases h0 : checkS l = 0
  · have H0 := Lib.hid h0
    have HF : Hid (r = Lib.compact (sortZ (named l))) := Lib.hid (by rw [← hv]; exact cells_of l h0)
    clear h0 hv
    go_enter Try.func51, Try.ntmps51
    go_wp2_with fail
    refine (check_c l _ _ _ _ 0 HR.out hn H0.out).mono ?_
    rintro e w1 ⟨rfl, b1⟩
    have HB1 := Lib.hid b1
    clear b1
    go_wp2
    go_loopw [3, 11] (fun v i wr => ∃ k q : Nat, k ≤ n ∧ q ≤ k ∧ i = .int .i64 k ∧ Hid ((named (l.take k)).length = q) ∧ Own w1 wr 3 1 v q (zs (named (l.take k)))) (fun _ i _ => n - (intOf i).toNat)
    case atStart => exact ⟨0, 0, Nat.zero_le _, Nat.le_refl _, rfl, Lib.hid rfl, Own.nil_ (Below.refl _ _)⟩
    case round =>
      obtain ⟨k, q1, hk, hqk, rfl, HQ1, hown⟩ := hrel
      by_cases hlt : k < n
      · obtain ⟨b, off, ⟨kd, nn⟩, rfl, hx, c0, c1⟩ := at_op ((HR.out.below HB1.out).below hown.2) k hlt
        have HT := Lib.hid (named_take l k _ hx)
        clear hx
        by_cases e2 : kd = 2
        · subst e2
          have HT2 : Hid (named (l.take (k + 1)) = named (l.take k) ++ [nn]) := Lib.hid (by rw [HT.out]; rfl)
          go_wp2_with (at_builtin; refine append_rd rfl _ _ 82 rfl Mem.tInt w1 _ _ _ rfl ((hown.alloc _).alloc _) _ 1 1 [.int .i64 nn] rfl (Rd.builtAt _ 1 1 [.int .i64 nn] _ rfl (by simp)) (one_cons rfl one_nil) (by omega) (by omega) ?_; intro v' w' hown' hg; clear hg)
          go_roundw
          case rel => exact ⟨k + 1, q1 + 1, by omega, by omega, by go_num, Lib.hid (by rw [HT2.out, List.length_append, HQ1.out]; rfl), by rw [HT2.out, zs_app]; exact hown'⟩
          case measure => simp [intOf]; omega
        · have e3 : (kd == 2) = false := beq_eq_false_iff_ne.2 e2
          have HT2 : Hid (named (l.take (k + 1)) = named (l.take k)) := Lib.hid (by rw [HT.out, if_neg e2, List.append_nil])
          have HO := Lib.hid (hown.alloc (.cells #[.int .i64 kd, .int .i64 nn] 50))
          clear e2 hown
          go_wp2
          go_roundw
          case rel => exact ⟨k + 1, q1, by omega, by omega, by go_num, Lib.hid (by rw [HT2.out]; exact HQ1.out), by rw [HT2.out]; exact HO.out⟩
          case measure => simp [intOf]; omega
      · have ho := hown
        rw [List.take_of_length_le (by rw [HL.out]; omega)] at ho
        have HO := Lib.hid ho
        clear hown ho
        go_wp2_with fail
        refine (sort_own w1 _ _ _ _ HO.out (by omega)).mono ?_
        rintro e w2 ⟨rfl, ho2⟩
        have HO2 := Lib.hid ho2
        clear ho2
        go_wp2_with fail
        refine (compact_own w1 _ _ _ _ HO2.out (by omega)).mono ?_
        rintro e w3 ⟨v3, rfl, ho3⟩
        go_wp2
        go_ret
        exact ⟨v3, rfl, by rw [← HQ.out, HF.out]; exact ho3.wide HB1.out⟩
  · have HF : Hid (r = []) := Lib.hid (by rw [← hv]; unfold cellsS; rw [if_neg h0])
    have HN : Hid (q = 0) := Lib.hid (by rw [← HQ.out, HF.out]; rfl)
    obtain rfl := HN.out
    obtain ⟨ck, hck⟩ : ∃ x, checkS l = x := ⟨_, rfl⟩
    have HC := Lib.hid hck
    have hne : (ck != 0) = true := by rw [← hck]; simpa using h0
    clear h0 hv hck
    go_enter Try.func51, Try.ntmps51
    go_wp2_with fail
    refine (check_c l _ _ _ _ ck HR.out hn HC.out).mono ?_
    rintro e w1 ⟨rfl, b1⟩
    have HB := Lib.hid b1
    clear b1
    go_wp2
    go_ret
    exact ⟨_, rfl, by rw [HF.out]; exact Own.nil_ HB.out⟩
end Go.Proofs.Ytilfkohckmknkaa.Term
