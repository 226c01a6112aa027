/-
  THE WALK OF THE LAW HeapFills, over what the layer's functions are said to do.
-/
import Derived.Test.YtpejbfphejijeaaHeapLaw
namespace Go.Proofs.Ytpejbfphejijeaa.Heap
open Go.ChangeShapes Go.WideShapes Go.ChangeAt Go.RowKit Mem

def fillH (n : Nat) (v : Int) (i : Nat) : List Cell := List.replicate i ⟨true, v⟩ ++ List.replicate (n - i) ⟨false, 0⟩
theorem fill_len (n : Nat) (v : Int) (i : Nat) (h : i ≤ n) : (fillH n v i).length = n := by unfold fillH; simp; omega
theorem fill_right (n : Nat) (v : Int) (i : Nat) (h : i ≤ n) (h1 : 1 ≤ n) (h2 : n ≤ 64) (hv : vB v = true) : rightB (fillH n v i) = true := by
  have c1 : cellB ⟨true, v⟩ = true := by unfold cellB; simp [hv]
  have c2 : cellB ⟨false, 0⟩ = true := by decide
  unfold rightB
  rw [fill_len n v i h, Bool.and_eq_true]
  refine ⟨by simp; omega, ?_⟩
  unfold fillH
  rw [List.all_append, Bool.and_eq_true]
  constructor
  · rw [List.all_eq_true]; intro x hx; rw [List.eq_of_mem_replicate hx]; exact c1
  · rw [List.all_eq_true]; intro x hx; rw [List.eq_of_mem_replicate hx]; exact c2
theorem fill_alloc (n : Nat) (v : Int) (i : Nat) (h : i < n) (h1 : 1 ≤ n) (h2 : n ≤ 64) (hv : vB v = true) : allocS (fillH n v i) v = (fillH n v (i + 1), (i : Int), 0) := by
  have hk : (fillH n v i)[i]? = some ⟨false, 0⟩ := by
    unfold fillH; rw [List.getElem?_append_right (by simp), List.getElem?_replicate, if_pos (by simp; omega)]
  have ha : ((fillH n v i).take i).all Cell.live = true := by
    unfold fillH; rw [List.take_left' (by simp), List.all_eq_true]
    intro x hx; rw [List.eq_of_mem_replicate hx]
  unfold allocS
  rw [fill_right n v i (by omega) h1 h2 hv, hv, free1_at _ i _ hk rfl ha]
  simp only [Bool.and_self, ↓reduceIte, Prod.mk.injEq, and_true]
  unfold setAt
  rw [if_neg (by omega)]
  simp only [Int.toNat_natCast]
  unfold fillH
  rw [List.set_append_right _ _ (by simp), List.replicate_succ', List.append_assoc]
  congr 1
  simp only [List.length_replicate, Nat.sub_self]
  rw [show n - i = (n - (i + 1)) + 1 from by omega, List.replicate_succ]
  rfl
theorem fill_full (n : Nat) (v : Int) (h1 : 1 ≤ n) (h2 : n ≤ 64) (hv : vB v = true) : allocS (fillH n v n) v = (fillH n v n, 0, 4) := by
  have ha : (fillH n v n).all Cell.live = true := by
    unfold fillH; simp
  unfold allocS
  rw [fill_right n v n (Nat.le_refl _) h1 h2 hv, hv, free1_none _ ha]; rfl
theorem fill_live (n : Nat) (v : Int) (h1 : 1 ≤ n) (h2 : n ≤ 64) (hv : vB v = true) : (liveS (fillH n v n)).length = n := by
  unfold liveS
  rw [fill_right n v n (Nat.le_refl _) h1 h2 hv, if_pos rfl, fill_len n v n (Nat.le_refl _), List.filter_eq_self.2, List.length_range]
  intro k hk
  have hk : k < n := List.mem_range.1 hk
  rw [live_at (x := ⟨true, v⟩)]
  unfold fillH; rw [List.getElem?_append_left (by simpa using hk)]; simp [hk]
theorem fill_new (n : Nat) (v : Int) (h1 : 1 ≤ n) (h2 : n ≤ 64) : newS (n : Int) = (fillH n v 0, 0) := by
  unfold newS; rw [if_pos (by omega)]; unfold fillH; simp
theorem new_none (n : Int) (h : n < 1 ∨ 64 < n) : newS n = ([], 1) := by unfold newS; rw [if_neg (by omega)]

theorem fills_walk (S : Said) (a0 a1 : Int) (h1 : -2147483648 ≤ a1 ∧ a1 ≤ 2147483647) (w : World) :
    Calls Try.prog 4 #[.int .i64 a0, .int .i32 a1] w (RetB w true) := by
  have HS := Lib.hid S
  clear S
  obtain ⟨p1, p2⟩ := h1
  by_cases g : 1 ≤ a0 ∧ a0 ≤ 64
  · obtain ⟨g0, g1⟩ := g
    obtain ⟨n, rfl⟩ := Int.eq_ofNat_of_zero_le (show 0 ≤ a0 by omega)
    have HV : Hid (vB a1 = true) := Lib.hid (by unfold vB; simp; omega)
    go_enter Try.func4, Try.ntmps4
    go_wp2_with fail
    refine (HS.out.new n _ _ n (fill_new n a1 (by omega) (by omega)) (fill_len n a1 0 (by omega))).mono ?_
    rintro e w1 ⟨B1, d1, rfl, s1, b1⟩
    go_wp2
    go_loopw [5, 36] (fun v i wr => ∃ k : Nat, k ≤ n ∧ i = .int .i64 k ∧ (∃ B q, v = .slice B n q ∧ Rd wr 2 B n (cs (fillH n a1 k))) ∧ Below w.heap.size w wr) (fun _ i _ => n - (intOf i).toNat)
    case atStart => exact ⟨0, Nat.zero_le _, rfl, ⟨B1, d1, rfl, s1⟩, b1⟩
    case round =>
      obtain ⟨k, hk, rfl, ⟨B, q, rfl, s⟩, b⟩ := hrel
      by_cases hlt : k < n
      · go_wp2_with fail
        refine (HS.out.alloc _ _ _ _ _ _ _ s (by omega) (fill_alloc n a1 k hlt (by omega) (by omega) HV.out)).mono ?_
        rintro e w2 ⟨B2, d2, rfl, s2, b2⟩
        go_wp2
        go_roundw
        case rel => exact ⟨k + 1, by omega, by go_num, ⟨B2, d2, rfl, s2⟩, bl_trans b b2⟩
        case measure => simp [intOf]; omega
      · have hkn : k = n := by omega
        subst hkn
        go_wp2_with fail
        refine (HS.out.alloc _ _ _ _ _ _ _ s (by omega) (fill_full k a1 (by omega) (by omega) HV.out)).mono ?_
        rintro e w2 ⟨B2, d2, rfl, s2, b2⟩
        replace s := s.below b2
        replace b := bl_trans b b2
        go_wp2_with fail
        refine (same_b _ _ _ _ _ _ _ _ _ true s2 s (by omega) (by omega) (by simp)).mono ?_
        rintro e w3 ⟨rfl, b3⟩
        replace s := s.below b3
        replace b := bl_trans b b3
        go_wp2_with fail
        refine (HS.out.live _ _ _ _ _ _ k s (by omega) rfl (fill_live k a1 (by omega) (by omega) HV.out)).mono ?_
        rintro e w4 ⟨B4, d4, rfl, s4, b4⟩
        replace b := bl_trans b b4
        go_wp2_with fail
        refine (awake_any HS.out _).mono ?_
        rintro e w5 ⟨rfl, b5⟩
        replace b := bl_trans b b5
        go_wp2_with fail
        go_ret
        exact ⟨rfl, b⟩
  · have g' : a0 < 1 ∨ 64 < a0 := by omega
    clear g
    go_enter Try.func4, Try.ntmps4
    go_wp2_with fail
    refine (HS.out.new a0 _ _ 0 (new_none a0 g') rfl).mono ?_
    rintro e w1 ⟨B1, d1, rfl, s1, b1⟩
    go_wp2_with (go_at_call 9; refine (awake_any HS.out _).mono ?_; rintro e w2 ⟨rfl, b2⟩)
    all_goals
      go_ret
      exact ⟨rfl, bl_trans b1 (by assumption)⟩
end Go.Proofs.Ytpejbfphejijeaa.Heap
