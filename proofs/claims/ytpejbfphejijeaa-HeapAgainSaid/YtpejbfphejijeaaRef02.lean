/-
  WHAT EACH FUNCTION OF THE DOCUMENT'S ANSWER FOR LAYER 2 RETURNS.
-/
import Derived.Test.YtpejbfphejijeaaRows
import Derived.Test.YtpejbfphejijeaaHeapPlain
import Derived.LoopTactic
import Derived.Deep.QuietTactic
import Derived.BigQuiet
import Derived.RegionTactic
import Derived.Laws.StructEq
namespace Go.Proofs.Ytpejbfphejijeaa.Heap
open Go.ChangeShapes Go.WideShapes Go.ChangeAt Go.RowKit Mem

theorem tCell : SliceT Try.prog 22 48 2 16 := SliceT.mk_ (z := .agg #[.bool false, .int .i64 0]) Try.underlying22 (by kernel_rfl) rfl (by decide)

theorem ref01right_any (n : Int) (w : World) :
    Calls Try.prog 26 #[.int .i64 n] w fun e w' => e = .returned (.bool (vB n)) ∧ w = w' := by
  by_cases h1 : -2147483648 ≤ n
  all_goals by_cases h2 : n ≤ 2147483647
  all_goals
    go_enter Try.func26, Try.ntmps26
    go_wp2
    go_ret
    exact ⟨ret_bool (by unfold vB; simp [h1, h2]), rfl⟩

theorem right_any (h : List Cell) (A : Option Addr) (n c : Nat) (w : World) (hr : Rd w 2 A n (cs h)) (hn : n ≤ 1000000) :
    Calls Try.prog 19 #[.slice A n c] w fun e w' => e = .returned (.bool (rightB h)) ∧ w = w' := by
  have hl : h.length = n := by have := hr.1; rw [cs_len] at this; omega
  have HL := Lib.hid hl
  clear hl
  have HR := Lib.hid hr
  clear hr
  go_enter Try.func19, Try.ntmps19
  go_wp2
  go_loop [3] (fun i => ∃ k : Nat, k ≤ n ∧ i = .int .i64 k ∧ Hid ((h.take k).all cellB = true)) (fun i => n - (intOf i).toNat)
  case atStart => exact ⟨0, Nat.zero_le _, rfl, rfl⟩
  case round =>
    obtain ⟨k, hk, rfl, hall⟩ := hrel
    by_cases hlt : k < n
    · obtain ⟨b, off, ⟨lv, vl⟩, rfl, hx, c0, c1⟩ := at_cell HR.out k hlt
      have HX := Lib.hid hx
      clear hx
      have hs := Lib.hid (take_all h cellB k _ HX.out)
      by_cases hok : cellB ⟨lv, vl⟩ = true
      · have t1 : vB vl = true := by unfold cellB at hok; simp at hok; exact hok.1
        have t2 : lv = true ∨ vl = 0 := by unfold cellB at hok; simp at hok; exact hok.2
        have HOK := Lib.hid hok
        clear hok
        rcases t2 with rfl | rfl
        all_goals try cases lv
        all_goals
          go_wp2_with (go_at_call 26; refine (ref01right_any _ _).mono ?_; rintro e w' ⟨rfl, rfl⟩)
          go_round
          case rel => exact ⟨k + 1, by omega, by go_num, Lib.hid (by rw [hs.out, hall.out, HOK.out]; rfl)⟩
          case measure => simp [intOf]; omega
      · have hf : rightB h = false := right_bad h k _ HX.out (by simpa using hok)
        have HF := Lib.hid hf
        clear hf
        by_cases t1 : vB vl = true
        · have t2 : lv = false ∧ (vl != 0) = true := by unfold cellB at hok; simp [t1] at hok; simpa using hok
          obtain ⟨rfl, t3⟩ := t2
          clear hok
          go_wp2_with (go_at_call 26; refine (ref01right_any _ _).mono ?_; rintro e w' ⟨rfl, rfl⟩)
          go_ret
          exact ⟨ret_bool HF.out.symm, rfl⟩
        · have t1' : vB vl = false := by simpa using t1
          clear t1 hok
          go_wp2_with (go_at_call 26; refine (ref01right_any _ _).mono ?_; rintro e w' ⟨rfl, rfl⟩)
          go_ret
          exact ⟨ret_bool HF.out.symm, rfl⟩
    · have hkn : k = n := by omega
      have hf : rightB h = decide (0 < n ∧ n < 65) := by
        have := hall.out
        rw [hkn, ← HL.out, List.take_length] at this
        unfold rightB; rw [this, HL.out]; simp
      have HF := Lib.hid hf
      clear hf hkn
      by_cases h1 : 0 < n
      all_goals by_cases h2 : n < 65
      all_goals
        go_wp2
        go_ret
        exact ⟨ret_bool (by rw [HF.out]; first | (simp [h1, h2]; done) | (simp [h1, h2]; omega)), rfl⟩

theorem same_any (x y : List Cell) (A B : Option Addr) (n m c d : Nat) (w : World) (hx : Rd w 2 A n (cs x)) (hy : Rd w 2 B m (cs y)) (hn : n ≤ 1000000) (hm : m ≤ 1000000) :
    Calls Try.prog 20 #[.slice A n c, .slice B m d] w fun e w' => e = .returned (.bool (decide (x = y))) ∧ ∃ q, w' = w.drewN q := by
  have HX := Lib.hid hx
  have HY := Lib.hid hy
  clear hx hy
  by_cases hnm : n = m
  · subst hnm
    go_enter Try.func20, Try.ntmps20
    go_wp2
    go_loopw [5] (fun i wr => ∃ k q : Nat, k ≤ n ∧ i = .int .i64 k ∧ wr = w.drewN q ∧ Hid (x.take k = y.take k)) (fun i _ => n - (intOf i).toNat)
    case atStart => exact ⟨0, 0, Nat.zero_le _, rfl, rfl, Lib.hid rfl⟩
    case round =>
      obtain ⟨k, q, hk, rfl, rfl, hall⟩ := hrel
      by_cases hlt : k < n
      · obtain ⟨b, off, ⟨lv, vl⟩, rfl, hx, c0, c1⟩ := at_cell HX.out k hlt
        obtain ⟨b', off', ⟨lv', vl'⟩, rfl, hx', c0', c1'⟩ := at_cell HY.out k hlt
        have GX := Lib.hid hx
        have GY := Lib.hid hx'
        clear hx hx'
        by_cases heq : lv = lv' ∧ vl = vl'
        · obtain ⟨rfl, rfl⟩ := heq
          have hs : Hid (x.take (k + 1) = y.take (k + 1)) := Lib.hid (take_eq x y k _ GX.out GY.out hall.out)
          go_wp2
          go_quiet (fail)
          go_wp2
          go_roundw
          case rel => exact ⟨k + 1, _, by omega, by go_num, rfl, hs⟩
          case measure => simp [intOf]; omega
        · have hf : Hid (decide (x = y) = false) := Lib.hid (take_ne x y k _ _ GX.out GY.out (by intro e; injection e with e1 e2; exact heq ⟨e1, e2⟩))
          by_cases h1 : lv = lv'
          · subst h1
            have h2 : ¬ vl = vl' := fun e => heq ⟨rfl, e⟩
            clear heq
            go_wp2
            go_quiet (fail)
            go_wp2
            go_ret
            exact ⟨ret_bool hf.out.symm, _, by first | exact World.drewN_drewN _ _ _ | rfl⟩
          · clear heq
            go_wp2
            go_quiet (fail)
            go_wp2
            go_ret
            exact ⟨ret_bool hf.out.symm, _, by first | exact World.drewN_drewN _ _ _ | rfl⟩
      · have hf : Hid (decide (x = y) = true) := by
          refine Lib.hid (decide_eq_true ?_)
          have := hall.out
          have l1 := HX.out.1
          have l2 := HY.out.1
          rw [cs_len] at l1 l2
          rwa [List.take_of_length_le (by omega), List.take_of_length_le (by omega)] at this
        go_wp2
        go_ret
        exact ⟨ret_bool hf.out.symm, _, by first | exact World.drewN_drewN _ _ _ | rfl⟩
  · have hf : Hid (decide (x = y) = false) := by
      refine Lib.hid (decide_eq_false ?_)
      intro e
      have l1 := HX.out.1
      have l2 := HY.out.1
      rw [e] at l1
      exact hnm (by omega)
    go_enter Try.func20, Try.ntmps20
    go_wp2
    go_ret
    exact ⟨ret_bool hf.out.symm, 0, rfl⟩

theorem set_any (h : List Cell) (A : Option Addr) (n c : Nat) (at_ : Int) (lv : Bool) (vl : Int) (w : World) (hr : Rd w 2 A n (cs h)) (hn : n ≤ 1000000) :
    Calls Try.prog 27 #[.slice A n c, .int .i64 at_, .agg #[.bool lv, .int .i64 vl]] w fun e w' =>
      ∃ B d, e = .returned (.slice B n d) ∧ Rd w' 2 B n (cs (setAt h at_ ⟨lv, vl⟩)) ∧ Below w.heap.size w w' := by
  have HR := Lib.hid (hr.alloc (.cells #[.bool lv, .int .i64 vl] 48))
  have HL : Hid (h.length = n) := Lib.hid (by have := hr.1; rw [cs_len] at this; omega)
  clear hr
  go_enter Try.func27, Try.ntmps27
  go_wp2
  go_loopw [7, 8] (fun v i wr => ∃ k : Nat, k ≤ n ∧ i = .int .i64 k ∧ Hid (Own (w.alloc (.cells #[.bool lv, .int .i64 vl] 48)) wr 48 2 v k (cs ((setAt h at_ ⟨lv, vl⟩).take k)))) (fun _ i _ => n - (intOf i).toNat)
  case atStart => exact ⟨0, Nat.zero_le _, rfl, Lib.hid (Own.nil_ (Below.refl _ _))⟩
  case round =>
    obtain ⟨k, hk, rfl, hown⟩ := hrel
    by_cases hlt : k < n
    · obtain ⟨b, off, ⟨lx, vx⟩, rfl, hx, c0, c1⟩ := at_cell (HR.out.below hown.out.2) k hlt
      have GX := Lib.hid hx
      clear hx
      by_cases hat : (k : Int) = at_
      · subst hat
        have hs := setAt_at h k ⟨lv, vl⟩ _ GX.out
        have HT := Lib.hid (cs_take _ k _ hs)
        have b0 : wr.cell? ⟨w.heap.size, 0, none⟩ = some (.bool lv) := (hown.out.2.cell (by simp)).trans (by simp)
        have b1 : wr.cell? ⟨w.heap.size, 1, none⟩ = some (.int .i64 vl) := (hown.out.2.cell (by simp)).trans (by simp)
        clear hs
        go_wp2_with (at_builtin; refine append_rd rfl _ _ 22 rfl tCell (w.alloc (.cells #[.bool lv, .int .i64 vl] 48)) _ _ _ rfl (hown.out.alloc _) _ 1 1 [.bool lv, .int .i64 vl] rfl (Rd.built _ 2 1 [.bool lv, .int .i64 vl] _ rfl) (one_cons rfl (one_cons rfl one_nil)) (by omega) (by omega) ?_; intro v' w' hown' hg; have HO := Lib.hid hown'; clear hown' hg)
        go_roundw
        case rel => exact ⟨k + 1, by omega, by go_num, Lib.hid (by rw [HT.out]; exact HO.out)⟩
        case measure => simp [intOf]; omega
      · have t1 : ((k : Int) == at_) = false := beq_eq_false_iff_ne.2 hat
        have hs := setAt_ne h at_ k ⟨lv, vl⟩ _ GX.out hat
        have HT := Lib.hid (cs_take _ k _ hs)
        clear hat hs
        go_wp2_with (at_builtin; refine append_rd rfl _ _ 22 rfl tCell (w.alloc (.cells #[.bool lv, .int .i64 vl] 48)) _ _ _ rfl (hown.out.alloc _) _ 1 1 [.bool lx, .int .i64 vx] rfl (Rd.built _ 2 1 [.bool lx, .int .i64 vx] _ rfl) (one_cons rfl (one_cons rfl one_nil)) (by omega) (by omega) ?_; intro v' w' hown' hg; have HO := Lib.hid hown'; clear hown' hg)
        go_roundw
        case rel => exact ⟨k + 1, by omega, by go_num, Lib.hid (by rw [HT.out]; exact HO.out)⟩
        case measure => simp [intOf]; omega
    · have hkn : k = n := by omega
      obtain ⟨B, d, hv, hrd⟩ := hown.out.form
      subst hkn hv
      have HB := Lib.hid hown.out.2
      have HD := Lib.hid hrd
      clear hrd
      go_wp2
      go_ret
      refine ⟨B, d, rfl, ?_, ((Below.refl _ _).alloc (Nat.le_refl _) _).trans (HB.out.mono (by simp))⟩
      have := HD.out
      rwa [List.take_of_length_le (by rw [setAt_len, HL.out]; exact Nat.le_refl _)] at this
end Go.Proofs.Ytpejbfphejijeaa.Heap
