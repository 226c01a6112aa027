/-
  THE WALK OF THE LAW WritesFills.
-/
import Derived.Test.YtjmilnfemjnhoaaWritesAwake
namespace Go.Proofs.Ytjmilnfemjnhoaa.Writes
open Go.ChangeShapes Go.WideShapes Go.ChangeAt Go.RowKit Mem
open Heap (Write wc ws ws_len vB at_write)

def filled (a v : Int) (k : Nat) : List Write := (List.range k).map (fun i : Nat => (⟨a + (i : Int) % 5, v⟩ : Write))
theorem filled_succ (a v : Int) (k : Nat) : filled a v (k + 1) = filled a v k ++ [⟨a + (k : Int) % 5, v⟩] := by unfold filled; rw [List.range_succ]; simp
theorem filled_len (a v : Int) (k : Nat) : (filled a v k).length = k := by unfold filled; simp
theorem filled_one (a v : Int) (ha : 0 ≤ a) (hv : vB v = true) (k : Nat) : oneB ⟨a + (k : Int) % 5, v⟩ = true := by
  unfold oneB
  have : 0 ≤ a + (k : Int) % 5 := by omega
  simp [this, hv]
theorem filled_all (a v : Int) (ha : 0 ≤ a) (hv : vB v = true) (k : Nat) : (filled a v k).all oneB = true := by
  rw [List.all_eq_true]
  intro x hx
  unfold filled at hx
  obtain ⟨i, _, rfl⟩ := List.mem_map.1 hx
  exact filled_one a v ha hv i
theorem marks_rep (x lo : Int) (j : Nat) (h : lo ≤ x) : marksB x lo (List.replicate j x) = true := by
  induction j generalizing lo with
  | zero => rfl
  | succ j ih => rw [List.replicate_succ, marksB, ih x (Int.le_refl _)]; simp [h]
theorem filled_right (a v : Int) (ha : 0 ≤ a) (hv : vB v = true) (k j : Nat) (hk : k ≤ 24) (hj : j ≤ 6) : rightB ⟨filled a v k, List.replicate j (k : Int)⟩ = true := by
  rw [right_parts]
  refine ⟨by rw [filled_len]; exact hk, filled_all a v ha hv k, by simpa using hj, ?_⟩
  rw [filled_len]
  exact marks_rep _ _ _ (by omega)
theorem filled_put (a v : Int) (ha : 0 ≤ a) (hv : vB v = true) (k : Nat) (hk : k < 24) : putS ⟨filled a v k, []⟩ ⟨a + (k : Int) % 5, v⟩ = (⟨filled a v (k + 1), []⟩, 0) := by
  rw [put_new _ _ (by rw [filled_one a v ha hv k]; have := filled_right a v ha hv k 0 (by omega) (by omega); simpa using this) (by show (filled a v k).length ≠ 24; rw [filled_len]; omega), filled_succ]
theorem filled_big (a v : Int) (ha : 0 ≤ a) (hv : vB v = true) (k : Nat) (hk : k = 24) : putS ⟨filled a v k, []⟩ ⟨0, 0⟩ = (⟨filled a v k, []⟩, 5) := by
  rw [put_big _ _ (by have := filled_right a v ha hv k 0 (by omega) (by omega); have h2 : oneB ⟨0, 0⟩ = true := by decide
                      rw [h2, Bool.and_true]; simpa using this) (by show (filled a v k).length = 24; rw [filled_len]; omega)]
theorem filled_mark (a v : Int) (ha : 0 ≤ a) (hv : vB v = true) (k j : Nat) (hk : k ≤ 24) (hj : j < 6) : markS ⟨filled a v k, List.replicate j (k : Int)⟩ = (⟨filled a v k, List.replicate (j + 1) (k : Int)⟩, 0) := by
  rw [mark_new _ (filled_right a v ha hv k j hk (by omega)) (by simp; omega)]
  rw [List.replicate_succ', filled_len]
theorem filled_full (a v : Int) (ha : 0 ≤ a) (hv : vB v = true) (k j : Nat) (hk : k ≤ 24) (hj : j = 6) : markS ⟨filled a v k, List.replicate j (k : Int)⟩ = (⟨filled a v k, List.replicate j (k : Int)⟩, 5) := by
  rw [mark_big _ (filled_right a v ha hv k j hk (by omega)) (by simpa using hj)]
def five (a v : Int) : List Write := [⟨a, v⟩, ⟨a + 1, v⟩, ⟨a + 2, v⟩, ⟨a + 3, v⟩, ⟨a + 4, v⟩]
set_option linter.unusedSimpArgs false in
theorem five_upd (a v : Int) (j : Int) (h : j = 0 ∨ j = 1 ∨ j = 2 ∨ j = 3 ∨ j = 4) : upd ⟨a + j, v⟩ (five a v) = five a v := by
  unfold five
  have h1 : a < a + 1 := by omega
  have h2 : a < a + 2 := by omega
  have h3 : a < a + 3 := by omega
  have h4 : a < a + 4 := by omega
  rcases h with rfl | rfl | rfl | rfl | rfl <;> simp [upd, h1, h2, h3, h4]
set_option linter.unusedSimpArgs false in
theorem five_start (a v : Int) : lastL (filled a v 5) = five a v := by
  have e : filled a v 5 = [⟨a + 0, v⟩, ⟨a + 1, v⟩, ⟨a + 2, v⟩, ⟨a + 3, v⟩, ⟨a + 4, v⟩] := rfl
  rw [e]
  have h1 : a < a + 1 := by omega
  have h2 : a < a + 2 := by omega
  have h3 : a < a + 3 := by omega
  have h4 : a < a + 4 := by omega
  unfold lastL five
  simp [upd, h1, h2, h3, h4]
theorem filled_five (a v : Int) (k : Nat) : lastL (filled a v (k + 5)) = five a v := by
  induction k with
  | zero => exact five_start a v
  | succ k ih =>
    have e : filled a v (k + 1 + 5) = filled a v (k + 5) ++ [⟨a + ((k + 5 : Nat) : Int) % 5, v⟩] := filled_succ a v (k + 5)
    rw [e]
    unfold lastL at *
    rw [List.foldl_append, ih]
    exact five_upd a v _ (by omega)
theorem filled_last (a v : Int) (ha : 0 ≤ a) (hv : vB v = true) (k j : Nat) (hk : k = 24) (hj : j ≤ 6) : (lastS ⟨filled a v k, List.replicate j (k : Int)⟩).length = 5 := by
  unfold lastS
  rw [if_pos (filled_right a v ha hv k j (by omega) hj)]
  subst hk
  show (lastL (filled a v (19 + 5))).length = 5
  rw [filled_five]; rfl

set_option maxRecDepth 100000 in
set_option maxHeartbeats 4000000 in
theorem fills_walk (S : Said) (a v : Int) (ha : 0 ≤ a ∧ a ≤ 65535) (hv : -2147483648 ≤ v ∧ v ≤ 2147483647) (w : World) :
    Calls Try.prog 6 #[.int .u16 a, .int .i32 v] w (RetB w true) := by
  have HS := Lib.hid S
  clear S
  obtain ⟨a0, a1⟩ := ha
  obtain ⟨v0, v1⟩ := hv
  have HV : Hid (vB v = true) := Lib.hid (by unfold Heap.vB; simp; omega)
  have K0 : Hid (Blk (w.alloc (.cells #[.slice none 0 0, .slice none 0 0] 25)) w.heap.size 25 #[.slice none 0 0, .slice none 0 0]) := Lib.hid (Blk.new _ _ _)
  go_enter Try.func6, Try.ntmps6
  go_wp2
  go_loopw [15] (fun i wr => ∃ (k : Nat) (A5 : Option Addr) (c5 : Nat) (B5 : Option Addr) (d5 : Nat), k ≤ 24 ∧ i = .int .i64 k ∧ Hid (Below w.heap.size w wr) ∧ Hid (Blk wr w.heap.size 25 #[.slice A5 k c5, .slice B5 0 d5]) ∧ Hid (LogAt wr A5 k c5 B5 0 d5 ⟨filled a v k, []⟩)) (fun i _ => 24 - (intOf i).toNat)
  case atStart => exact ⟨0, none, 0, none, 0, Nat.zero_le _, rfl, Lib.hid (bl_alloc (Below.refl _ _) _), K0, Lib.hid ⟨Rd.none_, Rd.none_, Nat.le_refl _, Nat.le_refl _⟩⟩
  case round =>
    clear K0
    obtain ⟨k, A5, c5, B5, d5, hk, rfl, HB, Kl, Ll⟩ := hrel
    generalize wr = w2 at *
    by_cases hlt : k < 24
    · have EP := Lib.hid (filled_put a v a0 HV.out k hlt)
      have z0 := Kl.out.cell 0 _ rfl
      have z1 := Kl.out.cell 1 _ rfl
      go_wp2_with fail
      refine (HS.out.put ⟨filled a v k, []⟩ _ _ _ _ _ _ (a + (k : Int) % 5) v _ (⟨filled a v (k + 1), []⟩, 0) (k + 1) 0 Ll.out (by omega) (by omega) EP.out (filled_len _ _ _) rfl).mono ?_
      rintro e w3 ⟨A6, c6, B6, d6, rfl, pr⟩
      have k3 := Kl.out.below pr.ol.2
      have k4 := k3.alloc (.cells #[.slice A6 (k + 1) c6, .slice B6 0 d6] 25)
      have nm := pair_old (g := w.heap.size) pr Kl.out.lt
      have y0 := k4.cell 0 _ rfl
      have y1 := k4.cell 1 _ rfl
      have yf := k4.frozen
      have KM2 := Lib.hid ((k4.set_ 0 (.slice A6 (k + 1) c6)).set_ 1 (.slice B6 0 d6))
      have LM2 := Lib.hid (((pr.log.alloc (.cells #[.slice A6 (k + 1) c6, .slice B6 0 d6] 25)).set_ne nm.1 nm.2 0 (.slice A6 (k + 1) c6)).set_ne nm.1 nm.2 1 (.slice B6 0 d6))
      have HB2 := Lib.hid (bl_set (bl_set (bl_alloc (bl_trans HB.out pr.ol.2) (.cells #[.slice A6 (k + 1) c6, .slice B6 0 d6] 25)) (p := ⟨w.heap.size, 0, none⟩) (Nat.le_refl _) (.slice A6 (k + 1) c6)) (p := ⟨w.heap.size, 1, none⟩) (Nat.le_refl _) (.slice B6 0 d6))
      clear pr k3 k4 nm z0 z1
      go_wp2
      go_roundw
      case rel => exact ⟨k + 1, A6, c6, B6, d6, by omega, by go_num, HB2, KM2, LM2⟩
      case measure => simp [intOf]; omega
    · have HK : Hid (k = 24) := Lib.hid (by omega)
      have EP := Lib.hid (filled_big a v a0 HV.out k HK.out)
      have z0 := Kl.out.cell 0 _ rfl
      have z1 := Kl.out.cell 1 _ rfl
      go_wp2_with fail
      refine (HS.out.put ⟨filled a v k, []⟩ _ _ _ _ _ _ 0 0 _ (⟨filled a v k, []⟩, 5) k 0 Ll.out (by omega) (by omega) EP.out (filled_len _ _ _) rfl).mono ?_
      rintro e w3 ⟨A6, c6, B6, d6, rfl, pr⟩
      have K3 : Hid (∀ o, Blk (w3.alloc o) w.heap.size 25 #[.slice A5 k c5, .slice B5 0 d5]) := Lib.hid (fun o => (Kl.out.below pr.ol.2).alloc o)
      have L3 : Hid (∀ o, LogAt (w3.alloc o) A5 k c5 B5 0 d5 ⟨filled a v k, []⟩) := Lib.hid (fun o => (Ll.out.below pr.ol.2).alloc o)
      have B3 : Hid (∀ o, Below w.heap.size w (w3.alloc o)) := Lib.hid (fun o => bl_alloc (bl_trans HB.out pr.ol.2) o)
      clear pr z0 z1 EP
      go_wp2
      go_loopw [49] (fun i wq => ∃ (j : Nat) (A7 : Option Addr) (c7 : Nat) (B7 : Option Addr) (d7 : Nat), j ≤ 6 ∧ i = .int .i64 j ∧ Hid (Below w.heap.size w wq) ∧ Hid (Blk wq w.heap.size 25 #[.slice A7 k c7, .slice B7 j d7]) ∧ Hid (LogAt wq A7 k c7 B7 j d7 ⟨filled a v k, List.replicate j (k : Int)⟩)) (fun i _ => 6 - (intOf i).toNat)
      case atStart => exact ⟨0, A5, c5, B5, d5, Nat.zero_le _, rfl, Lib.hid (B3.out _), Lib.hid (K3.out _), Lib.hid (L3.out _)⟩
      case round =>
        clear K3 L3 B3
        obtain ⟨j, A7, c7, B7, d7, hj, rfl, HB7, K7, L7⟩ := hrel
        generalize wr = w4 at *
        have z0 := K7.out.cell 0 _ rfl
        have z1 := K7.out.cell 1 _ rfl
        by_cases hjt : j < 6
        · have EM := Lib.hid (filled_mark a v a0 HV.out k j hk hjt)
          go_wp2_with fail
          refine (HS.out.mark ⟨filled a v k, List.replicate j (k : Int)⟩ _ _ _ _ _ _ _ (⟨filled a v k, List.replicate (j + 1) (k : Int)⟩, 0) k (j + 1) L7.out (by omega) (by omega) EM.out (filled_len _ _ _) List.length_replicate).mono ?_
          rintro e w5 ⟨A6', c6', B6', d6', rfl, pr⟩
          have k4 := (K7.out.below pr.ol.2).alloc (.cells #[.slice A6' k c6', .slice B6' (j + 1) d6'] 25)
          have nm := pair_old (g := w.heap.size) pr K7.out.lt
          have y0 := k4.cell 0 _ rfl
          have y1 := k4.cell 1 _ rfl
          have yf := k4.frozen
          have KM2 := Lib.hid ((k4.set_ 0 (.slice A6' k c6')).set_ 1 (.slice B6' (j + 1) d6'))
          have LM2 := Lib.hid (((pr.log.alloc (.cells #[.slice A6' k c6', .slice B6' (j + 1) d6'] 25)).set_ne nm.1 nm.2 0 (.slice A6' k c6')).set_ne nm.1 nm.2 1 (.slice B6' (j + 1) d6'))
          have HB2 := Lib.hid (bl_set (bl_set (bl_alloc (bl_trans HB7.out pr.ol.2) (.cells #[.slice A6' k c6', .slice B6' (j + 1) d6'] 25)) (p := ⟨w.heap.size, 0, none⟩) (Nat.le_refl _) (.slice A6' k c6')) (p := ⟨w.heap.size, 1, none⟩) (Nat.le_refl _) (.slice B6' (j + 1) d6'))
          clear pr k4 nm z0 z1
          go_wp2
          go_roundw
          case rel => exact ⟨j + 1, A6', c6', B6', d6', by omega, by go_num, HB2, KM2, LM2⟩
          case measure => simp [intOf]; omega
        · have HJ : Hid (j = 6) := Lib.hid (by omega)
          have EM := Lib.hid (filled_full a v a0 HV.out k j hk HJ.out)
          have EL := Lib.hid (filled_last a v a0 HV.out k j HK.out hj)
          go_wp2_with fail
          refine (HS.out.mark ⟨filled a v k, List.replicate j (k : Int)⟩ _ _ _ _ _ _ _ (⟨filled a v k, List.replicate j (k : Int)⟩, 5) k j L7.out (by omega) (by omega) EM.out (filled_len _ _ _) List.length_replicate).mono ?_
          rintro e w5 ⟨A6', c6', B6', d6', rfl, pr⟩
          have K8 : Hid (∀ o, Blk (w5.alloc o) w.heap.size 25 #[.slice A7 k c7, .slice B7 j d7]) := Lib.hid (fun o => (K7.out.below pr.ol.2).alloc o)
          have L8 : Hid (∀ o, LogAt (w5.alloc o) A7 k c7 B7 j d7 ⟨filled a v k, List.replicate j (k : Int)⟩) := Lib.hid (fun o => (L7.out.below pr.ol.2).alloc o)
          have B8 : Hid (∀ o, Below w.heap.size w (w5.alloc o)) := Lib.hid (fun o => bl_alloc (bl_trans HB7.out pr.ol.2) o)
          have x0 : ∀ o, (w5.alloc o).cell? ⟨w.heap.size, 0, none⟩ = some (.slice A7 k c7) := fun o => (K8.out o).cell 0 _ rfl
          have x1 : ∀ o, (w5.alloc o).cell? ⟨w.heap.size, 1, none⟩ = some (.slice B7 j d7) := fun o => (K8.out o).cell 1 _ rfl
          clear pr z0 z1
          go_wp2_with fail
          refine (HS.out.last ⟨filled a v k, List.replicate j (k : Int)⟩ _ _ _ _ _ _ _ _ 5 (L8.out _) (by omega) (by omega) rfl EL.out).mono ?_
          rintro e w6 ⟨A9, d9, rfl, s9, b9⟩
          have bb := Lib.hid (bl_trans (B8.out _) b9)
          clear s9 b9 x0 x1
          go_wp2_with fail
          refine (awake_any HS.out _).mono ?_
          rintro e w8 ⟨rfl, b8⟩
          go_wp2
          go_ret
          exact ⟨rfl, bl_trans bb.out b8⟩
end Go.Proofs.Ytjmilnfemjnhoaa.Writes
