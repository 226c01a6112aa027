/-
  WHAT EACH FUNCTION OF THE LAYER heap RETURNS, AS IT IS WRITTEN: so the laws' premise 'Said' holds.
-/
import Derived.Test.YthgmjmecedhkoaaHeapLaw
import Derived.OwnWalk
import Derived.Lib.SliceRun
namespace Go.Proofs.Ythgmjmecedhkoaa.Heap
open Go.ChangeShapes Go.WideShapes Go.ChangeAt Go.RowKit Mem

theorem own_set {w0 w : World} {e size n cap g : Nat} {xs : List Value} (h : Own w0 w e size (.slice (some ⟨g, 0, none⟩) n cap) n xs) (j : Nat) (u : Value) :
    Own w0 (w.setCell ⟨g, j, none⟩ u) e size (.slice (some ⟨g, 0, none⟩) n cap) n (xs.set j u) :=
  ⟨(h.1.stored j u).1, h.2.setCell (h.base g rfl) u⟩
theorem own_lay {w0 w : World} {e size n : Nat} {v : Value} {xs : List Value} (h : Own w0 w e size v n xs) (hn : 0 < n) : ∃ g cap, v = .slice (some ⟨g, 0, none⟩) n cap := by
  rcases h.1.2 with ⟨_, h0⟩ | ⟨g, cap, cur, rfl, _⟩
  · omega
  · exact ⟨g, cap, rfl⟩
theorem cs_one (h : List Cell) : ∀ u ∈ cs h, u.oneCell' = true := by
  intro u hu
  obtain ⟨x, _, hx⟩ := List.mem_flatMap.1 hu
  unfold cc at hx
  simp at hx
  rcases hx with rfl | rfl <;> rfl
theorem cs_set (h : List Cell) (k : Nat) (c : Cell) : ((cs h).set (k * 2) (.bool c.live)).set (k * 2 + 1) (.int .i64 c.value) = cs (h.set k c) := by
  induction h generalizing k with
  | nil => simp [cs]
  | cons x h ih =>
    cases k with
    | zero => rfl
    | succ k =>
      have e1 : (k + 1) * 2 = k * 2 + 2 := by omega
      have e2 : (k + 1) * 2 + 1 = k * 2 + 1 + 2 := by omega
      have := ih k
      simp only [cs, cc, List.flatMap_cons, List.cons_append, List.nil_append, e1, List.set_cons_succ] at *
      rw [this]

set_option maxRecDepth 100000 in
theorem spanright_any (n : Int) (w : World) :
    Calls Try.prog 29 #[.int .i64 n] w fun e w' => e = .returned (.bool (vB n)) ∧ w = w' := by
  by_cases h1 : -2147483648 ≤ n
  all_goals by_cases h2 : n ≤ 2147483647
  all_goals
    go_enter Try.func29, Try.ntmps29
    go_wp2
    go_ret
    exact ⟨ret_bool (by unfold vB; simp [h1, h2]), rfl⟩

def lenB (n : Int) : Bool := decide (1 ≤ n ∧ n ≤ 64)
set_option maxRecDepth 100000 in
theorem length_any (n : Int) (w : World) :
    Calls Try.prog 31 #[.int .i64 n] w fun e w' => e = .returned (.bool (lenB n)) ∧ w = w' := by
  by_cases h1 : 1 ≤ n
  all_goals by_cases h2 : n ≤ 64
  all_goals
    go_enter Try.func31, Try.ntmps31
    go_wp2
    go_ret
    exact ⟨ret_bool (by unfold lenB; simp [h1, h2]), rfl⟩

set_option maxRecDepth 100000 in
theorem cell_any (lv : Bool) (vl : Int) (w : World) (b : Bool) (hb : cellB ⟨lv, vl⟩ = b) :
    Calls Try.prog 32 #[.agg #[.bool lv, .int .i64 vl]] w (RetB w b) := by
  subst hb
  by_cases h1 : vB vl = true
  · cases lv
    · by_cases h2 : vl = 0
      · subst h2
        go_enter Try.func32, Try.ntmps32
        go_wp2_with (go_at_call 29; refine (spanright_any _ _).mono ?_; rintro e w' ⟨rfl, rfl⟩)
        go_ret
        exact ⟨ret_bool (by decide), bl_alloc (Below.refl _ _) _⟩
      · have h3 : (vl == 0) = false := beq_eq_false_iff_ne.2 h2
        clear h2
        go_enter Try.func32, Try.ntmps32
        go_wp2_with (go_at_call 29; refine (spanright_any _ _).mono ?_; rintro e w' ⟨rfl, rfl⟩)
        go_ret
        exact ⟨ret_bool (by unfold cellB; simp [h3]), bl_alloc (Below.refl _ _) _⟩
    · go_enter Try.func32, Try.ntmps32
      go_wp2_with (go_at_call 29; refine (spanright_any _ _).mono ?_; rintro e w' ⟨rfl, rfl⟩)
      go_ret
      exact ⟨ret_bool (by unfold cellB; simp [h1]), bl_alloc (Below.refl _ _) _⟩
  · have h1' : vB vl = false := by simpa using h1
    clear h1
    go_enter Try.func32, Try.ntmps32
    go_wp2_with (go_at_call 29; refine (spanright_any _ _).mono ?_; rintro e w' ⟨rfl, rfl⟩)
    go_ret
    exact ⟨ret_bool (by unfold cellB; simp [h1']), bl_alloc (Below.refl _ _) _⟩

set_option maxRecDepth 100000 in
theorem islive_any (h : List Cell) (A : Option Addr) (n c : Nat) (cell : Int) (w : World) (b : Bool) (hr : Rd w 2 A n (cs h)) (hb : liveAt h cell = b) :
    Calls Try.prog 30 #[.slice A n c, .int .i64 cell] w fun e w' => e = .returned (.bool b) ∧ w = w' := by
  have HL : Hid (h.length = n) := Lib.hid (by have := hr.1; rw [cs_len] at this; omega)
  by_cases h1 : 0 ≤ cell
  · obtain ⟨k, rfl⟩ := Int.eq_ofNat_of_zero_le h1
    clear h1
    by_cases h2 : k < n
    · obtain ⟨b, off, ⟨lv, vl⟩, rfl, hx, c0, c1⟩ := at_cell hr k h2
      have HF := Lib.hid ((live_at h k _ hx).symm.trans hb)
      clear hx hb hr
      go_enter Try.func30, Try.ntmps30
      go_wp2
      go_ret
      exact ⟨ret_bool HF.out, rfl⟩
    · have HF := Lib.hid ((live_out h k (by rw [HL.out]; omega)).symm.trans hb)
      clear hb hr
      go_enter Try.func30, Try.ntmps30
      go_wp2
      go_ret
      exact ⟨ret_bool HF.out, rfl⟩
  · have HF := Lib.hid ((live_out h cell (by omega)).symm.trans hb)
    clear hb hr
    go_enter Try.func30, Try.ntmps30
    go_wp2
    go_ret
    exact ⟨ret_bool HF.out, rfl⟩

def RetO (w : World) (n : Nat) (xs : List Value) (e : Ending) (w' : World) : Prop := ∃ v, e = .returned v ∧ Own w w' 33 2 v n xs
set_option maxRecDepth 100000 in
theorem clone_any (h : List Cell) (A : Option Addr) (n c : Nat) (w : World) (hr : Rd w 2 A n (cs h)) (hn : n ≤ 1000000) :
    Calls Try.prog 18 #[.slice A n c] w (RetO w n (cs h)) := by
  have hnil := fun W => Lib.run_eql_slice_nil (P := Try.prog) W 29 33 A n c 0 0 Try.underlying29
  rcases A with _ | ad
  · obtain rfl : n = 0 := by
      rcases Nat.eq_zero_or_pos n with h0 | h0
      · exact h0
      · obtain ⟨b, off, hh, _⟩ := hr.2 h0
        cases hh
    have HX : Hid (cs h = []) := Lib.hid (List.eq_nil_of_length_eq_zero (by simpa using hr.1))
    clear hr
    go_enter Try.func18, Try.ntmps18
    go_wp2
    go_ret
    exact ⟨_, rfl, by rw [HX.out]; exact Own.nil_ (Below.refl _ _)⟩
  · have HR := Lib.hid hr
    clear hr
    go_enter Try.func18, Try.ntmps18
    go_wp2_with (at_builtin; refine append_rd rfl _ _ 29 rfl tCell w _ 0 [] rfl (Own.empty w _ _) _ n c (cs h) rfl (HR.out.alloc _) (cs_one h) (by omega) (by omega) ?_; intro v' w' hown' hg; have HO := Lib.hid hown'; clear hown' hg)
    go_ret
    exact ⟨v', rfl, by have := HO.out; simpa using this⟩

set_option maxRecDepth 100000 in
theorem right_c (h : List Cell) (A : Option Addr) (n c : Nat) (w : World) (b : Bool) (hr : Rd w 2 A n (cs h)) (hn : n ≤ 1000000) (hb : rightB h = b) :
    Calls Try.prog 25 #[.slice A n c] w (RetB w b) := by
  subst hb
  have HL : Hid (h.length = n) := Lib.hid (by have := hr.1; rw [cs_len] at this; omega)
  have HR := Lib.hid hr
  clear hr
  by_cases hlen : lenB (n : Int) = true
  · have HN : Hid (0 < n ∧ n < 65) := Lib.hid (by unfold lenB at hlen; simp at hlen; omega)
    go_enter Try.func25, Try.ntmps25
    go_wp2_with (go_at_call 31; refine (length_any _ _).mono ?_; rintro e w' ⟨rfl, rfl⟩)
    go_loopw [11] (fun i wr => ∃ k : Nat, k ≤ n ∧ i = .int .i64 k ∧ Hid (Below w.heap.size w wr) ∧ Hid ((h.take k).all cellB = true)) (fun i _ => n - (intOf i).toNat)
    case atStart => exact ⟨0, Nat.zero_le _, rfl, Lib.hid (Below.refl _ _), Lib.hid rfl⟩
    case round =>
      obtain ⟨k, hk, rfl, HB, hall⟩ := hrel
      by_cases hlt : k < n
      · obtain ⟨b, off, ⟨lv, vl⟩, rfl, hx, c0, c1⟩ := at_cell (HR.out.below HB.out) k hlt
        have hs := Lib.hid (take_all h cellB k _ hx)
        by_cases hok : cellB ⟨lv, vl⟩ = true
        · have HOK := Lib.hid hok
          clear hx hok
          go_wp2_with fail
          refine (cell_any _ _ _ true HOK.out).mono ?_
          rintro e w1 ⟨rfl, b1⟩
          have HB1 := Lib.hid (bl_trans (bl_alloc HB.out _) b1)
          clear b1
          go_wp2_with fail
          go_roundw
          case rel => exact ⟨k + 1, by omega, by go_num, HB1, Lib.hid (by rw [hs.out, hall.out, HOK.out]; rfl)⟩
          case measure => simp [intOf]; omega
        · have HOK : Hid (cellB ⟨lv, vl⟩ = false) := Lib.hid (by simpa using hok)
          have HF : Hid (rightB h = false) := Lib.hid (right_bad h k _ hx HOK.out)
          clear hx hok
          go_wp2_with fail
          refine (cell_any _ _ _ false HOK.out).mono ?_
          rintro e w1 ⟨rfl, b1⟩
          have HB1 := Lib.hid (bl_trans (bl_alloc HB.out _) b1)
          clear b1
          go_wp2_with fail
          go_ret
          exact ⟨ret_bool HF.out.symm, HB1.out⟩
      · have HF : Hid (rightB h = true) := Lib.hid (by
          have := hall.out
          rw [List.take_of_length_le (by rw [HL.out]; omega)] at this
          unfold rightB; rw [this, HL.out]; simpa using HN.out)
        go_wp2
        go_ret
        exact ⟨ret_bool HF.out.symm, HB.out⟩
  · have hlen' : lenB (n : Int) = false := by simpa using hlen
    have HF : Hid (rightB h = false) := Lib.hid (by
      unfold lenB at hlen'; simp at hlen'
      unfold rightB; rw [HL.out, Bool.and_eq_false_iff]; left; simp; omega)
    clear hlen
    go_enter Try.func25, Try.ntmps25
    go_wp2_with (go_at_call 31; refine (length_any _ _).mono ?_; rintro e w' ⟨rfl, rfl⟩)
    go_ret
    exact ⟨ret_bool HF.out.symm, Below.refl _ _⟩

def RetF (w : World) (f : Option Nat) (e : Ending) (w' : World) : Prop :=
  e = .returned (.tuple #[.int .i64 ((f.getD 0 : Nat) : Int), .bool f.isSome]) ∧ Below w.heap.size w w'

set_option maxRecDepth 100000 in
theorem get_c (h : List Cell) (A : Option Addr) (n c : Nat) (cell : Int) (w : World) (r : Int × Int) (hr : Rd w 2 A n (cs h)) (hn : n ≤ 1000000) (hg : getS h cell = r) :
    Calls Try.prog 28 #[.slice A n c, .int .i64 cell] w (RetG w r) := by
  subst hg
  have HL : Hid (h.length = n) := Lib.hid (by have := hr.1; rw [cs_len] at this; omega)
  have HR := Lib.hid hr
  clear hr
  by_cases h1 : rightB h = true
  · have H1 := Lib.hid h1
    by_cases h2 : liveAt h cell = true
    · have H2 := Lib.hid h2
      obtain ⟨hc0, hc1, x, hx, _⟩ := live_in h cell h2
      obtain ⟨k, rfl⟩ := Int.eq_ofNat_of_zero_le hc0
      simp only [Int.toNat_natCast] at hx hc1
      have hkn : k < n := by rw [← HL.out]; exact hc1
      have HF : Hid (getS h (k : Int) = (x.value, 0)) := Lib.hid (by unfold getS; rw [if_pos h1, if_pos h2, val_at h k _ hx])
      have HX := Lib.hid hx
      clear hx hc1 hc0 h1 h2
      go_enter Try.func28, Try.ntmps28
      go_wp2_with fail
      refine (right_c h _ _ _ _ true HR.out hn H1.out).mono ?_
      rintro e w1 ⟨rfl, b1⟩
      obtain ⟨b, off, y, rfl, hy, c0, c1⟩ := at_cell (HR.out.below b1) k hkn
      obtain rfl : x = y := by have := HX.out; rw [hy] at this; injection this with e; exact e.symm
      have HB := Lib.hid b1
      clear b1 hy
      go_wp2_with (go_at_call 30; refine (islive_any h _ _ _ _ _ true (HR.out.below HB.out) H2.out).mono ?_; rintro e w' ⟨rfl, rfl⟩)
      go_ret2
      exact ⟨by rw [HF.out]; rfl, HB.out⟩
    · have H2 : Hid (liveAt h cell = false) := Lib.hid (by simpa using h2)
      have HF : Hid (getS h cell = (0, 3)) := Lib.hid (by unfold getS; rw [if_pos h1, if_neg h2])
      clear h2 h1
      go_enter Try.func28, Try.ntmps28
      go_wp2_with fail
      refine (right_c h _ _ _ _ true HR.out hn H1.out).mono ?_
      rintro e w1 ⟨rfl, b1⟩
      have HB := Lib.hid b1
      clear b1
      go_wp2_with (go_at_call 30; refine (islive_any h _ _ _ _ _ false (HR.out.below HB.out) H2.out).mono ?_; rintro e w' ⟨rfl, rfl⟩)
      go_ret2
      exact ⟨by rw [HF.out]; rfl, HB.out⟩
  · have H1 : Hid (rightB h = false) := Lib.hid (by simpa using h1)
    have HF : Hid (getS h cell = (0, 1)) := Lib.hid (by unfold getS; rw [if_neg h1])
    clear h1
    go_enter Try.func28, Try.ntmps28
    go_wp2_with fail
    refine (right_c h _ _ _ _ false HR.out hn H1.out).mono ?_
    rintro e w1 ⟨rfl, b1⟩
    have HB := Lib.hid b1
    clear b1
    go_wp2_with fail
    go_ret2
    exact ⟨by rw [HF.out]; rfl, HB.out⟩
end Go.Proofs.Ythgmjmecedhkoaa.Heap
