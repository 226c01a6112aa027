/-
  WHAT EACH FUNCTION OF THE LAYER stripe RETURNS, AS IT IS WRITTEN: Of.
-/
import Derived.Test.YtemfkjcfafenjaaStripeCode
namespace Go.Proofs.Ytemfkjcfafenjaa.Stripe
open Go.ChangeShapes Go.WideShapes Go.ChangeAt Go.RowKit Mem

/-- The local marks, by place. -/
def marks (n : Nat) (l : List Int) : Array Value := ((List.range 16).map (fun p => Value.bool (hit n l p))).toArray
theorem marks_at (n : Nat) (l : List Int) (i : Nat) (hi : i < 16) : (marks n l)[i]? = some (.bool (hit n l i)) := by
  unfold marks; rw [List.getElem?_toArray, List.getElem?_map, List.getElem?_range hi]; rfl
theorem marks_set (n : Nat) (l : List Int) (k : Nat) (x : Int) (q : Nat) (hx : l[k]? = some x) (hq : x % (n : Int) = (q : Int)) :
    (marks n (l.take k)).setIfInBounds q (.bool true) = marks n (l.take (k + 1)) := by
  apply Array.ext'
  apply List.ext_getElem?
  intro i
  unfold marks
  rw [Array.toList_setIfInBounds, List.getElem?_set, List.getElem?_map, List.getElem?_map]
  have hh : hit n (l.take (k + 1)) i = (hit n (l.take k) i || decide (x % (n : Int) = (i : Int))) := take_any l _ k x hx
  by_cases hi : i < 16
  · rw [List.getElem?_range hi]
    simp only [Option.map_some, List.length_map, List.length_range]
    by_cases e : q = i
    · subst e
      rw [if_pos rfl, if_pos hi, hh, hq]; simp
    · have : decide (x % (n : Int) = (i : Int)) = false := by rw [hq]; simpa using fun h : (q : Int) = i => e (by omega)
      rw [if_neg e, hh, this]; simp
  · rw [List.getElem?_eq_none (by simpa using hi)]
    by_cases e : q = i
    · subst e; rw [if_pos rfl, if_neg (by simpa using hi)]; rfl
    · rw [if_neg e]; rfl

set_option maxRecDepth 100000 in
set_option maxHeartbeats 1000000 in
theorem of_o (t : List Rec) (l : List Int) (A D : Option Addr) (n c m d : Nat) (w : World) (r : List Int) (q : Nat) (hr : Rd w 2 A n (rs t)) (hl : Rd w 1 D m (zs l)) (hn : n ≤ 1000000) (hm : m ≤ 1000000)
    (hofs : ofS t l = r) (hq : r.length = q) :
    Calls Try.prog 25 #[.slice A n c, .slice D m d] w (RetO w 3 1 q (zs r)) := by
  have HN := Lib.hid (rs_len hr)
  have HM := Lib.hid (zs_len hl)
  have HR := Lib.hid hr
  have HL := Lib.hid hl
  have HO := Lib.hid hofs
  have HQ := Lib.hid hq
  clear hofs hq hr hl
  cases h1 : rightB t
  · have HP : Hid (r = []) := Lib.hid (by rw [← HO.out]; unfold ofS; rw [h1]; rfl)
    obtain rfl : 0 = q := by rw [← HQ.out, HP.out]; rfl
    have H1 := Lib.hid h1
    clear h1
    go_enter Try.func25, Try.ntmps25
    go_wp2_with fail
    refine (right_c t _ _ _ _ false HR.out hn H1.out).mono ?_
    rintro e w1 ⟨rfl, b1⟩
    have HB1 := Lib.hid b1
    clear b1
    go_wp2_with fail
    go_ret
    exact ⟨_, rfl, by rw [HP.out]; exact Own.nil_ HB1.out⟩
  · cases h2 : cellsB l
    · have HP : Hid (r = []) := Lib.hid (by rw [← HO.out]; unfold ofS; rw [h1, h2]; rfl)
      obtain rfl : 0 = q := by rw [← HQ.out, HP.out]; rfl
      have H1 := Lib.hid h1
      clear h1
      go_enter Try.func25, Try.ntmps25
      go_wp2_with fail
      refine (right_c t _ _ _ _ true HR.out hn H1.out).mono ?_
      rintro e w1 ⟨rfl, b1⟩
      have HB1 := Lib.hid b1
      clear b1
      go_wp2_with (go_at_call 42; refine (rcells_any l _ _ _ _ (HL.out.below HB1.out) hm).mono ?_; rintro e w' ⟨rfl, rfl⟩)
      go_ret
      exact ⟨_, rfl, by rw [HP.out]; exact Own.nil_ HB1.out⟩
    · have HP : Hid (r = pick (hit n l) n) := Lib.hid (by rw [← HO.out]; unfold ofS; rw [h1, h2, HN.out]; rfl)
      have hn2 : 0 < n ∧ n < 17 := by
        have := h1; unfold rightB at this; rw [Bool.and_eq_true] at this
        have := this.1; rw [HN.out] at this; simpa using this
      obtain ⟨hn0, hn1⟩ := hn2
      have H1 := Lib.hid h1
      have HC := Lib.hid h2
      clear h1
      go_enter Try.func25, Try.ntmps25
      go_wp2_with fail
      refine (right_c t _ _ _ _ true HR.out hn H1.out).mono ?_
      rintro e w1 ⟨rfl, b1⟩
      have HB1 := Lib.hid b1
      clear b1
      go_wp2_with (go_at_call 42; refine (rcells_any l _ _ _ _ (HL.out.below HB1.out) hm).mono ?_; rintro e w' ⟨rfl, rfl⟩)
      go_loopw [20] (fun i wr => ∃ k : Nat, k ≤ m ∧ i = .int .i64 k ∧ Hid (Below w.heap.size w wr) ∧ Hid (Blk wr w1.heap.size 72 (marks n (l.take k)))) (fun i _ => m - (intOf i).toNat)
      case atStart => exact ⟨0, Nat.zero_le _, rfl, Lib.hid (bl_alloc HB1.out _), Lib.hid (Blk.new w1 _ _)⟩
      case round =>
        obtain ⟨k, hk, rfl, HB, HM2⟩ := hrel
        by_cases hlt : k < m
        · obtain ⟨b, off, x, rfl, hx, c0⟩ := at_z (HL.out.below HB.out) k hlt
          have hx0 : 0 ≤ x := by
            have := HC.out; unfold cellsB at this
            have := List.all_eq_true.1 this x (List.mem_of_getElem? hx); simpa using this
          obtain ⟨q', hq'⟩ := Int.eq_ofNat_of_zero_le (Int.emod_nonneg x (show (n : Int) ≠ 0 by omega))
          have hq2 : q' < n := by have := Int.emod_lt_of_pos x (show (0 : Int) < n by omega); omega
          have HS := Lib.hid (marks_set n l k x q' hx hq')
          have hdn : ((n : Int) == 0) = false := beq_eq_false_iff_ne.2 (by omega)
          have c1 := HM2.out.cell q' _ (marks_at n _ q' (by omega))
          have f1 := HM2.out.frozen q'
          have hq16 : q' < 16 := by omega
          clear hx
          go_wp2
          go_roundw
          case rel => exact ⟨k + 1, by omega, by go_num, Lib.hid (bl_set HB.out HB1.out.size _), Lib.hid (by rw [← HS.out]; exact HM2.out.set_ q' _)⟩
          case measure => simp [intOf]; omega
        · have HT : Hid (l.take k = l) := Lib.hid (List.take_of_length_le (by rw [HM.out]; omega))
          generalize wr = w2 at *
          have HM3 : Hid (Blk w2 w1.heap.size 72 (marks n l)) := Lib.hid (by have := HM2.out; rwa [HT.out] at this)
          clear HM2 HT
          go_wp2
          go_loopw [8, 32] (fun v i wq => ∃ j : Nat, j ≤ n ∧ i = .int .i64 j ∧ Hid (Own w2 wq 3 1 v (pick (hit n l) j).length (zs (pick (hit n l) j)))) (fun _ i _ => n - (intOf i).toNat)
          case atStart => exact ⟨0, Nat.zero_le _, rfl, Lib.hid (Own.nil_ (Below.refl _ _))⟩
          case round =>
            obtain ⟨j, hj, rfl, hown⟩ := hrel
            have hpl := pick_len (hit n l) j
            by_cases hlt2 : j < n
            · have hj16 : j < 16 := by omega
              have c1 := (HM3.out.below hown.out.2).cell j _ (marks_at n l j hj16)
              cases hh : hit n l j with
              | true =>
                have HH := Lib.hid hh
                rw [hh] at c1
                clear hh
                go_wp2_with (at_builtin; refine append_rd rfl _ _ 35 rfl tInt w2 _ _ _ rfl (hown.out.alloc _) _ 1 1 [.int .i64 (j : Int)] rfl (Rd.built _ 1 1 [.int .i64 (j : Int)] _ rfl) (one_cons rfl one_nil) (by omega) (by omega) ?_; intro v' w' hown' hg; have HO2 := Lib.hid hown'; clear hg hown')
                go_roundw
                case rel => exact ⟨j + 1, by omega, by go_num, Lib.hid (own_pick HO2.out HH.out)⟩
                case measure => simp [intOf]; omega
              | false =>
                have HH := Lib.hid hh
                rw [hh] at c1
                clear hh
                go_wp2
                go_roundw
                case rel => exact ⟨j + 1, by omega, by go_num, by rw [pick_no _ _ HH.out]; exact hown⟩
                case measure => simp [intOf]; omega
            · have hjn : j = n := by omega
              subst hjn
              have HL2 : Hid ((pick (hit j l) j).length = q) := Lib.hid (by rw [← HP.out]; exact HQ.out)
              rw [HL2.out] at hown
              clear hpl
              go_wp2
              go_ret
              exact ⟨_, rfl, by rw [HP.out]; exact hown.out.wide HB.out⟩
theorem of_c (t : List Rec) (l : List Int) (A D : Option Addr) (n c m d : Nat) (w : World) (r : List Int) (q : Nat) (hr : Rd w 2 A n (rs t)) (hl : Rd w 1 D m (zs l)) (hn : n ≤ 1000000) (hm : m ≤ 1000000)
    (hofs : ofS t l = r) (hq : r.length = q) :
    Calls Try.prog 25 #[.slice A n c, .slice D m d] w (RetS w 1 q (zs r)) := (of_o t l A D n c m d w r q hr hl hn hm hofs hq).mono fun _ _ h => h.toS
end Go.Proofs.Ytemfkjcfafenjaa.Stripe
