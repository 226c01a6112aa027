/-
  WHAT THE DOCUMENT'S ANSWER FOR LAYER 6 RETURNS: Last.
-/
import Derived.Test.YtjmilnfemjnhoaaWritesRef4
import Derived.Deep.LoopGhost
namespace Go.Proofs.Ytjmilnfemjnhoaa.Writes
open Go.ChangeShapes Go.WideShapes Go.ChangeAt Go.RowKit Mem
open Heap (Write wc ws ws_len vB at_write)

set_option maxRecDepth 100000 in
set_option maxHeartbeats 4000000 in
theorem reflast (l : Log) (A B : Option Addr) (n c m d : Nat) (w : World) (r : List Write) (q : Nat) (hl : LogAt w A n c B m d l) (hn : n ≤ 1000000) (hone : l.list.all oneB = true) (hr : lastL l.list = r) (hq : r.length = q) :
    Calls Try.prog 22 #[.agg #[.slice A n c, .slice B m d]] w (RetS w 2 q (ws r)) := by
  have HR := Lib.hid hr
  have HQ := Lib.hid hq
  have HL := Lib.hid hl
  have LN := Lib.hid hl.ln
  have HU0 : Hid (UpTo r 0 (-1)) := Lib.hid (by rw [← hr]; exact upto_zero _ hone)
  have hqn : q ≤ n := by have := last_len l.list; rw [hr, hq, hl.ln] at this; exact this
  clear hr hl hq hone
  have K0 : Hid (Blk (w.alloc (.cells #[.slice A n c, .slice B m d] 30)) w.heap.size 30 #[.slice A n c, .slice B m d]) := Lib.hid (Blk.new _ _ _)
  have G0 : Hid (Below w.heap.size w (w.alloc (.cells #[.slice A n c, .slice B m d] 30))) := Lib.hid (bl_alloc (Below.refl _ _) _)
  go_enter Try.func22, Try.ntmps22
  go_wp2
  generalize w.alloc (.cells #[.slice A n c, .slice B m d] 30) = w0 at *
  go_loopg [3, 4] q (fun kx so sa wr => ∃ k : Nat, ∃ a : Int, sa = .int .i64 a ∧ k ≤ q ∧ q - k ≤ kx ∧ Hid (Own w0 wr 27 2 so k (ws (r.take k))) ∧ Hid (UpTo r k a))
  case atStart => exact ⟨0, -1, rfl, Nat.zero_le _, by omega, Lib.hid (Own.nil_ (Below.refl _ _)), HU0⟩
  case round =>
    obtain ⟨k, a, rfl, hkq, hkx, HO, HU⟩ := hrel
    obtain ⟨D, dd, rfl, hkd, hrd⟩ := own_room HO.out
    clear hkd hrd HU0
    have ha : -1 ≤ a := HU.out.2.1
    generalize wr = w2 at *
    have p0 := (K0.out.below HO.out.2).cell 0 _ rfl
    have p1 := (K0.out.below HO.out.2).cell 1 _ rfl
    go_wp2
    go_loop [5, 6] (fun sb i => ∃ j : Nat, ∃ b : Int, sb = .int .i64 b ∧ j ≤ n ∧ i = .int .i64 j ∧ Hid (IsBest (l.list.take j) a b)) (fun _ i => n - (intOf i).toNat)
    case atStart => exact ⟨0, -1, rfl, Nat.zero_le _, rfl, Lib.hid (.inl ⟨rfl, by simp⟩)⟩
    case round =>
      obtain ⟨j, b, rfl, hj, rfl, hb⟩ := hrel
      by_cases hlt : j < n
      · obtain ⟨b1, off, ⟨cx, vx⟩, rfl, hx, c0, c1⟩ := at_write ((HL.out.rl.below G0.out).below HO.out.2) j hlt
        have hs := Lib.hid (best_take l.list j _ a b ha hx hb.out)
        clear hx c1
        by_cases h1 : a < cx
        · by_cases h2 : b < 0
          · have HN : Hid (IsBest (l.list.take (j + 1)) a cx) := Lib.hid (by have := hs.out; rwa [if_pos ⟨h1, .inl h2⟩] at this)
            go_wp2
            go_round
            case rel => exact ⟨j + 1, cx, rfl, by omega, by go_num, HN⟩
            case measure => simp [intOf]; omega
          · by_cases h3 : cx < b
            · have HN : Hid (IsBest (l.list.take (j + 1)) a cx) := Lib.hid (by have := hs.out; rwa [if_pos ⟨h1, .inr h3⟩] at this)
              go_wp2
              go_round
              case rel => exact ⟨j + 1, cx, rfl, by omega, by go_num, HN⟩
              case measure => simp [intOf]; omega
            · have HN : Hid (IsBest (l.list.take (j + 1)) a b) := Lib.hid (by have := hs.out; rwa [if_neg (fun h => by rcases h.2 with h | h; exact h2 h; exact h3 h)] at this)
              go_wp2
              go_round
              case rel => exact ⟨j + 1, b, rfl, by omega, by go_num, HN⟩
              case measure => simp [intOf]; omega
        · have HN : Hid (IsBest (l.list.take (j + 1)) a b) := Lib.hid (by have := hs.out; rwa [if_neg (fun h => h1 h.1)] at this)
          go_wp2
          go_round
          case rel => exact ⟨j + 1, b, rfl, by omega, by go_num, HN⟩
          case measure => simp [intOf]; omega
      · have HBST : Hid (IsBest l.list a b) := Lib.hid (by
          have := hb.out
          rwa [List.take_of_length_le (by rw [LN.out]; omega)] at this)
        by_cases h2 : b < 0
        · have HF : Hid (r.take k = r) := Lib.hid (by
            have hb1 : b = -1 := by rcases HBST.out with ⟨h, _⟩ | ⟨h, _, _⟩ <;> omega
            have hb2 := HBST.out
            rw [hb1] at hb2
            have hu := HU.out
            rw [← HR.out] at hu ⊢
            exact upto_end _ k a hu hb2)
          have HKQ : Hid (k = q) := Lib.hid (by have := congrArg List.length HF.out; rw [List.length_take, HQ.out] at this; omega)
          go_wp2
          go_ret
          obtain rfl := HKQ.out
          obtain ⟨_, _, hr9⟩ := own_cap HO.out
          rw [HF.out] at hr9
          exact ⟨_, _, rfl, hr9, bl_trans G0.out HO.out.2⟩
        · have hu := HU.out
          rw [← HR.out] at hu
          obtain ⟨v, hg, hat, hup⟩ := upto_step l.list k a b hu HBST.out (by omega)
          rw [HR.out] at hat hup
          have HG : Hid (orNo (getL l.list b) = (v, true)) := Lib.hid (by rw [hg]; rfl)
          have HT : Hid (ws (r.take (k + 1)) = ws (r.take k) ++ wc ⟨b, v⟩) := Lib.hid (ws_take r k _ hat)
          have hkq1 : k < q := by have := (List.getElem?_eq_some_iff.1 hat).1; rw [HQ.out] at this; exact this
          have HUP := Lib.hid hup
          clear hu hg hat hup
          go_wp2_with fail
          refine (refget l _ _ _ _ _ _ b _ (v, true) ((HL.out.below G0.out).below HO.out.2) hn HG.out).mono ?_
          rintro e w4 ⟨rfl, b4⟩
          have HO4 := Lib.hid (HO.out.below b4)
          clear b4 p0 p1
          go_wp2_with (at_builtin; refine append_rd rfl _ _ 22 rfl tWrite w0 (.slice D k dd) k _ rfl (HO4.out.alloc _) _ 1 1 (wc ⟨b, v⟩) rfl (Rd.built _ 2 1 (wc ⟨b, v⟩) _ rfl) (wc_one _) (by omega) (by omega) ?_; intro v5 w5 o5 g5; have HO5 := Lib.hid o5; clear o5 g5)
          go_roundg (q - (k + 1))
          case measure => omega
          case rel => exact ⟨k + 1, b, rfl, by omega, Nat.le_refl _, Lib.hid (by rw [HT.out]; exact HO5.out), HUP⟩
end Go.Proofs.Ytjmilnfemjnhoaa.Writes
