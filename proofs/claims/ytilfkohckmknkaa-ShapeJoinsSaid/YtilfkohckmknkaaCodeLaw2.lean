/-
  A CODE AS THE DOCUMENT'S: what the law's Ref returns.
-/
import Derived.Test.YtilfkohckmknkaaCodeLaw
import Derived.Test.YtilfkohckmknkaaStep
namespace Go.Proofs.Ytilfkohckmknkaa.Code
open Go.ChangeShapes Go.WideShapes Go.ChangeAt Go.RowKit Mem

theorem own_lim {w0 w : World} {e size n d : Nat} {B : Option Addr} {xs : List Value} (h : Own w0 w e size (.slice B n d) n xs) : n ≤ d ∧ d ≤ 9223372036854775807 := by
  rcases h.1.2 with ⟨hv, hn⟩ | ⟨g, cap, cur, hv, hb, hc, hnc, hm, hs, ht⟩
  · injection hv with e1 e2 e3
    subst e1 e2 e3
    exact ⟨Nat.le_refl _, by omega⟩
  · injection hv with e1 e2 e3
    subst e1 e3
    unfold maxLen at hm
    exact ⟨hnc, by omega⟩
set_option maxRecDepth 100000 in
set_option maxHeartbeats 2000000 in
theorem ref_c (l : List Raw) (A : Option Addr) (n c : Nat) (w : World) (hat : At w A n l) (hlim : Lim l) (hn : n ≤ 1000000) :
    Calls Try.prog 15 #[.slice A n c] w (RetC w n l) := by
  have HL := Lib.hid hat.len
  have HA := Lib.hid hat
  have HM := Lib.hid hlim
  clear hat hlim
  go_enter Try.func15, Try.ntmps15
  go_wp2
  go_loopw [3, 8] (fun v i wr => ∃ (k : Nat) (m : List Raw), k ≤ n ∧ i = .int .i64 k ∧ Own w wr 58 4 v k (rs m) ∧ Hid (Terms wr m) ∧ Hid (Off v m) ∧ Hid (ss m = (ss l).take k) ∧ Hid (Lim m)) (fun _ i _ => n - (intOf i).toNat)
  case atStart => exact ⟨0, [], Nat.zero_le _, rfl, Own.nil_ (Below.refl _ _), Lib.hid Terms.nil_, Lib.hid (by intro r hr; cases hr), Lib.hid rfl, Lib.hid (by intro r hr; cases hr)⟩
  case round =>
    obtain ⟨k, m, hk, rfl, hown, HT, HO, HSS, HLM⟩ := hrel
    generalize wr = w1 at *
    by_cases hlt : k < n
    · obtain ⟨b, off, ⟨⟨sd, sa, sb, st⟩, T, tn, tc⟩, rfl, hx, c0, c1, c2, c3, hrd, _⟩ := (HA.out.below hown.2).at_ k hlt
      simp only at c0 c1 c2 c3
      have htn : tn ≤ 1000000 := HM.out _ (List.mem_of_getElem? hx)
      have HSX : Hid ((ss l).take (k + 1) = (ss l).take k ++ [⟨sd, sa, sb, st⟩]) := Lib.hid (by rw [List.take_add_one, ss_at l k _ hx]; rfl)
      have HRD := Lib.hid hrd
      obtain ⟨B0, d0, rfl, _⟩ := hown.form
      have HOWN := Lib.hid hown
      have HNE : Hid ((Value.slice B0 k d0).ownBlock ≠ some w1.heap.size) := Lib.hid (by intro e; have := HOWN.out.lt _ e; omega)
      obtain ⟨w2, hw2⟩ : ∃ w2, w2 = w1.alloc (.cells #[.int .i64 sd, .int .i64 sa, .int .i64 sb, .slice T tn tc] 53) := ⟨_, rfl⟩
      have HBK : Hid (Blk w2 w1.heap.size 53 #[.int .i64 sd, .int .i64 sa, .int .i64 sb, .slice T tn tc]) := Lib.hid (by rw [hw2]; exact Blk.new _ _ _)
      have HW2 : Hid (Below w1.heap.size w1 w2) := Lib.hid (by rw [hw2]; exact bl_alloc (Below.refl _ _) _)
      have KEEP : Hid (∀ W, Below w2.heap.size w2 W → W.cell? ⟨w1.heap.size, 0, none⟩ = some (.int .i64 sd) ∧ W.cell? ⟨w1.heap.size, 1, none⟩ = some (.int .i64 sa) ∧ W.cell? ⟨w1.heap.size, 2, none⟩ = some (.int .i64 sb) ∧ W.cell? ⟨w1.heap.size, 3, none⟩ = some (.slice T tn tc)) :=
        Lib.hid (fun W h => ⟨(HBK.out.below h).cell 0 _ rfl, (HBK.out.below h).cell 1 _ rfl, (HBK.out.below h).cell 2 _ rfl, (HBK.out.below h).cell 3 _ rfl⟩)
      have bq : Hid (Below w2.heap.size w2 w2.drew) := Lib.hid (Below.refl _ _).drew
      clear hx hrd hown
      go_wp2_with fail
      rw [← hw2]
      clear hw2
      go_region_held3 (fun w' => w'.cell? ⟨w1.heap.size, 0, none⟩ = some (.int .i64 sd) ∧ w'.cell? ⟨w1.heap.size, 1, none⟩ = some (.int .i64 sa) ∧ w'.cell? ⟨w1.heap.size, 2, none⟩ = some (.int .i64 sb) ∧ w'.cell? ⟨w1.heap.size, 3, none⟩ = some (.slice T tn tc)) (first | exact KB.out | exact KEEP.out _ bq.out | exact KEEP.out _ (bl_alloc bq.out _))
        (first
        | (go_at_call 26
           refine (Term.ref_o st _ _ _ _ ((HRD.out.below HW2.out).below bq.out) htn).mono ?_
           rintro e wq ⟨v1, rfl, r1⟩
           obtain ⟨B1, d1, rfl, _⟩ := r1.form
           have R1 := Lib.hid (r1.wide bq.out)
           replace bq := Lib.hid (bl_trans bq.out r1.2)
           clear r1)
        | (refine append_step (by rfl) _ _ 35 (by rfl) tRStep w _ k (rs m) (by rfl) (((HOWN.out.below HW2.out).below bq.out).alloc _) _ 1 1 [.int .i64 sd, .int .i64 sa, .int .i64 sb, .slice B1 tn d1] (by rfl) (Rd.built _ 4 1 [.int .i64 sd, .int .i64 sa, .int .i64 sb, .slice B1 tn d1] _ rfl) (one_cons rfl (one_cons rfl (one_cons rfl (one_cons rfl one_nil)))) (by omega) (by omega) ?_
           intro v' w' ho' hg hat
           have HO9 := Lib.hid ho'
           have HG9 := Lib.hid hg
           have HAT9 := Lib.hid hat
           have KK := ((HBK.out.below bq.out).alloc (.cells #[.int .i64 sd, .int .i64 sa, .int .i64 sb, .slice B1 tn d1] 58)).grown hg HNE.out
           have KB : Hid (w'.cell? ⟨w1.heap.size, 0, none⟩ = some (.int .i64 sd) ∧ w'.cell? ⟨w1.heap.size, 1, none⟩ = some (.int .i64 sa) ∧ w'.cell? ⟨w1.heap.size, 2, none⟩ = some (.int .i64 sb) ∧ w'.cell? ⟨w1.heap.size, 3, none⟩ = some (.slice T tn tc)) := Lib.hid ⟨KK.cell 0 _ rfl, KK.cell 1 _ rfl, KK.cell 2 _ rfl, KK.cell 3 _ rfl⟩
           clear KK ho' hg hat))
      have hlims := own_lim R1.out
      have HOFFN : Hid (∀ b off, B1 = some ⟨b, off, none⟩ → 0 < tn → (Value.slice B0 k d0).ownBlock ≠ some b) := Lib.hid (by
        rintro b' off' rfl hpos e
        have h1 := HOWN.out.lt _ e
        have h2 := R1.out.base b' rfl
        have h3 := HW2.out.size
        omega)
      have HTT : Hid (Terms w' (m ++ [⟨⟨sd, sa, sb, st⟩, B1, tn, d1⟩])) := Lib.hid (by
        refine Terms.app ?_ ?_
        · exact (((HT.out.below HW2.out).below bq.out).below (bl_alloc (Below.refl _ _) _)).grown HO.out HG9.out
        · intro r hr
          rw [List.mem_singleton] at hr
          subst hr
          obtain ⟨B', d', hv', hrd'⟩ := R1.out.form
          injection hv' with e1 e2 e3
          subst e1 e3
          exact ⟨rd_grown (hrd'.alloc _) HG9.out HOFFN.out, hlims⟩)
      have HOO : Hid (Off v' (m ++ [⟨⟨sd, sa, sb, st⟩, B1, tn, d1⟩])) := Lib.hid (by
        refine Off.app ?_ ?_
        · exact Off.grown (((HT.out.below HW2.out).below bq.out).below (bl_alloc (Below.refl _ _) _)) HO.out HAT9.out
        · intro r hr b' off' e hpos
          rw [List.mem_singleton] at hr
          subst hr
          rcases HAT9.out with h9 | h9
          · rw [h9]; exact HOFFN.out b' off' e hpos
          · rw [h9]
            obtain ⟨B', d', hv', hrd'⟩ := R1.out.form
            injection hv' with e1 e2 e3
            subst e1 e3
            have h1 := rd_lt (hrd'.alloc (.cells #[.int .i64 sd, .int .i64 sa, .int .i64 sb, .slice B1 tn d1] 58)) (by decide) hpos e
            intro e2; injection e2 with e2; omega)
      have HLL : Hid (Lim (m ++ [⟨⟨sd, sa, sb, st⟩, B1, tn, d1⟩])) := Lib.hid (by
        intro r hr
        rcases List.mem_append.1 hr with hr | hr
        · exact HLM.out r hr
        · rw [List.mem_singleton] at hr; subst hr; exact htn)
      have HSN : Hid (ss (m ++ [⟨⟨sd, sa, sb, st⟩, B1, tn, d1⟩]) = (ss l).take (k + 1)) := Lib.hid (by rw [ss_app, HSS.out, HSX.out]; rfl)
      clear hlims
      go_wp2
      go_roundw
      case rel => exact ⟨k + 1, m ++ [⟨⟨sd, sa, sb, st⟩, B1, tn, d1⟩], by omega, by go_num, by rw [rs_app]; exact HO9.out, HTT, HOO, HSN, HLL⟩
      case measure => simp [intOf]; omega
    · obtain rfl : k = n := by omega
      obtain ⟨B, d, rfl, hrd⟩ := hown.form
      have HOWN := Lib.hid hown
      have HRD := Lib.hid hrd
      clear hown hrd
      go_wp2
      go_ret
      exact ⟨B, d, m, rfl, ⟨HRD.out, HT.out⟩, by rw [HSS.out, List.take_of_length_le (by rw [ss_len, HL.out]; exact Nat.le_refl _)], HLM.out, HOWN.out.2⟩
end Go.Proofs.Ytilfkohckmknkaa.Code
