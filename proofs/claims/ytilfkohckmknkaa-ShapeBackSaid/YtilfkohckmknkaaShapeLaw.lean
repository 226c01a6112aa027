/-
  WHAT THE LAWS OF LAYER 9 MAKE OF CODES: small, Refs.
-/
import Derived.Test.YtilfkohckmknkaaShapeMem
import Derived.Test.YtilfkohckmknkaaShapeRef2
import Derived.Test.YtilfkohckmknkaaStep
import Derived.Deep.RegionHeld3
namespace Go.Proofs.Ytilfkohckmknkaa.Shape
open Go.ChangeShapes Go.WideShapes Go.ChangeAt Go.RowKit Mem Go.Proofs.Ytilfkohckmknkaa.Code

/-- The terms have been laid since a world. -/
def Fresh (w : World) (m : List Raw) : Prop := ∀ r ∈ m, ∀ b off, r.T = some ⟨b, off, none⟩ → 0 < r.n → w.heap.size ≤ b
/-- What is returned: a code, of the same steps, all of it new. -/
def RetF (w : World) (n : Nat) (l : List Raw) (e : Ending) (w' : World) : Prop :=
  ∃ B d m, e = .returned (.slice B n d) ∧ Inner w' ⟨B, n, d, m⟩ ∧ ss m = ss l ∧ Lim m ∧ New w ⟨B, n, d, m⟩ ∧ Below w.heap.size w w'
set_option maxRecDepth 100000 in
set_option maxHeartbeats 2000000 in
theorem ref_f (l : List Raw) (A : Option Addr) (n c : Nat) (w : World) (hat : At w A n l) (hlim : Lim l) (hn : n ≤ 1000000) :
    Calls Try.prog 15 #[.slice A n c] w (RetF w n l) := by
  have HL := Lib.hid hat.len
  have HA := Lib.hid hat
  have HM := Lib.hid hlim
  clear hat hlim
  go_enter Try.func15, Try.ntmps15
  go_wp2
  go_loopw [3, 8] (fun v i wr => ∃ (k : Nat) (m : List Raw), k ≤ n ∧ i = .int .i64 k ∧ Own w wr 58 4 v k (rs m) ∧ Hid (Terms wr m) ∧ Hid (Off v m) ∧ Hid (ss m = (ss l).take k) ∧ Hid (Lim m) ∧ Hid (Fresh w m)) (fun _ i _ => n - (intOf i).toNat)
  case atStart => exact ⟨0, [], Nat.zero_le _, rfl, Own.nil_ (Below.refl _ _), Lib.hid Terms.nil_, Lib.hid (by intro r hr; cases hr), Lib.hid rfl, Lib.hid (by intro r hr; cases hr), Lib.hid (by intro r hr; cases hr)⟩
  case round =>
    obtain ⟨k, m, hk, rfl, hown, HT, HO, HSS, HLM, HFR⟩ := hrel
    generalize wr = w1 at *
    by_cases hlt : k < n
    · obtain ⟨b, off, ⟨⟨sd, sa, sb, st⟩, T, tn, tc⟩, rfl, hx, c0, c1, c2, c3, hrd, _⟩ := (HA.out.below hown.2).at_ k hlt
      simp only at c0 c1 c2 c3
      have htn : tn ≤ 1000000 := HM.out _ (List.mem_of_getElem? hx)
      have HSX : Hid ((ss l).take (k + 1) = (ss l).take k ++ [⟨sd, sa, sb, st⟩]) := Lib.hid (by rw [List.take_add_one, ss_at l k _ hx]; rfl)
      have HRD := Lib.hid hrd
      obtain ⟨B0, d0, rfl, _⟩ := hown.form
      have HOWN := Lib.hid hown
      have HNE : Hid ((Value.slice B0 k d0).ownBlock ≠ some w1.heap.size) := Lib.hid (by intro e; have := HOWN.out.lt _ e; omega)
      obtain ⟨w2, hw2⟩ : ∃ w2, w2 = w1.alloc (.cells #[.int .i64 sd, .int .i64 sa, .int .i64 sb, .slice T tn tc] 53) := ⟨_, rfl⟩
      have HBK : Hid (Blk w2 w1.heap.size 53 #[.int .i64 sd, .int .i64 sa, .int .i64 sb, .slice T tn tc]) := Lib.hid (by rw [hw2]; exact Blk.new _ _ _)
      have HW2 : Hid (Below w1.heap.size w1 w2) := Lib.hid (by rw [hw2]; exact bl_alloc (Below.refl _ _) _)
      have KEEP : Hid (∀ W, Below w2.heap.size w2 W → W.cell? ⟨w1.heap.size, 0, none⟩ = some (.int .i64 sd) ∧ W.cell? ⟨w1.heap.size, 1, none⟩ = some (.int .i64 sa) ∧ W.cell? ⟨w1.heap.size, 2, none⟩ = some (.int .i64 sb) ∧ W.cell? ⟨w1.heap.size, 3, none⟩ = some (.slice T tn tc)) :=
        Lib.hid (fun W h => ⟨(HBK.out.below h).cell 0 _ rfl, (HBK.out.below h).cell 1 _ rfl, (HBK.out.below h).cell 2 _ rfl, (HBK.out.below h).cell 3 _ rfl⟩)
      have bq : Hid (Below w2.heap.size w2 w2.drew) := Lib.hid (Below.refl _ _).drew
      clear hx hrd hown
      go_wp2_with fail
      rw [← hw2]
      clear hw2
      go_region_held3 (fun w' => w'.cell? ⟨w1.heap.size, 0, none⟩ = some (.int .i64 sd) ∧ w'.cell? ⟨w1.heap.size, 1, none⟩ = some (.int .i64 sa) ∧ w'.cell? ⟨w1.heap.size, 2, none⟩ = some (.int .i64 sb) ∧ w'.cell? ⟨w1.heap.size, 3, none⟩ = some (.slice T tn tc)) (first | exact KB.out | exact KEEP.out _ bq.out | exact KEEP.out _ (bl_alloc bq.out _))
        (first
        | (go_at_call 26
           refine (Term.ref_o st _ _ _ _ ((HRD.out.below HW2.out).below bq.out) htn).mono ?_
           rintro e wq ⟨v1, rfl, r1⟩
           obtain ⟨B1, d1, rfl, _⟩ := r1.form
           have R1 := Lib.hid (r1.wide bq.out)
           replace bq := Lib.hid (bl_trans bq.out r1.2)
           clear r1)
        | (refine append_step (by rfl) _ _ 35 (by rfl) tRStep w _ k (rs m) (by rfl) (((HOWN.out.below HW2.out).below bq.out).alloc _) _ 1 1 [.int .i64 sd, .int .i64 sa, .int .i64 sb, .slice B1 tn d1] (by rfl) (Rd.built _ 4 1 [.int .i64 sd, .int .i64 sa, .int .i64 sb, .slice B1 tn d1] _ rfl) (one_cons rfl (one_cons rfl (one_cons rfl (one_cons rfl one_nil)))) (by omega) (by omega) ?_
           intro v' w' ho' hg hat
           have HO9 := Lib.hid ho'
           have HG9 := Lib.hid hg
           have HAT9 := Lib.hid hat
           have KK := ((HBK.out.below bq.out).alloc (.cells #[.int .i64 sd, .int .i64 sa, .int .i64 sb, .slice B1 tn d1] 58)).grown hg HNE.out
           have KB : Hid (w'.cell? ⟨w1.heap.size, 0, none⟩ = some (.int .i64 sd) ∧ w'.cell? ⟨w1.heap.size, 1, none⟩ = some (.int .i64 sa) ∧ w'.cell? ⟨w1.heap.size, 2, none⟩ = some (.int .i64 sb) ∧ w'.cell? ⟨w1.heap.size, 3, none⟩ = some (.slice T tn tc)) := Lib.hid ⟨KK.cell 0 _ rfl, KK.cell 1 _ rfl, KK.cell 2 _ rfl, KK.cell 3 _ rfl⟩
           clear KK ho' hg hat))
      have hlims := own_lim R1.out
      have HOFFN : Hid (∀ b off, B1 = some ⟨b, off, none⟩ → 0 < tn → (Value.slice B0 k d0).ownBlock ≠ some b) := Lib.hid (by
        rintro b' off' rfl hpos e
        have h1 := HOWN.out.lt _ e
        have h2 := R1.out.base b' rfl
        have h3 := HW2.out.size
        omega)
      have HTT : Hid (Terms w' (m ++ [⟨⟨sd, sa, sb, st⟩, B1, tn, d1⟩])) := Lib.hid (by
        refine Terms.app ?_ ?_
        · exact (((HT.out.below HW2.out).below bq.out).below (bl_alloc (Below.refl _ _) _)).grown HO.out HG9.out
        · intro r hr
          rw [List.mem_singleton] at hr
          subst hr
          obtain ⟨B', d', hv', hrd'⟩ := R1.out.form
          injection hv' with e1 e2 e3
          subst e1 e3
          exact ⟨rd_grown (hrd'.alloc _) HG9.out HOFFN.out, hlims⟩)
      have HOO : Hid (Off v' (m ++ [⟨⟨sd, sa, sb, st⟩, B1, tn, d1⟩])) := Lib.hid (by
        refine Off.app ?_ ?_
        · exact Off.grown (((HT.out.below HW2.out).below bq.out).below (bl_alloc (Below.refl _ _) _)) HO.out HAT9.out
        · intro r hr b' off' e hpos
          rw [List.mem_singleton] at hr
          subst hr
          rcases HAT9.out with h9 | h9
          · rw [h9]; exact HOFFN.out b' off' e hpos
          · rw [h9]
            obtain ⟨B', d', hv', hrd'⟩ := R1.out.form
            injection hv' with e1 e2 e3
            subst e1 e3
            have h1 := rd_lt (hrd'.alloc (.cells #[.int .i64 sd, .int .i64 sa, .int .i64 sb, .slice B1 tn d1] 58)) (by decide) hpos e
            intro e2; injection e2 with e2; omega)
      have HLL : Hid (Lim (m ++ [⟨⟨sd, sa, sb, st⟩, B1, tn, d1⟩])) := Lib.hid (by
        intro r hr
        rcases List.mem_append.1 hr with hr | hr
        · exact HLM.out r hr
        · rw [List.mem_singleton] at hr; subst hr; exact htn)
      have HSN : Hid (ss (m ++ [⟨⟨sd, sa, sb, st⟩, B1, tn, d1⟩]) = (ss l).take (k + 1)) := Lib.hid (by rw [ss_app, HSS.out, HSX.out]; rfl)
      have HFN : Hid (Fresh w (m ++ [⟨⟨sd, sa, sb, st⟩, B1, tn, d1⟩])) := Lib.hid (by
        intro r hr
        rcases List.mem_append.1 hr with hr | hr
        · exact HFR.out r hr
        · rw [List.mem_singleton] at hr
          subst hr
          intro b' off' e hpos
          simp only at e
          subst e
          have h2 := R1.out.base b' rfl
          have h3 := HW2.out.size
          have h4 := HOWN.out.2.size
          omega)
      clear hlims
      go_wp2
      go_roundw
      case rel => exact ⟨k + 1, m ++ [⟨⟨sd, sa, sb, st⟩, B1, tn, d1⟩], by omega, by go_num, by rw [rs_app]; exact HO9.out, HTT, HOO, HSN, HLL, HFN⟩
      case measure => simp [intOf]; omega
    · obtain rfl : k = n := by omega
      obtain ⟨B, d, rfl, hrd⟩ := hown.form
      have HOWN := Lib.hid hown
      have HRD := Lib.hid hrd
      clear hown hrd
      go_wp2
      go_ret
      exact ⟨B, d, m, rfl, ⟨⟨HRD.out, HT.out⟩, own_lim HOWN.out⟩, by rw [HSS.out, List.take_of_length_le (by rw [ss_len, HL.out]; exact Nat.le_refl _)], HLM.out, ⟨fun b' off' e _ => by simp only at e; subst e; exact HOWN.out.base b' rfl, HFR.out⟩, HOWN.out.2⟩

/-- Are codes few, and small? -/
def smallC (L : List RawC) : Bool := L.all (fun x => smallB x.l) && decide (L.length ≤ 12)
theorem small_limC (L : List RawC) (hn : ∀ x ∈ L, x.l.length = x.n) (h : smallC L = true) : LimC L ∧ L.length ≤ 12 := by
  unfold smallC at h
  rw [Bool.and_eq_true] at h
  refine ⟨fun x hx => ?_, by simpa using h.2⟩
  have := small_lim _ (List.all_eq_true.1 h.1 x hx)
  have := hn x hx
  exact ⟨by omega, (small_lim _ (List.all_eq_true.1 h.1 x hx)).1⟩
theorem smallI_neg (l : List Raw) : decide (smallI l < 0) = !smallB l := by
  unfold smallI
  cases smallB l <;> simp
set_option maxRecDepth 100000 in
theorem small_l (L : List RawC) (A : Option Addr) (n c : Nat) (w : World) (v : Bool) (hat : Codes w A n L) (hn : n ≤ 9223372036854775807) (hv : smallC L = v) :
    Calls Try.prog 9 #[.slice A n c] w (RetB w v) := by
  have HL := Lib.hid hat.len
  have HA := Lib.hid hat
  have HV := Lib.hid hv
  clear hat hv
  go_enter Try.func9, Try.ntmps9
  go_wp2
  go_loopw [7] (fun i wr => ∃ k : Nat, k ≤ n ∧ i = .int .i64 k ∧ Hid (Below w.heap.size w wr) ∧ Hid ((L.take k).all (fun x => smallB x.l) = true)) (fun i _ => n - (intOf i).toNat)
  case atStart => exact ⟨0, Nat.zero_le _, rfl, Lib.hid (Below.refl _ _), Lib.hid rfl⟩
  case round =>
    obtain ⟨k, hk, rfl, bb, HALL⟩ := hrel
    generalize wr = w1 at *
    by_cases hlt : k < n
    · obtain ⟨b, off, ⟨XA, xn, xc, xl⟩, rfl, hx, c0, hin⟩ := (HA.out.below bb.out).at_ k hlt
      simp only at c0
      have hs := Lib.hid (take_all L (fun x => smallB x.l) k _ hx)
      have HX := Lib.hid hx
      have HI := Lib.hid hin.1
      have hxn : xn ≤ 9223372036854775807 := by have := hin.2; simp only at this; omega
      simp only at HI
      obtain ⟨sv, hsv⟩ : ∃ x, smallI xl = x := ⟨_, rfl⟩
      have HSV := Lib.hid hsv
      have hneg := smallI_neg xl
      rw [hsv] at hneg
      clear hx hin hsv
      cases hsb : smallB xl with
      | true =>
        rw [hsb] at hneg
        have h0 : ¬ sv < 0 := by simpa using hneg
        have HSB := Lib.hid hsb
        clear hneg hsb
        go_wp2_with fail
        refine (small_c xl _ _ _ _ sv HI.out hxn HSV.out).mono ?_
        rintro e w2 ⟨rfl, b2⟩
        have HB2 := Lib.hid (bl_trans bb.out b2)
        clear b2
        go_wp2
        go_roundw
        case rel => exact ⟨k + 1, by omega, by go_num, HB2, Lib.hid (by rw [hs.out, HALL.out]; simpa using HSB.out)⟩
        case measure => simp [intOf]; omega
      | false =>
        rw [hsb] at hneg
        have h0 : sv < 0 := by simpa using hneg
        have HF : Hid (v = false) := Lib.hid (by
          rw [← HV.out]; unfold smallC
          rw [all_bad L (fun x => smallB x.l) k _ HX.out (by simpa using hsb)]; rfl)
        clear hneg hsb
        go_wp2_with fail
        refine (small_c xl _ _ _ _ sv HI.out hxn HSV.out).mono ?_
        rintro e w2 ⟨rfl, b2⟩
        have HB2 := Lib.hid (bl_trans bb.out b2)
        clear b2
        go_wp2
        go_ret
        exact ⟨ret_bool HF.out.symm, HB2.out⟩
    · have HO : Hid (L.all (fun x => smallB x.l) = true) := Lib.hid (by have := HALL.out; rwa [List.take_of_length_le (by rw [HL.out]; omega)] at this)
      by_cases h12 : n ≤ 12
      · have HF : Hid (v = true) := Lib.hid (by rw [← HV.out]; unfold smallC; rw [HO.out, HL.out]; simp [h12])
        go_wp2
        go_ret
        exact ⟨ret_bool (by rw [HF.out]; simp; omega), bb.out⟩
      · have HF : Hid (v = false) := Lib.hid (by rw [← HV.out]; unfold smallC; rw [HO.out, HL.out]; simp; omega)
        go_wp2
        go_ret
        exact ⟨ret_bool (by rw [HF.out]; simp; omega), bb.out⟩

theorem tRCodes' : SliceT Try.prog 31 35 1 24 := SliceT.mk_ (z := .slice none 0 0) Try.underlying31 (by kernel_rfl) rfl (by decide)
/-- What is returned: codes, of the same steps. -/
def RetCs (w : World) (n : Nat) (L : List RawC) (e : Ending) (w' : World) : Prop :=
  ∃ B d M, e = .returned (.slice B n d) ∧ Codes w' B n M ∧ cc M = cc L ∧ LimC M ∧ Below w.heap.size w w'
set_option maxRecDepth 100000 in
set_option maxHeartbeats 1000000 in
theorem refs_l (L : List RawC) (A : Option Addr) (n c : Nat) (w : World) (hat : Codes w A n L) (hlim : LimC L) (hn : n ≤ 1000000) :
    Calls Try.prog 13 #[.slice A n c] w (RetCs w n L) := by
  have HL := Lib.hid hat.len
  have HA := Lib.hid hat
  have HM := Lib.hid hlim
  clear hat hlim
  go_enter Try.func13, Try.ntmps13
  go_wp2
  go_loopw [3, 8] (fun v i wr => ∃ (k : Nat) (M : List RawC), k ≤ n ∧ i = .int .i64 k ∧ Own w wr 35 1 v k (hs M) ∧ Hid (Inners wr M) ∧ Hid (OffL v M) ∧ Hid (LimC M) ∧ Hid (cc M = (cc L).take k)) (fun _ i _ => n - (intOf i).toNat)
  case atStart => exact ⟨0, [], Nat.zero_le _, rfl, Own.nil_ (Below.refl _ _), Lib.hid Inners.nil_, Lib.hid OffL.nil_, Lib.hid LimC.nil_, Lib.hid rfl⟩
  case round =>
    obtain ⟨k, M, hk, rfl, hown, HIN, HOF, HLM, HCC⟩ := hrel
    generalize wr = w1 at *
    have HOWN := Lib.hid hown
    clear hown
    by_cases hlt : k < n
    · obtain ⟨b, off, ⟨XA, xn, xc, xl⟩, rfl, hx, c0, hin⟩ := (HA.out.below HOWN.out.2).at_ k hlt
      simp only at c0
      obtain ⟨B4, d4, rfl, _⟩ := HOWN.out.form
      have hxl := HM.out _ (List.mem_of_getElem? hx)
      simp only at hxl
      have hxn : xn ≤ 1000000 := hxl.1
      have HXL := Lib.hid hxl.2
      have HI := Lib.hid hin.1
      simp only at HI
      have HX : Hid ((cc L).take (k + 1) = (cc L).take k ++ [ss xl]) := Lib.hid (by rw [List.take_add_one, cc_at L k _ hx]; rfl)
      clear hx hin hxl
      go_wp2_with fail
      refine (ref_f xl _ _ _ _ HI.out HXL.out hxn).mono ?_
      rintro e w2 ⟨B2, d2, m, rfl, hi2, hss, hl2, hnew, b2⟩
      have HB2 := Lib.hid b2
      have HIS : Hid (Inners w2 (M ++ [⟨B2, xn, d2, m⟩])) := Lib.hid ((HIN.out.below b2).app (Inners.one hi2))
      have HOS : Hid (OffL (.slice B4 k d4) (M ++ [⟨B2, xn, d2, m⟩])) := Lib.hid (HOF.out.app (OffL.one (New.off (w := w1) hnew HOWN.out.lt)))
      have HLS : Hid (LimC (M ++ [⟨B2, xn, d2, m⟩])) := Lib.hid (HLM.out.app (by intro x hx; rw [List.mem_singleton] at hx; subst hx; exact ⟨hxn, hl2⟩))
      have HCS : Hid (cc (M ++ [⟨B2, xn, d2, m⟩]) = (cc L).take (k + 1)) := Lib.hid (by rw [cc_app, HCC.out, HX.out]; show _ ++ [ss m] = _; rw [hss])
      clear hi2 hss hl2 hnew b2
      go_wp2_with (at_builtin; refine append_at rfl _ _ 31 rfl tRCodes' w (.slice B4 k d4) k (hs M) rfl ((HOWN.out.below HB2.out).alloc _) _ 1 1 (hs [⟨B2, xn, d2, m⟩]) rfl (Rd.built _ 1 1 (hs [⟨B2, xn, d2, m⟩]) _ rfl) (hs_one _) (by omega) (by omega) ?_; intro v6 w6 ho6 hg6 hat6; have HO6 := Lib.hid ho6; have HT6 := Lib.hid ((HIS.out.below (bl_alloc (Below.refl _ _) _)).grown HOS.out hg6); have HF6 := Lib.hid (OffL.grown (HIS.out.below (bl_alloc (Below.refl _ _) _)) HOS.out hat6); clear ho6 hg6 hat6)
      go_roundw
      case rel => exact ⟨k + 1, M ++ [⟨B2, xn, d2, m⟩], by omega, by go_num, by rw [hs_app]; exact HO6.out, HT6, HF6, HLS, HCS⟩
      case measure => simp [intOf]; omega
    · obtain rfl : k = n := by omega
      obtain ⟨B4, d4, rfl, hrd4⟩ := HOWN.out.form
      have HRD := Lib.hid hrd4
      clear hrd4
      go_wp2
      go_ret
      exact ⟨B4, d4, M, rfl, ⟨HRD.out, HIN.out⟩, by rw [HCC.out, List.take_of_length_le (by rw [cc_len, HL.out]; exact Nat.le_refl _)], HLM.out, HOWN.out.2⟩
end Go.Proofs.Ytilfkohckmknkaa.Shape
