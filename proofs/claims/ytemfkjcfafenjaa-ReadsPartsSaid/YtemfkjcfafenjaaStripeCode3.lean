/-
  WHAT EACH FUNCTION OF THE LAYER stripe RETURNS, AS IT IS WRITTEN: Lock, Let, Stamp; and all of them: the laws' premise 'Said' holds.
-/
import Derived.Test.YtemfkjcfafenjaaStripeCode2
import Derived.Test.YtemfkjcfafenjaaStripeMore2
namespace Go.Proofs.Ytemfkjcfafenjaa.Stripe
open Go.ChangeShapes Go.WideShapes Go.ChangeAt Go.RowKit Mem

/-- Places of a table of n records. -/
def Places (n : Nat) (ps : List Int) : Prop := ∀ p ∈ ps, ∃ k : Nat, k < n ∧ p = (k : Int)
theorem places_pick (p : Nat → Bool) (n : Nat) : Places n (pick p n) := fun z hz => by
  obtain ⟨k, h1, _, h2⟩ := (pick_mem p n z).1 hz
  exact ⟨k, h1, h2⟩
def mayB (t : List Rec) (who : Int) (p : Int) : Bool := match t[p.toNat]? with | some r => r.owner == 0 || r.owner == who | none => true
def aboveB (t : List Rec) (v : Int) (p : Int) : Bool := match t[p.toNat]? with | some r => decide (r.version < v) | none => true

theorem mayhold_any (t : List Rec) (ps : List Int) (A D : Option Addr) (n c m d : Nat) (who : Int) (w : World) (b : Bool) (hr : Rd w 2 A n (rs t)) (hl : Rd w 1 D m (zs ps)) (hm : m ≤ 1000000)
    (hp : Places n ps) (hb : ps.all (mayB t who) = b) :
    Calls Try.prog 44 #[.slice A n c, .int .i64 who, .slice D m d] w fun e w' => e = .returned (.bool b) ∧ w = w' := by
  have HL := Lib.hid (zs_len hl)
  have HP := Lib.hid hp
  have HB := Lib.hid hb
  clear hp hb
  go_enter Try.func44, Try.ntmps44
  go_wp2
  go_loop [12] (fun i => ∃ k : Nat, k ≤ m ∧ i = .int .i64 k ∧ Hid ((ps.take k).all (mayB t who) = true)) (fun i => m - (intOf i).toNat)
  case atStart => exact ⟨0, Nat.zero_le _, rfl, Lib.hid rfl⟩
  case round =>
    obtain ⟨k, hk, rfl, hall⟩ := hrel
    by_cases hlt : k < m
    · obtain ⟨b, off, x, rfl, hx, c0⟩ := at_z hl k hlt
      have hs := Lib.hid (take_all ps (mayB t who) k _ hx)
      obtain ⟨j, hj, rfl⟩ := HP.out x (List.mem_of_getElem? hx)
      obtain ⟨b', off', ⟨vr, ow⟩, rfl, hy, d0, d1⟩ := at_rec hr j hj
      have HM : Hid (mayB t who (j : Int) = (ow == 0 || ow == who)) := Lib.hid (by unfold mayB; rw [Int.toNat_natCast, hy])
      have HX := Lib.hid hx
      clear hx hy
      by_cases h0 : ow = 0
      · subst h0
        go_wp2
        go_round
        case rel => exact ⟨k + 1, by omega, by go_num, Lib.hid (by rw [hs.out, hall.out, HM.out]; rfl)⟩
        case measure => simp [intOf]; omega
      · have t0 : (ow != 0) = true := by simpa using h0
        have e0 : Hid ((ow == 0) = false) := Lib.hid (by simpa using h0)
        by_cases h1 : ow = who
        · subst h1
          go_wp2
          go_round
          case rel => exact ⟨k + 1, by omega, by go_num, Lib.hid (by rw [hs.out, hall.out, HM.out]; simp)⟩
          case measure => simp [intOf]; omega
        · have t1 : (ow != who) = true := by simpa using h1
          have HF : Hid (ps.all (mayB t who) = false) := Lib.hid (all_bad ps _ k _ HX.out (by rw [HM.out, e0.out]; simpa using h1))
          clear h0 h1
          go_wp2
          go_ret
          exact ⟨ret_bool (by rw [← HB.out, HF.out]), rfl⟩
    · have HF : Hid (ps.all (mayB t who) = true) := Lib.hid (by
        have := hall.out
        rwa [List.take_of_length_le (by rw [HL.out]; omega)] at this)
      go_wp2
      go_ret
      exact ⟨ret_bool (by rw [← HB.out, HF.out]), rfl⟩

theorem above_any (t : List Rec) (ps : List Int) (A D : Option Addr) (n c m d : Nat) (v : Int) (w : World) (b : Bool) (hr : Rd w 2 A n (rs t)) (hl : Rd w 1 D m (zs ps)) (hm : m ≤ 1000000)
    (hp : Places n ps) (hb : ps.all (aboveB t v) = b) :
    Calls Try.prog 47 #[.slice A n c, .int .i64 v, .slice D m d] w fun e w' => e = .returned (.bool b) ∧ w = w' := by
  have HL := Lib.hid (zs_len hl)
  have HP := Lib.hid hp
  have HB := Lib.hid hb
  clear hp hb
  go_enter Try.func47, Try.ntmps47
  go_wp2
  go_loop [11] (fun i => ∃ k : Nat, k ≤ m ∧ i = .int .i64 k ∧ Hid ((ps.take k).all (aboveB t v) = true)) (fun i => m - (intOf i).toNat)
  case atStart => exact ⟨0, Nat.zero_le _, rfl, Lib.hid rfl⟩
  case round =>
    obtain ⟨k, hk, rfl, hall⟩ := hrel
    by_cases hlt : k < m
    · obtain ⟨b, off, x, rfl, hx, c0⟩ := at_z hl k hlt
      have hs := Lib.hid (take_all ps (aboveB t v) k _ hx)
      obtain ⟨j, hj, rfl⟩ := HP.out x (List.mem_of_getElem? hx)
      obtain ⟨b', off', ⟨vr, ow⟩, rfl, hy, d0, d1⟩ := at_rec hr j hj
      have HM : Hid (aboveB t v (j : Int) = decide (vr < v)) := Lib.hid (by unfold aboveB; rw [Int.toNat_natCast, hy])
      have HX := Lib.hid hx
      clear hx hy
      by_cases h0 : v ≤ vr
      · have HF : Hid (ps.all (aboveB t v) = false) := Lib.hid (all_bad ps _ k _ HX.out (by rw [HM.out]; simpa using h0))
        go_wp2
        go_ret
        exact ⟨ret_bool (by rw [← HB.out, HF.out]), rfl⟩
      · go_wp2
        go_round
        case rel => exact ⟨k + 1, by omega, by go_num, Lib.hid (by rw [hs.out, hall.out, HM.out]; simpa using h0)⟩
        case measure => simp [intOf]; omega
    · have HF : Hid (ps.all (aboveB t v) = true) := Lib.hid (by
        have := hall.out
        rwa [List.take_of_length_le (by rw [HL.out]; omega)] at this)
      go_wp2
      go_ret
      exact ⟨ret_bool (by rw [← HB.out, HF.out]), rfl⟩

/-- One record's owner, in memory. -/
theorem rs_owner (t : List Rec) (k : Nat) (x : Rec) (o : Int) (hx : t[k]? = some x) : (rs t).set (k * 2 + 1) (.int .i64 o) = rs (t.set k ⟨x.version, o⟩) :=
  flat_set rc_len t k 1 (by decide) x ⟨x.version, o⟩ _ hx rfl
theorem rs_both (t : List Rec) (k : Nat) (x : Rec) (v o : Int) (hx : t[k]? = some x) : ((rs t).set (k * 2) (.int .i64 v)).set (k * 2 + 1) (.int .i64 o) = rs (t.set k ⟨v, o⟩) := by
  have h1 : (rs t).set (k * 2) (.int .i64 v) = rs (t.set k ⟨v, x.owner⟩) := flat_set rc_len t k 0 (by decide) x ⟨v, x.owner⟩ _ hx rfl
  rw [h1, rs_owner _ k ⟨v, x.owner⟩ o (by rw [List.getElem?_set_self (List.getElem?_eq_some_iff.1 hx).1]), List.set_set]
theorem rs_0 (t : List Rec) (k : Nat) (x : Rec) (hx : t[k]? = some x) : (rs t)[k * 2]? = some (.int .i64 x.version) := by
  have := flat_at (code := rc) rc_len t k x hx 0 (by decide); rw [Nat.add_zero] at this; exact this
theorem rs_1 (t : List Rec) (k : Nat) (x : Rec) (hx : t[k]? = some x) : (rs t)[k * 2 + 1]? = some (.int .i64 x.owner) :=
  flat_at (code := rc) rc_len t k x hx 1 (by decide)

def ownF (who : Int) (r : Rec) : Rec := ⟨r.version, who⟩
def verF (v : Int) (_ : Rec) : Rec := ⟨v, 0⟩
theorem lock_setAll (t : List Rec) (who : Int) (l : List Int) : setAll (ownF who) t (pick (hit t.length l) t.length) = lockAll t who l := by
  rw [setAll_pick (ownF who) (fun _ => rfl)]; rfl
theorem held_map (t : List Rec) (who : Int) (f : Rec → Rec) (hf : ∀ x, f (f x) = f x) : setAll f t (pick (holds t who) t.length) = t.map (fun r => if r.owner = who then f r else r) := by
  rw [setAll_pick _ hf]
  apply List.ext_getElem?
  intro k
  rw [List.getElem?_mapIdx, List.getElem?_map]
  cases hx : t[k]? with
  | none => rfl
  | some r =>
    simp only [Option.map_some]
    rw [holds_at t who k r hx]
    by_cases h : r.owner = who <;> simp [h]
theorem may_all (t : List Rec) (who : Int) (l : List Int) (hr : rightB t = true) : (pick (hit t.length l) t.length).all (mayB t who) = mayAll t who l := by
  rw [Bool.eq_iff_iff, List.all_eq_true]
  unfold mayAll
  rw [all_idx]
  have hrec := ((right_iff t).1 hr).2
  constructor
  · intro h k y hy
    obtain ⟨x, hx, rfl⟩ := idx_map t _ k y hy
    show may1 t.length who l k x = true
    unfold may1
    cases hh : hit t.length l k
    · rfl
    · have := h (k : Int) ((pick_mem _ _ _).2 ⟨k, (List.getElem?_eq_some_iff.1 hx).1, hh, rfl⟩)
      unfold mayB at this
      rw [Int.toNat_natCast, hx] at this
      simp only [Bool.or_eq_true, beq_iff_eq] at this
      rcases this with h1 | h1 <;> simp [h1]
  · intro h z hz
    obtain ⟨k, hk, hh, rfl⟩ := (pick_mem _ _ _).1 hz
    have hx := List.getElem?_eq_getElem hk
    have := h k _ (may_at t who l k _ hx)
    have h2 := (rec_iff _).1 (hrec k _ hx)
    unfold mayB
    rw [Int.toNat_natCast, hx]
    simp [may1, hh] at this
    simp only [Bool.or_eq_true, beq_iff_eq]
    omega
theorem above_all (t : List Rec) (who v : Int) : (pick (holds t who) t.length).all (aboveB t v) = t.all (below1 who v) := by
  rw [Bool.eq_iff_iff, List.all_eq_true, all_idx]
  constructor
  · intro h k x hx
    unfold below1
    by_cases ho : x.owner = who
    · have := h (k : Int) ((pick_mem _ _ _).2 ⟨k, (List.getElem?_eq_some_iff.1 hx).1, by rw [holds_at t who k x hx]; simpa using ho, rfl⟩)
      unfold aboveB at this
      rw [Int.toNat_natCast, hx] at this
      simp only [decide_eq_true_eq] at this
      simp [this]
    · simp [ho]
  · intro h z hz
    obtain ⟨k, hk, hh, rfl⟩ := (pick_mem _ _ _).1 hz
    have hx := List.getElem?_eq_getElem hk
    have h1 := h k _ hx
    rw [holds_at t who k _ hx] at hh
    unfold aboveB
    rw [Int.toNat_natCast, hx]
    unfold below1 at h1
    simp only [Bool.or_eq_true, bne_iff_ne, ne_eq, decide_eq_true_eq] at h1
    simp only [decide_eq_true_eq]
    rcases h1 with h1 | h1
    · exact absurd (eq_of_beq hh) h1
    · exact h1

theorem lock_c (t : List Rec) (l : List Int) (A D : Option Addr) (n c m d : Nat) (who : Int) (w : World) (r : List Rec × Int) (hr : Rd w 2 A n (rs t)) (hl : Rd w 1 D m (zs l)) (hn : n ≤ 1000000) (hm : m ≤ 1000000) (hlk : lockS t who l = r) :
    Calls Try.prog 24 #[.slice A n c, .int .i64 who, .slice D m d] w (RetSE w 2 n (rs r.1) r.2) := by
  subst hlk
  have HL := Lib.hid (rs_len hr)
  have HR := Lib.hid hr
  have HW := Lib.hid hl
  clear hr hl
  go_enter Try.func24, Try.ntmps24
  go_wp2_with fail
  refine (clone_any t _ _ _ _ HR.out hn).mono ?_
  rintro e w1 ⟨v, rfl, ho⟩
  have HO := Lib.hid ho
  clear ho
  go_wp2_with fail
  cases h1 : rightB t
  · have HF : Hid (lockS t who l = (t, 1)) := Lib.hid (by unfold lockS; rw [h1]; rfl)
    have H1 := Lib.hid h1
    clear h1
    refine (right_c t _ _ _ _ false (HR.out.below HO.out.2) hn H1.out).mono ?_
    rintro e w2 ⟨rfl, b2⟩
    have HO2 := Lib.hid (HO.out.below b2)
    clear b2 HO
    obtain ⟨B, d', rfl, hrd⟩ := HO2.out.form
    have HD := Lib.hid hrd
    clear hrd
    go_wp2_with fail
    go_ret2
    exact ⟨B, d', by rw [HF.out]; rfl, by rw [HF.out]; exact HD.out, HO2.out.2⟩
  · have H1 := Lib.hid h1
    clear h1
    refine (right_c t _ _ _ _ true (HR.out.below HO.out.2) hn H1.out).mono ?_
    rintro e w2 ⟨rfl, b2⟩
    have HO2 := Lib.hid (HO.out.below b2)
    clear b2 HO
    cases h2 : cellsB l
    · have HF : Hid (lockS t who l = (t, 1)) := Lib.hid (by unfold lockS; rw [h2]; simp)
      obtain ⟨B, d', rfl, hrd⟩ := HO2.out.form
      have HD := Lib.hid hrd
      clear hrd
      go_wp2_with (go_at_call 42; refine (rcells_any l _ _ _ _ (HW.out.below HO2.out.2) hm).mono ?_; rintro e w' ⟨rfl, rfl⟩)
      go_ret2
      exact ⟨B, d', by rw [HF.out]; rfl, by rw [HF.out]; exact HD.out, HO2.out.2⟩
    · cases h3 : whoB who
      · have HF : Hid (lockS t who l = (t, 1)) := Lib.hid (by unfold lockS; rw [h3]; simp)
        obtain ⟨B, d', rfl, hrd⟩ := HO2.out.form
        have HD := Lib.hid hrd
        clear hrd
        go_wp2_with (first
          | (go_at_call 42; refine (rcells_any l _ _ _ _ (HW.out.below HO2.out.2) hm).mono ?_; rintro e w' ⟨rfl, rfl⟩)
          | (go_at_call 43; refine (rwho_any _ _).mono ?_; rintro e w' ⟨rfl, rfl⟩))
        go_ret2
        exact ⟨B, d', by rw [HF.out]; rfl, by rw [HF.out]; exact HD.out, HO2.out.2⟩
      · have HOK : Hid ((rightB t && whoB who && cellsB l) = true) := Lib.hid (by rw [H1.out, h2, h3]; rfl)
        have HPS : Hid (ofS t l = pick (hit t.length l) t.length) := Lib.hid (by unfold ofS; rw [H1.out, h2]; rfl)
        go_wp2_with (first
          | (go_at_call 42; refine (rcells_any l _ _ _ _ (HW.out.below HO2.out.2) hm).mono ?_; rintro e w' ⟨rfl, rfl⟩)
          | (go_at_call 43; refine (rwho_any _ _).mono ?_; rintro e w' ⟨rfl, rfl⟩))
        obtain ⟨q, hq⟩ : ∃ q, (ofS t l).length = q := ⟨_, rfl⟩
        have HQ := Lib.hid hq
        have hqn : q ≤ n := by rw [← hq, ← HL.out]; exact of_len t l
        clear hq h2 h3
        refine (of_o t l _ _ _ _ _ _ _ _ q (HR.out.below HO2.out.2) (HW.out.below HO2.out.2) hn hm rfl HQ.out).mono ?_
        rintro e w3 ⟨v3, rfl, ho3⟩
        have HO3 := Lib.hid (HO2.out.below ho3.2)
        obtain ⟨B, d', rfl, hrd⟩ := ho3.form
        have HP3 := Lib.hid ho3
        have HD := Lib.hid hrd
        clear hrd ho3
        have HPL : Hid (Places n (ofS t l)) := Lib.hid (by rw [HPS.out, HL.out]; exact places_pick _ _)
        cases h4 : mayAll t who l
        · have HM : Hid ((ofS t l).all (mayB t who) = false) := Lib.hid (by rw [HPS.out, may_all t who l H1.out, h4])
          have HF : Hid (lockS t who l = (t, 7)) := Lib.hid (by unfold lockS; rw [if_pos HOK.out, h4]; rfl)
          clear h4
          obtain ⟨B', d'', rfl, hrd⟩ := HO3.out.form
          have HD' := Lib.hid hrd
          clear hrd
          go_wp2_with (go_at_call 44; refine (mayhold_any t (ofS t l) _ _ _ _ _ _ _ _ false (HR.out.below HO3.out.2) HD.out (by omega) HPL.out HM.out).mono ?_; rintro e w' ⟨rfl, rfl⟩)
          go_ret2
          exact ⟨B', d'', by rw [HF.out]; rfl, by rw [HF.out]; exact HD'.out, HO3.out.2⟩
        · have HM : Hid ((ofS t l).all (mayB t who) = true) := Lib.hid (by rw [HPS.out, may_all t who l H1.out, h4])
          have HF : Hid (lockS t who l = (setAll (ownF who) t (ofS t l), 0)) := Lib.hid (by unfold lockS; rw [if_pos HOK.out, h4, HPS.out, lock_setAll]; rfl)
          clear h4
          have hn0 : 0 < n := by have := ((right_iff t).1 H1.out).1.1; rw [HL.out] at this; exact this
          obtain ⟨g, cap, rfl⟩ := own_lay HO3.out hn0
          have HNE := Lib.hid (HO2.out.other HP3.out)
          go_wp2_with (go_at_call 44; refine (mayhold_any t (ofS t l) _ _ _ _ _ _ _ _ true (HR.out.below HO3.out.2) HD.out (by omega) HPL.out HM.out).mono ?_; rintro e w' ⟨rfl, rfl⟩)
          go_loopw [39] (fun i wr => ∃ j : Nat, j ≤ q ∧ i = .int .i64 j ∧ Hid (Own w wr 56 2 (.slice (some ⟨g, 0, none⟩) n cap) n (rs (setAll (ownF who) t ((ofS t l).take j)))) ∧ Hid (Rd wr 1 B q (zs (ofS t l)))) (fun i _ => q - (intOf i).toNat)
          case atStart => exact ⟨0, Nat.zero_le _, rfl, HO3, HD⟩
          case round =>
            obtain ⟨j, hj, rfl, hown, HDr⟩ := hrel
            by_cases hlt : j < q
            · obtain ⟨b, off, x, rfl, hx, c0⟩ := at_z HDr.out j hlt
              have HS := Lib.hid (setAll_take (ownF who) t (ofS t l) j x hx)
              obtain ⟨k, hkn, rfl⟩ := HPL.out x (List.mem_of_getElem? hx)
              rw [Int.toNat_natCast] at HS
              obtain ⟨y, hy⟩ : ∃ y, (setAll (ownF who) t ((ofS t l).take j))[k]? = some y := ⟨_, List.getElem?_eq_getElem (by rw [setAll_len, HL.out]; exact hkn)⟩
              have HM2 := Lib.hid (modify_set (ownF who) _ k _ hy)
              have HRS := Lib.hid (rs_owner _ k _ who hy)
              have f1 := hown.out.1.frozenAt (k * 2 + 1)
              have c1 := (hown.out.1.cellAt (k * 2 + 1) (by omega)).trans (rs_1 _ k _ hy)
              clear hx hy
              go_wp2
              go_roundw
              case rel =>
                refine ⟨j + 1, by omega, by go_num, Lib.hid ?_, Lib.hid (HDr.out.set_other HNE.out _ _)⟩
                have := own_set hown.out (k * 2 + 1) (.int .i64 who)
                rw [HRS.out] at this
                rw [HS.out, HM2.out]
                exact this
              case measure => simp [intOf]; omega
            · have HT : Hid ((ofS t l).take j = ofS t l) := Lib.hid (List.take_of_length_le (by rw [HQ.out]; omega))
              rw [HT.out] at hown
              go_wp2
              go_ret2
              exact ⟨_, _, by rw [HF.out]; rfl, by rw [HF.out]; exact own_rd hown.out, hown.out.2⟩


theorem stamp_c (t : List Rec) (A : Option Addr) (n c : Nat) (who ver : Int) (w : World) (r : List Rec × Int) (hr : Rd w 2 A n (rs t)) (hn : n ≤ 1000000) (hst : stampS t who ver = r) :
    Calls Try.prog 26 #[.slice A n c, .int .i64 who, .int .i64 ver] w (RetSE w 2 n (rs r.1) r.2) := by
  subst hst
  have HL := Lib.hid (rs_len hr)
  have HR := Lib.hid hr
  clear hr
  go_enter Try.func26, Try.ntmps26
  go_wp2_with fail
  refine (clone_any t _ _ _ _ HR.out hn).mono ?_
  rintro e w1 ⟨v, rfl, ho⟩
  have HO := Lib.hid ho
  clear ho
  go_wp2_with fail
  cases h1 : rightB t
  · have HF : Hid (stampS t who ver = (t, 1)) := Lib.hid (by unfold stampS; rw [h1]; rfl)
    have H1 := Lib.hid h1
    clear h1
    refine (right_c t _ _ _ _ false (HR.out.below HO.out.2) hn H1.out).mono ?_
    rintro e w2 ⟨rfl, b2⟩
    have HO2 := Lib.hid (HO.out.below b2)
    clear b2 HO
    obtain ⟨B, d', rfl, hrd⟩ := HO2.out.form
    have HD := Lib.hid hrd
    clear hrd
    go_wp2_with fail
    go_ret2
    exact ⟨B, d', by rw [HF.out]; rfl, by rw [HF.out]; exact HD.out, HO2.out.2⟩
  · have H1 := Lib.hid h1
    clear h1
    refine (right_c t _ _ _ _ true (HR.out.below HO.out.2) hn H1.out).mono ?_
    rintro e w2 ⟨rfl, b2⟩
    have HO2 := Lib.hid (HO.out.below b2)
    clear b2 HO
    cases h2 : whoB who
    · have HF : Hid (stampS t who ver = (t, 1)) := Lib.hid (by unfold stampS; rw [h2]; simp)
      obtain ⟨B, d', rfl, hrd⟩ := HO2.out.form
      have HD := Lib.hid hrd
      clear hrd
      go_wp2_with (go_at_call 43; refine (rwho_any _ _).mono ?_; rintro e w' ⟨rfl, rfl⟩)
      go_ret2
      exact ⟨B, d', by rw [HF.out]; rfl, by rw [HF.out]; exact HD.out, HO2.out.2⟩
    · have HOK : Hid ((rightB t && whoB who) = true) := Lib.hid (by rw [H1.out, h2]; rfl)
      have HPS : Hid (heldS t who = pick (holds t who) t.length) := Lib.hid (by unfold heldS; rw [if_pos HOK.out])
      go_wp2_with (go_at_call 43; refine (rwho_any _ _).mono ?_; rintro e w' ⟨rfl, rfl⟩)
      obtain ⟨q, hq⟩ : ∃ q, (heldS t who).length = q := ⟨_, rfl⟩
      have HQ := Lib.hid hq
      have hqn : q ≤ n := by rw [← hq, ← HL.out]; exact held_len' t who
      clear hq h2
      refine (held_o t _ _ _ _ _ _ q (HR.out.below HO2.out.2) hn rfl HQ.out).mono ?_
      rintro e w3 ⟨v3, rfl, ho3⟩
      have HO3 := Lib.hid (HO2.out.below ho3.2)
      obtain ⟨B, d', rfl, hrd⟩ := ho3.form
      have HP3 := Lib.hid ho3
      have HD := Lib.hid hrd
      clear hrd ho3
      have HPL : Hid (Places n (heldS t who)) := Lib.hid (by rw [HPS.out, HL.out]; exact places_pick _ _)
      cases h3 : verB ver
      · have HF : Hid (stampS t who ver = (t, 6)) := Lib.hid (by
          unfold stampS; rw [if_pos HOK.out, if_neg]
          unfold verB at h3; simpa using h3)
        obtain ⟨B', d'', rfl, hrd⟩ := HO3.out.form
        have HD' := Lib.hid hrd
        clear hrd
        go_wp2_with (go_at_call 46; refine (version_any _ _).mono ?_; rintro e w' ⟨rfl, rfl⟩)
        go_ret2
        exact ⟨B', d'', by rw [HF.out]; rfl, by rw [HF.out]; exact HD'.out, HO3.out.2⟩
      · have HV : Hid (0 ≤ ver ∧ ver ≤ 2147483647) := Lib.hid (by unfold verB at h3; simpa using h3)
        cases h4 : t.all (below1 who ver)
        · have HM : Hid ((heldS t who).all (aboveB t ver) = false) := Lib.hid (by rw [HPS.out, above_all, h4])
          have HF : Hid (stampS t who ver = (t, 6)) := Lib.hid (by unfold stampS; rw [if_pos HOK.out, if_pos HV.out, h4]; rfl)
          clear h4
          obtain ⟨B', d'', rfl, hrd⟩ := HO3.out.form
          have HD' := Lib.hid hrd
          clear hrd
          go_wp2_with (first
            | (go_at_call 46; refine (version_any _ _).mono ?_; rintro e w' ⟨rfl, rfl⟩)
            | (go_at_call 47; refine (above_any t (heldS t who) _ _ _ _ _ _ _ _ false (HR.out.below HO3.out.2) HD.out (by omega) HPL.out HM.out).mono ?_; rintro e w' ⟨rfl, rfl⟩))
          go_ret2
          exact ⟨B', d'', by rw [HF.out]; rfl, by rw [HF.out]; exact HD'.out, HO3.out.2⟩
        · have HM : Hid ((heldS t who).all (aboveB t ver) = true) := Lib.hid (by rw [HPS.out, above_all, h4])
          have HF : Hid (stampS t who ver = (setAll (verF ver) t (heldS t who), 0)) := Lib.hid (by
            unfold stampS; rw [if_pos HOK.out, if_pos HV.out, h4, HPS.out, held_map t who (verF ver) (fun _ => rfl)]; rfl)
          clear h4
          have hn0 : 0 < n := by have := ((right_iff t).1 H1.out).1.1; rw [HL.out] at this; exact this
          obtain ⟨g, cap, rfl⟩ := own_lay HO3.out hn0
          have HNE := Lib.hid (HO2.out.other HP3.out)
          go_wp2_with (first
            | (go_at_call 46; refine (version_any _ _).mono ?_; rintro e w' ⟨rfl, rfl⟩)
            | (go_at_call 47; refine (above_any t (heldS t who) _ _ _ _ _ _ _ _ true (HR.out.below HO3.out.2) HD.out (by omega) HPL.out HM.out).mono ?_; rintro e w' ⟨rfl, rfl⟩))
          go_loopw [39] (fun i wr => ∃ j : Nat, j ≤ q ∧ i = .int .i64 j ∧ Hid (Own w wr 56 2 (.slice (some ⟨g, 0, none⟩) n cap) n (rs (setAll (verF ver) t ((heldS t who).take j)))) ∧ Hid (Rd wr 1 B q (zs (heldS t who)))) (fun i _ => q - (intOf i).toNat)
          case atStart => exact ⟨0, Nat.zero_le _, rfl, HO3, HD⟩
          case round =>
            obtain ⟨j, hj, rfl, hown, HDr⟩ := hrel
            by_cases hlt : j < q
            · obtain ⟨b, off, x, rfl, hx, c0⟩ := at_z HDr.out j hlt
              have HS := Lib.hid (setAll_take (verF ver) t (heldS t who) j x hx)
              obtain ⟨k, hkn, rfl⟩ := HPL.out x (List.mem_of_getElem? hx)
              rw [Int.toNat_natCast] at HS
              obtain ⟨y, hy⟩ : ∃ y, (setAll (verF ver) t ((heldS t who).take j))[k]? = some y := ⟨_, List.getElem?_eq_getElem (by rw [setAll_len, HL.out]; exact hkn)⟩
              have HM2 := Lib.hid (modify_set (verF ver) _ k _ hy)
              have HRS := Lib.hid (rs_both _ k _ ver 0 hy)
              have f0 := hown.out.1.frozenAt (k * 2)
              have f1 := hown.out.1.frozenAt (k * 2 + 1)
              have c1 := (hown.out.1.cellAt (k * 2) (by omega)).trans (rs_0 _ k _ hy)
              have c2 := (hown.out.1.cellAt (k * 2 + 1) (by omega)).trans (rs_1 _ k _ hy)
              clear hx hy
              go_wp2
              go_roundw
              case rel =>
                refine ⟨j + 1, by omega, by go_num, Lib.hid ?_, Lib.hid ((HDr.out.set_other HNE.out _ _).set_other HNE.out _ _)⟩
                have := own_set (own_set hown.out (k * 2) (.int .i64 ver)) (k * 2 + 1) (.int .i64 0)
                rw [HRS.out] at this
                rw [HS.out, HM2.out]
                exact this
              case measure => simp [intOf]; omega
            · have HT : Hid ((heldS t who).take j = heldS t who) := Lib.hid (List.take_of_length_le (by rw [HQ.out]; omega))
              rw [HT.out] at hown
              go_wp2
              go_ret2
              exact ⟨_, _, by rw [HF.out]; rfl, by rw [HF.out]; exact own_rd hown.out, hown.out.2⟩

end Go.Proofs.Ytemfkjcfafenjaa.Stripe
