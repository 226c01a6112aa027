/-
  THE TYPE OF A TERM, as appends ask of it.
-/
import Derived.Test.YtddgdhaioomnnaaGreatTermA
import Derived.Test.YtddgdhaioomnnaaGreatHeapA
import Derived.BigQuiet
import Derived.Test.YtddgdhaioomnnaaGreatMemA
import Derived.Deep.RegionHeld3
namespace Go.Proofs.YtddgdhaioomnnaaGreat.Term
open Go.ChangeShapes Go.WideShapes Go.ChangeAt Go.RowKit Mem

set_option maxRecDepth 100000 in
theorem right_any (kd nn : Int) (w : World) (b : Bool) (hb : oneB ⟨kd, nn⟩ = b) :
    Calls Tryz.prog 86 #[.agg #[.int .i64 kd, .int .i64 nn]] w (RetBG w b) := by
  subst hb
  by_cases k1 : kd = 1
  · subst k1
    go_enter Tryz.func86, Tryz.ntmps86
    go_wp2_with (go_at_call 59; refine (Span.right_any _ _).mono ?_; rintro e w' ⟨rfl, rfl⟩)
    go_ret
    exact ⟨ret_bool rfl, (Grew.refl w).alloc _⟩
  by_cases k2 : kd = 2
  · subst k2
    rcases (by omega : (0 ≤ nn ∧ nn < 64) ∨ (0 ≤ nn ∧ ¬ nn < 64) ∨ ¬ 0 ≤ nn) with ⟨h1, h2⟩ | ⟨h1, h2⟩ | h1
    all_goals
      go_enter Tryz.func86, Tryz.ntmps86
      go_wp2
      go_ret
      exact ⟨ret_bool (by unfold oneB; simp; omega), (Grew.refl w).alloc _⟩
  by_cases k3 : kd = 3
  · subst k3
    rcases (by omega : (0 ≤ nn ∧ nn < 8) ∨ (0 ≤ nn ∧ ¬ nn < 8) ∨ ¬ 0 ≤ nn) with ⟨h1, h2⟩ | ⟨h1, h2⟩ | h1
    all_goals
      go_enter Tryz.func86, Tryz.ntmps86
      go_wp2
      go_ret
      exact ⟨ret_bool (by unfold oneB; simp; omega), (Grew.refl w).alloc _⟩
  have HK : Hid (oneB ⟨kd, nn⟩ = decide (4 ≤ kd ∧ kd ≤ 11 ∧ nn = 0)) := Lib.hid (by unfold oneB; rw [if_neg k1, if_neg k2, if_neg k3])
  have e1 : (kd == 1) = false := beq_eq_false_iff_ne.2 k1
  have e2 : (kd == 2) = false := beq_eq_false_iff_ne.2 k2
  have e3 : (kd == 3) = false := beq_eq_false_iff_ne.2 k3
  clear k1 k2 k3
  by_cases h1 : 4 ≤ kd
  · by_cases h2 : kd ≤ 11
    · by_cases h3 : nn = 0
      · have HF : Hid (oneB ⟨kd, nn⟩ = true) := Lib.hid (by rw [HK.out]; simp [h1, h2, h3])
        subst h3
        go_enter Tryz.func86, Tryz.ntmps86
        go_wp2
        go_ret
        exact ⟨ret_bool HF.out.symm, (Grew.refl w).alloc _⟩
      · have HF : Hid (oneB ⟨kd, nn⟩ = false) := Lib.hid (by rw [HK.out]; simp [h1, h2, h3])
        have e4 : (nn == 0) = false := beq_eq_false_iff_ne.2 h3
        clear h3
        go_enter Tryz.func86, Tryz.ntmps86
        go_wp2
        go_ret
        exact ⟨ret_bool HF.out.symm, (Grew.refl w).alloc _⟩
    · have HF : Hid (oneB ⟨kd, nn⟩ = false) := Lib.hid (by rw [HK.out]; simp [h2])
      go_enter Tryz.func86, Tryz.ntmps86
      go_wp2
      go_ret
      exact ⟨ret_bool HF.out.symm, (Grew.refl w).alloc _⟩
  · have HF : Hid (oneB ⟨kd, nn⟩ = false) := Lib.hid (by rw [HK.out]; simp [h1])
    go_enter Tryz.func86, Tryz.ntmps86
    go_wp2
    go_ret
    exact ⟨ret_bool HF.out.symm, (Grew.refl w).alloc _⟩

theorem truth_any (b : Bool) (w : World) :
    Calls Tryz.prog 89 #[.bool b] w fun e w' => e = .returned (.int .i64 (truthI b)) ∧ w = w' := Span.truth_any b w

set_option maxRecDepth 100000 in
theorem oftwo_any (k a b r : Int) (w : World) (ha : Heap.vB a = true) (hb : Heap.vB b = true) (h1 : 4 ≤ k) (h2 : k ≤ 10) (hr : two k a b = r) :
    Calls Tryz.prog 90 #[.int .i64 k, .int .i64 a, .int .i64 b] w fun e w' => e = .returned (.int .i64 r) ∧ w = w' := by
  obtain ⟨a1, a2⟩ := v_bd ha
  obtain ⟨b1, b2⟩ := v_bd hb
  have HR := Lib.hid hr
  clear ha hb hr
  rcases (by omega : k = 4 ∨ k = 5 ∨ k = 6 ∨ k = 7 ∨ k = 8 ∨ k = 9 ∨ k = 10) with rfl | rfl | rfl | rfl | rfl | rfl | rfl
  · go_enter Tryz.func90, Tryz.ntmps90
    go_wp2_with (go_at_call 100; refine (Span.add_any _ _ _).mono ?_; rintro e w' ⟨rfl, rfl⟩)
    go_ret
    exact ⟨ret_int HR.out, rfl⟩
  · go_enter Tryz.func90, Tryz.ntmps90
    go_wp2_with (go_at_call 101; refine (Span.sub_any _ _ _).mono ?_; rintro e w' ⟨rfl, rfl⟩)
    go_ret
    exact ⟨ret_int HR.out, rfl⟩
  · go_enter Tryz.func90, Tryz.ntmps90
    go_wp2_with (go_at_call 102; refine (Span.mul_any _ _ _).mono ?_; rintro e w' ⟨rfl, rfl⟩)
    go_ret
    exact ⟨ret_int HR.out, rfl⟩
  · cases h : (a == b)
    all_goals
      have HH := Lib.hid h
      go_enter Tryz.func90, Tryz.ntmps90
      go_wp2_with (go_at_call 89; refine (truth_any _ _).mono ?_; rintro e w' ⟨rfl, rfl⟩)
      go_ret
      exact ⟨ret_int (by rw [← HR.out]; show _ = truthI (a == b); rw [HH.out]), rfl⟩
  · by_cases h : a < b
    · have HH : Hid (decide (a < b) = true) := Lib.hid (decide_eq_true h)
      go_enter Tryz.func90, Tryz.ntmps90
      go_wp2_with (go_at_call 89; refine (truth_any _ _).mono ?_; rintro e w' ⟨rfl, rfl⟩)
      go_ret
      exact ⟨ret_int (by rw [← HR.out]; show _ = truthI (decide (a < b)); rw [HH.out]), rfl⟩
    · have HH : Hid (decide (a < b) = false) := Lib.hid (decide_eq_false h)
      go_enter Tryz.func90, Tryz.ntmps90
      go_wp2_with (go_at_call 89; refine (truth_any _ _).mono ?_; rintro e w' ⟨rfl, rfl⟩)
      go_ret
      exact ⟨ret_int (by rw [← HR.out]; show _ = truthI (decide (a < b)); rw [HH.out]), rfl⟩
  all_goals
    cases h : (a != 0)
    all_goals cases h' : (b != 0)
    all_goals
      have HH := Lib.hid (And.intro h h')
      go_enter Tryz.func90, Tryz.ntmps90
      go_wp2_with (go_at_call 89; refine (truth_any _ _).mono ?_; rintro e w' ⟨rfl, rfl⟩)
      go_ret
      exact ⟨ret_int (by rw [← HR.out]; first | (show _ = truthI (a != 0 && b != 0); rw [HH.out.1, HH.out.2]; rfl) | (show _ = truthI (a != 0 || b != 0); rw [HH.out.1, HH.out.2]; rfl)), rfl⟩

set_option maxRecDepth 100000 in
theorem takes_any (k : Int) (t : Nat) (w : World) (h1 : 1 ≤ k) (h2 : k ≤ 11) (ht : takes k = t) :
    Calls Tryz.prog 70 #[.int .i64 k] w fun e w' => e = .returned (.int .i64 (t : Int)) ∧ w = w' := by
  subst ht
  rcases (by omega : k = 1 ∨ k = 2 ∨ k = 3 ∨ k = 4 ∨ k = 5 ∨ k = 6 ∨ k = 7 ∨ k = 8 ∨ k = 9 ∨ k = 10 ∨ k = 11) with rfl | rfl | rfl | rfl | rfl | rfl | rfl | rfl | rfl | rfl | rfl
  all_goals
    go_enter Tryz.func70, Tryz.ntmps70
    go_wp2
    go_ret
    exact ⟨rfl, rfl⟩

/-- What is returned: the most numbers, and whether it stands well. -/
def pileR (l : List Op) : Int × Bool := match pile l 0 0 with
  | some p => ((p.2 : Int), decide (p.1 = 1))
  | none => (0, false)
theorem pile_cons (o : Op) (t : List Op) (c d : Nat) : pile (o :: t) c d = if c < takes o.kind then none else pile t (c + 1 - takes o.kind) (max d (c + 1 - takes o.kind)) := rfl
theorem pile_le : (l : List Op) → ∀ (c d : Nat) (p : Nat × Nat), pile l c d = some p → p.2 ≤ max d (c + l.length)
  | [], c, d, p, h => by simp only [pile, Option.some.injEq] at h; subst h; simp; omega
  | o :: l, c, d, p, h => by
    unfold pile at h
    split at h
    · cases h
    · have := pile_le l _ _ p h; simp only [List.length_cons]; omega
set_option maxRecDepth 100000 in
theorem pile_any (l : List Op) (A : Option Addr) (n c : Nat) (w : World) (r : Int × Bool) (hr : Rd w 2 A n (ops l)) (hn : n ≤ 1000000) (hone : l.all oneB = true) (hv : pileR l = r) :
    Calls Tryz.prog 87 #[.slice A n c] w (RetV w r) := by
  have HL := Lib.hid (ops_len hr)
  have HR := Lib.hid hr
  have HV := Lib.hid hv
  have HO := Lib.hid hone
  clear hr hv hone
  go_enter Tryz.func87, Tryz.ntmps87
  go_wp2
  go_loopw [2, 4, 9] (fun dv cv i wr => ∃ k ct dp : Nat, k ≤ n ∧ ct ≤ k ∧ dp ≤ k ∧ i = .int .i64 k ∧ cv = .int .i64 ct ∧ dv = .int .i64 dp ∧ Hid (Below w.heap.size w wr) ∧ Hid (pile (l.drop k) ct dp = pile l 0 0)) (fun _ _ i _ => n - (intOf i).toNat)
  case atStart => exact ⟨0, 0, 0, Nat.zero_le _, Nat.le_refl _, Nat.le_refl _, rfl, rfl, rfl, Lib.hid (Below.refl _ _), Lib.hid rfl⟩
  case round =>
    obtain ⟨k, ct, dp, hk, hck, hdk, rfl, rfl, rfl, HB, HP⟩ := hrel
    by_cases hlt : k < n
    · obtain ⟨b, off, ⟨kd, nn⟩, rfl, hx, c0, c1⟩ := at_op (HR.out.below HB.out) k hlt
      have hkd : 1 ≤ kd ∧ kd ≤ 11 := one_kind ⟨kd, nn⟩ (List.all_eq_true.1 HO.out _ (List.mem_of_getElem? hx))
      obtain ⟨hk1, hk2⟩ := hkd
      have hdr : l.drop k = ⟨kd, nn⟩ :: l.drop (k + 1) := by
        obtain ⟨hl, e⟩ := List.getElem?_eq_some_iff.1 hx
        rw [← e]; exact List.drop_eq_getElem_cons hl
      obtain ⟨t, ht⟩ : ∃ t, takes kd = t := ⟨_, rfl⟩
      have ht2 : t ≤ 2 := by rw [← ht]; exact takes_le kd
      have HT := Lib.hid ht
      rw [hdr] at HP
      have HB2 := Lib.hid (bl_alloc HB.out (.cells #[.int .i64 kd, .int .i64 nn] 57))
      clear hx hdr ht
      by_cases hc : ct < t
      · have HF : Hid (r = (0, false)) := Lib.hid (by
          rw [← HV.out]; unfold pileR; rw [← HP.out, pile_cons]
          rw [if_pos (by show ct < takes kd; rw [HT.out]; exact hc)])
        have hci : (ct : Int) < (t : Int) := by omega
        go_wp2_with (go_at_call 70; refine (takes_any kd t _ hk1 hk2 HT.out).mono ?_; rintro e w' ⟨rfl, rfl⟩)
        go_ret2
        exact ⟨by rw [HF.out]; rfl, HB2.out⟩
      · have HN : Hid (pile (l.drop (k + 1)) (ct + 1 - t) (max dp (ct + 1 - t)) = pile l 0 0) := Lib.hid (by
          have := HP.out
          rw [pile_cons] at this
          rw [if_neg (by show ¬ ct < takes kd; rw [HT.out]; exact hc)] at this
          rw [← this]; show _ = pile _ (ct + 1 - takes kd) (max dp (ct + 1 - takes kd)); rw [HT.out])
        have hci : ¬ (ct : Int) < (t : Int) := by omega
        obtain ⟨s, hs⟩ : ∃ s, s = ct + 1 - t := ⟨_, rfl⟩
        have hsi : (ct : Int) + (1 - (t : Int)) = (s : Int) := by omega
        have hsk : s ≤ k + 1 := by omega
        rw [← hs] at HN
        have HS := Lib.hid hs
        clear hs
        by_cases hm : dp < s
        · have hmi : (dp : Int) < (s : Int) := by omega
          go_wp2_with (go_at_call 70; refine (takes_any kd t _ hk1 hk2 HT.out).mono ?_; rintro e w' ⟨rfl, rfl⟩)
          go_roundw
          case rel => exact ⟨k + 1, s, s, by omega, by omega, by omega, by go_num, by go_num, by go_num, HB2, Lib.hid (by have := HN.out; rwa [Nat.max_eq_right (by omega)] at this)⟩
          case measure => simp [intOf]; omega
        · have hmi : ¬ (dp : Int) < (s : Int) := by omega
          go_wp2_with (go_at_call 70; refine (takes_any kd t _ hk1 hk2 HT.out).mono ?_; rintro e w' ⟨rfl, rfl⟩)
          go_roundw
          case rel => exact ⟨k + 1, s, dp, by omega, by omega, by omega, by go_num, by go_num, by go_num, HB2, Lib.hid (by have := HN.out; rwa [Nat.max_eq_left (by omega)] at this)⟩
          case measure => simp [intOf]; omega
    · have HE : Hid (pile l 0 0 = some (ct, dp)) := Lib.hid (by
        rw [← HP.out, List.drop_eq_nil_of_le (by rw [HL.out]; omega)]; rfl)
      have HF : Hid (r = ((dp : Int), decide (ct = 1))) := Lib.hid (by rw [← HV.out]; unfold pileR; rw [HE.out])
      by_cases h1 : ct = 1
      · have h1i : ((ct : Int) == 1) = true := by rw [h1]; rfl
        have HF2 : Hid (r = ((dp : Int), true)) := Lib.hid (by rw [HF.out, h1]; rfl)
        clear h1
        go_wp2
        go_ret2
        exact ⟨by rw [HF2.out]; rfl, HB.out⟩
      · have h1i : ((ct : Int) == 1) = false := beq_eq_false_iff_ne.2 (by omega)
        have HF2 : Hid (r = ((dp : Int), false)) := Lib.hid (by rw [HF.out, decide_eq_false h1])
        clear h1
        go_wp2
        go_ret2
        exact ⟨by rw [HF2.out]; rfl, HB.out⟩
end Go.Proofs.YtddgdhaioomnnaaGreat.Term

namespace Go.Proofs.YtddgdhaioomnnaaGreat.Term
open Go.ChangeShapes Go.WideShapes Go.ChangeAt Go.RowKit Mem

theorem pile_well (l : List Op) : (pileR l).2 = wellB l := by
  unfold pileR wellB
  cases pile l 0 0 <;> rfl
set_option maxRecDepth 100000 in
theorem check_c (l : List Op) (A : Option Addr) (n c : Nat) (w : World) (v : Int) (hr : Rd w 2 A n (ops l)) (hn : n ≤ 1000000) (hv : checkS l = v) :
    Calls Tryz.prog 69 #[.slice A n c] w (RetI w v) := by
  have HV := Lib.hid hv
  have HL := Lib.hid (ops_len hr)
  have HR := Lib.hid hr
  clear hr hv
  by_cases h0 : n < 1
  · have HF : Hid (v = 1) := Lib.hid (by rw [← HV.out]; exact check_len l (by rw [HL.out]; omega))
    go_enter Tryz.func69, Tryz.ntmps69
    go_wp2
    go_ret
    exact ⟨ret_int HF.out.symm, Below.refl _ _⟩
  by_cases h1 : 12 < n
  · have HF : Hid (v = 1) := Lib.hid (by rw [← HV.out]; exact check_len l (by rw [HL.out]; omega))
    go_enter Tryz.func69, Tryz.ntmps69
    go_wp2
    go_ret
    exact ⟨ret_int HF.out.symm, Below.refl _ _⟩
  go_enter Tryz.func69, Tryz.ntmps69
  go_wp2
  go_loopw [17] (fun i wr => ∃ k : Nat, k ≤ n ∧ i = .int .i64 k ∧ Hid (Below w.heap.size w wr) ∧ Hid ((l.take k).all oneB = true)) (fun i _ => n - (intOf i).toNat)
  case atStart => exact ⟨0, Nat.zero_le _, rfl, Lib.hid (Below.refl _ _), Lib.hid rfl⟩
  case round =>
    obtain ⟨k, hk, rfl, HB, hall⟩ := hrel
    generalize wr = w2 at *
    by_cases hlt : k < n
    · obtain ⟨b, off, ⟨kd, nn⟩, rfl, hx, c0, c1⟩ := at_op (HR.out.below HB.out) k hlt
      have hs := Lib.hid (take_all l oneB k _ hx)
      cases hok : oneB ⟨kd, nn⟩
      · have HOK := Lib.hid hok
        have HF : Hid (v = 1) := Lib.hid (by rw [← HV.out]; exact check_bad l k _ hx hok)
        clear hx hok
        go_wp2_with fail
        refine (right_any _ _ _ false HOK.out).mono ?_
        rintro e w3 ⟨rfl, b3⟩
        have HB3 := Lib.hid (bl_trans (bl_alloc HB.out _) b3.below)
        clear b3
        go_wp2_with fail
        go_ret
        exact ⟨ret_int HF.out.symm, HB3.out⟩
      · have HOK := Lib.hid hok
        clear hx hok
        go_wp2_with fail
        refine (right_any _ _ _ true HOK.out).mono ?_
        rintro e w3 ⟨rfl, b3⟩
        have HB3 := Lib.hid (bl_trans (bl_alloc HB.out _) b3.below)
        clear b3
        go_wp2_with fail
        go_roundw
        case rel => exact ⟨k + 1, by omega, by go_num, HB3, Lib.hid (by rw [hs.out, hall.out, HOK.out]; rfl)⟩
        case measure => simp [intOf]; omega
    · have HA : Hid (l.all oneB = true) := Lib.hid (by
        have := hall.out
        rwa [List.take_of_length_le (by rw [HL.out]; omega)] at this)
      obtain ⟨⟨dp, wl⟩, hpr⟩ : ∃ p, pileR l = p := ⟨_, rfl⟩
      have hw : wl = wellB l := by rw [← pile_well l, hpr]
      have HPR := Lib.hid hpr
      clear hpr
      cases wl
      · have HF : Hid (v = 2) := Lib.hid (by
          rw [← HV.out]; unfold checkS; rw [if_pos (by rw [HA.out, HL.out]; simp; omega), ← hw]; rfl)
        clear hw
        go_wp2_with fail
        refine (pile_any l _ _ _ _ (dp, false) (HR.out.below HB.out) hn HA.out HPR.out).mono ?_
        rintro e w3 ⟨rfl, b3⟩
        have HB3 := Lib.hid (bl_trans HB.out b3)
        clear b3
        go_wp2_with fail
        go_ret
        exact ⟨ret_int HF.out.symm, HB3.out⟩
      · have HF : Hid (v = 0) := Lib.hid (by
          rw [← HV.out]; unfold checkS; rw [if_pos (by rw [HA.out, HL.out]; simp; omega), ← hw]; rfl)
        clear hw
        go_wp2_with fail
        refine (pile_any l _ _ _ _ (dp, true) (HR.out.below HB.out) hn HA.out HPR.out).mono ?_
        rintro e w3 ⟨rfl, b3⟩
        have HB3 := Lib.hid (bl_trans HB.out b3)
        clear b3
        go_wp2_with fail
        go_ret
        exact ⟨ret_int HF.out.symm, HB3.out⟩


/-- What is told, and the error's number. -/
def told (r : Option Int) : Int × Int := match r with
  | some v => (v, 0)
  | none => (0, 3)
set_option maxRecDepth 100000 in
theorem register_any (rg : List Int) (E : Option Addr) (x y k : Nat) (w : World) (hg : Rd w 1 E x (zs rg)) :
    Calls Tryz.prog 88 #[.slice E x y, .int .i64 (k : Int)] w fun e w' => e = .returned (.tuple #[.int .i64 (told ((rg[k]?).map Span.sw)).1, .int .i64 (told ((rg[k]?).map Span.sw)).2]) ∧ w = w' := by
  have HL := Lib.hid (zs_len hg)
  by_cases hj : k < x
  · obtain ⟨eb, ef, rv, rfl, hrv, e0⟩ := at_z hg k hj
    have HF : Hid (told ((rg[k]?).map Span.sw) = (Span.sw rv, 0)) := Lib.hid (by rw [hrv]; rfl)
    clear hrv hg
    go_enter Tryz.func88, Tryz.ntmps88
    go_wp2_with (go_at_call 99; refine (Span.wrap_any _ _).mono ?_; rintro e w' ⟨rfl, rfl⟩)
    go_ret2
    exact ⟨by rw [HF.out]; rfl, rfl⟩
  · have HF : Hid (told ((rg[k]?).map Span.sw) = (0, 3)) := Lib.hid (by rw [List.getElem?_eq_none (by rw [HL.out]; omega)]; rfl)
    clear hg
    go_enter Tryz.func88, Tryz.ntmps88
    go_wp2
    go_ret2
    exact ⟨by rw [HF.out]; rfl, rfl⟩
end Go.Proofs.YtddgdhaioomnnaaGreat.Term

namespace Go.Proofs.YtddgdhaioomnnaaGreat.Term
open Go.ChangeShapes Go.WideShapes Go.ChangeAt Go.RowKit Mem

theorem heap_told (h : List Heap.Cell) (hr : Heap.rightB h = true) (nn : Int) (rg : List Int) (ys : List Int) : Heap.getS h nn = told (tellS h rg ⟨2, nn⟩ ys) := by
  unfold Heap.getS tellS
  rw [if_pos hr]
  cases hl : Heap.liveAt h nn
  · simp [told]
  · simp [told]
set_option maxRecDepth 100000 in
set_option maxHeartbeats 1000000 in
theorem tell_any (h : List Heap.Cell) (rg ys : List Int) (kd nn : Int) (B D E : Option Addr) (t cb m d x y : Nat) (w : World) (r : Int × Int) (hy : Rd w 1 B t (zs ys)) (hh : Rd w 2 D m (Heap.cs h)) (hg : Rd w 1 E x (zs rg))
    (hm : m ≤ 1000000) (ho : oneB ⟨kd, nn⟩ = true) (ht : takes kd = t) (hys : ∀ z ∈ ys, Heap.vB z = true) (hr : Heap.rightB h = true) (hv : told (tellS h rg ⟨kd, nn⟩ ys) = r) :
    Calls Tryz.prog 71 #[.agg #[.int .i64 kd, .int .i64 nn], .slice B t cb, .slice D m d, .slice E x y] w (RetG w r) := by
  have hk : 1 ≤ kd ∧ kd ≤ 11 := one_kind ⟨kd, nn⟩ ho
  have HY := Lib.hid hy
  have HYL := Lib.hid (zs_len hy)
  have HH := Lib.hid hh
  have HG := Lib.hid hg
  have HV := Lib.hid hv
  have HR := Lib.hid hr
  clear hy hh hg hv hr
  rcases (by omega : kd = 1 ∨ kd = 2 ∨ kd = 3 ∨ kd = 11 ∨ (4 ≤ kd ∧ kd ≤ 10)) with rfl | rfl | rfl | rfl | ⟨h4, h10⟩
  · have HF : Hid (r = (nn, 0)) := Lib.hid (by rw [← HV.out]; rfl)
    clear ho ht hk hys
    go_enter Tryz.func71, Tryz.ntmps71
    go_wp2
    go_ret2
    exact ⟨by rw [HF.out]; rfl, bl_alloc (Below.refl _ _) _⟩
  · have HF := Lib.hid ((heap_told h HR.out nn rg ys).trans HV.out)
    clear ho ht hk hys
    go_enter Tryz.func71, Tryz.ntmps71
    go_wp2_with fail
    refine (Heap.get_c h _ _ _ _ _ r (HH.out.alloc _) hm HF.out).mono ?_
    rintro e w1 ⟨rfl, b1⟩
    have HB := Lib.hid (bl_trans (bl_alloc (Below.refl _ _) _) b1)
    clear b1
    go_wp2
    go_ret2
    exact ⟨rfl, HB.out⟩
  · have hn0 : 0 ≤ nn := by unfold oneB at ho; simp at ho; omega
    obtain ⟨j, rfl⟩ := Int.eq_ofNat_of_zero_le hn0
    obtain ⟨u, hu⟩ : ∃ u, told ((rg[j]?).map Span.sw) = u := ⟨_, rfl⟩
    have HF : Hid (r = u) := Lib.hid (by rw [← HV.out, ← hu]; rfl)
    have HU := Lib.hid hu
    obtain ⟨u1, u2⟩ := u
    clear ho ht hk hys hu
    go_enter Tryz.func71, Tryz.ntmps71
    go_wp2_with fail
    refine (register_any rg _ _ _ _ _ (HG.out.alloc _)).mono ?_
    rw [HU.out]
    rintro e w' ⟨rfl, rfl⟩
    go_wp2
    go_ret2
    exact ⟨by rw [HF.out]; rfl, bl_alloc (Below.refl _ _) _⟩
  · obtain rfl : t = 1 := ht.symm
    obtain ⟨bb, bf, a, rfl, ha, e0⟩ := at_z (HY.out.alloc (.cells #[.int .i64 11, .int .i64 nn] 57)) 0 (by omega)
    rw [Nat.add_zero] at e0
    have HF : Hid (r = (truthI (a == 0), 0)) := Lib.hid (by
      rw [← HV.out]
      have e : ys.getD 0 0 = a := by rw [List.getD_eq_getElem?_getD, ha]; rfl
      show told (some (truthI (ys.getD 0 0 == 0))) = _
      rw [e]; rfl)
    clear ho hk hys ha ht
    cases hz : (a == 0)
    all_goals
      have HZ := Lib.hid hz
      go_enter Tryz.func71, Tryz.ntmps71
      go_wp2_with fail
      refine (truth_any _ _).mono ?_
      rintro e w' ⟨rfl, rfl⟩
      go_wp2
      go_ret2
      exact ⟨by rw [HF.out, HZ.out]; rfl, bl_alloc (Below.refl _ _) _⟩
  · have f1 : (kd == 1) = false := beq_eq_false_iff_ne.2 (by omega)
    have f2 : (kd == 2) = false := beq_eq_false_iff_ne.2 (by omega)
    have f3 : (kd == 3) = false := beq_eq_false_iff_ne.2 (by omega)
    have f11 : (kd == 11) = false := beq_eq_false_iff_ne.2 (by omega)
    obtain rfl : t = 2 := by rw [← ht]; unfold takes; rw [if_neg (by omega), if_neg (by omega)]
    obtain ⟨bb, bf, a, rfl, ha, e0⟩ := at_z (HY.out.alloc (.cells #[.int .i64 kd, .int .i64 nn] 57)) 0 (by omega)
    obtain ⟨bb', bf', b, hA, hb, e1⟩ := at_z (HY.out.alloc (.cells #[.int .i64 kd, .int .i64 nn] 57)) 1 (by omega)
    injection hA with hA
    injection hA with hA1 hA2
    subst hA1 hA2
    rw [Nat.add_zero] at e0
    have HVA := Lib.hid (hys a (List.mem_of_getElem? ha))
    have HVB := Lib.hid (hys b (List.mem_of_getElem? hb))
    obtain ⟨v, hv⟩ : ∃ v, two kd a b = v := ⟨_, rfl⟩
    have HF : Hid (r = (v, 0)) := Lib.hid (by
      rw [← HV.out]
      have e : ys.getD 0 0 = a := by rw [List.getD_eq_getElem?_getD, ha]; rfl
      have e' : ys.getD 1 0 = b := by rw [List.getD_eq_getElem?_getD, hb]; rfl
      unfold tellS
      rw [if_neg (by show ¬ kd = 1; omega), if_neg (by show ¬ kd = 2; omega), if_neg (by show ¬ kd = 3; omega), if_neg (by show ¬ kd = 11; omega), e, e']
      show told (some (two kd a b)) = _
      rw [hv]; rfl)
    have HTW := Lib.hid hv
    have hc := fun m => (oftwo_any kd a b v ((w.alloc (.cells #[.int .i64 kd, .int .i64 nn] 57)).drewN m) HVA.out HVB.out h4 h10 HTW.out).mono (fun _ _ (h : _ ∧ _) => (⟨h.1, 0, h.2.symm⟩ : _ ∧ ∃ q, _ = ((w.alloc (.cells #[.int .i64 kd, .int .i64 nn] 57)).drewN m).drewN q))
    clear ho hk hys ha hb ht hv
    go_enter Tryz.func71, Tryz.ntmps71
    go_wp2_with fail
    go_quiet (first | (go_at_call 90; refine Calls.quiet_of (hc _)))
    go_wp2
    go_ret2
    exact ⟨by rw [HF.out]; rfl, bl_drewN (bl_alloc (Below.refl _ _) _) _⟩
end Go.Proofs.YtddgdhaioomnnaaGreat.Term

namespace Go.Proofs.YtddgdhaioomnnaaGreat.Term
open Go.ChangeShapes Go.WideShapes Go.ChangeAt Go.RowKit Mem

/-- What is left of a slice behind a place. -/
theorem rd_tail {w : World} {B : Option Addr} {n : Nat} {xs : List Int} (h : Rd w 1 B n (zs xs)) (k d : Nat) (hk : k ≤ n) (hd : n ≤ d) : Rd w 1 (if d = k then B else B.map (·.add k)) (n - k) (zs (xs.drop k)) := by
  have hl := zs_len h
  refine ⟨by unfold zs; rw [flat_len zc_len, List.length_drop, hl], fun h0 => ?_⟩
  obtain ⟨b, off, rfl, hc⟩ := h.2 (by omega)
  rw [if_neg (by omega)]
  refine ⟨b, off + k, by simp [Mem.add_plain], fun j u hu => ?_⟩
  have e : zs xs = zs (xs.take k) ++ zs (xs.drop k) := by rw [← zs_app, List.take_append_drop]
  rw [Nat.add_assoc]
  refine hc (k + j) u ?_
  have hlk : (zs (xs.take k)).length = k := by unfold zs; rw [flat_len zc_len, List.length_take, hl]; omega
  rw [e, List.getElem?_append_right (by omega), hlk, show k + j - k = j from by omega]
  exact hu
theorem told_v (h : List Heap.Cell) (rg : List Int) (hr : Heap.rightB h = true) (o : Op) (ho : oneB o = true) (ys : List Int) (v : Int) (hv : tellS h rg o ys = some v) : Heap.vB v = true := by
  have h1 := one_kind o ho
  rcases (by omega : takes o.kind = 0 ∨ takes o.kind = 1 ∨ takes o.kind = 2 ∨ 2 < takes o.kind) with h0 | h0 | h0 | h0
  · have e : tellS h rg o ys = tellS h rg o [] := by
      have h3 := takes_0 _ h0
      unfold tellS
      rcases (by omega : o.kind = 1 ∨ o.kind = 2 ∨ o.kind = 3) with e | e | e
      all_goals simp [e]
    have := val_v h rg hr (.leaf o) h0 (by simpa [Tree.ops] using ho)
    unfold Tree.val at this
    rw [← e, hv] at this
    exact this
  · have h11 := takes_1 _ h0
    unfold tellS at hv
    rw [if_neg (by omega), if_neg (by omega), if_neg (by omega), if_pos h11] at hv
    injection hv with e; rw [← e]; exact truth_v _
  · have h2 := takes_2 _ h0
    unfold tellS at hv
    rw [if_neg (by omega), if_neg (by omega), if_neg (by omega), if_neg (by omega)] at hv
    injection hv with e; rw [← e]; exact two_v _ _ _
  · have := takes_le o.kind; omega
def runOn (h : List Heap.Cell) (rg : List Int) (t : List Op) (ys : List Int) : Option Int → Option (List Int)
  | none => none
  | some v => run h rg t (ys ++ [v])
def outOf : Option (List Int) → Int × Int
  | some (v :: _) => (v, 0)
  | _ => (0, 3)
theorem run_cons (h : List Heap.Cell) (rg : List Int) (o : Op) (t : List Op) (xs : List Int) : run h rg (o :: t) xs = runOn h rg t (xs.take (xs.length - takes o.kind)) (tellS h rg o (xs.drop (xs.length - takes o.kind))) := by
  unfold runOn; cases hv : tellS h rg o (xs.drop (xs.length - takes o.kind)) <;> simp only [run, hv]

set_option maxRecDepth 100000 in
set_option maxHeartbeats 2000000 in
theorem eval_c (l : List Op) (h : List Heap.Cell) (rg : List Int) (A D E : Option Addr) (n c m d x y : Nat) (w : World) (r : Int × Int) (hr : Rd w 2 A n (ops l)) (hh : Rd w 2 D m (Heap.cs h)) (hg : Rd w 1 E x (zs rg))
    (hn : n ≤ 1000000) (hm : m ≤ 1000000) (hv : evalS l h rg = r) :
    Calls Tryz.prog 47 #[.slice A n c, .slice D m d, .slice E x y] w (RetG w r) := by
  have HL := Lib.hid (ops_len hr)
  have HV := Lib.hid hv
  have HR := Lib.hid hr
  have HH := Lib.hid hh
  have HG := Lib.hid hg
  clear hr hh hg hv
  by_cases h0 : checkS l = 0
  · have H0 := Lib.hid h0
    cases h1 : Heap.rightB h
    · have H1 := Lib.hid h1
      have HF : Hid (r = (0, 1)) := Lib.hid (by rw [← HV.out]; unfold evalS; rw [if_pos h0, h1]; rfl)
      clear h0 h1
      go_enter Tryz.func47, Tryz.ntmps47
      go_wp2_with fail
      refine (check_c l _ _ _ _ 0 HR.out hn H0.out).mono ?_
      rintro e w1 ⟨rfl, b1⟩
      have HB := Lib.hid b1
      clear b1
      go_wp2_with fail
      refine (Heap.right_c h _ _ _ _ false (HH.out.below HB.out) hm H1.out).mono ?_
      rintro e w2 ⟨rfl, b2⟩
      have HB2 := Lib.hid (bl_trans HB.out b2)
      clear b2
      go_wp2
      go_ret2
      exact ⟨by rw [HF.out]; rfl, HB2.out⟩
    · have H1 := Lib.hid h1
      obtain ⟨g1, g2, g3, g4⟩ := check_ok l h0
      have HE : Hid (r = outOf (run h rg l [])) := Lib.hid (by rw [← HV.out]; unfold evalS; rw [if_pos h0, if_pos h1]; rfl)
      have HO := Lib.hid g3
      have HW : Hid (∃ p, pile l 0 0 = some p ∧ p.1 = 1) := Lib.hid (by
        unfold wellB at g4
        cases hp : pile l 0 0 with
        | none => rw [hp] at g4; cases g4
        | some p => rw [hp] at g4; exact ⟨p, rfl, by simpa using g4⟩)
      have hn12 : n ≤ 12 := by rw [← HL.out]; omega
      clear h0 h1 g1 g2 g3 g4
      go_enter Tryz.func47, Tryz.ntmps47
      go_wp2_with fail
      refine (check_c l _ _ _ _ 0 HR.out hn H0.out).mono ?_
      rintro e w1 ⟨rfl, b1⟩
      have HB := Lib.hid b1
      clear b1
      go_wp2_with fail
      refine (Heap.right_c h _ _ _ _ true (HH.out.below HB.out) hm H1.out).mono ?_
      rintro e w2 ⟨rfl, b2⟩
      have HB2 := Lib.hid (bl_trans HB.out b2)
      clear b2 HB
      go_wp2
      go_loopw [9, 25] (fun v i wr => ∃ (k q : Nat) (xs : List Int), k ≤ n ∧ q ≤ k ∧ i = .int .i64 k ∧ Own w2 wr 3 1 v q (zs xs) ∧ Hid (xs.length = q) ∧ Hid (∀ z ∈ xs, Heap.vB z = true) ∧ Hid (run h rg (l.drop k) xs = run h rg l []) ∧ Hid (∃ dd p, pile (l.drop k) q dd = some p ∧ p.1 = 1)) (fun _ i _ => n - (intOf i).toNat)
      case atStart => exact ⟨0, 0, [], Nat.zero_le _, Nat.le_refl _, rfl, Own.nil_ (Below.refl _ _), Lib.hid rfl, Lib.hid (by simp), Lib.hid rfl, Lib.hid (by obtain ⟨p, hp⟩ := HW.out; exact ⟨0, p, hp⟩)⟩
      case round =>
        obtain ⟨k, q, xs, hk, hqk, rfl, hown, HXL, HXV, HRN, HP⟩ := hrel
        generalize wr = w3 at *
        by_cases hlt : k < n
        · obtain ⟨b, off, ⟨kd, nn⟩, rfl, hx, c0, c1⟩ := at_op (HR.out.below (bl_trans HB2.out hown.2)) k hlt
          have hone : oneB ⟨kd, nn⟩ = true := List.all_eq_true.1 HO.out _ (List.mem_of_getElem? hx)
          have hkd : 1 ≤ kd ∧ kd ≤ 11 := one_kind ⟨kd, nn⟩ hone
          obtain ⟨hk1, hk2⟩ := hkd
          have hdr : l.drop k = ⟨kd, nn⟩ :: l.drop (k + 1) := by
            obtain ⟨hl, e⟩ := List.getElem?_eq_some_iff.1 hx
            rw [← e]; exact List.drop_eq_getElem_cons hl
          obtain ⟨t, ht⟩ : ∃ t, takes kd = t := ⟨_, rfl⟩
          have ht2 : t ≤ 2 := by rw [← ht]; exact takes_le kd
          have htq : t ≤ q := by
            obtain ⟨dd, p, hp, _⟩ := HP.out
            rw [hdr, pile_cons] at hp
            by_cases hc : q < t
            · rw [if_pos (by show q < takes kd; rw [ht]; exact hc)] at hp; cases hp
            · omega
          have HPN : Hid (∃ dd p, pile (l.drop (k + 1)) (q - t + 1) dd = some p ∧ p.1 = 1) := Lib.hid (by
            obtain ⟨dd, p, hp, hp1⟩ := HP.out
            rw [hdr, pile_cons, if_neg (by show ¬ q < takes kd; rw [ht]; omega)] at hp
            refine ⟨max dd (q + 1 - takes kd), p, ?_, hp1⟩
            rw [show q - t + 1 = q + 1 - takes kd from by rw [ht]; omega]
            exact hp)
          obtain ⟨s, hs⟩ : ∃ s, s = q - t := ⟨_, rfl⟩
          obtain ⟨res, hres⟩ : ∃ res, tellS h rg ⟨kd, nn⟩ (xs.drop s) = res := ⟨_, rfl⟩
          have HRUN : Hid (run h rg l [] = runOn h rg (l.drop (k + 1)) (xs.take s) res) := Lib.hid (by
              rw [← HRN.out, hdr, run_cons]
              have e : xs.length - takes (⟨kd, nn⟩ : Op).kind = s := by show xs.length - takes kd = s; rw [HXL.out, ht, hs]
              rw [e, hres])
          have HRES := Lib.hid hres
          have HT := Lib.hid ht
          have HONE := Lib.hid hone
          have hsi : (q : Int) - (t : Int) = (s : Int) := by omega
          have hsq : s ≤ q := by omega
          obtain ⟨B, bd, rfl, hqd, hrd⟩ := own_room hown
          have HOWN := Lib.hid hown
          have HRD := Lib.hid hrd
          have HST : Hid (q - s = t) := Lib.hid (by omega)
          have HBK : Hid (Blk (w3.alloc (.cells #[.int .i64 kd, .int .i64 nn] 57)) w3.heap.size 57 #[.int .i64 kd, .int .i64 nn]) := Lib.hid (Blk.new _ _ _)
          have q0 := HBK.out.cell 0 _ rfl
          have q1 := HBK.out.cell 1 _ rfl
          clear hx hdr ht hres hone hown hrd hs
          go_wp2_with (go_at_call 70; refine (takes_any kd t _ hk1 hk2 HT.out).mono ?_; rintro e w' ⟨rfl, rfl⟩)
          obtain ⟨w4, hw4⟩ : ∃ w4, w4 = w3.alloc (.cells #[.int .i64 kd, .int .i64 nn] 57) := ⟨_, rfl⟩
          have HW4 : Hid (Below w3.heap.size w3 w4) := Lib.hid (by rw [hw4]; exact bl_alloc (Below.refl _ _) _)
          rw [← hw4] at q0 q1 HBK ⊢
          have KEEP : Hid (∀ W, Below w4.heap.size w4 W → W.cell? ⟨w3.heap.size, 0, none⟩ = some (.int .i64 kd) ∧ W.cell? ⟨w3.heap.size, 1, none⟩ = some (.int .i64 nn)) := Lib.hid (fun W h => ⟨(HBK.out.below h).cell 0 _ rfl, (HBK.out.below h).cell 1 _ rfl⟩)
          have bq : Hid (Below w4.heap.size w4 w4.drew) := Lib.hid (Below.refl _ _).drew
          have HTL := Lib.hid (rd_tail HRD.out s bd hsq hqd)
          have HXD : Hid (∀ z ∈ xs.drop s, Heap.vB z = true) := Lib.hid (fun z hz => HXV.out z (List.mem_of_mem_drop hz))
          have hsb : s ≤ bd := by omega
          obtain ⟨B2, hB2⟩ : ∃ B2, (if bd = s then B else Option.map (fun x => x.add s) B) = B2 := ⟨_, rfl⟩
          rw [hB2] at HTL
          clear hw4
          cases res with
          | none =>
            have HF : Hid (r = (0, 3)) := Lib.hid (by rw [HE.out, HRUN.out]; rfl)
            go_wp2_with fail
            go_region_held3 (fun w' => w'.cell? ⟨w3.heap.size, 0, none⟩ = some (.int .i64 kd) ∧ w'.cell? ⟨w3.heap.size, 1, none⟩ = some (.int .i64 nn)) (exact KEEP.out _ bq.out)
              (first
              | (go_at_call 71
                 refine (tell_any h rg (xs.drop s) kd nn _ _ _ _ _ _ _ _ _ _ (0, 3) ((HTL.out.below HW4.out).below bq.out) (((HH.out.below (bl_trans HB2.out HOWN.out.2)).below HW4.out).below bq.out) (((HG.out.below (bl_trans HB2.out HOWN.out.2)).below HW4.out).below bq.out) hm HONE.out (HT.out.trans HST.out.symm) HXD.out H1.out (by rw [HRES.out]; rfl)).mono ?_
                 rintro e wq ⟨rfl, b_⟩
                 replace bq := Lib.hid (bl_trans bq.out b_)
                 clear b_))
            have HB5 := Lib.hid (bl_trans HW4.out bq.out)
            clear KEEP HBK q0 q1 bq
            go_wp2
            go_ret2
            exact ⟨by rw [HF.out]; rfl, bl_trans HB2.out (bl_trans HOWN.out.2 HB5.out)⟩
          | some v =>
            have HVV : Hid (Heap.vB v = true) := Lib.hid (told_v h rg H1.out _ HONE.out _ _ HRES.out)
            go_wp2_with fail
            go_region_held3 (fun w' => w'.cell? ⟨w3.heap.size, 0, none⟩ = some (.int .i64 kd) ∧ w'.cell? ⟨w3.heap.size, 1, none⟩ = some (.int .i64 nn)) (exact KEEP.out _ bq.out)
              (first
              | (go_at_call 71
                 refine (tell_any h rg (xs.drop s) kd nn _ _ _ _ _ _ _ _ _ _ (v, 0) ((HTL.out.below HW4.out).below bq.out) (((HH.out.below (bl_trans HB2.out HOWN.out.2)).below HW4.out).below bq.out) (((HG.out.below (bl_trans HB2.out HOWN.out.2)).below HW4.out).below bq.out) hm HONE.out (HT.out.trans HST.out.symm) HXD.out H1.out (by rw [HRES.out]; rfl)).mono ?_
                 rintro e wq ⟨rfl, b_⟩
                 replace bq := Lib.hid (bl_trans bq.out b_)
                 clear b_))
            have HB5 := Lib.hid (bl_trans HW4.out bq.out)
            clear KEEP HBK q0 q1 bq
            have HO5 : Hid (Own w2 wq 3 1 (.slice B s bd) s (zs (xs.take s))) := Lib.hid (by rw [← zs_taken]; exact own_first (HOWN.out.below HB5.out) s hsq)
            clear HRD HTL HOWN hB2
            go_wp2_with (at_builtin; refine append_rd rfl _ _ 32 rfl Mem.tInt w2 _ s (zs (xs.take s)) rfl (HO5.out.alloc _) _ 1 1 [.int .i64 v] rfl (Rd.built _ 1 1 [.int .i64 v] _ rfl) (one_cons rfl one_nil) (by omega) (by omega) ?_; intro v' w' hown' hg; clear hg)
            refine ⟨⟨k + 1, s + 1, xs.take s ++ [v], by omega, by have := HST.out; omega, by go_num, ?_, Lib.hid ?_, Lib.hid ?_, Lib.hid ?_, Lib.hid ?_⟩, ?_⟩
            · rw [zs_app]; exact hown'
            · rw [List.length_append, List.length_take, HXL.out, Nat.min_eq_left hsq]; rfl
            · intro z hz
              rcases List.mem_append.1 hz with hz | hz
              · exact HXV.out z (List.mem_of_mem_take hz)
              · rw [List.mem_singleton.1 hz]; exact HVV.out
            · exact HRUN.out.symm
            · rw [show s = q - t from by have := HST.out; omega]; exact HPN.out
            · simp [intOf]; omega
        · have hkn : k = n := by omega
          have hq1 : q = 1 := by
            obtain ⟨dd, p, hp, hp1⟩ := HP.out
            rw [hkn, List.drop_of_length_le (by rw [HL.out]; exact Nat.le_refl _)] at hp
            simp only [pile, Option.some.injEq] at hp
            rw [← hp] at hp1; exact hp1
          subst hq1
          obtain ⟨v, hxs⟩ : ∃ v, xs = [v] := by
            have := HXL.out
            match xs, this with
            | [v], _ => exact ⟨v, rfl⟩
          subst hxs
          have HF : Hid (r = (v, 0)) := Lib.hid (by
            rw [HE.out, ← HRN.out, hkn, List.drop_of_length_le (by rw [HL.out]; exact Nat.le_refl _)]; rfl)
          have HB5 := Lib.hid (bl_trans HB2.out hown.2)
          obtain ⟨B, bd, rfl, hqd, hrd⟩ := own_room hown
          obtain ⟨b, off, rfl, hc⟩ := hrd.2 (by omega)
          have q0 : w3.cell? ⟨b, off, none⟩ = some (.int .i64 v) := hc 0 (.int .i64 v) rfl
          clear hkn hc hrd hown
          go_wp2
          go_ret2
          exact ⟨by rw [HF.out]; rfl, HB5.out⟩
  · have HF : Hid (r = (0, checkS l)) := Lib.hid (by rw [← HV.out]; unfold evalS; rw [if_neg h0])
    obtain ⟨ck, hck⟩ : ∃ x, checkS l = x := ⟨_, rfl⟩
    rw [hck] at HF
    have HC := Lib.hid hck
    have hne : (ck != 0) = true := by rw [← hck]; simpa using h0
    clear h0 hck
    go_enter Tryz.func47, Tryz.ntmps47
    go_wp2_with fail
    refine (check_c l _ _ _ _ ck HR.out hn HC.out).mono ?_
    rintro e w1 ⟨rfl, b1⟩
    have HB := Lib.hid b1
    clear b1
    go_wp2
    go_ret2
    exact ⟨by rw [HF.out]; rfl, HB.out⟩
end Go.Proofs.YtddgdhaioomnnaaGreat.Term

namespace Go.Proofs.YtddgdhaioomnnaaGreat.Term
open Go.ChangeShapes Go.WideShapes Go.ChangeAt Go.RowKit Mem

/-- The cells that are named, as they come. -/
def named (l : List Op) : List Int := (l.filter (fun o => decide (o.kind = 2))).map Op.n
theorem named_take (l : List Op) (k : Nat) (x : Op) (hk : l[k]? = some x) : named (l.take (k + 1)) = named (l.take k) ++ (if x.kind = 2 then [x.n] else []) := by
  unfold named
  rw [List.take_add_one, hk, List.filter_append, List.map_append]
  by_cases h : x.kind = 2 <;> simp [h]
theorem named_len (l : List Op) : (named l).length ≤ l.length := by unfold named; rw [List.length_map]; exact List.length_filter_le _ _
theorem named_mem (l : List Op) (h : l.all oneB = true) (x : Int) : x ∈ named l ↔ ∃ k : Nat, k < 64 ∧ namesB l k = true ∧ x = (k : Int) := by
  unfold named namesB
  rw [List.mem_map]
  constructor
  · rintro ⟨o, ho, rfl⟩
    rw [List.mem_filter] at ho
    have h1 := List.all_eq_true.1 h o ho.1
    have h2 : o.kind = 2 := by simpa using ho.2
    unfold oneB at h1
    rw [if_neg (by omega), if_pos h2] at h1
    have h3 : 0 ≤ o.n ∧ o.n ≤ 63 := by simpa using h1
    refine ⟨o.n.toNat, by omega, ?_, by omega⟩
    rw [List.any_eq_true]
    exact ⟨o, ho.1, by simp [h2]; omega⟩
  · rintro ⟨k, hk, hn, rfl⟩
    rw [List.any_eq_true] at hn
    obtain ⟨o, ho, h2⟩ := hn
    have h2 : o.kind = 2 ∧ o.n = (k : Int) := by simpa using h2
    exact ⟨o, List.mem_filter.2 ⟨ho, by simp [h2.1]⟩, h2.2⟩
theorem cells_of (l : List Op) (h : checkS l = 0) : cellsS l = Lib.compact (sortZ (named l)) := by
  obtain ⟨_, _, h3, _⟩ := check_ok l h
  rw [compact_pick (named l) (namesB l) 64 (named_mem l h3)]
  unfold cellsS; rw [if_pos h]; rfl

set_option maxRecDepth 100000 in
set_option maxHeartbeats 1000000 in
theorem cells_c (l : List Op) (A : Option Addr) (n c : Nat) (w : World) (r : List Int) (q : Nat) (hr : Rd w 2 A n (ops l)) (hn : n ≤ 1000000) (hv : cellsS l = r) (hq : r.length = q) :
    Calls Tryz.prog 83 #[.slice A n c] w (RetO w 3 1 q (zs r)) := by
  have HL := Lib.hid (ops_len hr)
  have HR := Lib.hid hr
  have HQ := Lib.hid hq
  clear hr hq
  by_cases h0 : checkS l = 0
  · have H0 := Lib.hid h0
    have HF : Hid (r = Lib.compact (sortZ (named l))) := Lib.hid (by rw [← hv]; exact cells_of l h0)
    clear h0 hv
    go_enter Tryz.func83, Tryz.ntmps83
    go_wp2_with fail
    refine (check_c l _ _ _ _ 0 HR.out hn H0.out).mono ?_
    rintro e w1 ⟨rfl, b1⟩
    have HB1 := Lib.hid b1
    clear b1
    go_wp2
    go_loopw [3, 11] (fun v i wr => ∃ k q : Nat, k ≤ n ∧ q ≤ k ∧ i = .int .i64 k ∧ Hid ((named (l.take k)).length = q) ∧ Own w1 wr 3 1 v q (zs (named (l.take k)))) (fun _ i _ => n - (intOf i).toNat)
    case atStart => exact ⟨0, 0, Nat.zero_le _, Nat.le_refl _, rfl, Lib.hid rfl, Own.nil_ (Below.refl _ _)⟩
    case round =>
      obtain ⟨k, q1, hk, hqk, rfl, HQ1, hown⟩ := hrel
      by_cases hlt : k < n
      · obtain ⟨b, off, ⟨kd, nn⟩, rfl, hx, c0, c1⟩ := at_op ((HR.out.below HB1.out).below hown.2) k hlt
        have HT := Lib.hid (named_take l k _ hx)
        clear hx
        by_cases e2 : kd = 2
        · subst e2
          have HT2 : Hid (named (l.take (k + 1)) = named (l.take k) ++ [nn]) := Lib.hid (by rw [HT.out]; rfl)
          go_wp2_with (at_builtin; refine append_rd rfl _ _ 32 rfl Mem.tInt w1 _ _ _ rfl ((hown.alloc _).alloc _) _ 1 1 [.int .i64 nn] rfl (Rd.builtAt _ 1 1 [.int .i64 nn] _ rfl (by simp)) (one_cons rfl one_nil) (by omega) (by omega) ?_; intro v' w' hown' hg; clear hg)
          go_roundw
          case rel => exact ⟨k + 1, q1 + 1, by omega, by omega, by go_num, Lib.hid (by rw [HT2.out, List.length_append, HQ1.out]; rfl), by rw [HT2.out, zs_app]; exact hown'⟩
          case measure => simp [intOf]; omega
        · have e3 : (kd == 2) = false := beq_eq_false_iff_ne.2 e2
          have HT2 : Hid (named (l.take (k + 1)) = named (l.take k)) := Lib.hid (by rw [HT.out, if_neg e2, List.append_nil])
          have HO := Lib.hid (hown.alloc (.cells #[.int .i64 kd, .int .i64 nn] 57))
          clear e2 hown
          go_wp2
          go_roundw
          case rel => exact ⟨k + 1, q1, by omega, by omega, by go_num, Lib.hid (by rw [HT2.out]; exact HQ1.out), by rw [HT2.out]; exact HO.out⟩
          case measure => simp [intOf]; omega
      · have ho := hown
        rw [List.take_of_length_le (by rw [HL.out]; omega)] at ho
        have HO := Lib.hid ho
        clear hown ho
        go_wp2_with fail
        refine (sort_own w1 _ _ _ _ HO.out (by omega)).mono ?_
        rintro e w2 ⟨rfl, ho2⟩
        have HO2 := Lib.hid ho2
        clear ho2
        go_wp2_with fail
        refine (compact_own w1 _ _ _ _ HO2.out (by omega)).mono ?_
        rintro e w3 ⟨v3, rfl, ho3⟩
        go_wp2
        go_ret
        exact ⟨v3, rfl, by rw [← HQ.out, HF.out]; exact ho3.wide HB1.out⟩
  · have HF : Hid (r = []) := Lib.hid (by rw [← hv]; unfold cellsS; rw [if_neg h0])
    have HN : Hid (q = 0) := Lib.hid (by rw [← HQ.out, HF.out]; rfl)
    obtain rfl := HN.out
    obtain ⟨ck, hck⟩ : ∃ x, checkS l = x := ⟨_, rfl⟩
    have HC := Lib.hid hck
    have hne : (ck != 0) = true := by rw [← hck]; simpa using h0
    clear h0 hv hck
    go_enter Tryz.func83, Tryz.ntmps83
    go_wp2_with fail
    refine (check_c l _ _ _ _ ck HR.out hn HC.out).mono ?_
    rintro e w1 ⟨rfl, b1⟩
    have HB := Lib.hid b1
    clear b1
    go_wp2
    go_ret
    exact ⟨_, rfl, by rw [HF.out]; exact Own.nil_ HB.out⟩
end Go.Proofs.YtddgdhaioomnnaaGreat.Term

namespace Go.Proofs.YtddgdhaioomnnaaGreat.Term
open Go.ChangeShapes Go.WideShapes Go.ChangeAt Go.RowKit Mem

theorem cells_five : cellsS [⟨2, 5⟩] = [5] := by decide +kernel

set_option maxRecDepth 100000 in
theorem trod_op {H : Type} {enc : TypeId × Value → H} {W : World} {fuel : Nat} {cs' : List Value} {x : DataW H × List MemPlace} (hl : cs'.length = 2)
    (ht : DataW.trod enc Tryz.prog W 0 (fun _ => true) true fuel 57 cs' = some x) : ∃ y : Op, cs' = oc y ∧ (Fits y.kind ∧ Fits y.n) := by
  obtain ⟨xs, n', _, _, _, hxl, hf⟩ := DataW.trod_struct Tryz.underlying57 ht
  match cs', hl with
  | [c0, c1], _ =>
    have g0 := hf 0 _ rfl
    have g1 := hf 1 _ rfl
    have k3 : Tryz.prog.cellsOf 3 = 1 := by kernel_rfl
    match xs, hxl with
    | [y0, y1], _ =>
      simp [k3] at g0 g1
      obtain ⟨m0, e0, _, wf0⟩ := DataW.trod_int Tryz.underlying3 g0
      obtain ⟨m1, e1, _, wf1⟩ := DataW.trod_int Tryz.underlying3 g1
      simp at e0 e1
      subst e0 e1
      exact ⟨⟨m0, m1⟩, rfl, bounds_i64 wf0, bounds_i64 wf1⟩
set_option maxRecDepth 100000 in
theorem open_ops {H : Type} {enc : TypeId × Value → H} {W : World} {A : Option Addr} {n c : Nat} {d : DataW H} {p : List MemPlace}
    (h : DataW.Trod enc Tryz.prog W 0 (fun _ => true) true 24 (.slice A n c) d p) :
    n ≤ c ∧ c ≤ 9223372036854775807 ∧ ∃ xs : List Op, Rd W 2 A n (ops xs) ∧ xs.length = n ∧ ∀ x ∈ xs, Fits x.kind ∧ Fits x.n :=
  open_rows Tryz.underlying24 2 (by kernel_rfl) (by decide) oc (fun _ => rfl) (fun x => Fits x.kind ∧ Fits x.n) (fun _ _ _ hl ht => trod_op hl ht) h
end Go.Proofs.YtddgdhaioomnnaaGreat.Term

namespace Go.Proofs.YtddgdhaioomnnaaGreat.Term
open Mem

theorem own_zero {w0 w : World} {e size n : Nat} {v : Value} {ys : List Value} (h : Own w0 w e size v (0 + n) ([] ++ ys)) : Own w0 w e size v n ys := by
  rw [Nat.zero_add, List.nil_append] at h; exact h
/-- A term of which something is told is a tree of that value. -/
theorem eval_ok (l : List Op) (h : List Heap.Cell) (rg : List Int) (x : Int) (he : evalS l h rg = (x, 0)) :
    ∃ T : Tree, T.ok ∧ T.ops = l ∧ T.val h rg = (x, true) ∧ Heap.rightB h = true ∧ l.all oneB = true ∧ Heap.vB x = true ∧ 0 < l.length ∧ l.length < 13 := by
  by_cases h0 : checkS l = 0
  · cases h1 : Heap.rightB h
    · unfold evalS at he; rw [if_pos h0, h1] at he; cases he
    · obtain ⟨g1, g2, g3, g4⟩ := check_ok l h0
      obtain ⟨T, t1, t2⟩ := well_tree l g4
      have := eval_tree T t1 (by rw [t2]; exact h0) h rg h1
      rw [t2, he] at this
      have hv := val_v h rg h1 T t1 (by rw [t2]; exact g3)
      cases hb : (T.val h rg).2
      · rw [hb] at this; cases this
      · rw [hb, if_pos rfl] at this
        injection this with e1 _
        exact ⟨T, t1, t2, by rw [e1, ← hb], h1 ▸ rfl, g3, by rw [e1]; exact hv, g1, g2⟩
  · unfold evalS at he; rw [if_neg h0] at he; injection he with _ e; exact absurd e h0
theorem tree_eval (T : Tree) (h : List Heap.Cell) (rg : List Int) (x : Int) (t1 : T.ok) (h1 : Heap.rightB h = true) (g3 : T.ops.all oneB = true) (g2 : T.ops.length < 13) (hv : T.val h rg = (x, true)) :
    evalS T.ops h rg = (x, 0) := by
  rw [eval_tree T t1 (check_mk _ T.pos g2 g3 (tree_well T t1)) h rg h1, hv]; rfl
theorem takes_bin (k : Int) (h1 : 4 ≤ k) (h2 : k ≤ 10) : takes k = 2 := by unfold takes; rw [if_neg (by omega), if_neg (by omega)]
theorem one_bin (k : Int) (h1 : 4 ≤ k) (h2 : k ≤ 11) : oneB ⟨k, 0⟩ = true := by
  unfold oneB
  simp only
  rw [if_neg (by omega), if_neg (by omega), if_neg (by omega)]; simp; omega
theorem eval_two (a b : List Op) (h : List Heap.Cell) (rg : List Int) (x y k : Int) (ha : evalS a h rg = (x, 0)) (hb : evalS b h rg = (y, 0)) (h1 : 4 ≤ k) (h2 : k ≤ 10) (hl : a.length + b.length < 12) :
    evalS (a ++ b ++ [⟨k, 0⟩]) h rg = (two k x y, 0) := by
  obtain ⟨T, t1, t2, t3, t4, t5, _⟩ := eval_ok a h rg x ha
  obtain ⟨U, u1, u2, u3, u4, u5, _⟩ := eval_ok b h rg y hb
  have e : (Tree.bin ⟨k, 0⟩ T U).ops = a ++ b ++ [⟨k, 0⟩] := by simp [Tree.ops, t2, u2]
  rw [← e]
  refine tree_eval _ h rg _ ⟨takes_bin k h1 h2, t1, u1⟩ t4 ?_ ?_ ?_
  · rw [e, List.all_append, List.all_append, t5, u5]; simp [one_bin k h1 (by omega)]
  · rw [e]; simp; omega
  · simp [Tree.val, t3, u3]
theorem eval_not (a : List Op) (h : List Heap.Cell) (rg : List Int) (x : Int) (ha : evalS a h rg = (x, 0)) (hl : a.length < 12) : evalS (a ++ [⟨11, 0⟩]) h rg = (truthI (x == 0), 0) := by
  obtain ⟨T, t1, t2, t3, t4, t5, _⟩ := eval_ok a h rg x ha
  have e : (Tree.un ⟨11, 0⟩ T).ops = a ++ [⟨11, 0⟩] := by simp [Tree.ops, t2]
  rw [← e]
  refine tree_eval _ h rg _ ⟨rfl, t1⟩ t4 ?_ ?_ ?_
  · rw [e, List.all_append, t5]; rfl
  · rw [e]; simp; omega
  · simp [Tree.val, t3]
theorem eval_const (x : Int) (h : List Heap.Cell) (rg : List Int) (hx : Heap.vB x = true) (hr : Heap.rightB h = true) : evalS [⟨1, x⟩] h rg = (x, 0) :=
  tree_eval (.leaf ⟨1, x⟩) h rg x rfl hr (by simp [Tree.ops, oneB, hx]) (by simp [Tree.ops]) rfl
theorem eval_consts (x y k : Int) (h : List Heap.Cell) (rg : List Int) (hx : Heap.vB x = true) (hy : Heap.vB y = true) (hr : Heap.rightB h = true) (h1 : 4 ≤ k) (h2 : k ≤ 10) : evalS [⟨1, x⟩, ⟨1, y⟩, ⟨k, 0⟩] h rg = (two k x y, 0) :=
  eval_two [⟨1, x⟩] [⟨1, y⟩] h rg x y k (eval_const x h rg hx hr) (eval_const y h rg hy hr) h1 h2 (by simp)
theorem check_two (a b : List Op) (h : List Heap.Cell) (rg : List Int) (x y : Int) (ha : evalS a h rg = (x, 0)) (hb : evalS b h rg = (y, 0)) (hl : a.length + b.length < 12) : checkS (a ++ b) = 2 := by
  obtain ⟨T, t1, t2, t3, t4, t5, _, t7, _⟩ := eval_ok a h rg x ha
  obtain ⟨U, u1, u2, u3, u4, u5, _⟩ := eval_ok b h rg y hb
  have hp := pile_tree T t1 U.ops 0 0
  have hq := pile_tree U u1 [] (0 + 1) (max 0 (0 + T.deep))
  rw [List.append_nil] at hq
  rw [hq, t2, u2] at hp
  unfold checkS wellB
  rw [List.all_append, t5, u5, hp, if_pos (by simp; omega), if_neg (by simp [pile])]

theorem run_congr (h g : List Heap.Cell) (rg sg : List Int) (l : List Op) (hl : ∀ o ∈ l, ∀ xs, tellS h rg o xs = tellS g sg o xs) : ∀ xs, run h rg l xs = run g sg l xs := by
  induction l with
  | nil => intro xs; rfl
  | cons o t ih =>
    intro xs
    unfold run
    rw [hl o (by simp)]
    cases tellS g sg o (xs.drop (xs.length - takes o.kind)) with
    | none => rfl
    | some v => exact ih (fun o' ho' => hl o' (by simp [ho'])) _
theorem right_set (h : List Heap.Cell) (k : Nat) (c : Heap.Cell) (hr : Heap.rightB h = true) (hc : Heap.cellB c = true) : Heap.rightB (h.set k c) = true := by
  unfold Heap.rightB at hr ⊢
  rw [Bool.and_eq_true] at hr ⊢
  refine ⟨by rw [List.length_set]; exact hr.1, ?_⟩
  rw [List.all_eq_true]
  intro x hx
  rcases List.mem_or_eq_of_mem_set hx with h1 | h1
  · exact List.all_eq_true.1 hr.2 x h1
  · rw [h1]; exact hc
/-- What is told does not hang on a cell that is not named. -/
theorem names_other (l : List Op) (h : List Heap.Cell) (rg : List Int) (k : Nat) (c : Heap.Cell) (hc : Heap.cellB c = true) (hk : (k : Int) ∉ cellsS l) (hk64 : k < 64) :
    (evalS l h rg).2 = 1 ∨ evalS l (h.set k c) rg = evalS l h rg := by
  by_cases h0 : checkS l = 0
  · cases h1 : Heap.rightB h
    · exact .inl (by unfold evalS; rw [if_pos h0, h1]; rfl)
    · refine .inr ?_
      obtain ⟨g1, g2, g3, g4⟩ := check_ok l h0
      have hrun : run (h.set k c) rg l [] = run h rg l [] := by
        refine run_congr _ _ _ _ l (fun o ho xs => ?_) []
        unfold tellS
        by_cases e2 : o.kind = 2
        · have hone := List.all_eq_true.1 g3 o ho
          unfold oneB at hone
          rw [if_neg (by omega), if_pos e2] at hone
          have hb : 0 ≤ o.n ∧ o.n ≤ 63 := by simpa using hone
          have hne : o.n.toNat ≠ k := by
            intro e
            apply hk
            unfold cellsS
            rw [if_pos h0, pick_mem]
            refine ⟨k, hk64, ?_, rfl⟩
            rw [List.any_eq_true]
            exact ⟨o, ho, by simp [e2]; omega⟩
          have e3 : (h.set k c)[o.n.toNat]? = h[o.n.toNat]? := List.getElem?_set_ne (fun e => hne e.symm)
          have e4 : Heap.liveAt (h.set k c) o.n = Heap.liveAt h o.n := by unfold Heap.liveAt; rw [e3]
          have e5 : Heap.valAt (h.set k c) o.n = Heap.valAt h o.n := by unfold Heap.valAt; rw [e3]
          rw [e4, e5]
        · simp only [if_neg e2]
      unfold evalS
      simp only [h0, h1, right_set h k c h1 hc, hrun]
  · refine .inr ?_
    unfold evalS
    rw [if_neg h0, if_neg h0]
def regsB (l : List Op) (k : Int) : Bool := l.any fun o => decide (o.kind = 3) && decide (o.n = k)
/-- Nor on a register that is not named, nor on how one that is named is written. -/
theorem regs_other (l : List Op) (h : List Heap.Cell) (rg : List Int) (k : Nat) (v z : Int) (hz : rg[k]? = some z) (hv : regsB l k = true → v = Span.sw z) : evalS l h (rg.set k v) = evalS l h rg := by
  by_cases h0 : checkS l = 0
  · obtain ⟨g1, g2, g3, g4⟩ := check_ok l h0
    have hrun : run h (rg.set k v) l [] = run h rg l [] := by
      refine run_congr _ _ _ _ l (fun o ho xs => ?_) []
      unfold tellS
      by_cases e3 : o.kind = 3
      · have hone := List.all_eq_true.1 g3 o ho
        unfold oneB at hone
        rw [if_neg (by omega), if_neg (by omega), if_pos e3] at hone
        have hb : 0 ≤ o.n ∧ o.n ≤ 7 := by simpa using hone
        suffices e5 : ((rg.set k v)[o.n.toNat]?).map Span.sw = (rg[o.n.toNat]?).map Span.sw by rw [e5]
        by_cases e4 : o.n.toNat = k
        · have hn : regsB l k = true := by
            unfold regsB; rw [List.any_eq_true]
            exact ⟨o, ho, by simp [e3]; omega⟩
          have hlt : k < rg.length := (List.getElem?_eq_some_iff.1 hz).1
          rw [e4, hv hn, List.getElem?_set_self hlt, hz]
          simp [Span.sw_sw]
        · rw [List.getElem?_set_ne (fun e => e4 e.symm)]
      · simp only [if_neg e3]
    unfold evalS
    rw [if_pos h0, if_pos h0, hrun]
  · unfold evalS
    rw [if_neg h0, if_neg h0]

/-- A sum of so many numbers, each added as soon as it is told; or all piled first. -/
def chainT (v : Int) : Nat → Tree
  | 0 => .leaf ⟨1, v⟩
  | i + 1 => .bin ⟨4, 0⟩ (chainT v i) (.leaf ⟨1, v⟩)
def pileT (v : Int) : Nat → Tree
  | 0 => .leaf ⟨1, v⟩
  | i + 1 => .bin ⟨4, 0⟩ (.leaf ⟨1, v⟩) (pileT v i)
def chainL (v : Int) : Nat → List Op
  | 0 => []
  | 1 => [⟨1, v⟩]
  | i + 2 => chainL v (i + 1) ++ [⟨1, v⟩, ⟨4, 0⟩]
theorem chain_ops (v : Int) (i : Nat) : (chainT v i).ops = chainL v (i + 1) := by
  induction i with
  | zero => rfl
  | succ i ih => simp only [chainT, Tree.ops, ih, chainL]; simp
theorem pile_ops (v : Int) (i : Nat) : (pileT v i).ops = List.replicate (i + 1) ⟨1, v⟩ ++ List.replicate i ⟨4, 0⟩ := by
  induction i with
  | zero => rfl
  | succ i ih =>
    simp only [pileT, Tree.ops, ih]
    rw [List.replicate_succ' (n := i) (a := (⟨4, 0⟩ : Op)), List.replicate_succ (n := i + 1) (a := (⟨1, v⟩ : Op))]; simp
theorem chain_ok (v : Int) (i : Nat) : (chainT v i).ok := by
  induction i with
  | zero => rfl
  | succ i ih => exact ⟨rfl, ih, rfl⟩
theorem pile_ok (v : Int) (i : Nat) : (pileT v i).ok := by
  induction i with
  | zero => rfl
  | succ i ih => exact ⟨rfl, rfl, ih⟩
theorem chain_deep (v : Int) (i : Nat) : (chainT v i).deep = min (i + 1) 2 := by
  induction i with
  | zero => rfl
  | succ i ih => simp only [chainT, Tree.deep, ih]; omega
theorem pileT_deep (v : Int) (i : Nat) : (pileT v i).deep = i + 1 := by
  induction i with
  | zero => rfl
  | succ i ih => simp only [pileT, Tree.deep, ih]; omega
theorem one_v (v : Int) (hv : -32768 ≤ v ∧ v ≤ 32767) : oneB ⟨1, v⟩ = true := by unfold oneB Heap.vB; simp; omega
theorem chain_all (v : Int) (hv : -32768 ≤ v ∧ v ≤ 32767) (i : Nat) : (chainL v i).all oneB = true := by
  induction i using Nat.strongRecOn with
  | ind i ih =>
    match i with
    | 0 => rfl
    | 1 => simp [chainL, one_v v hv]
    | i + 2 => rw [chainL, List.all_append, ih (i + 1) (by omega)]; simp [one_v v hv]; decide
theorem pile_all (v : Int) (hv : -32768 ≤ v ∧ v ≤ 32767) (a b : Nat) : (List.replicate a (⟨1, v⟩ : Op) ++ List.replicate b (⟨4, 0⟩ : Op)).all oneB = true := by
  rw [List.all_append, List.all_eq_true.2, List.all_eq_true.2]
  · rfl
  · intro x hx; rw [List.eq_of_mem_replicate hx]; decide
  · intro x hx; rw [List.eq_of_mem_replicate hx]; exact one_v v hv
theorem chain_len (v : Int) (i : Nat) : (chainL v (i + 1)).length = 2 * i + 1 := by
  induction i with
  | zero => rfl
  | succ i ih => rw [chainL, List.length_append, ih]; simp; omega
theorem two_4 (a b : Int) (h : -2147483648 ≤ a + b ∧ a + b ≤ 2147483647) : two 4 a b = a + b := by unfold two; rw [if_pos rfl]; exact Span.sw_in _ h
theorem chain_val (v : Int) (hv : -32768 ≤ v ∧ v ≤ 32767) (h : List Heap.Cell) (rg : List Int) (i : Nat) (hi : i < 100) : (chainT v i).val h rg = (((i : Int) + 1) * v, true) := by
  induction i with
  | zero => simp [chainT, Tree.val, tellS]
  | succ i ih =>
    have e := ih (by omega)
    have h1 : -3276800 ≤ ((i : Int) + 1) * v := by
      have := Int.mul_le_mul_of_nonneg_left hv.1 (by omega : (0 : Int) ≤ (i : Int) + 1); omega
    have h2 : ((i : Int) + 1) * v ≤ 3276700 := by
      have := Int.mul_le_mul_of_nonneg_left hv.2 (by omega : (0 : Int) ≤ (i : Int) + 1); omega
    have e2 : (Tree.leaf ⟨1, v⟩).val h rg = (v, true) := by simp [Tree.val, tellS]
    show (two 4 ((chainT v i).val h rg).1 ((Tree.leaf ⟨1, v⟩).val h rg).1, ((Tree.leaf ⟨1, v⟩).val h rg).2 && ((chainT v i).val h rg).2) = _
    rw [e, e2]
    simp only [Bool.and_self]
    rw [two_4 _ _ (by omega)]
    congr 1
    rw [show ((i + 1 : Nat) : Int) + 1 = ((i : Int) + 1) + 1 from by omega, Int.add_mul (↑i + 1) 1 v, Int.one_mul]
theorem pileT_val (v : Int) (hv : -32768 ≤ v ∧ v ≤ 32767) (h : List Heap.Cell) (rg : List Int) (i : Nat) (hi : i < 100) : (pileT v i).val h rg = (((i : Int) + 1) * v, true) := by
  induction i with
  | zero => simp [pileT, Tree.val, tellS]
  | succ i ih =>
    have e := ih (by omega)
    have h1 : -3276800 ≤ ((i : Int) + 1) * v := by
      have := Int.mul_le_mul_of_nonneg_left hv.1 (by omega : (0 : Int) ≤ (i : Int) + 1); omega
    have h2 : ((i : Int) + 1) * v ≤ 3276700 := by
      have := Int.mul_le_mul_of_nonneg_left hv.2 (by omega : (0 : Int) ≤ (i : Int) + 1); omega
    have e2 : (Tree.leaf ⟨1, v⟩).val h rg = (v, true) := by simp [Tree.val, tellS]
    show (two 4 ((Tree.leaf ⟨1, v⟩).val h rg).1 ((pileT v i).val h rg).1, ((pileT v i).val h rg).2 && ((Tree.leaf ⟨1, v⟩).val h rg).2) = _
    rw [e, e2]
    simp only [Bool.and_self]
    rw [two_4 _ _ (by omega)]
    congr 1
    rw [show ((i + 1 : Nat) : Int) + 1 = ((i : Int) + 1) + 1 from by omega, Int.add_mul (↑i + 1) 1 v, Int.one_mul]; omega
/-- The operations behind all rounds of the first loop, and behind so many of the second one. -/
def longL (v : Int) (piled : Bool) (i : Nat) : List Op := if piled then List.replicate i ⟨1, v⟩ else chainL v i
theorem long_len (v : Int) (piled : Bool) (i : Nat) : (longL v piled i).length ≤ 2 * i := by
  unfold longL; cases piled
  · cases i with
    | zero => simp [chainL]
    | succ i => simp only [Bool.false_eq_true, if_false]; rw [chain_len]; omega
  · simp; omega
def longB (v : Int) (piled : Bool) (i j : Nat) : List Op := if piled then List.replicate i ⟨1, v⟩ ++ List.replicate j ⟨4, 0⟩ else chainL v i
theorem longB_len (v : Int) (piled : Bool) (i : Nat) : (longB v piled (i + 1) i).length = 2 * i + 1 := by
  unfold longB; cases piled
  · simp only [Bool.false_eq_true, if_false]; exact chain_len v i
  · simp; omega
theorem long_check (v : Int) (hv : -32768 ≤ v ∧ v ≤ 32767) (piled : Bool) (i : Nat) (hi : i < 6) : checkS (longB v piled (i + 1) i) = 0 := by
  refine check_mk _ (by rw [longB_len]; omega) (by rw [longB_len]; omega) ?_ ?_
  · unfold longB; cases piled
    · exact chain_all v hv _
    · exact pile_all v hv _ _
  · unfold longB; cases piled
    · have := tree_well (chainT v i) (chain_ok v i); rw [chain_ops] at this; exact this
    · have := tree_well (pileT v i) (pile_ok v i); rw [pile_ops] at this; exact this
theorem long_eval (v : Int) (hv : -32768 ≤ v ∧ v ≤ 32767) (piled : Bool) (i : Nat) (hi : i < 6) : evalS (longB v piled (i + 1) i) [⟨false, 0⟩] [] = (((i : Int) + 1) * v, 0) := by
  have hl := longB_len v piled i
  unfold longB at hl ⊢; cases piled
  · simp only [Bool.false_eq_true, if_false] at hl ⊢
    rw [← chain_ops] at hl ⊢
    exact tree_eval _ _ _ _ (chain_ok v i) rfl (by rw [chain_ops]; exact chain_all v hv _) (by rw [hl]; omega) (chain_val v hv _ _ i (by omega))
  · simp only [if_true] at hl ⊢
    rw [← pile_ops] at hl ⊢
    exact tree_eval _ _ _ _ (pile_ok v i) rfl (by rw [pile_ops]; exact pile_all v hv _ _) (by rw [hl]; omega) (pileT_val v hv _ _ i (by omega))
theorem long_deep (v : Int) (hv : -32768 ≤ v ∧ v ≤ 32767) (piled : Bool) (i : Nat) (hi : i < 6) : deepS (longB v piled (i + 1) i) = if piled then i + 1 else min (i + 1) 2 := by
  unfold deepS
  rw [if_pos (long_check v hv piled i hi)]
  unfold longB; cases piled
  · simp only [Bool.false_eq_true, if_false]
    rw [← chain_ops, tree_pile _ (chain_ok v i), chain_deep]; rfl
  · simp only [if_true]
    rw [← pile_ops, tree_pile _ (pile_ok v i), pileT_deep]; rfl
theorem long_big (v : Int) (piled : Bool) (h : List Heap.Cell) (rg : List Int) : evalS (longB v piled 7 6) h rg = (0, 1) ∧ deepS (longB v piled 7 6) = 0 := by
  have hl := longB_len v piled 6
  have hc : checkS (longB v piled 7 6) = 1 := check_len _ (by rw [hl]; omega)
  unfold evalS deepS
  rw [hc]; exact ⟨rfl, rfl⟩
end Go.Proofs.YtddgdhaioomnnaaGreat.Term

namespace Go.Proofs.YtddgdhaioomnnaaGreat.Term
open Go.ChangeShapes Go.WideShapes Go.ChangeAt Go.RowKit Mem

theorem own_eq {w0 w : World} {e size n : Nat} {v : Value} {xs ys : List Value} (h : Own w0 w e size v n xs) (he : xs = ys) : Own w0 w e size v n ys := he ▸ h
set_option maxRecDepth 100000 in
theorem tOp : SliceT Tryz.prog 24 57 2 16 := SliceT.mk_ (z := .agg #[.int .i64 0, .int .i64 0]) Tryz.underlying24 (by kernel_rfl) rfl (by decide)
end Go.Proofs.YtddgdhaioomnnaaGreat.Term
