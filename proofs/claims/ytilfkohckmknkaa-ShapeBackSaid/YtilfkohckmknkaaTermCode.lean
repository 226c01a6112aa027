/-
  WHAT EACH FUNCTION OF THE LAYER term RETURNS, AS IT IS WRITTEN: rightOp, takes, pileOf, Check, Deep, ofTwo, register.
-/
import Derived.Test.YtilfkohckmknkaaTermRef5
import Derived.Test.YtilfkohckmknkaaHeapA
namespace Go.Proofs.Ytilfkohckmknkaa.Term
open Go.ChangeShapes Go.WideShapes Go.ChangeAt Go.RowKit Mem

theorem right_any (kd nn : Int) (w : World) (b : Bool) (hb : oneB ⟨kd, nn⟩ = b) :
    Calls Try.prog 56 #[.agg #[.int .i64 kd, .int .i64 nn]] w (RetBG w b) := by
  subst hb
  by_cases k1 : kd = 1
  · subst k1
    go_enter Try.func56, Try.ntmps56
    go_wp2_with (go_at_call 62; refine (Span.right_any _ _).mono ?_; rintro e w' ⟨rfl, rfl⟩)
    go_ret
    exact ⟨ret_bool rfl, (Grew.refl w).alloc _⟩
  by_cases k2 : kd = 2
  · subst k2
    rcases (by omega : (0 ≤ nn ∧ nn < 64) ∨ (0 ≤ nn ∧ ¬ nn < 64) ∨ ¬ 0 ≤ nn) with ⟨h1, h2⟩ | ⟨h1, h2⟩ | h1
    all_goals
      go_enter Try.func56, Try.ntmps56
      go_wp2
      go_ret
      exact ⟨ret_bool (by unfold oneB; simp; omega), (Grew.refl w).alloc _⟩
  by_cases k3 : kd = 3
  · subst k3
    rcases (by omega : (0 ≤ nn ∧ nn < 8) ∨ (0 ≤ nn ∧ ¬ nn < 8) ∨ ¬ 0 ≤ nn) with ⟨h1, h2⟩ | ⟨h1, h2⟩ | h1
    all_goals
      go_enter Try.func56, Try.ntmps56
      go_wp2
      go_ret
      exact ⟨ret_bool (by unfold oneB; simp; omega), (Grew.refl w).alloc _⟩
  have HK : Hid (oneB ⟨kd, nn⟩ = decide (4 ≤ kd ∧ kd ≤ 11 ∧ nn = 0)) := Lib.hid (by unfold oneB; rw [if_neg k1, if_neg k2, if_neg k3])
  have e1 : (kd == 1) = false := beq_eq_false_iff_ne.2 k1
  have e2 : (kd == 2) = false := beq_eq_false_iff_ne.2 k2
  have e3 : (kd == 3) = false := beq_eq_false_iff_ne.2 k3
  clear k1 k2 k3
  by_cases h1 : 4 ≤ kd
  · by_cases h2 : kd ≤ 11
    · by_cases h3 : nn = 0
      · have HF : Hid (oneB ⟨kd, nn⟩ = true) := Lib.hid (by rw [HK.out]; simp [h1, h2, h3])
        subst h3
        go_enter Try.func56, Try.ntmps56
        go_wp2
        go_ret
        exact ⟨ret_bool HF.out.symm, (Grew.refl w).alloc _⟩
      · have HF : Hid (oneB ⟨kd, nn⟩ = false) := Lib.hid (by rw [HK.out]; simp [h1, h2, h3])
        have e4 : (nn == 0) = false := beq_eq_false_iff_ne.2 h3
        clear h3
        go_enter Try.func56, Try.ntmps56
        go_wp2
        go_ret
        exact ⟨ret_bool HF.out.symm, (Grew.refl w).alloc _⟩
    · have HF : Hid (oneB ⟨kd, nn⟩ = false) := Lib.hid (by rw [HK.out]; simp [h2])
      go_enter Try.func56, Try.ntmps56
      go_wp2
      go_ret
      exact ⟨ret_bool HF.out.symm, (Grew.refl w).alloc _⟩
  · have HF : Hid (oneB ⟨kd, nn⟩ = false) := Lib.hid (by rw [HK.out]; simp [h1])
    go_enter Try.func56, Try.ntmps56
    go_wp2
    go_ret
    exact ⟨ret_bool HF.out.symm, (Grew.refl w).alloc _⟩



theorem takes_any (k : Int) (t : Nat) (w : World) (h1 : 1 ≤ k) (h2 : k ≤ 11) (ht : takes k = t) :
    Calls Try.prog 63 #[.int .i64 k] w fun e w' => e = .returned (.int .i64 (t : Int)) ∧ w = w' := by
  subst ht
  rcases (by omega : k = 1 ∨ k = 2 ∨ k = 3 ∨ k = 4 ∨ k = 5 ∨ k = 6 ∨ k = 7 ∨ k = 8 ∨ k = 9 ∨ k = 10 ∨ k = 11) with rfl | rfl | rfl | rfl | rfl | rfl | rfl | rfl | rfl | rfl | rfl
  all_goals
    go_enter Try.func63, Try.ntmps63
    go_wp2
    go_ret
    exact ⟨rfl, rfl⟩

/-- What is returned: the most numbers, and whether it stands well. -/
def pileR (l : List Op) : Int × Bool := match pile l 0 0 with
  | some p => ((p.2 : Int), decide (p.1 = 1))
  | none => (0, false)
theorem pile_cons (o : Op) (t : List Op) (c d : Nat) : pile (o :: t) c d = if c < takes o.kind then none else pile t (c + 1 - takes o.kind) (max d (c + 1 - takes o.kind)) := rfl
theorem pile_le : (l : List Op) → ∀ (c d : Nat) (p : Nat × Nat), pile l c d = some p → p.2 ≤ max d (c + l.length)
  | [], c, d, p, h => by simp only [pile, Option.some.injEq] at h; subst h; simp; omega
  | o :: l, c, d, p, h => by
    unfold pile at h
    split at h
    · cases h
    · have := pile_le l _ _ p h; simp only [List.length_cons]; omega
theorem pile_any (l : List Op) (A : Option Addr) (n c : Nat) (w : World) (r : Int × Bool) (hr : Rd w 2 A n (ops l)) (hn : n ≤ 1000000) (hone : l.all oneB = true) (hv : pileR l = r) :
    Calls Try.prog 57 #[.slice A n c] w (RetV w r) := by
  have HL := Lib.hid (ops_len hr)
  have HR := Lib.hid hr
  have HV := Lib.hid hv
  have HO := Lib.hid hone
  clear hr hv hone
  go_enter Try.func57, Try.ntmps57
  go_wp2
  go_loopw [2, 4, 9] (fun dv cv i wr => ∃ k ct dp : Nat, k ≤ n ∧ ct ≤ k ∧ dp ≤ k ∧ i = .int .i64 k ∧ cv = .int .i64 ct ∧ dv = .int .i64 dp ∧ Hid (Below w.heap.size w wr) ∧ Hid (pile (l.drop k) ct dp = pile l 0 0)) (fun _ _ i _ => n - (intOf i).toNat)
  case atStart => exact ⟨0, 0, 0, Nat.zero_le _, Nat.le_refl _, Nat.le_refl _, rfl, rfl, rfl, Lib.hid (Below.refl _ _), Lib.hid rfl⟩
  case round =>
    obtain ⟨k, ct, dp, hk, hck, hdk, rfl, rfl, rfl, HB, HP⟩ := hrel
    by_cases hlt : k < n
    · obtain ⟨b, off, ⟨kd, nn⟩, rfl, hx, c0, c1⟩ := at_op (HR.out.below HB.out) k hlt
      have hkd : 1 ≤ kd ∧ kd ≤ 11 := one_kind ⟨kd, nn⟩ (List.all_eq_true.1 HO.out _ (List.mem_of_getElem? hx))
      obtain ⟨hk1, hk2⟩ := hkd
      have hdr : l.drop k = ⟨kd, nn⟩ :: l.drop (k + 1) := by
        obtain ⟨hl, e⟩ := List.getElem?_eq_some_iff.1 hx
        rw [← e]; exact List.drop_eq_getElem_cons hl
      obtain ⟨t, ht⟩ : ∃ t, takes kd = t := ⟨_, rfl⟩
      have ht2 : t ≤ 2 := by rw [← ht]; exact takes_le kd
      have HT := Lib.hid ht
      rw [hdr] at HP
      have HB2 := Lib.hid (bl_alloc HB.out (.cells #[.int .i64 kd, .int .i64 nn] 50))
      clear hx hdr ht
      by_cases hc : ct < t
      · have HF : Hid (r = (0, false)) := Lib.hid (by
          rw [← HV.out]; unfold pileR; rw [← HP.out, pile_cons]
          rw [if_pos (by show ct < takes kd; rw [HT.out]; exact hc)])
        have hci : (ct : Int) < (t : Int) := by omega
        go_wp2_with (go_at_call 63; refine (takes_any kd t _ hk1 hk2 HT.out).mono ?_; rintro e w' ⟨rfl, rfl⟩)
        go_ret2
        exact ⟨by rw [HF.out]; rfl, HB2.out⟩
      · have HN : Hid (pile (l.drop (k + 1)) (ct + 1 - t) (max dp (ct + 1 - t)) = pile l 0 0) := Lib.hid (by
          have := HP.out
          rw [pile_cons] at this
          rw [if_neg (by show ¬ ct < takes kd; rw [HT.out]; exact hc)] at this
          rw [← this]; show _ = pile _ (ct + 1 - takes kd) (max dp (ct + 1 - takes kd)); rw [HT.out])
        have hci : ¬ (ct : Int) < (t : Int) := by omega
        obtain ⟨s, hs⟩ : ∃ s, s = ct + 1 - t := ⟨_, rfl⟩
        have hsi : (ct : Int) + (1 - (t : Int)) = (s : Int) := by omega
        have hsk : s ≤ k + 1 := by omega
        rw [← hs] at HN
        have HS := Lib.hid hs
        clear hs
        by_cases hm : dp < s
        · have hmi : (dp : Int) < (s : Int) := by omega
          go_wp2_with (go_at_call 63; refine (takes_any kd t _ hk1 hk2 HT.out).mono ?_; rintro e w' ⟨rfl, rfl⟩)
          go_roundw
          case rel => exact ⟨k + 1, s, s, by omega, by omega, by omega, by go_num, by go_num, by go_num, HB2, Lib.hid (by have := HN.out; rwa [Nat.max_eq_right (by omega)] at this)⟩
          case measure => simp [intOf]; omega
        · have hmi : ¬ (dp : Int) < (s : Int) := by omega
          go_wp2_with (go_at_call 63; refine (takes_any kd t _ hk1 hk2 HT.out).mono ?_; rintro e w' ⟨rfl, rfl⟩)
          go_roundw
          case rel => exact ⟨k + 1, s, dp, by omega, by omega, by omega, by go_num, by go_num, by go_num, HB2, Lib.hid (by have := HN.out; rwa [Nat.max_eq_left (by omega)] at this)⟩
          case measure => simp [intOf]; omega
    · have HE : Hid (pile l 0 0 = some (ct, dp)) := Lib.hid (by
        rw [← HP.out, List.drop_eq_nil_of_le (by rw [HL.out]; omega)]; rfl)
      have HF : Hid (r = ((dp : Int), decide (ct = 1))) := Lib.hid (by rw [← HV.out]; unfold pileR; rw [HE.out])
      by_cases h1 : ct = 1
      · have h1i : ((ct : Int) == 1) = true := by rw [h1]; rfl
        have HF2 : Hid (r = ((dp : Int), true)) := Lib.hid (by rw [HF.out, h1]; rfl)
        clear h1
        go_wp2
        go_ret2
        exact ⟨by rw [HF2.out]; rfl, HB.out⟩
      · have h1i : ((ct : Int) == 1) = false := beq_eq_false_iff_ne.2 (by omega)
        have HF2 : Hid (r = ((dp : Int), false)) := Lib.hid (by rw [HF.out, decide_eq_false h1])
        clear h1
        go_wp2
        go_ret2
        exact ⟨by rw [HF2.out]; rfl, HB.out⟩
end Go.Proofs.Ytilfkohckmknkaa.Term
