/-
  THE WALK OF THE LAW ReadsStay.
-/
import Derived.Test.YtemfkjcfafenjaaReadsLaw
import Derived.Test.YtemfkjcfafenjaaReadsMore2
import Derived.Test.YtemfkjcfafenjaaReadsMore4
import Derived.Test.YtemfkjcfafenjaaStripeCode3
namespace Go.Proofs.Ytemfkjcfafenjaa.Reads
open Go.ChangeShapes Go.WideShapes Go.ChangeAt Go.RowKit Mem

set_option maxRecDepth 100000 in
set_option maxHeartbeats 4000000 in
theorem stay_walk (S : Said) (A : Option Addr) (n c : Nat) (l : List Read) (D : Option Addr) (m d : Nat) (t : List Stripe.Rec) (who other ver : Int) (E : Option Addr) (p g : Nat) (cs : List Int) (w : World)
    (hnc : n ≤ c) (mn : n ≤ 9223372036854775807) (hr : Rd w 3 A n (ds l)) (mm : m ≤ 9223372036854775807) (ht : Rd w 2 D m (Stripe.rs t)) (mp : p ≤ 9223372036854775807) (hc : Rd w 1 E p (zs cs)) :
    Calls Try.prog 5 #[.slice A n c, .slice D m d, .int .i64 who, .int .i64 other, .int .i64 ver, .slice E p g] w (RetB w true) := by
  have HS := Lib.hid S
  clear S
  by_cases h1 : 24 < n
  · go_enter Try.func5, Try.ntmps5
    go_wp2_with fail
    refine (awake_any HS.out _).mono ?_
    rintro e v1 ⟨rfl, b1⟩
    go_wp2
    go_ret
    exact ⟨rfl, b1⟩
  by_cases h2 : 16 < m
  · go_enter Try.func5, Try.ntmps5
    go_wp2_with fail
    refine (awake_any HS.out _).mono ?_
    rintro e v1 ⟨rfl, b1⟩
    go_wp2
    go_ret
    exact ⟨rfl, b1⟩
  by_cases h3 : 30 < p
  · go_enter Try.func5, Try.ntmps5
    go_wp2_with fail
    refine (awake_any HS.out _).mono ?_
    rintro e v1 ⟨rfl, b1⟩
    go_wp2
    go_ret
    exact ⟨rfl, b1⟩
  by_cases h4 : who = other
  · subst h4
    go_enter Try.func5, Try.ntmps5
    go_wp2_with fail
    refine (awake_any HS.out _).mono ?_
    rintro e v1 ⟨rfl, b1⟩
    go_wp2
    go_ret
    exact ⟨rfl, b1⟩
  have h4b : (who == other) = false := beq_eq_false_iff_ne.2 h4
  have HNE := Lib.hid h4
  clear h4
  have HL := Lib.hid (ds_len hr)
  have HM := Lib.hid (Stripe.rs_len ht)
  obtain ⟨v, hv⟩ : ∃ v, validS l t who = v := ⟨_, rfl⟩
  have HV := Lib.hid hv
  clear hv
  have bb : Below w.heap.size w w := Below.refl _ _
  go_enter Try.func5, Try.ntmps5
  go_wp2_with fail
  refine (HS.out.valid l t _ _ _ _ _ _ _ _ v hr hnc ht (by omega) (by omega) HV.out).mono ?_
  rintro e w1 ⟨rfl, b_⟩
  replace hr := hr.below b_
  replace ht := ht.below b_
  replace hc := hc.below b_
  replace bb := bl_trans bb b_
  clear b_
  by_cases hv0 : v = 0
  case neg =>
    have hv1 : (v != 0) = true := by simpa using hv0
    clear hv0 hr ht hc
    go_wp2_with fail
    refine (awake_any HS.out _).mono ?_
    rintro e w2 ⟨rfl, b_⟩
    replace bb := bl_trans bb b_
    clear b_
    go_wp2
    go_ret
    exact ⟨rfl, bb⟩
  subst hv0
  obtain ⟨⟨mi, em⟩, hmi⟩ : ∃ a, Stripe.lockS t who cs = a := ⟨_, rfl⟩
  have HMI := Lib.hid hmi
  clear hmi
  obtain ⟨⟨th, eh⟩, hth⟩ : ∃ a, Stripe.lockS t other cs = a := ⟨_, rfl⟩
  have HTH := Lib.hid hth
  clear hth
  obtain ⟨k1, k2, k3, k4⟩ := valid_parts l t who HV.out
  have H1 := Lib.hid k1
  have H2 := Lib.hid k2
  have hm0 : 0 < m := by rw [← HM.out]; exact rec_len t k2
  have hdn : ((m : Int) == 0) = false := beq_eq_false_iff_ne.2 (by omega)
  clear k1 k2 k3 k4
  go_wp2_with fail
  refine (Stripe.lock_c t cs _ _ _ _ _ _ who _ _ ht hc (by omega) (by omega) HMI.out).mono ?_
  rintro e w2 ⟨B2, d2, rfl, s2, b_⟩
  replace hr := hr.below b_
  replace ht := ht.below b_
  replace hc := hc.below b_
  replace bb := bl_trans bb b_
  clear b_
  by_cases hem : em = 0
  · subst hem
    have HVM := Lib.hid (stay_mine l t mi who cs HV.out HMI.out)
    go_wp2_with fail
    refine (HS.out.valid l mi _ _ _ _ _ _ _ _ 0 hr hnc s2 (by omega) (by omega) HVM.out).mono ?_
    rintro e w3 ⟨rfl, b_⟩
    replace hr := hr.below b_
    replace ht := ht.below b_
    replace hc := hc.below b_
    replace bb := bl_trans bb b_
    clear b_
    clear s2
    go_wp2_with fail
    refine (Stripe.lock_c t cs _ _ _ _ _ _ other _ _ ht hc (by omega) (by omega) HTH.out).mono ?_
    rintro e w4 ⟨B4, d4, rfl, s4, b_⟩
    replace hr := hr.below b_
    replace ht := ht.below b_
    replace hc := hc.below b_
    replace bb := bl_trans bb b_
    clear b_
    by_cases heh : eh = 0
    case neg =>
      have heh1 : (eh != 0) = true := by simpa using heh
      clear heh hr ht hc s4
      go_wp2_with fail
      refine (awake_any HS.out _).mono ?_
      rintro e w5 ⟨rfl, b_⟩
      replace bb := bl_trans bb b_
      clear b_
      go_wp2
      go_ret
      exact ⟨rfl, bb⟩
    subst heh
    obtain ⟨zf, hzf⟩ : ∃ z, Stripe.ofS t cs = z := ⟨_, rfl⟩
    obtain ⟨q, hq⟩ : ∃ q, zf.length = q := ⟨_, rfl⟩
    have hq1 : q ≤ 16 := by have h3 := Stripe.of_len t cs; rw [hzf] at h3; have h2 := HM.out; omega
    have HZF := Lib.hid hzf
    have HQ := Lib.hid hq
    clear hzf hq
    go_wp2_with fail
    refine (Stripe.of_c t cs _ _ _ _ _ _ _ zf q ht hc (by omega) (by omega) HZF.out HQ.out).mono ?_
    rintro e w5 ⟨B5, d5, rfl, s5, b_⟩
    replace hr := hr.below b_
    replace ht := ht.below b_
    replace s4 := s4.below b_
    replace bb := bl_trans bb b_
    clear b_
    clear hc
    have HR := Lib.hid hr
    have HT := Lib.hid ht
    have H5 := Lib.hid s5
    have H4 := Lib.hid s4
    have HBB := Lib.hid bb
    clear hr ht s5 s4 bb
    go_wp2
    go_loopw [17, 80] (fun mv i wr => ∃ k : Nat, k ≤ q ∧ i = .int .i64 k ∧ (∃ acc, mv = .bool acc ∧ Hid ((zf.take k).any (fun z => l.any (fun r => r.cell % (m : Int) == z)) = acc)) ∧ Hid (Below w5.heap.size w5 wr)) (fun _ i _ => q - (intOf i).toNat)
    case atStart => exact ⟨0, Nat.zero_le _, rfl, ⟨false, rfl, Lib.hid rfl⟩, Lib.hid (Below.refl _ _)⟩
    case round =>
      obtain ⟨k, hk, rfl, ⟨acc, rfl, HACC⟩, HB⟩ := hrel
      generalize wr = w6 at *
      by_cases hlt : k < q
      · obtain ⟨zb, zo, zx, rfl, hzx, zc0⟩ := at_z (H5.out.below HB.out) k hlt
        have hs := Lib.hid (take_any zf (fun z => l.any (fun r => r.cell % (m : Int) == z)) k _ hzx)
        clear hzx
        go_wp2
        go_loopw [17, 86] (fun mv i wq => ∃ j : Nat, j ≤ n ∧ i = .int .i64 j ∧ (∃ a2, mv = .bool a2 ∧ Hid ((acc || (l.take j).any (fun r => r.cell % (m : Int) == zx)) = a2)) ∧ Hid (Below w6.heap.size w6 wq)) (fun _ i _ => n - (intOf i).toNat)
        case atStart => exact ⟨0, Nat.zero_le _, rfl, ⟨acc, rfl, Lib.hid (by simp)⟩, Lib.hid (Below.refl _ _)⟩
        case round =>
          obtain ⟨j, hj, rfl, ⟨a2, rfl, HA2⟩, HBq⟩ := hrel
          by_cases hjn : j < n
          · obtain ⟨b, off, ⟨cl, vr, vl⟩, rfl, hx, c0, c1, c2⟩ := at_read ((HR.out.below HB.out).below HBq.out) j hjn
            have hc0 : 0 ≤ cl := one_cell _ (right_one l H1.out _ (List.mem_of_getElem? hx))
            have hs2 := Lib.hid (take_any l (fun r => r.cell % (m : Int) == zx) j _ hx)
            clear hx
            cases a2 with
            | true =>
              go_wp2
              go_roundw
              case rel => exact ⟨j + 1, by omega, by go_num, ⟨true, rfl, Lib.hid (by rw [hs2.out, ← Bool.or_assoc, HA2.out]; rfl)⟩, Lib.hid (bl_alloc HBq.out _)⟩
              case measure => simp [intOf]; omega
            | false =>
              cases he : (cl % (m : Int) == zx) with
              | true =>
                have HE := Lib.hid he
                go_wp2
                go_roundw
                case rel => exact ⟨j + 1, by omega, by go_num, ⟨true, rfl, Lib.hid (by rw [hs2.out, ← Bool.or_assoc, HA2.out]; exact HE.out)⟩, Lib.hid (bl_alloc HBq.out _)⟩
                case measure => simp [intOf]; omega
              | false =>
                have HE := Lib.hid he
                go_wp2
                go_roundw
                case rel => exact ⟨j + 1, by omega, by go_num, ⟨false, rfl, Lib.hid (by rw [hs2.out, ← Bool.or_assoc, HA2.out]; exact HE.out)⟩, Lib.hid (bl_alloc HBq.out _)⟩
                case measure => simp [intOf]; omega
          · have HN : Hid ((zf.take (k + 1)).any (fun z => l.any (fun r => r.cell % (m : Int) == z)) = a2) := Lib.hid (by
              have h3 := HA2.out
              rw [List.take_of_length_le (by rw [HL.out]; omega)] at h3
              rw [hs.out, HACC.out]; exact h3)
            go_wp2
            go_roundw
            case rel => exact ⟨k + 1, by omega, by go_num, ⟨a2, rfl, HN⟩, Lib.hid (bl_trans HB.out HBq.out)⟩
            case measure => simp [intOf]; omega
      · have HMT : Hid (meetB l t cs = acc) := Lib.hid (by
          have h3 := HACC.out
          rw [List.take_of_length_le (by rw [HQ.out]; omega)] at h3
          unfold meetB; rw [HZF.out, HM.out]; exact h3)
        have HVT : Hid (validS l th who = if acc = true then 8 else 0) := Lib.hid (by rw [← HMT.out]; exact stay_theirs l t th who other cs HNE.out HV.out HTH.out)
        obtain ⟨⟨st, es⟩, hst⟩ : ∃ a, Stripe.stampS th other ver = a := ⟨_, rfl⟩
        have HST := Lib.hid hst
        clear hst
        have hr := HR.out.below HB.out
        have s4 := H4.out.below HB.out
        have bb := bl_trans HBB.out HB.out
        cases acc with
        | true =>
          go_wp2_with fail
          refine (HS.out.valid l th _ _ _ _ _ _ _ _ 8 hr hnc s4 (by omega) (by omega) HVT.out).mono ?_
          rintro e w8 ⟨rfl, b_⟩
          replace hr := hr.below b_
          replace s4 := s4.below b_
          replace bb := bl_trans bb b_
          clear b_
          go_wp2_with fail
          refine (Stripe.stamp_c th _ _ _ _ _ _ _ s4 (by omega) HST.out).mono ?_
          rintro e w9 ⟨B9, d9, rfl, s9, b_⟩
          replace hr := hr.below b_
          replace bb := bl_trans bb b_
          clear b_
          clear s4
          by_cases hes : es = 0
          · subst hes
            have HVS : Hid (validS l st who = 8) := Lib.hid (by have h3 := stay_stamp l t th st who other ver cs HNE.out HV.out HTH.out HST.out; rw [HMT.out] at h3; exact h3)
            go_wp2_with fail
            refine (HS.out.valid l st _ _ _ _ _ _ _ _ 8 hr hnc s9 (by omega) (by omega) HVS.out).mono ?_
            rintro e w10 ⟨rfl, b_⟩
            replace bb := bl_trans bb b_
            clear b_
            clear hr
            clear s9
            go_wp2_with fail
            refine (awake_any HS.out _).mono ?_
            rintro e w11 ⟨rfl, b_⟩
            replace bb := bl_trans bb b_
            clear b_
            go_wp2
            go_ret
            exact ⟨rfl, bb⟩
          · have hes1 : (es != 0) = true := by simpa using hes
            clear hes hr s9
            go_wp2_with fail
            refine (awake_any HS.out _).mono ?_
            rintro e w11 ⟨rfl, b_⟩
            replace bb := bl_trans bb b_
            clear b_
            go_wp2
            go_ret
            exact ⟨rfl, bb⟩
        | false =>
          go_wp2_with fail
          refine (HS.out.valid l th _ _ _ _ _ _ _ _ 0 hr hnc s4 (by omega) (by omega) HVT.out).mono ?_
          rintro e w8 ⟨rfl, b_⟩
          replace hr := hr.below b_
          replace s4 := s4.below b_
          replace bb := bl_trans bb b_
          clear b_
          go_wp2_with fail
          refine (Stripe.stamp_c th _ _ _ _ _ _ _ s4 (by omega) HST.out).mono ?_
          rintro e w9 ⟨B9, d9, rfl, s9, b_⟩
          replace hr := hr.below b_
          replace bb := bl_trans bb b_
          clear b_
          clear s4
          by_cases hes : es = 0
          · subst hes
            have HVS : Hid (validS l st who = 0) := Lib.hid (by have h3 := stay_stamp l t th st who other ver cs HNE.out HV.out HTH.out HST.out; rw [HMT.out] at h3; exact h3)
            go_wp2_with fail
            refine (HS.out.valid l st _ _ _ _ _ _ _ _ 0 hr hnc s9 (by omega) (by omega) HVS.out).mono ?_
            rintro e w10 ⟨rfl, b_⟩
            replace bb := bl_trans bb b_
            clear b_
            clear hr
            clear s9
            go_wp2_with fail
            refine (awake_any HS.out _).mono ?_
            rintro e w11 ⟨rfl, b_⟩
            replace bb := bl_trans bb b_
            clear b_
            go_wp2
            go_ret
            exact ⟨rfl, bb⟩
          · have hes1 : (es != 0) = true := by simpa using hes
            clear hes hr s9
            go_wp2_with fail
            refine (awake_any HS.out _).mono ?_
            rintro e w11 ⟨rfl, b_⟩
            replace bb := bl_trans bb b_
            clear b_
            go_wp2
            go_ret
            exact ⟨rfl, bb⟩
  · have hem1 : (em == 0) = false := beq_eq_false_iff_ne.2 hem
    clear hem s2
    go_wp2_with fail
    refine (Stripe.lock_c t cs _ _ _ _ _ _ other _ _ ht hc (by omega) (by omega) HTH.out).mono ?_
    rintro e w4 ⟨B4, d4, rfl, s4, b_⟩
    replace hr := hr.below b_
    replace ht := ht.below b_
    replace hc := hc.below b_
    replace bb := bl_trans bb b_
    clear b_
    by_cases heh : eh = 0
    case neg =>
      have heh1 : (eh != 0) = true := by simpa using heh
      clear heh hr ht hc s4
      go_wp2_with fail
      refine (awake_any HS.out _).mono ?_
      rintro e w5 ⟨rfl, b_⟩
      replace bb := bl_trans bb b_
      clear b_
      go_wp2
      go_ret
      exact ⟨rfl, bb⟩
    subst heh
    obtain ⟨zf, hzf⟩ : ∃ z, Stripe.ofS t cs = z := ⟨_, rfl⟩
    obtain ⟨q, hq⟩ : ∃ q, zf.length = q := ⟨_, rfl⟩
    have hq1 : q ≤ 16 := by have h3 := Stripe.of_len t cs; rw [hzf] at h3; have h2 := HM.out; omega
    have HZF := Lib.hid hzf
    have HQ := Lib.hid hq
    clear hzf hq
    go_wp2_with fail
    refine (Stripe.of_c t cs _ _ _ _ _ _ _ zf q ht hc (by omega) (by omega) HZF.out HQ.out).mono ?_
    rintro e w5 ⟨B5, d5, rfl, s5, b_⟩
    replace hr := hr.below b_
    replace ht := ht.below b_
    replace s4 := s4.below b_
    replace bb := bl_trans bb b_
    clear b_
    clear hc
    have HR := Lib.hid hr
    have HT := Lib.hid ht
    have H5 := Lib.hid s5
    have H4 := Lib.hid s4
    have HBB := Lib.hid bb
    clear hr ht s5 s4 bb
    go_wp2
    go_loopw [17, 80] (fun mv i wr => ∃ k : Nat, k ≤ q ∧ i = .int .i64 k ∧ (∃ acc, mv = .bool acc ∧ Hid ((zf.take k).any (fun z => l.any (fun r => r.cell % (m : Int) == z)) = acc)) ∧ Hid (Below w5.heap.size w5 wr)) (fun _ i _ => q - (intOf i).toNat)
    case atStart => exact ⟨0, Nat.zero_le _, rfl, ⟨false, rfl, Lib.hid rfl⟩, Lib.hid (Below.refl _ _)⟩
    case round =>
      obtain ⟨k, hk, rfl, ⟨acc, rfl, HACC⟩, HB⟩ := hrel
      generalize wr = w6 at *
      by_cases hlt : k < q
      · obtain ⟨zb, zo, zx, rfl, hzx, zc0⟩ := at_z (H5.out.below HB.out) k hlt
        have hs := Lib.hid (take_any zf (fun z => l.any (fun r => r.cell % (m : Int) == z)) k _ hzx)
        clear hzx
        go_wp2
        go_loopw [17, 86] (fun mv i wq => ∃ j : Nat, j ≤ n ∧ i = .int .i64 j ∧ (∃ a2, mv = .bool a2 ∧ Hid ((acc || (l.take j).any (fun r => r.cell % (m : Int) == zx)) = a2)) ∧ Hid (Below w6.heap.size w6 wq)) (fun _ i _ => n - (intOf i).toNat)
        case atStart => exact ⟨0, Nat.zero_le _, rfl, ⟨acc, rfl, Lib.hid (by simp)⟩, Lib.hid (Below.refl _ _)⟩
        case round =>
          obtain ⟨j, hj, rfl, ⟨a2, rfl, HA2⟩, HBq⟩ := hrel
          by_cases hjn : j < n
          · obtain ⟨b, off, ⟨cl, vr, vl⟩, rfl, hx, c0, c1, c2⟩ := at_read ((HR.out.below HB.out).below HBq.out) j hjn
            have hc0 : 0 ≤ cl := one_cell _ (right_one l H1.out _ (List.mem_of_getElem? hx))
            have hs2 := Lib.hid (take_any l (fun r => r.cell % (m : Int) == zx) j _ hx)
            clear hx
            cases a2 with
            | true =>
              go_wp2
              go_roundw
              case rel => exact ⟨j + 1, by omega, by go_num, ⟨true, rfl, Lib.hid (by rw [hs2.out, ← Bool.or_assoc, HA2.out]; rfl)⟩, Lib.hid (bl_alloc HBq.out _)⟩
              case measure => simp [intOf]; omega
            | false =>
              cases he : (cl % (m : Int) == zx) with
              | true =>
                have HE := Lib.hid he
                go_wp2
                go_roundw
                case rel => exact ⟨j + 1, by omega, by go_num, ⟨true, rfl, Lib.hid (by rw [hs2.out, ← Bool.or_assoc, HA2.out]; exact HE.out)⟩, Lib.hid (bl_alloc HBq.out _)⟩
                case measure => simp [intOf]; omega
              | false =>
                have HE := Lib.hid he
                go_wp2
                go_roundw
                case rel => exact ⟨j + 1, by omega, by go_num, ⟨false, rfl, Lib.hid (by rw [hs2.out, ← Bool.or_assoc, HA2.out]; exact HE.out)⟩, Lib.hid (bl_alloc HBq.out _)⟩
                case measure => simp [intOf]; omega
          · have HN : Hid ((zf.take (k + 1)).any (fun z => l.any (fun r => r.cell % (m : Int) == z)) = a2) := Lib.hid (by
              have h3 := HA2.out
              rw [List.take_of_length_le (by rw [HL.out]; omega)] at h3
              rw [hs.out, HACC.out]; exact h3)
            go_wp2
            go_roundw
            case rel => exact ⟨k + 1, by omega, by go_num, ⟨a2, rfl, HN⟩, Lib.hid (bl_trans HB.out HBq.out)⟩
            case measure => simp [intOf]; omega
      · have HMT : Hid (meetB l t cs = acc) := Lib.hid (by
          have h3 := HACC.out
          rw [List.take_of_length_le (by rw [HQ.out]; omega)] at h3
          unfold meetB; rw [HZF.out, HM.out]; exact h3)
        have HVT : Hid (validS l th who = if acc = true then 8 else 0) := Lib.hid (by rw [← HMT.out]; exact stay_theirs l t th who other cs HNE.out HV.out HTH.out)
        obtain ⟨⟨st, es⟩, hst⟩ : ∃ a, Stripe.stampS th other ver = a := ⟨_, rfl⟩
        have HST := Lib.hid hst
        clear hst
        have hr := HR.out.below HB.out
        have s4 := H4.out.below HB.out
        have bb := bl_trans HBB.out HB.out
        cases acc with
        | true =>
          go_wp2_with fail
          refine (HS.out.valid l th _ _ _ _ _ _ _ _ 8 hr hnc s4 (by omega) (by omega) HVT.out).mono ?_
          rintro e w8 ⟨rfl, b_⟩
          replace hr := hr.below b_
          replace s4 := s4.below b_
          replace bb := bl_trans bb b_
          clear b_
          go_wp2_with fail
          refine (Stripe.stamp_c th _ _ _ _ _ _ _ s4 (by omega) HST.out).mono ?_
          rintro e w9 ⟨B9, d9, rfl, s9, b_⟩
          replace hr := hr.below b_
          replace bb := bl_trans bb b_
          clear b_
          clear s4
          by_cases hes : es = 0
          · subst hes
            have HVS : Hid (validS l st who = 8) := Lib.hid (by have h3 := stay_stamp l t th st who other ver cs HNE.out HV.out HTH.out HST.out; rw [HMT.out] at h3; exact h3)
            go_wp2_with fail
            refine (HS.out.valid l st _ _ _ _ _ _ _ _ 8 hr hnc s9 (by omega) (by omega) HVS.out).mono ?_
            rintro e w10 ⟨rfl, b_⟩
            replace bb := bl_trans bb b_
            clear b_
            clear hr
            clear s9
            go_wp2_with fail
            refine (awake_any HS.out _).mono ?_
            rintro e w11 ⟨rfl, b_⟩
            replace bb := bl_trans bb b_
            clear b_
            go_wp2
            go_ret
            exact ⟨rfl, bb⟩
          · have hes1 : (es != 0) = true := by simpa using hes
            clear hes hr s9
            go_wp2_with fail
            refine (awake_any HS.out _).mono ?_
            rintro e w11 ⟨rfl, b_⟩
            replace bb := bl_trans bb b_
            clear b_
            go_wp2
            go_ret
            exact ⟨rfl, bb⟩
        | false =>
          go_wp2_with fail
          refine (HS.out.valid l th _ _ _ _ _ _ _ _ 0 hr hnc s4 (by omega) (by omega) HVT.out).mono ?_
          rintro e w8 ⟨rfl, b_⟩
          replace hr := hr.below b_
          replace s4 := s4.below b_
          replace bb := bl_trans bb b_
          clear b_
          go_wp2_with fail
          refine (Stripe.stamp_c th _ _ _ _ _ _ _ s4 (by omega) HST.out).mono ?_
          rintro e w9 ⟨B9, d9, rfl, s9, b_⟩
          replace hr := hr.below b_
          replace bb := bl_trans bb b_
          clear b_
          clear s4
          by_cases hes : es = 0
          · subst hes
            have HVS : Hid (validS l st who = 0) := Lib.hid (by have h3 := stay_stamp l t th st who other ver cs HNE.out HV.out HTH.out HST.out; rw [HMT.out] at h3; exact h3)
            go_wp2_with fail
            refine (HS.out.valid l st _ _ _ _ _ _ _ _ 0 hr hnc s9 (by omega) (by omega) HVS.out).mono ?_
            rintro e w10 ⟨rfl, b_⟩
            replace bb := bl_trans bb b_
            clear b_
            clear hr
            clear s9
            go_wp2_with fail
            refine (awake_any HS.out _).mono ?_
            rintro e w11 ⟨rfl, b_⟩
            replace bb := bl_trans bb b_
            clear b_
            go_wp2
            go_ret
            exact ⟨rfl, bb⟩
          · have hes1 : (es != 0) = true := by simpa using hes
            clear hes hr s9
            go_wp2_with fail
            refine (awake_any HS.out _).mono ?_
            rintro e w11 ⟨rfl, b_⟩
            replace bb := bl_trans bb b_
            clear b_
            go_wp2
            go_ret
            exact ⟨rfl, bb⟩
end Go.Proofs.Ytemfkjcfafenjaa.Reads
