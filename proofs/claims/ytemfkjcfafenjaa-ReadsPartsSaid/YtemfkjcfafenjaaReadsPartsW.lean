/-
  THE WALK OF THE LAW ReadsParts.
-/
import Derived.Test.YtemfkjcfafenjaaReadsLaw
import Derived.Test.YtemfkjcfafenjaaReadsMore2
import Derived.Test.YtemfkjcfafenjaaReadsMore3
namespace Go.Proofs.Ytemfkjcfafenjaa.Reads
open Go.ChangeShapes Go.WideShapes Go.ChangeAt Go.RowKit Mem

theorem mod_nat (n : Nat) (x : Int) (y : Nat) (hx : x = (y : Int)) : x % (n : Int) = ((y % n : Nat) : Int) := by subst hx; rfl
set_option maxRecDepth 100000 in
set_option maxHeartbeats 4000000 in
theorem parts_walk (S : Said) (A : Option Addr) (n c : Nat) (l : List Read) (D : Option Addr) (m d : Nat) (t : List Stripe.Rec) (who : Int) (E : Option Addr) (k f : Nat) (h : List Heap.Cell) (cu by_ : Int) (w : World)
    (hnc : n ≤ c) (mn : n ≤ 9223372036854775807) (hr : Rd w 3 A n (ds l)) (mm : m ≤ 9223372036854775807) (ht : Rd w 2 D m (Stripe.rs t)) (mk : k ≤ 9223372036854775807) (hh : Rd w 2 E k (Heap.cs h)) (hcu : 0 ≤ cu ∧ cu ≤ 255) (hby : 0 ≤ by_ ∧ by_ ≤ 255) :
    Calls Try.prog 7 #[.slice A n c, .slice D m d, .int .i64 who, .slice E k f, .int .u8 cu, .int .u8 by_] w (RetB w true) := by
  have HS := Lib.hid S
  clear S
  by_cases h1 : 24 < n
  · go_enter Try.func7, Try.ntmps7
    go_wp2_with fail
    refine (awake_any HS.out _).mono ?_
    rintro e v1 ⟨rfl, b1⟩
    go_wp2
    go_ret
    exact ⟨rfl, b1⟩
  by_cases h2 : 16 < m
  · go_enter Try.func7, Try.ntmps7
    go_wp2_with fail
    refine (awake_any HS.out _).mono ?_
    rintro e v1 ⟨rfl, b1⟩
    go_wp2
    go_ret
    exact ⟨rfl, b1⟩
  by_cases h3 : 64 < k
  · go_enter Try.func7, Try.ntmps7
    go_wp2_with fail
    refine (awake_any HS.out _).mono ?_
    rintro e v1 ⟨rfl, b1⟩
    go_wp2
    go_ret
    exact ⟨rfl, b1⟩
  have HL := Lib.hid (ds_len hr)
  obtain ⟨cu0, cu1⟩ := hcu
  obtain ⟨by0, by1⟩ := hby
  obtain ⟨cn, rfl⟩ := Int.eq_ofNat_of_zero_le cu0
  obtain ⟨bn, rfl⟩ := Int.eq_ofNat_of_zero_le by0
  cases hb : rightB l with
  | false =>
    have H1 := Lib.hid hb
    clear hb
    go_enter Try.func7, Try.ntmps7
    go_wp2_with fail
    refine (HS.out.right l _ _ _ _ false hr hnc (by omega) H1.out).mono ?_
    rintro e w1 ⟨rfl, b1⟩
    go_wp2_with fail
    refine (awake_any HS.out _).mono ?_
    rintro e w2 ⟨rfl, b2⟩
    go_wp2
    go_ret
    exact ⟨rfl, bl_trans b1 b2⟩
  | true =>
    have H1 := Lib.hid hb
    clear hb
    by_cases hn0 : n = 0
    · subst hn0
      go_enter Try.func7, Try.ntmps7
      go_wp2_with fail
      refine (HS.out.right l _ _ _ _ true hr hnc (by omega) H1.out).mono ?_
      rintro e w1 ⟨rfl, b1⟩
      go_wp2_with fail
      refine (awake_any HS.out _).mono ?_
      rintro e w2 ⟨rfl, b2⟩
      go_wp2
      go_ret
      exact ⟨rfl, bl_trans b1 b2⟩
    have hdn : ((n : Int) == 0) = false := beq_eq_false_iff_ne.2 (by omega)
    have hdn1 : ((n : Int) + 1 == 0) = false := beq_eq_false_iff_ne.2 (by omega)
    have hn1 : 0 < n := by omega
    clear hn0
    obtain ⟨ab, ao, rfl, -⟩ := hr.2 hn1
    go_enter Try.func7, Try.ntmps7
    go_wp2_with fail
    refine (HS.out.right l _ _ _ _ true hr hnc (by omega) H1.out).mono ?_
    rintro e w1 ⟨rfl, bb⟩
    replace hr := hr.below bb
    replace ht := ht.below bb
    replace hh := hh.below bb
    go_wp2
    go_loopw [13, 44] (fun lv i wr => ∃ j : Nat, j ≤ n ∧ i = .int .i64 j ∧ (∃ B dd, lv = .slice B j dd ∧ j ≤ dd ∧ Hid (Rd wr 3 B j (ds (turned l bn j)))) ∧ Hid (Below w1.heap.size w1 wr)) (fun _ i _ => n - (intOf i).toNat)
    case atStart => exact ⟨0, Nat.zero_le _, rfl, ⟨none, 0, rfl, Nat.le_refl _, Lib.hid Rd.none_⟩, Lib.hid (Below.refl _ _)⟩
    case round =>
      obtain ⟨j, hj, rfl, ⟨B, dd, rfl, hjd, HR⟩, HB⟩ := hrel
      by_cases hlt : j < n
      · obtain ⟨pl, hpl⟩ : ∃ p, place n bn j = p := ⟨_, rfl⟩
        have hplt : pl < n := by rw [← hpl]; exact place_lt n bn j hlt
        have hnum : (0 : Int) ≤ (n : Int) - (j : Int) + (bn : Int) := by omega
        have hmod : ((n : Int) - (j : Int) + (bn : Int)) % (n : Int) = (pl : Int) := by
          rw [mod_nat n _ (n - j + bn) (by omega), ← hpl]; rfl
        obtain ⟨⟨cx, vx, lx⟩, hx⟩ : ∃ y, l[pl]? = some y := ⟨_, List.getElem?_eq_getElem (by rw [HL.out]; exact hplt)⟩
        obtain ⟨c0, c1, c2⟩ := cells_read (hr.below HB.out) hx
        have HA := Lib.hid (turned_add l bn j H1.out (by rw [HL.out]; exact hlt) ⟨cx, vx, lx⟩ (by rw [HL.out, hpl]; exact hx))
        clear hx hpl
        go_wp2_with fail
        refine (HS.out.add (turned l bn j) _ _ _ cx vx lx _ (turned l bn (j + 1), 0) (j + 1) HR.out hjd (by omega) HA.out (turned_len _ _ _)).mono ?_
        rintro e w3 ⟨B3, d3, z3, rfl, s3, b3⟩
        have HR3 := Lib.hid s3
        have HB3 := Lib.hid (bl_trans HB.out b3)
        clear s3 b3 c0 c1 c2
        go_wp2
        go_roundw
        case rel => exact ⟨j + 1, by omega, by go_num, ⟨B3, d3, rfl, z3, HR3⟩, HB3⟩
        case measure => simp [intOf]; omega
      · obtain rfl : j = n := by omega
        obtain ⟨kk, hkk⟩ : ∃ x, cn % (j + 1) = x := ⟨_, rfl⟩
        have hkj : kk ≤ j := by rw [← hkk]; have := Nat.mod_lt cn (show 0 < j + 1 by omega); omega
        have hkc : kk ≤ c := by omega
        have hmod : (cn : Int) % ((j : Int) + 1) = (kk : Int) := by rw [← hkk]; rfl
        clear hkk
        have hs := rd_take hr kk hkj
        have sT : Rd wr 3 B j (ds (turned l bn j)) := HR.out
        replace hr := hr.below HB.out
        replace hs := hs.below HB.out
        replace ht := ht.below HB.out
        replace hh := hh.below HB.out
        replace bb := bl_trans bb HB.out
        obtain ⟨v, hv⟩ : ∃ v, validS l t who = v := ⟨_, rfl⟩
        obtain ⟨b, hb⟩ : ∃ b, sameS l h = b := ⟨_, rfl⟩
        obtain ⟨cz, hz⟩ : ∃ z, cellsS l = z := ⟨_, rfl⟩
        obtain ⟨zq, hzq⟩ : ∃ z, cz.length = z := ⟨_, rfl⟩
        have hzq1 : zq ≤ 24 := by have h3 := cells_len l; rw [hz] at h3; have h2 := HL.out; omega
        have HV := Lib.hid hv
        have HV2 : Hid (validS (turned l bn j) t who = v) := Lib.hid (by rw [← HV.out, ← HL.out]; exact turned_valid l bn H1.out t who)
        have HSM := Lib.hid hb
        have HSM2 : Hid (sameS (turned l bn j) h = b) := Lib.hid (by rw [← HSM.out, ← HL.out]; exact turned_same l bn H1.out h)
        have HZ := Lib.hid hz
        have HZ2 : Hid (cellsS (turned l bn j) = cz) := Lib.hid (by rw [← HZ.out, ← HL.out]; exact turned_cells l bn H1.out)
        have HZQ := Lib.hid hzq
        have HV3 : Hid (v = 0 → validS (l.take kk) t who = 0) := Lib.hid (fun e => some_valid l kk t who (by rw [HV.out, e]))
        have HSM3 : Hid (b = true → sameS (l.take kk) h = true) := Lib.hid (fun e => some_same l kk h (by rw [HSM.out, e]))
        have e1 : (v != v) = false := by simp
        have e2 : (b != b) = false := by simp
        clear hv hb hz hzq HR HB
        go_wp2_with fail
        refine (HS.out.cells (turned l bn j) _ _ _ _ cz zq sT hjd (by omega) HZ2.out HZQ.out).mono ?_
        rintro e w4 ⟨B4, d4, rfl, s4, b_⟩
        replace hr := hr.below b_
        replace hs := hs.below b_
        replace ht := ht.below b_
        replace hh := hh.below b_
        replace sT := sT.below b_
        replace bb := bl_trans bb b_
        clear b_
        go_wp2_with fail
        refine (HS.out.cells l _ _ _ _ cz zq hr hnc (by omega) HZ.out HZQ.out).mono ?_
        rintro e w5 ⟨B5, d5, rfl, s5, b_⟩
        replace hr := hr.below b_
        replace hs := hs.below b_
        replace ht := ht.below b_
        replace hh := hh.below b_
        replace sT := sT.below b_
        replace s4 := s4.below b_
        replace bb := bl_trans bb b_
        clear b_
        go_wp2_with fail
        refine (numbers_b cz cz _ _ _ _ _ _ _ true s4 s5 (by omega) (by omega) (decide_eq_true rfl)).mono ?_
        rintro e w6 ⟨rfl, b_⟩
        replace hr := hr.below b_
        replace hs := hs.below b_
        replace ht := ht.below b_
        replace hh := hh.below b_
        replace sT := sT.below b_
        replace bb := bl_trans bb b_
        clear b_
        clear s4
        clear s5
        go_wp2_with fail
        refine (HS.out.valid (turned l bn j) t _ _ _ _ _ _ _ _ v sT hjd ht (by omega) (by omega) HV2.out).mono ?_
        rintro e w7 ⟨rfl, b_⟩
        replace hr := hr.below b_
        replace hs := hs.below b_
        replace ht := ht.below b_
        replace hh := hh.below b_
        replace sT := sT.below b_
        replace bb := bl_trans bb b_
        clear b_
        go_wp2_with fail
        refine (HS.out.valid l t _ _ _ _ _ _ _ _ v hr hnc ht (by omega) (by omega) HV.out).mono ?_
        rintro e w8 ⟨rfl, b_⟩
        replace hr := hr.below b_
        replace hs := hs.below b_
        replace ht := ht.below b_
        replace hh := hh.below b_
        replace sT := sT.below b_
        replace bb := bl_trans bb b_
        clear b_
        go_wp2_with fail
        refine (HS.out.same (turned l bn j) h _ _ _ _ _ _ _ b sT hjd hh (by omega) (by omega) HSM2.out).mono ?_
        rintro e w9 ⟨rfl, b_⟩
        replace hr := hr.below b_
        replace hs := hs.below b_
        replace ht := ht.below b_
        replace hh := hh.below b_
        replace bb := bl_trans bb b_
        clear b_
        clear sT
        go_wp2_with fail
        refine (HS.out.same l h _ _ _ _ _ _ _ b hr hnc hh (by omega) (by omega) HSM.out).mono ?_
        rintro e w10 ⟨rfl, b_⟩
        replace hr := hr.below b_
        replace hs := hs.below b_
        replace ht := ht.below b_
        replace hh := hh.below b_
        replace bb := bl_trans bb b_
        clear b_
        go_wp2_with fail
        refine (HS.out.valid l t _ _ _ _ _ _ _ _ v hr hnc ht (by omega) (by omega) HV.out).mono ?_
        rintro e w11 ⟨rfl, b_⟩
        replace hr := hr.below b_
        replace hs := hs.below b_
        replace ht := ht.below b_
        replace hh := hh.below b_
        replace bb := bl_trans bb b_
        clear b_
        by_cases hv0 : v = 0
        · subst hv0
          go_wp2_with fail
          refine (HS.out.valid (l.take kk) t _ _ _ _ _ _ _ _ 0 hs hkc ht (by omega) (by omega) (by have := HV3.out; simpa using this)).mono ?_
          rintro e w12 ⟨rfl, b_⟩
          replace hr := hr.below b_
          replace hs := hs.below b_
          replace ht := ht.below b_
          replace hh := hh.below b_
          replace bb := bl_trans bb b_
          clear b_
          cases b with
          | true =>
            go_wp2_with fail
            refine (HS.out.same l h _ _ _ _ _ _ _ _ hr hnc hh (by omega) (by omega) HSM.out).mono ?_
            rintro e w13 ⟨rfl, b_⟩
            replace hr := hr.below b_
            replace hs := hs.below b_
            replace ht := ht.below b_
            replace hh := hh.below b_
            replace bb := bl_trans bb b_
            clear b_
            go_wp2_with fail
            refine (HS.out.same (l.take kk) h _ _ _ _ _ _ _ true hs hkc hh (by omega) (by omega) (by have := HSM3.out; simpa using this)).mono ?_
            rintro e w14 ⟨rfl, b_⟩
            replace hr := hr.below b_
            replace hs := hs.below b_
            replace ht := ht.below b_
            replace hh := hh.below b_
            replace bb := bl_trans bb b_
            clear b_
            go_wp2_with fail
            refine (awake_any HS.out _).mono ?_
            rintro e w15 ⟨rfl, b_⟩
            replace hr := hr.below b_
            replace hs := hs.below b_
            replace ht := ht.below b_
            replace hh := hh.below b_
            replace bb := bl_trans bb b_
            clear b_
            go_wp2
            go_ret
            exact ⟨rfl, bb⟩
          | false =>
            go_wp2_with fail
            refine (HS.out.same l h _ _ _ _ _ _ _ _ hr hnc hh (by omega) (by omega) HSM.out).mono ?_
            rintro e w13 ⟨rfl, b_⟩
            replace hr := hr.below b_
            replace hs := hs.below b_
            replace ht := ht.below b_
            replace hh := hh.below b_
            replace bb := bl_trans bb b_
            clear b_
            go_wp2_with fail
            refine (awake_any HS.out _).mono ?_
            rintro e w15 ⟨rfl, b_⟩
            replace hr := hr.below b_
            replace hs := hs.below b_
            replace ht := ht.below b_
            replace hh := hh.below b_
            replace bb := bl_trans bb b_
            clear b_
            go_wp2
            go_ret
            exact ⟨rfl, bb⟩
        · have hv1 : (v != 0) = true := by simpa using hv0
          clear hv0
          cases b with
          | true =>
            go_wp2_with fail
            refine (HS.out.same l h _ _ _ _ _ _ _ _ hr hnc hh (by omega) (by omega) HSM.out).mono ?_
            rintro e w13 ⟨rfl, b_⟩
            replace hr := hr.below b_
            replace hs := hs.below b_
            replace ht := ht.below b_
            replace hh := hh.below b_
            replace bb := bl_trans bb b_
            clear b_
            go_wp2_with fail
            refine (HS.out.same (l.take kk) h _ _ _ _ _ _ _ true hs hkc hh (by omega) (by omega) (by have := HSM3.out; simpa using this)).mono ?_
            rintro e w14 ⟨rfl, b_⟩
            replace hr := hr.below b_
            replace hs := hs.below b_
            replace ht := ht.below b_
            replace hh := hh.below b_
            replace bb := bl_trans bb b_
            clear b_
            go_wp2_with fail
            refine (awake_any HS.out _).mono ?_
            rintro e w15 ⟨rfl, b_⟩
            replace hr := hr.below b_
            replace hs := hs.below b_
            replace ht := ht.below b_
            replace hh := hh.below b_
            replace bb := bl_trans bb b_
            clear b_
            go_wp2
            go_ret
            exact ⟨rfl, bb⟩
          | false =>
            go_wp2_with fail
            refine (HS.out.same l h _ _ _ _ _ _ _ _ hr hnc hh (by omega) (by omega) HSM.out).mono ?_
            rintro e w13 ⟨rfl, b_⟩
            replace hr := hr.below b_
            replace hs := hs.below b_
            replace ht := ht.below b_
            replace hh := hh.below b_
            replace bb := bl_trans bb b_
            clear b_
            go_wp2_with fail
            refine (awake_any HS.out _).mono ?_
            rintro e w15 ⟨rfl, b_⟩
            replace hr := hr.below b_
            replace hs := hs.below b_
            replace ht := ht.below b_
            replace hh := hh.below b_
            replace bb := bl_trans bb b_
            clear b_
            go_wp2
            go_ret
            exact ⟨rfl, bb⟩
end Go.Proofs.Ytemfkjcfafenjaa.Reads
