/-
  THE WALK OF THE LAW FilterSure.
-/
import Derived.Test.YtddgdhaioomnnaaFilterKit
namespace Go.Proofs.Ytddgdhaioomnnaa.Filter
open Go.ChangeShapes Go.WideShapes Go.ChangeAt Go.RowKit Mem
open Heap (Write)
open Sleep

theorem any_has (l : List Int) (a : Int) : l.any (fun z => z == a) = l.contains a := by
  rw [Bool.eq_iff_iff, List.any_eq_true, List.contains_iff_mem]
  constructor
  · rintro ⟨x, hx, e⟩
    rw [beq_iff_eq] at e; subst e; exact hx
  · intro h; exact ⟨a, h, by simp⟩
theorem map_take_w (l : List Write) (k : Nat) (x : Write) (hk : l[k]? = some x) : (l.take (k + 1)).map Write.cell = (l.take k).map Write.cell ++ [x.cell] := by
  rw [List.take_add_one, hk]; simp
set_option maxRecDepth 100000 in
set_option maxHeartbeats 16000000 in
theorem sure_walk (A D E : Option Addr) (n c m d p f : Nat) (L : List RawS) (h : List Heap.Cell) (x : List Write) (w : World) (mn : n ≤ 9223372036854775807) (mm : m ≤ 9223372036854775807) (mp : p ≤ 9223372036854775807) (hr : Sls w A n L) (hh : Rd w 2 D m (Heap.cs h)) (hx : Rd w 2 E p (Heap.ws x)) :
    Calls Try.prog 3 #[.slice A n c, .slice D m d, .slice E p f] w (RetB w true) := by
  have SL := Lib.hid hr
  have HH := Lib.hid hh
  have RX := Lib.hid hx
  have HXL : Hid (x.length = p) := Lib.hid (by have := hx.1; rw [Heap.ws_len] at this; omega)
  have HLn := Lib.hid hr.len
  have bb := Lib.hid (Below.refl w.heap.size w)
  clear hr hh hx
  have C0 := Lib.hid (small_c L A n c w (if smallB L = true then (n : Int) else -1) SL.out mn rfl)
  obtain ⟨s1_, h1⟩ : ∃ b, smallB L = b := ⟨_, rfl⟩
  cases s1_
  · rw [small_no L n h1] at C0
    go_enter Try.func3, Try.ntmps3
    go_wp2_with fail
    refine C0.out.mono ?_
    rintro e w2 ⟨rfl, b_⟩
    replace bb := Lib.hid (bl_trans bb.out b_)
    clear b_ C0
    go_wp2_with fail
    refine (awake_any _).mono ?_
    rintro e wz ⟨rfl, bz⟩
    go_wp2
    go_ret
    exact ⟨rfl, bl_trans bb.out bz⟩
  · rw [small_yes L n h1] at C0
    obtain ⟨hl, hn20⟩ := small_lim L h1
    rw [HLn.out] at hn20
    have ML := Lib.hid hl
    have t0 : decide ((n : Int) < 0) = false := by simp
    clear hl h1
    go_enter Try.func3, Try.ntmps3
    go_wp2_with fail
    refine C0.out.mono ?_
    rintro e w2 ⟨rfl, b_⟩
    replace SL := Lib.hid (SL.out.below b_)
    replace HH := Lib.hid (HH.out.below b_)
    replace RX := Lib.hid (RX.out.below b_)
    replace bb := Lib.hid (bl_trans bb.out b_)
    clear b_ C0
    by_cases h_m : 80 < m
    · go_wp2_with fail
      refine (awake_any _).mono ?_
      rintro e wz ⟨rfl, bz⟩
      go_wp2
      go_ret
      exact ⟨rfl, bl_trans bb.out bz⟩
    have l_m : m ≤ 80 := by omega
    have d_m : decide ((80 : Int) < (m : Int)) = false := by simp; omega
    clear h_m
    by_cases h_p : 40 < p
    · go_wp2_with fail
      refine (awake_any _).mono ?_
      rintro e wz ⟨rfl, bz⟩
      go_wp2
      go_ret
      exact ⟨rfl, bl_trans bb.out bz⟩
    have l_p : p ≤ 40 := by omega
    have d_p : decide ((40 : Int) < (p : Int)) = false := by simp; omega
    clear h_p
    obtain ⟨br, hbr⟩ : ∃ b, rightB (cc L) = b := ⟨_, rfl⟩
    have HBR := Lib.hid hbr
    clear hbr
    have C_ := Lib.hid (right_c L A n c w2 br SL.out (by omega) ML.out HBR.out)
    go_wp2_with fail
    refine C_.out.mono ?_
    rintro e w3 ⟨rfl, b_⟩
    replace SL := Lib.hid (SL.out.below b_)
    replace HH := Lib.hid (HH.out.below b_)
    replace RX := Lib.hid (RX.out.below b_)
    replace bb := Lib.hid (bl_trans bb.out b_)
    clear b_ C_
    cases br
    · go_wp2_with fail
      refine (awake_any _).mono ?_
      rintro e wz ⟨rfl, bz⟩
      go_wp2
      go_ret
      exact ⟨rfl, bl_trans bb.out bz⟩
    · obtain ⟨CS, hcs⟩ : ∃ C, x.map Write.cell = C := ⟨_, rfl⟩
      have HCS := Lib.hid hcs
      clear hcs
      obtain ⟨S, hS⟩ : ∃ S, restS (cc L) h CS = S := ⟨_, rfl⟩
      obtain ⟨Q, hQ⟩ : ∃ q, wokenS (cc L) h CS = q := ⟨_, rfl⟩
      obtain ⟨z, hz⟩ : ∃ z, Q.length = z := ⟨_, rfl⟩
      obtain ⟨O, hO⟩ : ∃ O, ofS (cc L) CS = O := ⟨_, rfl⟩
      obtain ⟨o, ho⟩ : ∃ z, O.length = z := ⟨_, rfl⟩
      have HLEN : Hid (S.length + z = n) := Lib.hid (by have h1 := rest_len (cc L) h CS; rw [hS, hQ, cc_len, HLn.out, hz] at h1; exact h1)
      have lo : o ≤ 20 := by have h1 := of_len (cc L) CS; rw [hO, cc_len, HLn.out, ho] at h1; omega
      have lz : z ≤ 20 := by have h1 := HLEN.out; omega
      have HS := Lib.hid hS
      have HQ := Lib.hid hQ
      have HZ := Lib.hid hz
      have HO := Lib.hid hO
      have Ho := Lib.hid ho
      clear hS hQ hz hO ho
      have HSR : Hid (rightB S = true) := Lib.hid (by rw [← HS.out, rest_right]; exact HBR.out)
      have C_ := Lib.hid (wake_c L h x A D E n c m d p f w3 S z Q SL.out (by omega) ML.out HH.out (by omega) RX.out (by omega) (by rw [HCS.out]; exact HQ.out) HZ.out (by rw [HCS.out]; exact HS.out))
      go_wp2_with fail
      refine C_.out.mono ?_
      rintro e w4 ⟨B1, n1, d1, L1, C1, f1, rfl, ta, e_, la, ra, b_⟩
      replace SL := Lib.hid (SL.out.below b_)
      replace HH := Lib.hid (HH.out.below b_)
      replace RX := Lib.hid (RX.out.below b_)
      replace bb := Lib.hid (bl_trans bb.out b_)
      have S1 := Lib.hid ta
      have E1 : Hid (cc L1 = S) := Lib.hid e_
      have M1 := Lib.hid la
      have R1 := Lib.hid ra
      have hn1 : n1 + z = n := by have h1 := sls_n ta e_; have h2 := HLEN.out; omega
      clear ta e_ la ra
      clear b_ C_
      go_wp2
      go_loopw [9, 51] (fun v i wr => ∃ j : Nat, j ≤ p ∧ i = .int .i64 j ∧ Own w4 wr 3 1 v j (zs ((x.take j).map Write.cell))) (fun _ i _ => p - (intOf i).toNat)
      case atStart => exact ⟨0, Nat.zero_le _, rfl, Own.nil_ (Below.refl _ _)⟩
      case round =>
        obtain ⟨j, hj, rfl, hown⟩ := hrel
        generalize wr = w5 at *
        by_cases hlt : j < p
        · obtain ⟨b, off, ⟨cl, vl⟩, rfl, hy, c0, c1⟩ := Heap.at_write (RX.out.below hown.2) j hlt
          have HT := Lib.hid (map_take_w x j _ hy)
          clear hy
          go_wp2_with (at_builtin; refine append_rd rfl _ _ 28 rfl Mem.tInt w4 _ _ _ rfl ((hown.alloc _).alloc _) _ 1 1 [.int .i64 cl] rfl (Rd.builtAt _ 1 1 [.int .i64 cl] _ rfl (by simp)) (one_cons rfl one_nil) (by omega) (by omega) ?_; intro v' w' hown' hg; clear hg)
          go_roundw
          case rel => exact ⟨j + 1, by omega, by go_num, by rw [HT.out, zs_app]; exact hown'⟩
          case measure => simp [intOf]; omega
        · have ho := hown
          rw [List.take_of_length_le (by rw [HXL.out]; omega), HCS.out] at ho
          obtain ⟨BC, dC, rfl, rC⟩ := ho.form
          have RC := Lib.hid rC
          have b_ := ho.2
          replace SL := Lib.hid (SL.out.below b_)
          replace HH := Lib.hid (HH.out.below b_)
          replace RX := Lib.hid (RX.out.below b_)
          replace S1 := Lib.hid (S1.out.below b_)
          replace R1 := Lib.hid (R1.out.below b_)
          replace bb := Lib.hid (bl_trans bb.out b_)
          clear b_ hown ho rC
          obtain rfl : j = p := by omega
          clear hlt
          have C_ := Lib.hid (of_c L CS A BC n c j dC w5 O o SL.out (by omega) ML.out RC.out (by omega) HO.out Ho.out)
          go_wp2_with fail
          refine C_.out.mono ?_
          rintro e w6 ⟨vo, rfl, oo⟩
          replace SL := Lib.hid (SL.out.below oo.2)
          replace HH := Lib.hid (HH.out.below oo.2)
          replace RX := Lib.hid (RX.out.below oo.2)
          replace S1 := Lib.hid (S1.out.below oo.2)
          replace R1 := Lib.hid (R1.out.below oo.2)
          replace RC := Lib.hid (RC.out.below oo.2)
          replace bb := Lib.hid (bl_trans bb.out oo.2)
          obtain ⟨BO, dO, rfl, rO⟩ := oo.form
          have RO := Lib.hid rO
          clear oo rO
          clear C_
          clear RC
          go_wp2
          go_loopw [66] (fun i wr => ∃ k : Nat, k ≤ n ∧ i = .int .i64 k ∧ Hid (Below w6.heap.size w6 wr)) (fun i _ => n - (intOf i).toNat)
          case atStart => exact ⟨0, Nat.zero_le _, rfl, Lib.hid (Below.refl _ _)⟩
          case round =>
            obtain ⟨k, hk, rfl, HB⟩ := hrel
            generalize wr = w7 at *
            by_cases hlt : k < n
            · obtain ⟨b1, off, ⟨xw, xm, xt, xA, xn, xc, xW, xB, xk, xd, xT⟩, rfl, hy, c0, c1, c2, c3, c4, hin⟩ := (SL.out.below HB.out).at_ k hlt
              have HIN : Hid (st ⟨xw, xm, xt, xA, xn, xc, xW, xB, xk, xd, xT⟩ ∈ cc L) := Lib.hid (List.mem_of_getElem? (cc_at L k _ hy))
              have HXL1 : Hid (Lim1 ⟨xw, xm, xt, xA, xn, xc, xW, xB, xk, xd, xT⟩) := Lib.hid (ML.out.at_ k _ hy)
              have HXI := Lib.hid (hin.alloc (.cells #[.int .i64 xw, .int .i64 xm, .int .i64 xt, .slice xA xn xc, .slice xB xk xd] 36))
              clear hy hin
              have KB := Lib.hid (Blk.new w7 36 #[.int .i64 xw, .int .i64 xm, .int .i64 xt, .slice xA xn xc, .slice xB xk xd])
              have HB8 := Lib.hid (bl_alloc HB.out (.cells #[.int .i64 xw, .int .i64 xm, .int .i64 xt, .slice xA xn xc, .slice xB xk xd] 36))
              have HOF : Hid (O.contains xw = seesB xW CS) := Lib.hid (by rw [← HO.out]; exact sure_of (cc L) CS HBR.out _ HIN.out)
              have HWK : Hid (Q.contains xw = (seesB xW CS && mayS (st ⟨xw, xm, xt, xA, xn, xc, xW, xB, xk, xd, xT⟩) h)) := Lib.hid (by rw [← HQ.out]; exact sure_woken (cc L) h CS HBR.out _ HIN.out)
              have HFN : Hid (((findS S xw).2 == 0) = !(seesB xW CS && mayS (st ⟨xw, xm, xt, xA, xn, xc, xW, xB, xk, xd, xT⟩) h)) := Lib.hid (by rw [← HS.out]; exact sure_find (cc L) h CS HBR.out _ HIN.out)
              go_wp2_with fail
              clear c0 c1 c2 c3 c4
              generalize w7.alloc (.cells #[.int .i64 xw, .int .i64 xm, .int .i64 xt, .slice xA xn xc, .slice xB xk xd] 36) = w8 at *
              go_loopw [15, 72] (fun v i wr => ∃ (k : Nat) (mt : Bool), k ≤ o ∧ v = .bool mt ∧ i = .int .i64 k ∧ Hid (Below w8.heap.size w8 wr) ∧ Hid ((O.take k).any (fun z => z == xw) = mt)) (fun _ i _ => o - (intOf i).toNat)
              case atStart => exact ⟨0, false, Nat.zero_le _, rfl, rfl, Lib.hid (Below.refl _ _), Lib.hid rfl⟩
              case round =>
                obtain ⟨kwa, wa, hkwa, rfl, rfl, HC, HMT⟩ := hrel
                generalize wr = vwa at *
                have HBv := Lib.hid (bl_trans HB8.out HC.out)
                have q0 := (KB.out.below HC.out).cell 0 _ rfl
                by_cases hlk : kwa < o
                · obtain ⟨b2, off2, y, rfl, hy, d0⟩ := at_z (RO.out.below HBv.out) kwa hlk
                  have HT := Lib.hid (take_any O (fun z => z == xw) kwa _ hy)
                  clear hy
                  cases wa
                  · obtain ⟨e, he⟩ : ∃ e, (y == xw) = e := ⟨_, rfl⟩
                    have HN : Hid ((O.take (kwa + 1)).any (fun z => z == xw) = e) := Lib.hid (by rw [HT.out, HMT.out, ← he]; rfl)
                    go_wp2
                    go_roundw
                    case rel => exact ⟨kwa + 1, e, by omega, by first | rfl | simp [he], by go_num, HC, HN⟩
                    case measure => simp [intOf]; omega
                  · have HN : Hid ((O.take (kwa + 1)).any (fun z => z == xw) = true) := Lib.hid (by rw [HT.out, HMT.out]; rfl)
                    go_wp2
                    go_roundw
                    case rel => exact ⟨kwa + 1, true, by omega, rfl, by go_num, HC, HN⟩
                    case measure => simp [intOf]; omega
                · have HAN : Hid (O.contains xw = wa) := Lib.hid (by have h5 := HMT.out; rw [List.take_of_length_le (by rw [Ho.out]; omega), any_has] at h5; exact h5)
                  have HBX_wa := HBv
                  have KB_wa := Lib.hid (KB.out.below HC.out)
                  have HXI_wa := Lib.hid (HXI.out.below HC.out)
                  have HA_wa := HAN
                  clear HAN HMT HC HBv
                  replace KB := KB_wa
                  replace HB8 := HBX_wa
                  replace HXI := HXI_wa
                  clear KB_wa HBX_wa HXI_wa
                  clear q0
                  go_wp2_with fail
                  clear hlk
                  go_loopw [16, 86] (fun v i wr => ∃ (k : Nat) (mt : Bool), k ≤ z ∧ v = .bool mt ∧ i = .int .i64 k ∧ Hid (Below vwa.heap.size vwa wr) ∧ Hid ((Q.take k).any (fun z => z == xw) = mt)) (fun _ i _ => z - (intOf i).toNat)
                  case atStart => exact ⟨0, false, Nat.zero_le _, rfl, rfl, Lib.hid (Below.refl _ _), Lib.hid rfl⟩
                  case round =>
                    obtain ⟨kwo, wo, hkwo, rfl, rfl, HC, HMT⟩ := hrel
                    generalize wr = vwo at *
                    have HBv := Lib.hid (bl_trans HB8.out HC.out)
                    have q0 := (KB.out.below HC.out).cell 0 _ rfl
                    by_cases hlk : kwo < z
                    · obtain ⟨b2, off2, y, rfl, hy, d0⟩ := at_z (R1.out.below HBv.out) kwo hlk
                      have HT := Lib.hid (take_any Q (fun z => z == xw) kwo _ hy)
                      clear hy
                      cases wo
                      · obtain ⟨e, he⟩ : ∃ e, (y == xw) = e := ⟨_, rfl⟩
                        have HN : Hid ((Q.take (kwo + 1)).any (fun z => z == xw) = e) := Lib.hid (by rw [HT.out, HMT.out, ← he]; rfl)
                        go_wp2
                        go_roundw
                        case rel => exact ⟨kwo + 1, e, by omega, by first | rfl | simp [he], by go_num, HC, HN⟩
                        case measure => simp [intOf]; omega
                      · have HN : Hid ((Q.take (kwo + 1)).any (fun z => z == xw) = true) := Lib.hid (by rw [HT.out, HMT.out]; rfl)
                        go_wp2
                        go_roundw
                        case rel => exact ⟨kwo + 1, true, by omega, rfl, by go_num, HC, HN⟩
                        case measure => simp [intOf]; omega
                    · have HAN : Hid (Q.contains xw = wo) := Lib.hid (by have h5 := HMT.out; rw [List.take_of_length_le (by rw [HZ.out]; omega), any_has] at h5; exact h5)
                      have HBX_wo := HBv
                      have KB_wo := Lib.hid (KB.out.below HC.out)
                      have HXI_wo := Lib.hid (HXI.out.below HC.out)
                      have HA_wo := HAN
                      clear HAN HMT HC HBv
                      replace KB := KB_wo
                      replace HB8 := HBX_wo
                      replace HXI := HXI_wo
                      clear KB_wo HBX_wo HXI_wo
                      rw [HOF.out] at HA_wa
                      rw [HWK.out] at HA_wo
                      obtain ⟨⟨s, e1⟩, hfs⟩ : ∃ r, findS S xw = r := ⟨_, rfl⟩
                      have HFS := Lib.hid hfs
                      have HE1 : Hid ((e1 == 0) = !wo) := Lib.hid (by have h1 := HFN.out; rw [hfs, HA_wo.out] at h1; exact h1)
                      clear hfs
                      have C_ := Lib.hid (findS_c L1 B1 n1 d1 xw vwo (s, e1) (S1.out.below HB8.out) (by omega) M1.out (by rw [E1.out]; exact HFS.out))
                      go_wp2_with fail
                      clear q0 hlk
                      refine C_.out.mono ?_
                      rintro e_ u1 ⟨⟨yw, ym, yt, yA, yn, yc, yW, yB, yk, yd, yT⟩, rfl, -, -, -, b_⟩
                      have HB9 := Lib.hid (bl_alloc (bl_trans HB8.out b_) (.cells #[.int .i64 yw, .int .i64 ym, .int .i64 yt, .slice yA yn yc, .slice yB yk yd] 36))
                      have KB9 := Lib.hid ((KB.out.below b_).alloc (.cells #[.int .i64 yw, .int .i64 ym, .int .i64 yt, .slice yA yn yc, .slice yB yk yd] 36))
                      have HX9 := Lib.hid ((HXI.out.below b_).alloc (.cells #[.int .i64 yw, .int .i64 ym, .int .i64 yt, .slice yA yn yc, .slice yB yk yd] 36))
                      clear b_ C_
                      simp only [cS]
                      cases wa
                      · obtain rfl : wo = false := by have h1 := HA_wo.out; rw [HA_wa.out] at h1; exact h1.symm
                        have t1 : (e1 == 0) = true := HE1.out
                        have HEND := HB9
                        go_wp2
                        go_roundw
                        case rel => exact ⟨k + 1, by omega, by go_num, HEND⟩
                        case measure => simp [intOf]; omega
                      · have HMY : Hid (mayS (st ⟨xw, xm, xt, xA, xn, xc, xW, xB, xk, xd, xT⟩) h = wo) := Lib.hid (by have h1 := HA_wo.out; rw [HA_wa.out] at h1; exact h1)
                        obtain ⟨u2, hu2⟩ : ∃ u2, u2 = u1.alloc (.cells #[.int .i64 yw, .int .i64 ym, .int .i64 yt, .slice yA yn yc, .slice yB yk yd] 36) := ⟨_, rfl⟩
                        rw [← hu2] at HB9 KB9 HX9
                        have C_ := Lib.hid (may_c ⟨xw, xm, xt, xA, xn, xc, xW, xB, xk, xd, xT⟩ h D m d u2 wo HX9.out HXL1.out (HH.out.below HB9.out) (by omega) HMY.out)
                        simp only [cS] at C_
                        have q0 := KB9.out.cell 0 _ rfl
                        have q1 := KB9.out.cell 1 _ rfl
                        have q2 := KB9.out.cell 2 _ rfl
                        have q3 := KB9.out.cell 3 _ rfl
                        have q4 := KB9.out.cell 4 _ rfl
                        rw [hu2] at q0 q1 q2 q3 q4
                        go_wp2_with fail
                        rw [← hu2]
                        clear hu2 q0 q1 q2 q3 q4
                        refine C_.out.mono ?_
                        rintro e_ u3 ⟨rfl, b_⟩
                        have HEND := Lib.hid (bl_trans HB9.out b_)
                        clear b_ C_
                        cases wo
                        · have t1 : (e1 == 0) = true := HE1.out
                          go_wp2
                          go_roundw
                          case rel => exact ⟨k + 1, by omega, by go_num, HEND⟩
                          case measure => simp [intOf]; omega
                        · have t1 : (e1 == 0) = false := HE1.out
                          go_wp2
                          go_roundw
                          case rel => exact ⟨k + 1, by omega, by go_num, HEND⟩
                          case measure => simp [intOf]; omega
            · have b_ := HB.out
              replace SL := Lib.hid (SL.out.below b_)
              replace HH := Lib.hid (HH.out.below b_)
              replace RX := Lib.hid (RX.out.below b_)
              replace S1 := Lib.hid (S1.out.below b_)
              replace R1 := Lib.hid (R1.out.below b_)
              replace RO := Lib.hid (RO.out.below b_)
              replace bb := Lib.hid (bl_trans bb.out b_)
              clear b_
              obtain rfl : k = n := by omega
              have tz : ((n1 : Int) + (z : Int) == (k : Int)) = true := by simp; omega
              go_wp2_with fail
              refine (awake_any _).mono ?_
              rintro e wz ⟨rfl, bz⟩
              go_wp2
              go_ret
              exact ⟨rfl, bl_trans bb.out bz⟩
end Go.Proofs.Ytddgdhaioomnnaa.Filter
