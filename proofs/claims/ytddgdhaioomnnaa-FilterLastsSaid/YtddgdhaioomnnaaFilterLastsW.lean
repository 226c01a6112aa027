/-
  THE WALK OF THE LAW FilterLasts.
-/
import Derived.Test.YtddgdhaioomnnaaFilterKit
import Derived.Test.YtddgdhaioomnnaaHeapA
import Derived.BigQuiet
import Derived.StillTailTactics
namespace Go.Proofs.Ytddgdhaioomnnaa.Filter
open Go.ChangeShapes Go.WideShapes Go.ChangeAt Go.RowKit Mem
open Heap (Write)
open Sleep

set_option maxRecDepth 100000 in
set_option maxHeartbeats 16000000 in
theorem lasts_walk (D E : Option Addr) (m d p f : Nat) (x : RawS) (h : List Heap.Cell) (u : List Write) (w : World) (mm : m ≤ 9223372036854775807) (mp : p ≤ 9223372036854775807) (hx : Inner w x) (hh : Rd w 2 D m (Heap.cs h)) (hu : Rd w 2 E p (Heap.ws u)) :
    Calls Try.prog 4 #[.agg (cS x), .slice D m d, .slice E p f] w (RetB w true) := by
  have IX := Lib.hid hx
  have HH := Lib.hid hh
  have RU := Lib.hid hu
  have HUL : Hid (u.length = p) := Lib.hid (by have := hu.1; rw [Heap.ws_len] at this; omega)
  have bb := Lib.hid (Below.refl w.heap.size w)
  clear hx hh hu
  obtain ⟨xw, xm, xt, xA, xn, xc, xW, xB, xk, xd, xT⟩ := x
  obtain ⟨w1, hw1⟩ : ∃ w1, w1 = w.alloc (.cells #[.int .i64 xw, .int .i64 xm, .int .i64 xt, .slice xA xn xc, .slice xB xk xd] 36) := ⟨_, rfl⟩
  obtain ⟨w2, hw2⟩ : ∃ w2, w2 = w1.alloc (.cells #[.int .i64 xw, .int .i64 xm, .int .i64 xt, .slice xA xn xc, .slice xB xk xd] 36) := ⟨_, rfl⟩
  have KX : Hid (Blk w2 w.heap.size 36 #[.int .i64 xw, .int .i64 xm, .int .i64 xt, .slice xA xn xc, .slice xB xk xd]) := Lib.hid (by rw [hw2, hw1]; exact (Blk.new _ _ _).alloc _)
  have b_ : Below w.heap.size w w2 := by rw [hw2, hw1]; exact bl_alloc (bl_alloc (Below.refl _ _) _) _
  replace IX := Lib.hid (IX.out.below b_)
  replace HH := Lib.hid (HH.out.below b_)
  replace RU := Lib.hid (RU.out.below b_)
  replace bb := Lib.hid (bl_trans bb.out b_)
  clear b_
  have SS : Hid (Sls w2 (some ⟨w.heap.size + 1, 0, none⟩) 1 [⟨xw, xm, xt, xA, xn, xc, xW, xB, xk, xd, xT⟩]) := Lib.hid ⟨by rw [hw2]; exact Rd.builtAt w1 5 1 (ss [⟨xw, xm, xt, xA, xn, xc, xW, xB, xk, xd, xT⟩]) _ rfl (by rw [hw1, World.size_alloc]), Inners.one IX.out⟩
  have KA := Blk.new w 36 #[.int .i64 xw, .int .i64 xm, .int .i64 xt, .slice xA xn xc, .slice xB xk xd]
  rw [← hw1] at KA
  have q0 := KA.cell 0 _ rfl
  have q1 := KA.cell 1 _ rfl
  have q2 := KA.cell 2 _ rfl
  have q3 := KA.cell 3 _ rfl
  have q4 := KA.cell 4 _ rfl
  rw [hw1] at q0 q1 q2 q3 q4
  clear KA
  have C0 := Lib.hid (small_c [⟨xw, xm, xt, xA, xn, xc, xW, xB, xk, xd, xT⟩] (some ⟨w.heap.size + 1, 0, none⟩) 1 1 w2 (if smallB [⟨xw, xm, xt, xA, xn, xc, xW, xB, xk, xd, xT⟩] = true then ((1 : Nat) : Int) else -1) SS.out (by decide) rfl)
  simp only [cS]
  obtain ⟨s1_, h1⟩ : ∃ b, smallB [⟨xw, xm, xt, xA, xn, xc, xW, xB, xk, xd, xT⟩] = b := ⟨_, rfl⟩
  cases s1_
  · rw [small_no [⟨xw, xm, xt, xA, xn, xc, xW, xB, xk, xd, xT⟩] 1 h1] at C0
    go_enter Try.func4, Try.ntmps4
    go_wp2_with fail
    rw [← hw1, ← hw2]
    clear hw1 hw2 q0 q1 q2 q3 q4 SS
    refine C0.out.mono ?_
    rintro e w3 ⟨rfl, b_⟩
    replace bb := Lib.hid (bl_trans bb.out b_)
    clear b_ C0
    go_wp2_with fail
    refine (awake_any _).mono ?_
    rintro e wz ⟨rfl, bz⟩
    go_wp2
    go_ret
    exact ⟨rfl, bl_trans bb.out bz⟩
  · rw [small_yes [⟨xw, xm, xt, xA, xn, xc, xW, xB, xk, xd, xT⟩] 1 h1] at C0
    have LX := Lib.hid (small_one _ h1)
    clear h1
    go_enter Try.func4, Try.ntmps4
    go_wp2_with fail
    rw [← hw1, ← hw2]
    clear hw1 hw2 q0 q1 q2 q3 q4 SS
    refine C0.out.mono ?_
    rintro e w3 ⟨rfl, b_⟩
    replace IX := Lib.hid (IX.out.below b_)
    replace HH := Lib.hid (HH.out.below b_)
    replace RU := Lib.hid (RU.out.below b_)
    replace KX := Lib.hid (KX.out.below b_)
    replace bb := Lib.hid (bl_trans bb.out b_)
    clear b_ C0
    by_cases h_m : 64 < m
    · go_wp2_with fail
      refine (awake_any _).mono ?_
      rintro e wz ⟨rfl, bz⟩
      go_wp2
      go_ret
      exact ⟨rfl, bl_trans bb.out bz⟩
    have l_m : m ≤ 64 := by omega
    have d_m : decide ((64 : Int) < (m : Int)) = false := by simp; omega
    clear h_m
    by_cases h_p : 40 < p
    · go_wp2_with fail
      refine (awake_any _).mono ?_
      rintro e wz ⟨rfl, bz⟩
      go_wp2
      go_ret
      exact ⟨rfl, bl_trans bb.out bz⟩
    have l_p : p ≤ 40 := by omega
    have d_p : decide ((40 : Int) < (p : Int)) = false := by simp; omega
    clear h_p
    have q1 := KX.out.cell 1 _ rfl
    by_cases m1 : xm = 1
    · subst m1
      go_wp2_with fail
      refine (awake_any _).mono ?_
      rintro e wz ⟨rfl, bz⟩
      go_wp2
      go_ret
      exact ⟨rfl, bl_trans bb.out bz⟩
    · have t1 : (xm == 1) = false := by simpa using m1
      have M1 := Lib.hid m1
      clear m1
      obtain ⟨⟨R, er⟩, hre⟩ : ∃ r, lieS [] (st ⟨xw, xm, xt, xA, xn, xc, xW, xB, xk, xd, xT⟩) h = r := ⟨_, rfl⟩
      have HRE := Lib.hid hre
      clear hre
      have q0 := KX.out.cell 0 _ rfl
      have q2 := KX.out.cell 2 _ rfl
      have q3 := KX.out.cell 3 _ rfl
      have q4 := KX.out.cell 4 _ rfl
      have C_ := Lib.hid (lie_c [] ⟨xw, xm, xt, xA, xn, xc, xW, xB, xk, xd, xT⟩ h none D 0 0 m d w3 (R, er) Sls.none_ (by decide) Lim.nil_ IX.out LX.out HH.out (by omega) HRE.out)
      simp only [cS] at C_
      go_wp2_with fail
      clear q0 q1 q2 q3 q4
      refine C_.out.mono ?_
      rintro e w4 ⟨BL, nl, dl, LL, rfl, ta, e_, la, b_⟩
      replace IX := Lib.hid (IX.out.below b_)
      replace HH := Lib.hid (HH.out.below b_)
      replace RU := Lib.hid (RU.out.below b_)
      replace KX := Lib.hid (KX.out.below b_)
      replace bb := Lib.hid (bl_trans bb.out b_)
      have SL := Lib.hid ta
      have EL : Hid (cc LL = R) := Lib.hid e_
      have ML := Lib.hid la
      clear ta e_ la
      clear b_ C_
      by_cases he : er = 0
      · subst he
        obtain ⟨g1, g2, g3, g4⟩ := lie_nil (st ⟨xw, xm, xt, xA, xn, xc, xW, xB, xk, xd, xT⟩) h (by rw [HRE.out])
        rw [HRE.out] at g1
        have HR : R = [st ⟨xw, xm, xt, xA, xn, xc, xW, xB, xk, xd, xT⟩] := congrArg Prod.fst g1
        have EL1 : Hid (cc LL = [st ⟨xw, xm, xt, xA, xn, xc, xW, xB, xk, xd, xT⟩]) := Lib.hid (by rw [EL.out, HR])
        obtain rfl : nl = 1 := by have h1 := sls_n SL.out EL.out; rw [HR] at h1; exact h1
        have ON := Lib.hid g2
        have HRI := Lib.hid g3
        have HMF : Hid (mayS (st ⟨xw, xm, xt, xA, xn, xc, xW, xB, xk, xd, xT⟩) h = false) := Lib.hid (g4.resolve_left M1.out)
        clear g1 g2 g3 g4 HR EL
        have q0 := KX.out.cell 0 _ rfl
        have q1 := KX.out.cell 1 _ rfl
        have q2 := KX.out.cell 2 _ rfl
        have q3 := KX.out.cell 3 _ rfl
        have q4 := KX.out.cell 4 _ rfl
        have C_ := Lib.hid (may_c ⟨xw, xm, xt, xA, xn, xc, xW, xB, xk, xd, xT⟩ h D m d w4 false IX.out LX.out HH.out (by omega) HMF.out)
        simp only [cS] at C_
        go_wp2_with fail
        clear q0 q1 q2 q3 q4
        refine C_.out.mono ?_
        rintro e w5 ⟨rfl, b_⟩
        replace IX := Lib.hid (IX.out.below b_)
        replace HH := Lib.hid (HH.out.below b_)
        replace RU := Lib.hid (RU.out.below b_)
        replace KX := Lib.hid (KX.out.below b_)
        replace SL := Lib.hid (SL.out.below b_)
        replace bb := Lib.hid (bl_trans bb.out b_)
        clear b_ C_
        go_wp2
        go_loopw [7, 9, 56] (fun v a i wr => ∃ (j : Nat) (BG : Option Addr) (dG : Nat) (G : List Heap.Cell) (BS : Option Addr) (dS : Nat) (LS : List RawS), j ≤ p ∧ v = .slice BS 1 dS ∧ a = .slice BG m dG ∧ i = .int .i64 j ∧ Hid (Rd wr 2 BG m (Heap.cs G)) ∧ Hid (Sls wr BS 1 LS) ∧ Hid (cc LS = [st ⟨xw, xm, xt, xA, xn, xc, xW, xB, xk, xd, xT⟩]) ∧ Hid (Lim LS) ∧ Hid (Heap.rightB G = true) ∧ Hid (mayS (st ⟨xw, xm, xt, xA, xn, xc, xW, xB, xk, xd, xT⟩) G = false) ∧ Hid (Below w5.heap.size w5 wr)) (fun _ _ i _ => p - (intOf i).toNat)
        case atStart => exact ⟨0, D, d, h, BL, dl, LL, Nat.zero_le _, rfl, rfl, rfl, HH, SL, EL1, ML, HRI, HMF, Lib.hid (Below.refl _ _)⟩
        case round =>
          obtain ⟨j, BG, dG, G, BS, dS, LS, hj, rfl, rfl, rfl, RG, SG, EG, MG, HG, HMG, HB⟩ := hrel
          generalize wr = w6 at *
          by_cases hlt : j < p
          · obtain ⟨b1, off, ⟨cl, vl⟩, rfl, hy, c0, c1⟩ := Heap.at_write (RU.out.below HB.out) j hlt
            clear hy
            obtain ⟨w7, hw7⟩ : ∃ v, v = w6.alloc (.cells #[.int .i64 cl, .int .i64 vl] 32) := ⟨_, rfl⟩
            obtain ⟨w8, hw8⟩ : ∃ v, v = w7.alloc (.cells #[.int .i64 cl, .int .i64 vl] 32) := ⟨_, rfl⟩
            have KW : Hid (Blk w8 w6.heap.size 32 #[.int .i64 cl, .int .i64 vl]) := Lib.hid (by rw [hw8, hw7]; exact (Blk.new _ _ _).alloc _)
            have KA := Blk.new w6 32 #[.int .i64 cl, .int .i64 vl]
            rw [← hw7] at KA
            have e0 := KA.cell 0 _ rfl
            have e1 := KA.cell 1 _ rfl
            rw [hw7] at e0 e1
            clear KA
            have HB8 : Hid (Below w5.heap.size w5 w8) := Lib.hid (by rw [hw8, hw7]; exact bl_alloc (bl_alloc HB.out _) _)
            have RG8 : Hid (Rd w8 2 BG m (Heap.cs G)) := Lib.hid (by rw [hw8, hw7]; exact (RG.out.alloc _).alloc _)
            have SG8 : Hid (Sls w8 BS 1 LS) := Lib.hid (by rw [hw8, hw7]; exact (SG.out.alloc _).alloc _)
            have RV : Hid (Rd w8 2 (some ⟨w6.heap.size + 1, 0, none⟩) 1 (Heap.ws [⟨cl, vl⟩])) := Lib.hid (by rw [hw8]; exact Rd.builtAt w7 2 1 (Heap.ws [⟨cl, vl⟩]) _ rfl (by rw [hw7, World.size_alloc]))
            obtain ⟨⟨NX, e⟩, hp⟩ : ∃ r, Heap.putS G [⟨cl, vl⟩] = r := ⟨_, rfl⟩
            have HP := Lib.hid hp
            clear hp
            have C_ := Lib.hid (Heap.put_c G [⟨cl, vl⟩] BG (some ⟨w6.heap.size + 1, 0, none⟩) m dG 1 1 w8 (NX, e) RG8.out RV.out (by omega) (by decide) HP.out)
            go_wp2_with fail
            rw [← hw7, ← hw8]
            clear hw7 hw8 e0 e1 c0 c1
            refine C_.out.mono ?_
            rintro e_ w9 ⟨BN, dN, rfl, rn, b_⟩
            have RN := Lib.hid rn
            have HB9 := Lib.hid (bl_trans HB8.out b_)
            have RG9 := Lib.hid (RG8.out.below b_)
            have SG9 := Lib.hid (SG8.out.below b_)
            have KW9 := Lib.hid (KW.out.below b_)
            clear rn b_ C_ RG8 SG8 KW HB8 RV
            by_cases he : e = 0
            · subst he
              obtain ⟨k_, -, -, -, -, hnr, -⟩ := put_one_ok G ⟨cl, vl⟩ NX HG.out HP.out
              have HNR := Lib.hid hnr
              clear hnr
              have HWK := Lib.hid (last_sees (st ⟨xw, xm, xt, xA, xn, xc, xW, xB, xk, xd, xT⟩) G ⟨cl, vl⟩ NX ON.out M1.out HG.out HP.out HMG.out)
              obtain ⟨g1, hg1⟩ : ∃ g, mayS (st ⟨xw, xm, xt, xA, xn, xc, xW, xB, xk, xd, xT⟩) NX = g := ⟨_, rfl⟩
              have HG1 := Lib.hid hg1
              clear hg1
              have HQ : Hid (wokenS (cc LS) NX [cl] = if g1 = true then [xw] else []) := Lib.hid (by rw [EG.out, woken_one _ _ _ ON.out, show wakeB NX [cl] (st ⟨xw, xm, xt, xA, xn, xc, xW, xB, xk, xd, xT⟩) = g1 from HWK.out.trans HG1.out]; rfl)
              have HS : Hid (restS (cc LS) NX [cl] = if g1 = true then [] else [st ⟨xw, xm, xt, xA, xn, xc, xW, xB, xk, xd, xT⟩]) := Lib.hid (by rw [EG.out, rest_one _ _ _ ON.out, show wakeB NX [cl] (st ⟨xw, xm, xt, xA, xn, xc, xW, xB, xk, xd, xT⟩) = g1 from HWK.out.trans HG1.out])
              obtain ⟨w10, hw10⟩ : ∃ v, v = w9.alloc (.cells #[.int .i64 cl, .int .i64 vl] 32) := ⟨_, rfl⟩
              have RV : Hid (Rd w10 2 (some ⟨w9.heap.size, 0, none⟩) 1 (Heap.ws [⟨cl, vl⟩])) := Lib.hid (by rw [hw10]; exact Rd.built w9 2 1 (Heap.ws [⟨cl, vl⟩]) _ rfl)
              have HB10 : Hid (Below w5.heap.size w5 w10) := Lib.hid (by rw [hw10]; exact bl_alloc HB9.out _)
              have RN10 : Hid (Rd w10 2 BN m (Heap.cs NX)) := Lib.hid (by rw [hw10]; exact RN.out.alloc _)
              have SG10 : Hid (Sls w10 BS 1 LS) := Lib.hid (by rw [hw10]; exact SG9.out.alloc _)
              have e0 := KW9.out.cell 0 _ rfl
              have e1 := KW9.out.cell 1 _ rfl
              cases g1
              · have C_ := Lib.hid (wake_c LS NX [⟨cl, vl⟩] BS BN (some ⟨w9.heap.size, 0, none⟩) 1 dS m dN 1 1 w10 [st ⟨xw, xm, xt, xA, xn, xc, xW, xB, xk, xd, xT⟩] 0 [] SG10.out (by decide) MG.out RN10.out (by omega) RV.out (by decide) (by exact HQ.out) rfl (by exact HS.out))
                go_wp2_with fail
                rw [← hw10]
                clear hw10 e0 e1
                refine C_.out.mono ?_
                rintro e_ w11 ⟨BM, nm, dM, LM, BQ, dQ, rfl, tm, em, lm, rq, b_⟩
                obtain rfl : nm = 1 := sls_n tm em
                have SM := Lib.hid tm
                have EM : Hid (cc LM = [st ⟨xw, xm, xt, xA, xn, xc, xW, xB, xk, xd, xT⟩]) := Lib.hid em
                have MM := Lib.hid lm
                have RQ := Lib.hid rq
                have HB11 := Lib.hid (bl_trans HB10.out b_)
                have RN11 := Lib.hid (RN10.out.below b_)
                clear tm em lm rq b_ C_
                have KY := KX.out.below HB11.out
                have q0 := KY.cell 0 _ rfl
                have q1 := KY.cell 1 _ rfl
                have q2 := KY.cell 2 _ rfl
                have q3 := KY.cell 3 _ rfl
                have q4 := KY.cell 4 _ rfl
                clear KY
                have C_ := Lib.hid (may_c ⟨xw, xm, xt, xA, xn, xc, xW, xB, xk, xd, xT⟩ NX BN m dN w11 false (IX.out.below HB11.out) LX.out RN11.out (by omega) HG1.out)
                simp only [cS] at C_
                go_wp2_with fail
                clear q0 q1 q2 q3 q4
                refine C_.out.mono ?_
                rintro e_ w12 ⟨rfl, b_⟩
                have HB12 := Lib.hid (bl_trans HB11.out b_)
                have RN12 := Lib.hid (RN11.out.below b_)
                have SM12 := Lib.hid (SM.out.below b_)
                have RQ12 := Lib.hid (RQ.out.below b_)
                clear b_ C_ RN11 SM RQ HB11
                go_wp2
                go_roundw
                case rel => exact ⟨j + 1, BN, dN, NX, BM, dM, LM, by omega, rfl, rfl, by go_num, RN12, SM12, EM, MM, HNR, HG1, HB12⟩
                case measure => simp [intOf]; omega
              · have C_ := Lib.hid (wake_c LS NX [⟨cl, vl⟩] BS BN (some ⟨w9.heap.size, 0, none⟩) 1 dS m dN 1 1 w10 [] 1 [xw] SG10.out (by decide) MG.out RN10.out (by omega) RV.out (by decide) (by exact HQ.out) rfl (by exact HS.out))
                go_wp2_with fail
                rw [← hw10]
                clear hw10 e0 e1
                refine C_.out.mono ?_
                rintro e_ w11 ⟨BM, nm, dM, LM, BQ, dQ, rfl, tm, em, lm, rq, b_⟩
                obtain rfl : nm = 0 := sls_n tm em
                have SM := Lib.hid tm
                have EM : Hid (cc LM = []) := Lib.hid em
                have MM := Lib.hid lm
                have RQ := Lib.hid rq
                have HB11 := Lib.hid (bl_trans HB10.out b_)
                have RN11 := Lib.hid (RN10.out.below b_)
                clear tm em lm rq b_ C_
                have KY := KX.out.below HB11.out
                have q0 := KY.cell 0 _ rfl
                have q1 := KY.cell 1 _ rfl
                have q2 := KY.cell 2 _ rfl
                have q3 := KY.cell 3 _ rfl
                have q4 := KY.cell 4 _ rfl
                clear KY
                have C_ := Lib.hid (may_c ⟨xw, xm, xt, xA, xn, xc, xW, xB, xk, xd, xT⟩ NX BN m dN w11 true (IX.out.below HB11.out) LX.out RN11.out (by omega) HG1.out)
                simp only [cS] at C_
                go_wp2_with fail
                clear q0 q1 q2 q3 q4
                refine C_.out.mono ?_
                rintro e_ w12 ⟨rfl, b_⟩
                have HB12 := Lib.hid (bl_trans HB11.out b_)
                have RN12 := Lib.hid (RN11.out.below b_)
                have SM12 := Lib.hid (SM.out.below b_)
                have RQ12 := Lib.hid (RQ.out.below b_)
                clear b_ C_ RN11 SM RQ HB11
                obtain ⟨b5, off5, zz, rfl, hz, c0⟩ := at_z RQ12.out 0 (by decide)
                obtain rfl : xw = zz := by simpa using hz
                have c0' : w12.cell? ⟨b5, off5, none⟩ = some (.int .i64 xw) := by simpa using c0
                have q0 := (KX.out.below HB12.out).cell 0 _ rfl
                clear hz c0
                go_wp2_with fail
                go_still_tail 7, (by kernel_rfl)
                go_wp2_with fail
                refine (awake_any _).mono ?_
                rintro e_ wz ⟨rfl, bz⟩
                go_wp2
                go_ret
                exact ⟨rfl, bl_trans (bl_trans bb.out HB12.out.drew) bz⟩
            · have t2 : (e != 0) = true := by simpa using he
              clear he
              go_wp2
              go_roundw
              case rel => exact ⟨j + 1, BG, dG, G, BS, dS, LS, by omega, rfl, rfl, by go_num, RG9, SG9, EG, MG, HG, HMG, HB9⟩
              case measure => simp [intOf]; omega
          · have b_ := HB.out
            replace bb := Lib.hid (bl_trans bb.out b_)
            clear b_
            go_wp2_with fail
            refine (awake_any _).mono ?_
            rintro e wz ⟨rfl, bz⟩
            go_wp2
            go_ret
            exact ⟨rfl, bl_trans bb.out bz⟩
      · have HR : R = [] := by have h1 := lie_no [] (st ⟨xw, xm, xt, xA, xn, xc, xW, xB, xk, xd, xT⟩) h (by rw [HRE.out]; exact he); rw [HRE.out] at h1; exact h1
        obtain rfl : nl = 0 := by have h1 := sls_n SL.out EL.out; rw [HR] at h1; exact h1
        have t2 : (er != 0) = true := by simpa using he
        clear he HR
        go_wp2_with fail
        refine (awake_any _).mono ?_
        rintro e wz ⟨rfl, bz⟩
        go_wp2
        go_ret
        exact ⟨rfl, bl_trans bb.out bz⟩
end Go.Proofs.Ytddgdhaioomnnaa.Filter
