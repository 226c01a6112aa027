/-
  THE WALK OF THE LAW FilterTells.
-/
import Derived.Test.YtddgdhaioomnnaaGreatFilterKit
import Derived.Test.YtddgdhaioomnnaaGreatFilterRef2
import Derived.Test.YtddgdhaioomnnaaGreatSleepRef4
import Derived.Test.YtddgdhaioomnnaaGreatStep2
import Derived.Deep.RegionHeld3
namespace Go.Proofs.YtddgdhaioomnnaaGreat.Filter
open Go.ChangeShapes Go.WideShapes Go.ChangeAt Go.RowKit Mem
open Heap (Write)
open Sleep

set_option maxRecDepth 100000 in
set_option maxHeartbeats 16000000 in
theorem tells_walk (A D E : Option Addr) (n c m d p f : Nat) (L : List RawS) (x : RawS) (h : List Heap.Cell) (u : List Write) (w : World) (mn : n ≤ 9223372036854775807) (mm : m ≤ 9223372036854775807) (mp : p ≤ 9223372036854775807) (hr : Sls w A n L) (hx : Inner w x) (hh : Rd w 2 D m (Heap.cs h)) (hu : Rd w 2 E p (Heap.ws u)) :
    Calls Tryz.prog 3 #[.slice A n c, .agg (cS x), .slice D m d, .slice E p f] w (RetB w true) := by
  have SL := Lib.hid hr
  have IX := Lib.hid hx
  have HH := Lib.hid hh
  have RU := Lib.hid hu
  have HLn := Lib.hid hr.len
  have bb := Lib.hid (Below.refl w.heap.size w)
  clear hr hx hh hu
  obtain ⟨xw, xm, xt, xA, xn, xc, xW, xB, xk, xd, xT⟩ := x
  obtain ⟨w1, hw1⟩ : ∃ w1, w1 = w.alloc (.cells #[.int .i64 xw, .int .i64 xm, .int .i64 xt, .slice xA xn xc, .slice xB xk xd] 26) := ⟨_, rfl⟩
  have KX : Hid (Blk w1 w.heap.size 26 #[.int .i64 xw, .int .i64 xm, .int .i64 xt, .slice xA xn xc, .slice xB xk xd]) := Lib.hid (by rw [hw1]; exact Blk.new _ _ _)
  have b_ : Below w.heap.size w w1 := by rw [hw1]; exact bl_alloc (Below.refl _ _) _
  replace SL := Lib.hid (SL.out.below b_)
  replace IX := Lib.hid (IX.out.below b_)
  replace HH := Lib.hid (HH.out.below b_)
  replace RU := Lib.hid (RU.out.below b_)
  replace bb := Lib.hid (bl_trans bb.out b_)
  clear b_
  simp only [cS]
  have C0 := Lib.hid (small_c L A n c w1 (if smallB L = true then (n : Int) else -1) SL.out mn rfl)
  obtain ⟨s1_, h1⟩ : ∃ b, smallB L = b := ⟨_, rfl⟩
  cases s1_
  · rw [small_no L n h1] at C0
    go_enter Tryz.func3, Tryz.ntmps3
    go_wp2_with fail
    rw [← hw1]
    clear hw1
    refine C0.out.mono ?_
    rintro e w2 ⟨rfl, b_⟩
    replace bb := Lib.hid (bl_trans bb.out b_)
    clear b_ C0
    go_wp2_with fail
    refine (awake_any _).mono ?_
    rintro e wz ⟨rfl, bz⟩
    go_wp2
    go_ret
    exact ⟨rfl, bl_trans bb.out bz⟩
  · rw [small_yes L n h1] at C0
    obtain ⟨hl, hn20⟩ := small_lim L h1
    rw [HLn.out] at hn20
    have ML := Lib.hid hl
    have t0 : decide ((n : Int) < 0) = false := by simp
    clear hl h1
    go_enter Tryz.func3, Tryz.ntmps3
    go_wp2_with fail
    rw [← hw1]
    clear hw1
    refine C0.out.mono ?_
    rintro e w2 ⟨rfl, b_⟩
    replace SL := Lib.hid (SL.out.below b_)
    replace IX := Lib.hid (IX.out.below b_)
    replace HH := Lib.hid (HH.out.below b_)
    replace RU := Lib.hid (RU.out.below b_)
    replace KX := Lib.hid (KX.out.below b_)
    replace bb := Lib.hid (bl_trans bb.out b_)
    clear b_ C0
    have q0 := KX.out.cell 0 _ rfl
    have q1 := KX.out.cell 1 _ rfl
    have q2 := KX.out.cell 2 _ rfl
    have q3 := KX.out.cell 3 _ rfl
    have q4 := KX.out.cell 4 _ rfl
    have C1 := Lib.hid (small_c [⟨xw, xm, xt, xA, xn, xc, xW, xB, xk, xd, xT⟩] (some ⟨w2.heap.size, 0, none⟩) 1 1 (w2.alloc (.cells (cS ⟨xw, xm, xt, xA, xn, xc, xW, xB, xk, xd, xT⟩) 26)) _ (sls_one w2 _ _ IX.out) (by decide) rfl)
    simp only [cS] at C1
    obtain ⟨s2_, h2⟩ : ∃ b, smallB [⟨xw, xm, xt, xA, xn, xc, xW, xB, xk, xd, xT⟩] = b := ⟨_, rfl⟩
    have b0 := bl_alloc (Below.refl w2.heap.size w2) (.cells #[.int .i64 xw, .int .i64 xm, .int .i64 xt, .slice xA xn xc, .slice xB xk xd] 26)
    cases s2_
    · rw [small_no _ 1 h2] at C1
      go_wp2_with fail
      clear q0 q1 q2 q3 q4
      refine C1.out.mono ?_
      rintro e w3 ⟨rfl, b_⟩
      replace bb := Lib.hid (bl_trans bb.out (bl_trans b0 b_))
      clear b_ C1 b0
      go_wp2_with fail
      refine (awake_any _).mono ?_
      rintro e wz ⟨rfl, bz⟩
      go_wp2
      go_ret
      exact ⟨rfl, bl_trans bb.out bz⟩
    · rw [small_yes _ 1 h2] at C1
      have LX := Lib.hid (small_one _ h2)
      clear h2
      by_cases h80 : 80 < m
      · go_wp2_with fail
        clear q0 q1 q2 q3 q4
        refine C1.out.mono ?_
        rintro e w3 ⟨rfl, b_⟩
        replace b_ := bl_trans b0 b_
        replace SL := Lib.hid (SL.out.below b_)
        replace IX := Lib.hid (IX.out.below b_)
        replace HH := Lib.hid (HH.out.below b_)
        replace RU := Lib.hid (RU.out.below b_)
        replace KX := Lib.hid (KX.out.below b_)
        replace bb := Lib.hid (bl_trans bb.out b_)
        clear b_ C1 b0
        go_wp2_with fail
        refine (awake_any _).mono ?_
        rintro e wz ⟨rfl, bz⟩
        go_wp2
        go_ret
        exact ⟨rfl, bl_trans bb.out bz⟩
      have hm : m ≤ 80 := by omega
      clear h80
      go_wp2_with fail
      clear q0 q1 q2 q3 q4
      refine C1.out.mono ?_
      rintro e w3 ⟨rfl, b_⟩
      replace b_ := bl_trans b0 b_
      replace SL := Lib.hid (SL.out.below b_)
      replace IX := Lib.hid (IX.out.below b_)
      replace HH := Lib.hid (HH.out.below b_)
      replace RU := Lib.hid (RU.out.below b_)
      replace KX := Lib.hid (KX.out.below b_)
      replace bb := Lib.hid (bl_trans bb.out b_)
      clear b_ C1 b0
      have d_m : decide ((80 : Int) < (m : Int)) = false := by simp; omega
      by_cases h_p : 40 < p
      · go_wp2_with fail
        refine (awake_any _).mono ?_
        rintro e wz ⟨rfl, bz⟩
        go_wp2
        go_ret
        exact ⟨rfl, bl_trans bb.out bz⟩
      have l_p : p ≤ 40 := by omega
      have d_p : decide ((40 : Int) < (p : Int)) = false := by simp; omega
      clear h_p
      obtain ⟨CS, hcs⟩ : ∃ C, u.map Write.cell = C := ⟨_, rfl⟩
      have HCS := Lib.hid hcs
      clear hcs
      obtain ⟨S, hS⟩ : ∃ S, restS (cc L) h CS = S := ⟨_, rfl⟩
      obtain ⟨Q, hQ⟩ : ∃ q, wokenS (cc L) h CS = q := ⟨_, rfl⟩
      obtain ⟨z, hz⟩ : ∃ z, Q.length = z := ⟨_, rfl⟩
      have lS : S.length ≤ 20 := by have h1 := rest_le (cc L) h CS; rw [hS, cc_len, HLn.out] at h1; omega
      have lz : z ≤ 20 := by have h1 := woken_le (cc L) h CS; rw [hQ, cc_len, HLn.out, hz] at h1; omega
      have HS := Lib.hid hS
      have HQ := Lib.hid hQ
      have HZ := Lib.hid hz
      clear hS hQ hz
      obtain ⟨⟨R, er⟩, hre⟩ : ∃ r, lieS (cc L) (st ⟨xw, xm, xt, xA, xn, xc, xW, xB, xk, xd, xT⟩) h = r := ⟨_, rfl⟩
      have HRE := Lib.hid hre
      have hlR : R.length ≤ 41 := by have h1 := lie_len (cc L) (st ⟨xw, xm, xt, xA, xn, xc, xW, xB, xk, xd, xT⟩) h; rw [hre, cc_len, HLn.out] at h1; show R.length ≤ 41; have : R.length ≤ n + n + 1 := h1; omega
      clear hre
      obtain ⟨g, hg⟩ : ∃ g, mayS (st ⟨xw, xm, xt, xA, xn, xc, xW, xB, xk, xd, xT⟩) h = g := ⟨_, rfl⟩
      have HG := Lib.hid hg
      clear hg
      have C_ := Lib.hid (refs_c L A n c w3 SL.out (by omega) ML.out)
      go_wp2_with fail
      refine C_.out.mono ?_
      rintro e w4 ⟨v_, Lx, rfl, o1, o2, o3, o4, -⟩
      replace SL := Lib.hid (SL.out.below o1.2)
      replace IX := Lib.hid (IX.out.below o1.2)
      replace HH := Lib.hid (HH.out.below o1.2)
      replace RU := Lib.hid (RU.out.below o1.2)
      replace KX := Lib.hid (KX.out.below o1.2)
      replace bb := Lib.hid (bl_trans bb.out o1.2)
      obtain ⟨Bx, cx, rfl, r_⟩ := o1.form
      have Rx : Hid (Sls w4 Bx n Lx) := Lib.hid ⟨r_, o3⟩
      have Ex := Lib.hid o2
      have Mx := Lib.hid o4
      clear o1 o2 o3 o4 r_ C_
      have C_ := Lib.hid (wake_c L h u A D E n c m d p f w4 S z Q SL.out (by omega) ML.out HH.out (by omega) RU.out (by omega) (by rw [HCS.out]; exact HQ.out) HZ.out (by rw [HCS.out]; exact HS.out))
      go_wp2_with fail
      refine C_.out.mono ?_
      rintro e w5 ⟨BA, na, da, LA, C1, f1, rfl, ta, e_, la, ra, b_⟩
      replace SL := Lib.hid (SL.out.below b_)
      replace IX := Lib.hid (IX.out.below b_)
      replace HH := Lib.hid (HH.out.below b_)
      replace RU := Lib.hid (RU.out.below b_)
      replace KX := Lib.hid (KX.out.below b_)
      replace Rx := Lib.hid (Rx.out.below b_)
      replace bb := Lib.hid (bl_trans bb.out b_)
      have SA := Lib.hid ta
      have EA : Hid (cc LA = S) := Lib.hid e_
      have MA := Lib.hid la
      have hna : na ≤ 20 := by have h1 := sls_n ta e_; have : na = S.length := h1; omega
      have R1 := Lib.hid ra
      clear ta e_ la ra
      clear b_ C_
      have C_ := Lib.hid (refwake_c Lx h u Bx D E n cx m d p f w5 S z Q Rx.out (by omega) Mx.out HH.out (by omega) RU.out (by omega) (by rw [HCS.out, Ex.out]; exact HQ.out) HZ.out (by rw [HCS.out, Ex.out]; exact HS.out))
      go_wp2_with fail
      refine C_.out.mono ?_
      rintro e w6 ⟨BB, nb, db, LB, C2, f2, rfl, ta, e_, la, ra, b_⟩
      replace SL := Lib.hid (SL.out.below b_)
      replace IX := Lib.hid (IX.out.below b_)
      replace HH := Lib.hid (HH.out.below b_)
      replace RU := Lib.hid (RU.out.below b_)
      replace KX := Lib.hid (KX.out.below b_)
      replace Rx := Lib.hid (Rx.out.below b_)
      replace SA := Lib.hid (SA.out.below b_)
      replace R1 := Lib.hid (R1.out.below b_)
      replace bb := Lib.hid (bl_trans bb.out b_)
      have SB_ := Lib.hid ta
      have EB : Hid (cc LB = S) := Lib.hid e_
      have MB := Lib.hid la
      have hnb : nb ≤ 20 := by have h1 := sls_n ta e_; have : nb = S.length := h1; omega
      have R2 := Lib.hid ra
      clear ta e_ la ra
      clear b_ C_
      have q0 := KX.out.cell 0 _ rfl
      have q1 := KX.out.cell 1 _ rfl
      have q2 := KX.out.cell 2 _ rfl
      have q3 := KX.out.cell 3 _ rfl
      have q4 := KX.out.cell 4 _ rfl
      have C_ := Lib.hid (lie_c L ⟨xw, xm, xt, xA, xn, xc, xW, xB, xk, xd, xT⟩ h A D n c m d w6 (R, er) SL.out (by omega) ML.out IX.out LX.out HH.out (by omega) HRE.out)
      simp only [cS] at C_
      go_wp2_with fail
      clear q0 q1 q2 q3 q4
      refine C_.out.mono ?_
      rintro e w7 ⟨BC, nc, dc, LC, rfl, ta, e_, la, b_⟩
      replace SL := Lib.hid (SL.out.below b_)
      replace IX := Lib.hid (IX.out.below b_)
      replace HH := Lib.hid (HH.out.below b_)
      replace RU := Lib.hid (RU.out.below b_)
      replace KX := Lib.hid (KX.out.below b_)
      replace Rx := Lib.hid (Rx.out.below b_)
      replace SA := Lib.hid (SA.out.below b_)
      replace R1 := Lib.hid (R1.out.below b_)
      replace SB_ := Lib.hid (SB_.out.below b_)
      replace R2 := Lib.hid (R2.out.below b_)
      replace bb := Lib.hid (bl_trans bb.out b_)
      have SC := Lib.hid ta
      have EC : Hid (cc LC = R) := Lib.hid e_
      have MC := Lib.hid la
      have hnc : nc ≤ 41 := by have h1 := sls_n ta e_; have : nc = R.length := h1; omega
      clear ta e_ la
      clear b_ C_
      have q0 := KX.out.cell 0 _ rfl
      have q1 := KX.out.cell 1 _ rfl
      have q2 := KX.out.cell 2 _ rfl
      have q3 := KX.out.cell 3 _ rfl
      have q4 := KX.out.cell 4 _ rfl
      have C_ := Lib.hid (ref1_c ⟨xw, xm, xt, xA, xn, xc, xW, xB, xk, xd, xT⟩ w7 IX.out LX.out)
      simp only [cS] at C_
      go_wp2_with fail
      clear q0 q1 q2 q3 q4
      refine C_.out.mono ?_
      rintro e w8 ⟨DX, dX, rfl, hX, -, b_⟩
      replace SL := Lib.hid (SL.out.below b_)
      replace IX := Lib.hid (IX.out.below b_)
      replace HH := Lib.hid (HH.out.below b_)
      replace RU := Lib.hid (RU.out.below b_)
      replace KX := Lib.hid (KX.out.below b_)
      replace Rx := Lib.hid (Rx.out.below b_)
      replace SA := Lib.hid (SA.out.below b_)
      replace R1 := Lib.hid (R1.out.below b_)
      replace SB_ := Lib.hid (SB_.out.below b_)
      replace R2 := Lib.hid (R2.out.below b_)
      replace SC := Lib.hid (SC.out.below b_)
      replace bb := Lib.hid (bl_trans bb.out b_)
      have IY : Hid (Inner w8 ⟨xw, xm, xt, xA, xn, xc, xW, DX, xk, dX, xT⟩) := Lib.hid ⟨IX.out.1, hX⟩
      clear hX
      clear b_ C_
      have C_ := Lib.hid (reflie_c Lx ⟨xw, xm, xt, xA, xn, xc, xW, DX, xk, dX, xT⟩ h Bx D n cx m d w8 (R, er) Rx.out (by omega) Mx.out IY.out LX.out HH.out (by omega) (by rw [Ex.out]; exact HRE.out))
      simp only [cS] at C_
      simp only [cS]
      go_wp2_with fail
      refine C_.out.mono ?_
      rintro e w9 ⟨BD, nd, dd, LD, rfl, ta, e_, la, b_⟩
      replace SL := Lib.hid (SL.out.below b_)
      replace IX := Lib.hid (IX.out.below b_)
      replace HH := Lib.hid (HH.out.below b_)
      replace RU := Lib.hid (RU.out.below b_)
      replace KX := Lib.hid (KX.out.below b_)
      replace Rx := Lib.hid (Rx.out.below b_)
      replace SA := Lib.hid (SA.out.below b_)
      replace R1 := Lib.hid (R1.out.below b_)
      replace SB_ := Lib.hid (SB_.out.below b_)
      replace R2 := Lib.hid (R2.out.below b_)
      replace SC := Lib.hid (SC.out.below b_)
      replace IY := Lib.hid (IY.out.below b_)
      replace bb := Lib.hid (bl_trans bb.out b_)
      have SD := Lib.hid ta
      have ED : Hid (cc LD = R) := Lib.hid e_
      have MD := Lib.hid la
      have hnd : nd ≤ 41 := by have h1 := sls_n ta e_; have : nd = R.length := h1; omega
      clear ta e_ la
      clear b_ C_
      clear IY
      have tgg : (g == g) = true := by simp
      have tee : (er == er) = true := by simp
      go_wp2_with fail
      have bq : Hid (Below w9.heap.size w9 w9.drew) := Lib.hid (Below.refl _ _).drew
      obtain ⟨SB, hSB⟩ : ∃ SB : World → Prop, ∀ V, SB V ↔ Blk V w.heap.size 26 #[.int .i64 xw, .int .i64 xm, .int .i64 xt, .slice xA xn xc, .slice xB xk xd] := ⟨_, fun _ => Iff.rfl⟩
      have HSB := Lib.hid hSB
      clear hSB
      have f0 : SB w9.drew := ((HSB.out _).2 (KX.out.below bq.out))
      refine wp_region_held_drew (S := SB) (by kernel_rfl) f0 (fun hH0 => ?_)
      clear f0
      generalize w9.drew = wa at *
      refine wpAnyH_take (i := 0) (v := .agg #[.int .i64 xw, .int .i64 xm, .int .i64 xt, .slice xA xn xc, .slice xB xk xd]) rfl (by kernel_rfl) (by kernel_rfl) (by kernel_rfl) (fun _ _ _ h => h) (Or.inl ⟨by kernel_rfl, fun W hS => by have hSS := (HSB.out W).1 hS; have q0 := hSS.cell 0 _ rfl; have q1 := hSS.cell 1 _ rfl; have q2 := hSS.cell 2 _ rfl; have q3 := hSS.cell 3 _ rfl; have q4 := hSS.cell 4 _ rfl; go_simp⟩) hH0 ?_
      try simp only [Act.put, List.getElem_toArray, List.getElem_cons_succ, List.getElem_cons_zero]
      try simp only [List.setIfInBounds_toArray]
      try simp only [List.set_cons_succ]
      try simp only [List.set_cons_zero]
      refine wpAnyH_take (i := 1) (v := .slice D m d) rfl (by kernel_rfl) (by kernel_rfl) (by kernel_rfl) (fun _ _ _ h => h) (Or.inl ⟨by kernel_rfl, fun W hS => by go_simp⟩) hH0 ?_
      try simp only [Act.put, List.getElem_toArray, List.getElem_cons_succ, List.getElem_cons_zero]
      try simp only [List.setIfInBounds_toArray]
      try simp only [List.set_cons_succ]
      try simp only [List.set_cons_zero]
      refine wpAnyH_take (i := 3) (v := .agg #[.int .i64 xw, .int .i64 xm, .int .i64 xt, .slice xA xn xc, .slice xB xk xd]) rfl (by kernel_rfl) (by kernel_rfl) (by kernel_rfl) (fun _ _ _ h => h) (Or.inl ⟨by kernel_rfl, fun W hS => by have hSS := (HSB.out W).1 hS; have q0 := hSS.cell 0 _ rfl; have q1 := hSS.cell 1 _ rfl; have q2 := hSS.cell 2 _ rfl; have q3 := hSS.cell 3 _ rfl; have q4 := hSS.cell 4 _ rfl; go_simp⟩) hH0 ?_
      try simp only [Act.put, List.getElem_toArray, List.getElem_cons_succ, List.getElem_cons_zero]
      try simp only [List.setIfInBounds_toArray]
      try simp only [List.set_cons_succ]
      try simp only [List.set_cons_zero]
      refine wpAnyH_take (i := 5) (v := .slice D m d) rfl (by kernel_rfl) (by kernel_rfl) (by kernel_rfl) (fun _ _ _ h => h) (Or.inl ⟨by kernel_rfl, fun W hS => by go_simp⟩) hH0 ?_
      try simp only [Act.put, List.getElem_toArray, List.getElem_cons_succ, List.getElem_cons_zero]
      try simp only [List.setIfInBounds_toArray]
      try simp only [List.set_cons_succ]
      try simp only [List.set_cons_zero]
      refine wpAnyH_ready (rs := [2]) (by kernel_rfl) (by simp) ?_
      refine AllReadyH.cons rfl (fun KK0 hK => ?_) AllReadyH.nil
      rw [if_pos (by kernel_rfl)]
      refine Step2.calls_wp _ _ _ (may_c ⟨xw, xm, xt, xA, xn, xc, xW, xB, xk, xd, xT⟩ h D m d _ g (IX.out.below bq.out) LX.out (HH.out.below bq.out) (by omega) HG.out) (Step2.run_call _ _ _ rfl rfl Tryz.func12 (by kernel_rfl) (by kernel_rfl) _ (by kernel_rfl)) ?_
      rintro e wb hq
      obtain ⟨rfl, b5⟩ := hq
      refine ⟨_, rfl, ?_⟩
      replace bq := Lib.hid (bl_trans bq.out b5)
      try replace UU := Lib.hid (UU.out.below b5)
      try replace RO := Lib.hid (RO.out.below b5)
      try replace SP := Lib.hid (SP.out.below b5)
      try replace SQ := Lib.hid (SQ.out.below b5)
      clear b5
      refine hK.out _ _ ((HSB.out _).2 (KX.out.below bq.out)) (fun hH1 => ?_)
      clear hK KK0
      try simp only [Act.put, List.getElem_toArray, List.getElem_cons_succ, List.getElem_cons_zero]
      try simp only [List.setIfInBounds_toArray]
      try simp only [List.set_cons_succ]
      try simp only [List.set_cons_zero]
      refine wpAnyH_ready (rs := [4]) (by kernel_rfl) (by simp) ?_
      refine AllReadyH.cons rfl (fun KK0 hK => ?_) AllReadyH.nil
      rw [if_pos (by kernel_rfl)]
      refine Step2.calls_wp _ _ _ (ref1_c ⟨xw, xm, xt, xA, xn, xc, xW, xB, xk, xd, xT⟩ _ (IX.out.below bq.out) LX.out) (Step2.run_call _ _ _ rfl rfl Tryz.func11 (by kernel_rfl) (by kernel_rfl) _ (by kernel_rfl)) ?_
      rintro e wb hq
      obtain ⟨DU, dU, he, hU, -, b5⟩ := hq
      subst he
      refine ⟨_, rfl, ?_⟩
      replace bq := Lib.hid (bl_trans bq.out b5)
      have UU : Hid (Inner wb ⟨xw, xm, xt, xA, xn, xc, xW, DU, xk, dU, xT⟩) := Lib.hid ⟨(IX.out.below bq.out).1, hU⟩
      clear hU b5
      refine hK.out _ _ ((HSB.out _).2 (KX.out.below bq.out)) (fun hH2 => ?_)
      clear hK KK0
      try simp only [Act.put, List.getElem_toArray, List.getElem_cons_succ, List.getElem_cons_zero]
      try simp only [List.setIfInBounds_toArray]
      try simp only [List.set_cons_succ]
      try simp only [List.set_cons_zero]
      refine wpAnyH_ready (rs := [6]) (by kernel_rfl) (by simp) ?_
      refine AllReadyH.cons rfl (fun KK0 hK => ?_) AllReadyH.nil
      rw [if_pos (by kernel_rfl)]
      refine Step2.calls_wp _ _ _ (refmay_c ⟨xw, xm, xt, xA, xn, xc, xW, DU, xk, dU, xT⟩ h D m d _ g UU.out LX.out (HH.out.below bq.out) (by omega) HG.out) (Step2.run_call _ _ _ rfl rfl Tryz.func13 (by kernel_rfl) (by kernel_rfl) _ (by kernel_rfl)) ?_
      rintro e wb hq
      obtain ⟨rfl, b5⟩ := hq
      refine ⟨_, rfl, ?_⟩
      replace bq := Lib.hid (bl_trans bq.out b5)
      try replace UU := Lib.hid (UU.out.below b5)
      try replace RO := Lib.hid (RO.out.below b5)
      try replace SP := Lib.hid (SP.out.below b5)
      try replace SQ := Lib.hid (SQ.out.below b5)
      clear b5
      refine hK.out _ _ ((HSB.out _).2 (KX.out.below bq.out)) (fun hH3 => ?_)
      clear hK KK0
      try simp only [Act.put, List.getElem_toArray, List.getElem_cons_succ, List.getElem_cons_zero]
      try simp only [List.setIfInBounds_toArray]
      try simp only [List.set_cons_succ]
      try simp only [List.set_cons_zero]
      refine wpAnyH_take (i := 7) (v := .bool true) rfl (by kernel_rfl) (by kernel_rfl) (by kernel_rfl) (fun _ _ _ h => h) (Or.inl ⟨by kernel_rfl, fun W hS => by go_simp⟩) hH3 ?_
      try simp only [Act.put, List.getElem_toArray, List.getElem_cons_succ, List.getElem_cons_zero]
      try simp only [List.setIfInBounds_toArray]
      try simp only [List.set_cons_succ]
      try simp only [List.set_cons_zero]
      refine wpAnyH_take (i := 8) (v := .bool true) rfl (by kernel_rfl) (by kernel_rfl) (by kernel_rfl) (fun _ _ _ h => h) (Or.inl ⟨by kernel_rfl, fun W hS => by go_simp⟩) hH3 ?_
      try simp only [Act.put, List.getElem_toArray, List.getElem_cons_succ, List.getElem_cons_zero]
      try simp only [List.setIfInBounds_toArray]
      try simp only [List.set_cons_succ]
      try simp only [List.set_cons_zero]
      refine wpAnyH_take (i := 9) (v := .slice BA na da) rfl (by kernel_rfl) (by kernel_rfl) (by kernel_rfl) (fun _ _ _ h => h) (Or.inl ⟨by kernel_rfl, fun W hS => by go_simp⟩) hH3 ?_
      try simp only [Act.put, List.getElem_toArray, List.getElem_cons_succ, List.getElem_cons_zero]
      try simp only [List.setIfInBounds_toArray]
      try simp only [List.set_cons_succ]
      try simp only [List.set_cons_zero]
      refine wpAnyH_take (i := 11) (v := .slice BB nb db) rfl (by kernel_rfl) (by kernel_rfl) (by kernel_rfl) (fun _ _ _ h => h) (Or.inl ⟨by kernel_rfl, fun W hS => by go_simp⟩) hH3 ?_
      try simp only [Act.put, List.getElem_toArray, List.getElem_cons_succ, List.getElem_cons_zero]
      try simp only [List.setIfInBounds_toArray]
      try simp only [List.set_cons_succ]
      try simp only [List.set_cons_zero]
      refine wpAnyH_ready (rs := [10]) (by kernel_rfl) (by simp) ?_
      refine AllReadyH.cons rfl (fun KK0 hK => ?_) AllReadyH.nil
      rw [if_pos (by kernel_rfl)]
      refine Step2.calls_wp _ _ _ (refs_c LA BA na da _ (SA.out.below bq.out) (by omega) MA.out) (Step2.run_call _ _ _ rfl rfl Tryz.func6 (by kernel_rfl) (by kernel_rfl) _ (by kernel_rfl)) ?_
      rintro e wb hq
      obtain ⟨v_, Lpp, he, o1, o2, o3, o4, -⟩ := hq
      subst he
      refine ⟨_, rfl, ?_⟩
      replace bq := Lib.hid (bl_trans bq.out o1.2)
      try replace RO := Lib.hid (RO.out.below o1.2)
      obtain ⟨Bp, cpp, rfl, r_⟩ := o1.form
      have SP : Hid (Sls wb Bp na Lpp) := Lib.hid ⟨r_, o3⟩
      have EP := Lib.hid o2
      have MP := Lib.hid o4
      clear o1 o2 o3 o4 r_
      refine hK.out _ _ ((HSB.out _).2 (KX.out.below bq.out)) (fun hH4 => ?_)
      clear hK KK0
      try simp only [Act.put, List.getElem_toArray, List.getElem_cons_succ, List.getElem_cons_zero]
      try simp only [List.setIfInBounds_toArray]
      try simp only [List.set_cons_succ]
      try simp only [List.set_cons_zero]
      refine wpAnyH_ready (rs := [12]) (by kernel_rfl) (by simp) ?_
      refine AllReadyH.cons rfl (fun KK0 hK => ?_) AllReadyH.nil
      rw [if_pos (by kernel_rfl)]
      refine Step2.calls_wp _ _ _ (same_c Lpp LB Bp BB na cpp nb db _ true SP.out (SB_.out.below bq.out) (by omega) MP.out MB.out (decide_eq_true (by rw [EP.out, EA.out, EB.out]))) (Step2.run_call _ _ _ rfl rfl Tryz.func14 (by kernel_rfl) (by kernel_rfl) _ (by kernel_rfl)) ?_
      rintro e wb hq
      obtain ⟨rfl, b5⟩ := hq
      refine ⟨_, rfl, ?_⟩
      replace bq := Lib.hid (bl_trans bq.out b5)
      try replace UU := Lib.hid (UU.out.below b5)
      try replace RO := Lib.hid (RO.out.below b5)
      try replace SP := Lib.hid (SP.out.below b5)
      try replace SQ := Lib.hid (SQ.out.below b5)
      clear b5
      refine hK.out _ _ ((HSB.out _).2 (KX.out.below bq.out)) (fun hH5 => ?_)
      clear hK KK0
      try simp only [Act.put, List.getElem_toArray, List.getElem_cons_succ, List.getElem_cons_zero]
      try simp only [List.setIfInBounds_toArray]
      try simp only [List.set_cons_succ]
      try simp only [List.set_cons_zero]
      refine wpAnyH_take (i := 13) (v := .bool true) rfl (by kernel_rfl) (by kernel_rfl) (by kernel_rfl) (fun _ _ _ h => h) (Or.inl ⟨by kernel_rfl, fun W hS => by go_simp⟩) hH5 ?_
      try simp only [Act.put, List.getElem_toArray, List.getElem_cons_succ, List.getElem_cons_zero]
      try simp only [List.setIfInBounds_toArray]
      try simp only [List.set_cons_succ]
      try simp only [List.set_cons_zero]
      refine wpAnyH_take (i := 14) (v := .bool true) rfl (by kernel_rfl) (by kernel_rfl) (by kernel_rfl) (fun _ _ _ h => h) (Or.inl ⟨by kernel_rfl, fun W hS => by go_simp⟩) hH5 ?_
      try simp only [Act.put, List.getElem_toArray, List.getElem_cons_succ, List.getElem_cons_zero]
      try simp only [List.setIfInBounds_toArray]
      try simp only [List.set_cons_succ]
      try simp only [List.set_cons_zero]
      refine wpAnyH_take (i := 15) (v := .slice C1 z f1) rfl (by kernel_rfl) (by kernel_rfl) (by kernel_rfl) (fun _ _ _ h => h) (Or.inl ⟨by kernel_rfl, fun W hS => by go_simp⟩) hH5 ?_
      try simp only [Act.put, List.getElem_toArray, List.getElem_cons_succ, List.getElem_cons_zero]
      try simp only [List.setIfInBounds_toArray]
      try simp only [List.set_cons_succ]
      try simp only [List.set_cons_zero]
      refine wpAnyH_take (i := 16) (v := .slice C2 z f2) rfl (by kernel_rfl) (by kernel_rfl) (by kernel_rfl) (fun _ _ _ h => h) (Or.inl ⟨by kernel_rfl, fun W hS => by go_simp⟩) hH5 ?_
      try simp only [Act.put, List.getElem_toArray, List.getElem_cons_succ, List.getElem_cons_zero]
      try simp only [List.setIfInBounds_toArray]
      try simp only [List.set_cons_succ]
      try simp only [List.set_cons_zero]
      refine wpAnyH_ready (rs := [17]) (by kernel_rfl) (by simp) ?_
      refine AllReadyH.cons rfl (fun KK0 hK => ?_) AllReadyH.nil
      rw [if_pos (by kernel_rfl)]
      refine Step2.calls_wp _ _ _ (numbers_b Q Q C1 C2 z z f1 f2 _ true (R1.out.below bq.out) (R2.out.below bq.out) (by omega) (by omega) (by simp)) (Step2.run_call _ _ _ rfl rfl Tryz.func15 (by kernel_rfl) (by kernel_rfl) _ (by kernel_rfl)) ?_
      rintro e wb hq
      obtain ⟨rfl, b5⟩ := hq
      refine ⟨_, rfl, ?_⟩
      replace bq := Lib.hid (bl_trans bq.out b5)
      try replace UU := Lib.hid (UU.out.below b5)
      try replace RO := Lib.hid (RO.out.below b5)
      try replace SP := Lib.hid (SP.out.below b5)
      try replace SQ := Lib.hid (SQ.out.below b5)
      clear b5
      refine hK.out _ _ ((HSB.out _).2 (KX.out.below bq.out)) (fun hH6 => ?_)
      clear hK KK0
      try simp only [Act.put, List.getElem_toArray, List.getElem_cons_succ, List.getElem_cons_zero]
      try simp only [List.setIfInBounds_toArray]
      try simp only [List.set_cons_succ]
      try simp only [List.set_cons_zero]
      refine wpAnyH_take (i := 18) (v := .bool true) rfl (by kernel_rfl) (by kernel_rfl) (by kernel_rfl) (fun _ _ _ h => h) (Or.inl ⟨by kernel_rfl, fun W hS => by go_simp⟩) hH6 ?_
      try simp only [Act.put, List.getElem_toArray, List.getElem_cons_succ, List.getElem_cons_zero]
      try simp only [List.setIfInBounds_toArray]
      try simp only [List.set_cons_succ]
      try simp only [List.set_cons_zero]
      refine wpAnyH_take (i := 19) (v := .bool true) rfl (by kernel_rfl) (by kernel_rfl) (by kernel_rfl) (fun _ _ _ h => h) (Or.inl ⟨by kernel_rfl, fun W hS => by go_simp⟩) hH6 ?_
      try simp only [Act.put, List.getElem_toArray, List.getElem_cons_succ, List.getElem_cons_zero]
      try simp only [List.setIfInBounds_toArray]
      try simp only [List.set_cons_succ]
      try simp only [List.set_cons_zero]
      refine wpAnyH_take (i := 20) (v := .slice A n c) rfl (by kernel_rfl) (by kernel_rfl) (by kernel_rfl) (fun _ _ _ h => h) (Or.inl ⟨by kernel_rfl, fun W hS => by go_simp⟩) hH6 ?_
      try simp only [Act.put, List.getElem_toArray, List.getElem_cons_succ, List.getElem_cons_zero]
      try simp only [List.setIfInBounds_toArray]
      try simp only [List.set_cons_succ]
      try simp only [List.set_cons_zero]
      refine wpAnyH_take (i := 21) (v := .slice D m d) rfl (by kernel_rfl) (by kernel_rfl) (by kernel_rfl) (fun _ _ _ h => h) (Or.inl ⟨by kernel_rfl, fun W hS => by go_simp⟩) hH6 ?_
      try simp only [Act.put, List.getElem_toArray, List.getElem_cons_succ, List.getElem_cons_zero]
      try simp only [List.setIfInBounds_toArray]
      try simp only [List.set_cons_succ]
      try simp only [List.set_cons_zero]
      refine wpAnyH_take (i := 22) (v := .slice E p f) rfl (by kernel_rfl) (by kernel_rfl) (by kernel_rfl) (fun _ _ _ h => h) (Or.inl ⟨by kernel_rfl, fun W hS => by go_simp⟩) hH6 ?_
      try simp only [Act.put, List.getElem_toArray, List.getElem_cons_succ, List.getElem_cons_zero]
      try simp only [List.setIfInBounds_toArray]
      try simp only [List.set_cons_succ]
      try simp only [List.set_cons_zero]
      refine wpAnyH_take (i := 24) (v := .slice C2 z f2) rfl (by kernel_rfl) (by kernel_rfl) (by kernel_rfl) (fun _ _ _ h => h) (Or.inl ⟨by kernel_rfl, fun W hS => by go_simp⟩) hH6 ?_
      try simp only [Act.put, List.getElem_toArray, List.getElem_cons_succ, List.getElem_cons_zero]
      try simp only [List.setIfInBounds_toArray]
      try simp only [List.set_cons_succ]
      try simp only [List.set_cons_zero]
      refine wpAnyH_ready (rs := [23]) (by kernel_rfl) (by simp) ?_
      refine AllReadyH.cons rfl (fun KK0 hK => ?_) AllReadyH.nil
      rw [if_pos (by kernel_rfl)]
      refine Step2.calls_wp _ _ _ (woken_c L h u A D E n c m d p f _ Q z (SL.out.below bq.out) (by omega) ML.out (HH.out.below bq.out) (by omega) (RU.out.below bq.out) (by omega) (by rw [HCS.out]; exact HQ.out) HZ.out) (Step2.run_call _ _ _ rfl rfl Tryz.func16 (by kernel_rfl) (by kernel_rfl) _ (by kernel_rfl)) ?_
      rintro e wb hq
      obtain ⟨v_, he, o1⟩ := hq
      subst he
      refine ⟨_, rfl, ?_⟩
      replace bq := Lib.hid (bl_trans bq.out o1.2)
      obtain ⟨BO, fO, rfl, r_⟩ := o1.form
      have RO := Lib.hid r_
      clear o1 r_
      refine hK.out _ _ ((HSB.out _).2 (KX.out.below bq.out)) (fun hH7 => ?_)
      clear hK KK0
      try simp only [Act.put, List.getElem_toArray, List.getElem_cons_succ, List.getElem_cons_zero]
      try simp only [List.setIfInBounds_toArray]
      try simp only [List.set_cons_succ]
      try simp only [List.set_cons_zero]
      refine wpAnyH_ready (rs := [25]) (by kernel_rfl) (by simp) ?_
      refine AllReadyH.cons rfl (fun KK0 hK => ?_) AllReadyH.nil
      rw [if_pos (by kernel_rfl)]
      refine Step2.calls_wp _ _ _ (numbers_b Q Q BO C2 z z fO f2 _ true RO.out (R2.out.below bq.out) (by omega) (by omega) (by simp)) (Step2.run_call _ _ _ rfl rfl Tryz.func15 (by kernel_rfl) (by kernel_rfl) _ (by kernel_rfl)) ?_
      rintro e wb hq
      obtain ⟨rfl, b5⟩ := hq
      refine ⟨_, rfl, ?_⟩
      replace bq := Lib.hid (bl_trans bq.out b5)
      try replace UU := Lib.hid (UU.out.below b5)
      try replace RO := Lib.hid (RO.out.below b5)
      try replace SP := Lib.hid (SP.out.below b5)
      try replace SQ := Lib.hid (SQ.out.below b5)
      clear b5
      refine hK.out _ _ ((HSB.out _).2 (KX.out.below bq.out)) (fun hH8 => ?_)
      clear hK KK0
      try simp only [Act.put, List.getElem_toArray, List.getElem_cons_succ, List.getElem_cons_zero]
      try simp only [List.setIfInBounds_toArray]
      try simp only [List.set_cons_succ]
      try simp only [List.set_cons_zero]
      refine wpAnyH_take (i := 26) (v := .bool true) rfl (by kernel_rfl) (by kernel_rfl) (by kernel_rfl) (fun _ _ _ h => h) (Or.inl ⟨by kernel_rfl, fun W hS => by go_simp⟩) hH8 ?_
      try simp only [Act.put, List.getElem_toArray, List.getElem_cons_succ, List.getElem_cons_zero]
      try simp only [List.setIfInBounds_toArray]
      try simp only [List.set_cons_succ]
      try simp only [List.set_cons_zero]
      refine wpAnyH_take (i := 27) (v := .bool true) rfl (by kernel_rfl) (by kernel_rfl) (by kernel_rfl) (fun _ _ _ h => h) (Or.inl ⟨by kernel_rfl, fun W hS => by go_simp⟩) hH8 ?_
      try simp only [Act.put, List.getElem_toArray, List.getElem_cons_succ, List.getElem_cons_zero]
      try simp only [List.setIfInBounds_toArray]
      try simp only [List.set_cons_succ]
      try simp only [List.set_cons_zero]
      refine wpAnyH_take (i := 28) (v := .slice BC nc dc) rfl (by kernel_rfl) (by kernel_rfl) (by kernel_rfl) (fun _ _ _ h => h) (Or.inl ⟨by kernel_rfl, fun W hS => by go_simp⟩) hH8 ?_
      try simp only [Act.put, List.getElem_toArray, List.getElem_cons_succ, List.getElem_cons_zero]
      try simp only [List.setIfInBounds_toArray]
      try simp only [List.set_cons_succ]
      try simp only [List.set_cons_zero]
      refine wpAnyH_take (i := 30) (v := .slice BD nd dd) rfl (by kernel_rfl) (by kernel_rfl) (by kernel_rfl) (fun _ _ _ h => h) (Or.inl ⟨by kernel_rfl, fun W hS => by go_simp⟩) hH8 ?_
      try simp only [Act.put, List.getElem_toArray, List.getElem_cons_succ, List.getElem_cons_zero]
      try simp only [List.setIfInBounds_toArray]
      try simp only [List.set_cons_succ]
      try simp only [List.set_cons_zero]
      refine wpAnyH_ready (rs := [29]) (by kernel_rfl) (by simp) ?_
      refine AllReadyH.cons rfl (fun KK0 hK => ?_) AllReadyH.nil
      rw [if_pos (by kernel_rfl)]
      refine Step2.calls_wp _ _ _ (refs_c LC BC nc dc _ (SC.out.below bq.out) (by omega) MC.out) (Step2.run_call _ _ _ rfl rfl Tryz.func6 (by kernel_rfl) (by kernel_rfl) _ (by kernel_rfl)) ?_
      rintro e wb hq
      obtain ⟨v_, Lqq, he, o1, o2, o3, o4, -⟩ := hq
      subst he
      refine ⟨_, rfl, ?_⟩
      replace bq := Lib.hid (bl_trans bq.out o1.2)
      try replace RO := Lib.hid (RO.out.below o1.2)
      obtain ⟨Bq, cqq, rfl, r_⟩ := o1.form
      have SQ : Hid (Sls wb Bq nc Lqq) := Lib.hid ⟨r_, o3⟩
      have EQ_ := Lib.hid o2
      have MQ := Lib.hid o4
      clear o1 o2 o3 o4 r_
      refine hK.out _ _ ((HSB.out _).2 (KX.out.below bq.out)) (fun hH9 => ?_)
      clear hK KK0
      try simp only [Act.put, List.getElem_toArray, List.getElem_cons_succ, List.getElem_cons_zero]
      try simp only [List.setIfInBounds_toArray]
      try simp only [List.set_cons_succ]
      try simp only [List.set_cons_zero]
      refine wpAnyH_ready (rs := [31]) (by kernel_rfl) (by simp) ?_
      refine AllReadyH.cons rfl (fun KK0 hK => ?_) AllReadyH.nil
      rw [if_pos (by kernel_rfl)]
      refine Step2.calls_wp _ _ _ (same_c Lqq LD Bq BD nc cqq nd dd _ true SQ.out (SD.out.below bq.out) (by omega) MQ.out MD.out (decide_eq_true (by rw [EQ_.out, EC.out, ED.out]))) (Step2.run_call _ _ _ rfl rfl Tryz.func14 (by kernel_rfl) (by kernel_rfl) _ (by kernel_rfl)) ?_
      rintro e wb hq
      obtain ⟨rfl, b5⟩ := hq
      refine ⟨_, rfl, ?_⟩
      replace bq := Lib.hid (bl_trans bq.out b5)
      try replace UU := Lib.hid (UU.out.below b5)
      try replace RO := Lib.hid (RO.out.below b5)
      try replace SP := Lib.hid (SP.out.below b5)
      try replace SQ := Lib.hid (SQ.out.below b5)
      clear b5
      refine hK.out _ _ ((HSB.out _).2 (KX.out.below bq.out)) (fun hH10 => ?_)
      clear hK KK0
      try simp only [Act.put, List.getElem_toArray, List.getElem_cons_succ, List.getElem_cons_zero]
      try simp only [List.setIfInBounds_toArray]
      try simp only [List.set_cons_succ]
      try simp only [List.set_cons_zero]
      refine wpAnyH_take (i := 32) (v := .bool true) rfl (by kernel_rfl) (by kernel_rfl) (by kernel_rfl) (fun _ _ _ h => h) (Or.inl ⟨by kernel_rfl, fun W hS => by go_simp⟩) hH10 ?_
      try simp only [Act.put, List.getElem_toArray, List.getElem_cons_succ, List.getElem_cons_zero]
      try simp only [List.setIfInBounds_toArray]
      try simp only [List.set_cons_succ]
      try simp only [List.set_cons_zero]
      refine wpAnyH_take (i := 33) (v := .bool true) rfl (by kernel_rfl) (by kernel_rfl) (by kernel_rfl) (fun _ _ _ h => h) (Or.inl ⟨by kernel_rfl, fun W hS => by go_simp⟩) hH10 ?_
      try simp only [Act.put, List.getElem_toArray, List.getElem_cons_succ, List.getElem_cons_zero]
      try simp only [List.setIfInBounds_toArray]
      try simp only [List.set_cons_succ]
      try simp only [List.set_cons_zero]
      refine wpAnyH_take (i := 34) (v := .int .i64 er) rfl (by kernel_rfl) (by kernel_rfl) (by kernel_rfl) (fun _ _ _ h => h) (Or.inl ⟨by kernel_rfl, fun W hS => by go_simp⟩) hH10 ?_
      try simp only [Act.put, List.getElem_toArray, List.getElem_cons_succ, List.getElem_cons_zero]
      try simp only [List.setIfInBounds_toArray]
      try simp only [List.set_cons_succ]
      try simp only [List.set_cons_zero]
      refine wpAnyH_take (i := 35) (v := .int .i64 er) rfl (by kernel_rfl) (by kernel_rfl) (by kernel_rfl) (fun _ _ _ h => h) (Or.inl ⟨by kernel_rfl, fun W hS => by go_simp⟩) hH10 ?_
      try simp only [Act.put, List.getElem_toArray, List.getElem_cons_succ, List.getElem_cons_zero]
      try simp only [List.setIfInBounds_toArray]
      try simp only [List.set_cons_succ]
      try simp only [List.set_cons_zero]
      refine wpAnyH_take (i := 36) (v := .bool true) rfl (by kernel_rfl) (by kernel_rfl) (by kernel_rfl) (fun _ _ _ h => h) (Or.inl ⟨by kernel_rfl, fun W hS => by go_simp⟩) hH10 ?_
      try simp only [Act.put, List.getElem_toArray, List.getElem_cons_succ, List.getElem_cons_zero]
      try simp only [List.setIfInBounds_toArray]
      try simp only [List.set_cons_succ]
      try simp only [List.set_cons_zero]
      refine wpAnyH_take (i := 37) (v := .bool true) rfl (by kernel_rfl) (by kernel_rfl) (by kernel_rfl) (fun _ _ _ h => h) (Or.inl ⟨by kernel_rfl, fun W hS => by go_simp⟩) hH10 ?_
      try simp only [Act.put, List.getElem_toArray, List.getElem_cons_succ, List.getElem_cons_zero]
      try simp only [List.setIfInBounds_toArray]
      try simp only [List.set_cons_succ]
      try simp only [List.set_cons_zero]
      refine wpAnyH_take (i := 38) (v := .bool true) rfl (by kernel_rfl) (by kernel_rfl) (by kernel_rfl) (fun _ _ _ h => h) (Or.inl ⟨by kernel_rfl, fun W hS => by go_simp⟩) hH10 ?_
      try simp only [Act.put, List.getElem_toArray, List.getElem_cons_succ, List.getElem_cons_zero]
      try simp only [List.setIfInBounds_toArray]
      try simp only [List.set_cons_succ]
      try simp only [List.set_cons_zero]
      refine wpAnyH_ready (rs := [39]) (by kernel_rfl) (by simp) ?_
      refine AllReadyH.cons rfl (fun KK0 hK => ?_) AllReadyH.nil
      rw [if_pos (by kernel_rfl)]
      refine Step2.calls_wp _ _ _ (awake_any _) (Step2.run_call _ _ _ rfl rfl Tryz.func5 (by kernel_rfl) (by kernel_rfl) _ (by kernel_rfl)) ?_
      rintro e wb hq
      obtain ⟨rfl, b5⟩ := hq
      refine ⟨_, rfl, ?_⟩
      replace bq := Lib.hid (bl_trans bq.out b5)
      try replace UU := Lib.hid (UU.out.below b5)
      try replace RO := Lib.hid (RO.out.below b5)
      try replace SP := Lib.hid (SP.out.below b5)
      try replace SQ := Lib.hid (SQ.out.below b5)
      clear b5
      refine hK.out _ _ ((HSB.out _).2 (KX.out.below bq.out)) (fun hH11 => ?_)
      clear hK KK0
      try simp only [Act.put, List.getElem_toArray, List.getElem_cons_succ, List.getElem_cons_zero]
      try simp only [List.setIfInBounds_toArray]
      try simp only [List.set_cons_succ]
      try simp only [List.set_cons_zero]
      refine wpAnyH_take (i := 40) (v := .bool true) rfl (by kernel_rfl) (by kernel_rfl) (by kernel_rfl) (fun _ _ _ h => h) (Or.inl ⟨by kernel_rfl, fun W hS => by go_simp⟩) hH11 ?_
      try simp only [Act.put, List.getElem_toArray, List.getElem_cons_succ, List.getElem_cons_zero]
      try simp only [List.setIfInBounds_toArray]
      try simp only [List.set_cons_succ]
      try simp only [List.set_cons_zero]
      refine wpAnyH_ready (rs := [41]) (by kernel_rfl) (by simp) ?_
      refine AllReadyH.cons rfl (fun KK0 hK => ?_) AllReadyH.nil
      go_simp
      refine hK.out _ _ hH11 (fun _ => ?_)
      clear hK KK0
      refine wpAnyH_done (by kernel_rfl) ?_ _
      try simp only [Act.put, List.getElem_toArray, List.getElem_cons_succ, List.getElem_cons_zero]
      try simp only [List.setIfInBounds_toArray]
      try simp only [List.set_cons_succ]
      try simp only [List.set_cons_zero]
      go_wp2
      go_ret
      exact ⟨rfl, bl_trans bb.out bq.out⟩
end Go.Proofs.YtddgdhaioomnnaaGreat.Filter
