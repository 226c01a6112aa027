/-
  THE WALK OF THE LAW FilterParts.
-/
import Derived.Test.YtddgdhaioomnnaaFilterKit
import Derived.Test.YtddgdhaioomnnaaSleepRef4
import Derived.Test.YtddgdhaioomnnaaWritesA
namespace Go.Proofs.Ytddgdhaioomnnaa.Filter
open Go.ChangeShapes Go.WideShapes Go.ChangeAt Go.RowKit Mem
open Heap (Write)
open Sleep

theorem ws_one (l : List Write) : ∀ u ∈ Heap.ws l, u.oneCell' = true := flat_one (fun _ => one_cons rfl (one_cons rfl one_nil)) l
theorem ws_app (a b : List Write) : Heap.ws (a ++ b) = Heap.ws a ++ Heap.ws b := by unfold Heap.ws; rw [List.flatMap_append]
set_option maxRecDepth 100000 in
set_option maxHeartbeats 16000000 in
theorem parts_walk (A D E K : Option Addr) (n c m d p f k j : Nat) (L : List RawS) (h : List Heap.Cell) (x y : List Write) (w : World) (mn : n ≤ 9223372036854775807) (mm : m ≤ 9223372036854775807) (mp : p ≤ 9223372036854775807) (mk : k ≤ 9223372036854775807) (hr : Sls w A n L) (hh : Rd w 2 D m (Heap.cs h)) (hx : Rd w 2 E p (Heap.ws x)) (hy : Rd w 2 K k (Heap.ws y)) :
    Calls Try.prog 6 #[.slice A n c, .slice D m d, .slice E p f, .slice K k j] w (RetB w true) := by
  have SL := Lib.hid hr
  have HH := Lib.hid hh
  have RX := Lib.hid hx
  have RY := Lib.hid hy
  have HLn := Lib.hid hr.len
  have bb := Lib.hid (Below.refl w.heap.size w)
  clear hr hh hx hy
  have C0 := Lib.hid (small_c L A n c w (if smallB L = true then (n : Int) else -1) SL.out mn rfl)
  obtain ⟨s1_, h1⟩ : ∃ b, smallB L = b := ⟨_, rfl⟩
  cases s1_
  · rw [small_no L n h1] at C0
    go_enter Try.func6, Try.ntmps6
    go_wp2_with fail
    refine C0.out.mono ?_
    rintro e w2 ⟨rfl, b_⟩
    replace bb := Lib.hid (bl_trans bb.out b_)
    clear b_ C0
    go_wp2_with fail
    refine (awake_any _).mono ?_
    rintro e wz ⟨rfl, bz⟩
    go_wp2
    go_ret
    exact ⟨rfl, bl_trans bb.out bz⟩
  · rw [small_yes L n h1] at C0
    obtain ⟨hl, hn20⟩ := small_lim L h1
    rw [HLn.out] at hn20
    have ML := Lib.hid hl
    have t0 : decide ((n : Int) < 0) = false := by simp
    clear hl h1
    go_enter Try.func6, Try.ntmps6
    go_wp2_with fail
    refine C0.out.mono ?_
    rintro e w2 ⟨rfl, b_⟩
    replace SL := Lib.hid (SL.out.below b_)
    replace HH := Lib.hid (HH.out.below b_)
    replace RX := Lib.hid (RX.out.below b_)
    replace RY := Lib.hid (RY.out.below b_)
    replace bb := Lib.hid (bl_trans bb.out b_)
    clear b_ C0
    by_cases h_m : 80 < m
    · go_wp2_with fail
      refine (awake_any _).mono ?_
      rintro e wz ⟨rfl, bz⟩
      go_wp2
      go_ret
      exact ⟨rfl, bl_trans bb.out bz⟩
    have l_m : m ≤ 80 := by omega
    clear h_m
    by_cases h_p : 20 < p
    · go_wp2_with fail
      refine (awake_any _).mono ?_
      rintro e wz ⟨rfl, bz⟩
      go_wp2
      go_ret
      exact ⟨rfl, bl_trans bb.out bz⟩
    have l_p : p ≤ 20 := by omega
    clear h_p
    by_cases h_k : 20 < k
    · go_wp2_with fail
      refine (awake_any _).mono ?_
      rintro e wz ⟨rfl, bz⟩
      go_wp2
      go_ret
      exact ⟨rfl, bl_trans bb.out bz⟩
    have l_k : k ≤ 20 := by omega
    clear h_k
    obtain ⟨S1, hs1_⟩ : ∃ S, restS (cc L) h (x.map Write.cell ++ y.map Write.cell) = S := ⟨_, rfl⟩
    obtain ⟨q1, hq1⟩ : ∃ q, wokenS (cc L) h (x.map Write.cell ++ y.map Write.cell) = q := ⟨_, rfl⟩
    obtain ⟨S2, hs2⟩ : ∃ S, restS (cc L) h (x.map Write.cell) = S := ⟨_, rfl⟩
    obtain ⟨q2, hq2⟩ : ∃ q, wokenS (cc L) h (x.map Write.cell) = q := ⟨_, rfl⟩
    obtain ⟨q3, hq3⟩ : ∃ q, wokenS S2 h (y.map Write.cell) = q := ⟨_, rfl⟩
    have HR3 : Hid (restS S2 h (y.map Write.cell) = S1) := Lib.hid (by rw [← hs2, ← hs1_]; exact parts_rest (cc L) h _ _)
    have HLN : Hid (q2.length + q3.length = q1.length) := Lib.hid (by rw [← hq3, ← hs2, ← hq2, ← hq1]; exact parts_len (cc L) h _ _)
    have l1 : S1.length ≤ 20 := by have h1 := rest_le (cc L) h (x.map Write.cell ++ y.map Write.cell); rw [hs1_, cc_len, HLn.out] at h1; omega
    have l2 : S2.length ≤ 20 := by have h1 := rest_le (cc L) h (x.map Write.cell); rw [hs2, cc_len, HLn.out] at h1; omega
    have l3 : q1.length ≤ 20 := by have h1 := woken_le (cc L) h (x.map Write.cell ++ y.map Write.cell); rw [hq1, cc_len, HLn.out] at h1; omega
    have HS1 := Lib.hid hs1_
    have HQ1 := Lib.hid hq1
    have HS2 := Lib.hid hs2
    have HQ2 := Lib.hid hq2
    have HQ3 := Lib.hid hq3
    clear hs1_ hq1 hs2 hq2 hq3
    obtain ⟨z1, hz1⟩ : ∃ z, q1.length = z := ⟨_, rfl⟩
    have HZ1 := Lib.hid hz1
    obtain ⟨z2, hz2⟩ : ∃ z, q2.length = z := ⟨_, rfl⟩
    have HZ2 := Lib.hid hz2
    obtain ⟨z3, hz3⟩ : ∃ z, q3.length = z := ⟨_, rfl⟩
    have HZ3 := Lib.hid hz3
    have hzz : z2 + z3 = z1 := by rw [← hz1, ← hz2, ← hz3]; exact HLN.out
    have hz20 : z1 ≤ 20 := by rw [← hz1]; exact l3
    clear hz1 hz2 hz3 l3
    go_wp2_with (first
      | (at_builtin; refine append_rd rfl (.tmp 37) (.tmp 38) 24 rfl Writes.tWrite w2 _ 0 [] rfl (Own.empty w2 _ _) _ p f (Heap.ws x) rfl (RX.out.alloc _) (ws_one x) (by omega) (by omega) ?_; intro v1 u1 oa ga; have HOa := Lib.hid oa; clear oa ga)
      | (at_builtin; refine append_rd rfl (.tmp 39) (.tmp 40) 24 rfl Writes.tWrite w2 v1 (0 + p) _ rfl HOa.out _ k j (Heap.ws y) rfl (RY.out.below HOa.out.2) (ws_one y) (by omega) (by omega) ?_; intro v2 u2 ob gb; obtain ⟨B9, d9, rfl, r9⟩ := ob.form; have HOb := Lib.hid ob; have HRb := Lib.hid r9; clear ob gb r9))
    have HRw : Hid (Rd u2 2 B9 (p + k) (Heap.ws (x ++ y))) := Lib.hid (by have h1 := HRb.out; rw [List.nil_append, Nat.zero_add] at h1; rw [ws_app]; exact h1)
    have b2_ := HOb.out.2
    replace SL := Lib.hid (SL.out.below b2_)
    replace HH := Lib.hid (HH.out.below b2_)
    replace RX := Lib.hid (RX.out.below b2_)
    replace RY := Lib.hid (RY.out.below b2_)
    replace bb := Lib.hid (bl_trans bb.out b2_)
    clear b2_ HOa HOb HRb
    have C_ := Lib.hid (wake_c L h (x ++ y) A D B9 n c m d (p + k) d9 u2 S1 z1 q1 SL.out (by omega) ML.out HH.out (by omega) HRw.out (by omega) (by rw [List.map_append]; exact HQ1.out) HZ1.out (by rw [List.map_append]; exact HS1.out))
    refine C_.out.mono ?_
    rintro e w3 ⟨B1, n1, d1, L1, C1, f1, rfl, ta, e_, la, -, b_⟩
    replace SL := Lib.hid (SL.out.below b_)
    replace HH := Lib.hid (HH.out.below b_)
    replace RX := Lib.hid (RX.out.below b_)
    replace RY := Lib.hid (RY.out.below b_)
    replace bb := Lib.hid (bl_trans bb.out b_)
    have S1_ := Lib.hid ta
    have E1 : Hid (cc L1 = S1) := Lib.hid e_
    have M1 := Lib.hid la
    have hn1 : n1 ≤ 20 := by have h1 := sls_n ta e_; omega
    clear ta e_ la b_ C_ HRw
    have C_ := Lib.hid (wake_c L h x A D E n c m d p f w3 S2 z2 q2 SL.out (by omega) ML.out HH.out (by omega) RX.out (by omega) HQ2.out HZ2.out HS2.out)
    go_wp2_with fail
    refine C_.out.mono ?_
    rintro e w4 ⟨B2, n2, d2, L2, C2, f2, rfl, ta, e_, la, -, b_⟩
    replace SL := Lib.hid (SL.out.below b_)
    replace HH := Lib.hid (HH.out.below b_)
    replace RX := Lib.hid (RX.out.below b_)
    replace RY := Lib.hid (RY.out.below b_)
    replace S1_ := Lib.hid (S1_.out.below b_)
    replace bb := Lib.hid (bl_trans bb.out b_)
    have S2_ := Lib.hid ta
    have E2 : Hid (cc L2 = S2) := Lib.hid e_
    have M2 := Lib.hid la
    have hn2 : n2 ≤ 20 := by have h1 := sls_n ta e_; omega
    clear ta e_ la
    clear b_ C_
    have C_ := Lib.hid (wake_c L2 h y B2 D K n2 d2 m d k j w4 S1 z3 q3 S2_.out (by omega) M2.out HH.out (by omega) RY.out (by omega) (by rw [E2.out]; exact HQ3.out) HZ3.out (by rw [E2.out]; exact HR3.out))
    go_wp2_with fail
    refine C_.out.mono ?_
    rintro e w5 ⟨B3, n3, d3, L3, C3, f3, rfl, ta, e_, la, -, b_⟩
    replace SL := Lib.hid (SL.out.below b_)
    replace HH := Lib.hid (HH.out.below b_)
    replace RX := Lib.hid (RX.out.below b_)
    replace RY := Lib.hid (RY.out.below b_)
    replace S1_ := Lib.hid (S1_.out.below b_)
    replace S2_ := Lib.hid (S2_.out.below b_)
    replace bb := Lib.hid (bl_trans bb.out b_)
    have S3_ := Lib.hid ta
    have E3 : Hid (cc L3 = S1) := Lib.hid e_
    have M3 := Lib.hid la
    have hn3 : n3 ≤ 20 := by have h1 := sls_n ta e_; omega
    clear ta e_ la
    clear b_ C_
    have tz : ((z2 : Int) + (z3 : Int) == (z1 : Int)) = true := by simp; omega
    have C_ := Lib.hid (refs_c L3 B3 n3 d3 w5 S3_.out (by omega) M3.out)
    go_wp2_with fail
    refine C_.out.mono ?_
    rintro e w6 ⟨v_, Lp, rfl, o1, o2, o3, o4, -⟩
    replace SL := Lib.hid (SL.out.below o1.2)
    replace HH := Lib.hid (HH.out.below o1.2)
    replace RX := Lib.hid (RX.out.below o1.2)
    replace RY := Lib.hid (RY.out.below o1.2)
    replace S1_ := Lib.hid (S1_.out.below o1.2)
    replace S2_ := Lib.hid (S2_.out.below o1.2)
    replace S3_ := Lib.hid (S3_.out.below o1.2)
    replace bb := Lib.hid (bl_trans bb.out o1.2)
    obtain ⟨Bp, cp, rfl, r_⟩ := o1.form
    have Rp : Hid (Sls w6 Bp n3 Lp) := Lib.hid ⟨r_, o3⟩
    have Ep := Lib.hid o2
    have Mp := Lib.hid o4
    clear o1 o2 o3 o4 r_ C_
    have C_ := Lib.hid (refs_c L1 B1 n1 d1 w6 S1_.out (by omega) M1.out)
    go_wp2_with fail
    refine C_.out.mono ?_
    rintro e w7 ⟨v_, Lu, rfl, o1, o2, o3, o4, -⟩
    replace SL := Lib.hid (SL.out.below o1.2)
    replace HH := Lib.hid (HH.out.below o1.2)
    replace RX := Lib.hid (RX.out.below o1.2)
    replace RY := Lib.hid (RY.out.below o1.2)
    replace S1_ := Lib.hid (S1_.out.below o1.2)
    replace S2_ := Lib.hid (S2_.out.below o1.2)
    replace S3_ := Lib.hid (S3_.out.below o1.2)
    replace Rp := Lib.hid (Rp.out.below o1.2)
    replace bb := Lib.hid (bl_trans bb.out o1.2)
    obtain ⟨Bu, cu, rfl, r_⟩ := o1.form
    have Ru : Hid (Sls w7 Bu n1 Lu) := Lib.hid ⟨r_, o3⟩
    have Eu := Lib.hid o2
    have Mu := Lib.hid o4
    clear o1 o2 o3 o4 r_ C_
    have C_ := Lib.hid (same_c Lp Lu Bp Bu n3 cp n1 cu w7 true Rp.out Ru.out (by omega) Mp.out Mu.out (decide_eq_true (by rw [Ep.out, Eu.out, E3.out, E1.out])))
    go_wp2_with fail
    refine C_.out.mono ?_
    rintro e w8 ⟨rfl, b_⟩
    replace SL := Lib.hid (SL.out.below b_)
    replace HH := Lib.hid (HH.out.below b_)
    replace RX := Lib.hid (RX.out.below b_)
    replace RY := Lib.hid (RY.out.below b_)
    replace S1_ := Lib.hid (S1_.out.below b_)
    replace S2_ := Lib.hid (S2_.out.below b_)
    replace S3_ := Lib.hid (S3_.out.below b_)
    replace Rp := Lib.hid (Rp.out.below b_)
    replace Ru := Lib.hid (Ru.out.below b_)
    replace bb := Lib.hid (bl_trans bb.out b_)
    clear b_ C_
    go_wp2_with fail
    refine (awake_any _).mono ?_
    rintro e wz ⟨rfl, bz⟩
    go_wp2
    go_ret
    exact ⟨rfl, bl_trans bb.out bz⟩
end Go.Proofs.Ytddgdhaioomnnaa.Filter
