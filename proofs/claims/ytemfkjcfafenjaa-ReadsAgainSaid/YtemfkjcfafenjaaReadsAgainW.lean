/-
  THE WALK OF THE LAW ReadsAgain.
-/
import Derived.Test.YtemfkjcfafenjaaReadsLaw
import Derived.Test.YtemfkjcfafenjaaReadsMore2
namespace Go.Proofs.Ytemfkjcfafenjaa.Reads
open Go.ChangeShapes Go.WideShapes Go.ChangeAt Go.RowKit Mem

set_option maxRecDepth 100000 in
set_option maxHeartbeats 2000000 in
theorem again_walk (S : Said) (A : Option Addr) (n c : Nat) (l : List Read) (x : Read) (ce : Int) (w : World)
    (hnc : n ≤ c) (mn : n ≤ 9223372036854775807) (hr : Rd w 3 A n (ds l)) :
    Calls Try.prog 8 #[.slice A n c, .agg #[.int .i64 x.cell, .int .i64 x.version, .int .i64 x.value], .int .i64 ce] w (RetB w true) := by
  have HS := Lib.hid S
  clear S
  obtain ⟨cl, vr, vl⟩ := x
  by_cases h1 : 24 < n
  · go_enter Try.func8, Try.ntmps8
    go_wp2_with fail
    refine (awake_any HS.out _).mono ?_
    rintro e v1 ⟨rfl, b1⟩
    go_wp2
    go_ret
    exact ⟨rfl, bl_trans (bl_alloc (Below.refl _ _) _) b1⟩
  obtain ⟨⟨m, er⟩, ha⟩ : ∃ a, addS l ⟨cl, vr, vl⟩ = a := ⟨_, rfl⟩
  have HA := Lib.hid ha
  have HL := Lib.hid (ds_len hr)
  obtain ⟨q, hq⟩ : ∃ q, m.length = q := ⟨_, rfl⟩
  have HQ := Lib.hid hq
  have hq1 : q ≤ 25 := by have := add_len l ⟨cl, vr, vl⟩; rw [ha] at this; have h2 := HL.out; have h3 : m.length ≤ l.length + 1 := this; omega
  clear ha hq
  have bb : Below w.heap.size w w := Below.refl _ _
  go_enter Try.func8, Try.ntmps8
  go_wp2_with fail
  have k4 : Blk (w.alloc (.cells #[.int .i64 cl, .int .i64 vr, .int .i64 vl] 24)) w.heap.size 24 #[.int .i64 cl, .int .i64 vr, .int .i64 vl] := Blk.new _ _ _
  replace hr := hr.alloc (.cells #[.int .i64 cl, .int .i64 vr, .int .i64 vl] 24)
  replace bb := bl_alloc bb (.cells #[.int .i64 cl, .int .i64 vr, .int .i64 vl] 24)
  refine (HS.out.add l _ _ _ _ _ _ _ _ _ hr hnc (by omega) HA.out HQ.out).mono ?_
  rintro e w2 ⟨B1, d1, z1, rfl, s1, b_⟩
  replace hr := hr.below b_
  replace k4 := k4.below b_
  replace bb := bl_trans bb b_
  clear b_
  by_cases he : er = 0
  · subst he
    obtain ⟨g1, g2, g3, g4⟩ := again_law l m ⟨cl, vr, vl⟩ ce HA.out
    have G1 := Lib.hid g1
    have G2 := Lib.hid g2
    have G3 := Lib.hid g3
    clear g1 g2 g3
    have q0 := k4.cell 0 _ rfl
    have q1 := k4.cell 1 _ rfl
    have q2 := k4.cell 2 _ rfl
    go_wp2_with fail
    refine (HS.out.add m _ _ _ _ _ _ _ (m, 0) q s1 z1 (by omega) G2.out HQ.out).mono ?_
    rintro e w3 ⟨B2, d2, z2, rfl, s2, b_⟩
    replace hr := hr.below b_
    replace k4 := k4.below b_
    replace s1 := s1.below b_
    replace bb := bl_trans bb b_
    clear b_
    clear q0 q1 q2
    have q0 := k4.cell 0 _ rfl
    go_wp2_with fail
    refine (HS.out.find m _ _ _ _ _ _ s1 z1 (by omega) G3.out).mono ?_
    rintro e w4 ⟨rfl, b_⟩
    replace hr := hr.below b_
    replace k4 := k4.below b_
    replace s1 := s1.below b_
    replace s2 := s2.below b_
    replace bb := bl_trans bb b_
    clear b_
    clear q0
    have k11 : Blk (w4.alloc (.cells #[.int .i64 cl, .int .i64 vr, .int .i64 vl] 24)) w4.heap.size 24 #[.int .i64 cl, .int .i64 vr, .int .i64 vl] := Blk.new _ _ _
    obtain ⟨⟨⟨ac, av, al⟩, ab⟩, hfa⟩ : ∃ y, findR l ce = y := ⟨_, rfl⟩
    obtain ⟨⟨⟨bc, bv, bl⟩, bt⟩, hfb⟩ : ∃ y, findR m ce = y := ⟨_, rfl⟩
    rw [hfa, hfb] at g4
    have HFA := Lib.hid hfa
    have HFB := Lib.hid hfb
    clear hfa hfb
    go_wp2_with fail
    refine (HS.out.find l _ _ _ _ _ _ (hr.alloc _) hnc (by omega) HFA.out).mono ?_
    rintro e w5 ⟨rfl, b_⟩
    replace hr := (hr.alloc _).below b_
    replace k4 := (k4.alloc _).below b_
    replace s1 := (s1.alloc _).below b_
    replace s2 := (s2.alloc _).below b_
    replace k11 := k11.below b_
    replace bb := bl_trans (bl_alloc bb _) b_
    clear b_ hr
    have k13 : Blk (w5.alloc (.cells #[.int .i64 ac, .int .i64 av, .int .i64 al] 24)) w5.heap.size 24 #[.int .i64 ac, .int .i64 av, .int .i64 al] := Blk.new _ _ _
    go_wp2_with fail
    refine (HS.out.find m _ _ _ _ _ _ (s1.alloc _) z1 (by omega) HFB.out).mono ?_
    rintro e w6 ⟨rfl, b_⟩
    replace k4 := (k4.alloc _).below b_
    replace s1 := (s1.alloc _).below b_
    replace s2 := (s2.alloc _).below b_
    replace k11 := (k11.alloc _).below b_
    replace k13 := k13.below b_
    replace bb := bl_trans (bl_alloc bb _) b_
    clear b_
    have k15 : Blk (w6.alloc (.cells #[.int .i64 bc, .int .i64 bv, .int .i64 bl] 24)) w6.heap.size 24 #[.int .i64 bc, .int .i64 bv, .int .i64 bl] := Blk.new _ _ _
    go_wp2_with fail
    refine (same_b m m _ _ _ _ _ _ _ true (s2.alloc _) (s1.alloc _) (by omega) (by omega) (decide_eq_true rfl)).mono ?_
    rintro e w7 ⟨rfl, b_⟩
    replace k4 := (k4.alloc _).below b_
    replace s1 := (s1.alloc _).below b_
    replace k11 := (k11.alloc _).below b_
    replace k13 := (k13.alloc _).below b_
    replace k15 := k15.below b_
    replace bb := bl_trans (bl_alloc bb _) b_
    clear b_ s2
    have p0 := k4.cell 0 _ rfl
    have p1 := k4.cell 1 _ rfl
    have p2 := k4.cell 2 _ rfl
    have x0 := k11.cell 0 _ rfl
    have x1 := k11.cell 1 _ rfl
    have x2 := k11.cell 2 _ rfl
    have y0 := k13.cell 0 _ rfl
    have y1 := k13.cell 1 _ rfl
    have y2 := k13.cell 2 _ rfl
    have u0 := k15.cell 0 _ rfl
    have u1 := k15.cell 1 _ rfl
    have u2 := k15.cell 2 _ rfl
    clear k4 k11 k13 k15
    rcases g4 with ⟨hA, hB, hC⟩ | ⟨hA, hB⟩ | ⟨hA, hB, hC⟩
    · subst hA hB
      injection hC with hC1 hC2 hC3
      subst hC1 hC2 hC3
      go_wp2_with fail
      refine (HS.out.right m _ _ _ _ true s1 z1 (by omega) G1.out).mono ?_
      rintro e w8 ⟨rfl, b_⟩
      replace bb := bl_trans bb b_
      clear b_
      clear s1
      go_wp2_with fail
      refine (awake_any HS.out _).mono ?_
      rintro e w9 ⟨rfl, b_⟩
      replace bb := bl_trans bb b_
      clear b_
      go_wp2
      go_ret
      exact ⟨rfl, bb⟩
    · subst hA hB
      go_wp2_with fail
      refine (HS.out.right m _ _ _ _ true s1 z1 (by omega) G1.out).mono ?_
      rintro e w8 ⟨rfl, b_⟩
      replace bb := bl_trans bb b_
      clear b_
      clear s1
      go_wp2_with fail
      refine (awake_any HS.out _).mono ?_
      rintro e w9 ⟨rfl, b_⟩
      replace bb := bl_trans bb b_
      clear b_
      go_wp2
      go_ret
      exact ⟨rfl, bb⟩
    · subst hA hB hC
      go_wp2_with fail
      refine (HS.out.right m _ _ _ _ true s1 z1 (by omega) G1.out).mono ?_
      rintro e w8 ⟨rfl, b_⟩
      replace bb := bl_trans bb b_
      clear b_
      clear s1
      go_wp2_with fail
      refine (awake_any HS.out _).mono ?_
      rintro e w9 ⟨rfl, b_⟩
      replace bb := bl_trans bb b_
      clear b_
      go_wp2
      go_ret
      exact ⟨rfl, bb⟩
  · have HM : Hid (m = l) := Lib.hid (add_err l m ⟨cl, vr, vl⟩ er HA.out he)
    obtain rfl := HM.out
    have he1 : (er != 0) = true := by simpa using he
    clear he
    go_wp2_with fail
    refine (same_b m m _ _ _ _ _ _ _ true s1 hr (by omega) (by omega) (decide_eq_true rfl)).mono ?_
    rintro e w3 ⟨rfl, b_⟩
    replace k4 := k4.below b_
    replace bb := bl_trans bb b_
    clear b_
    clear hr
    clear s1
    go_wp2_with fail
    refine (awake_any HS.out _).mono ?_
    rintro e w4 ⟨rfl, b_⟩
    replace k4 := k4.below b_
    replace bb := bl_trans bb b_
    clear b_
    go_wp2
    go_ret
    exact ⟨rfl, bb⟩
end Go.Proofs.Ytemfkjcfafenjaa.Reads
