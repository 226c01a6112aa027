/-
  THE WALK OF THE LAW ReadsTells.
-/
import Derived.Test.YtemfkjcfafenjaaReadsLaw
import Derived.Test.YtemfkjcfafenjaaReadsMore2
namespace Go.Proofs.Ytemfkjcfafenjaa.Reads
open Go.ChangeShapes Go.WideShapes Go.ChangeAt Go.RowKit Mem

set_option maxRecDepth 100000 in
set_option maxHeartbeats 2000000 in
theorem tells_walk (S : Said) (A : Option Addr) (n c : Nat) (l : List Read) (x : Read) (ce : Int) (w : World)
    (hnc : n ≤ c) (mn : n ≤ 9223372036854775807) (hr : Rd w 3 A n (ds l)) :
    Calls Try.prog 3 #[.slice A n c, .agg #[.int .i64 x.cell, .int .i64 x.version, .int .i64 x.value], .int .i64 ce] w (RetB w true) := by
  have HS := Lib.hid S
  clear S
  obtain ⟨cl, vr, vl⟩ := x
  by_cases h1 : 40 < n
  · go_enter Try.func3, Try.ntmps3
    go_wp2_with fail
    refine (awake_any HS.out _).mono ?_
    rintro e v1 ⟨rfl, b1⟩
    go_wp2
    go_ret
    exact ⟨rfl, bl_trans (bl_alloc (Below.refl _ _) _) b1⟩
  obtain ⟨⟨m, er⟩, ha⟩ : ∃ a, addS l ⟨cl, vr, vl⟩ = a := ⟨_, rfl⟩
  have HA := Lib.hid ha
  have HL := Lib.hid (ds_len hr)
  obtain ⟨q, hq⟩ : ∃ q, m.length = q := ⟨_, rfl⟩
  have HQ := Lib.hid hq
  have hq1 : q ≤ 41 := by have := add_len l ⟨cl, vr, vl⟩; rw [ha] at this; have h2 := HL.out; have h3 : m.length ≤ l.length + 1 := this; omega
  clear ha hq
  obtain ⟨⟨⟨cx, vx, lx⟩, bt⟩, hf⟩ : ∃ y, findR l ce = y := ⟨_, rfl⟩
  have HF := Lib.hid hf
  obtain ⟨cz, hzc⟩ : ∃ z, cellsS l = z := ⟨_, rfl⟩
  obtain ⟨zq, hzq⟩ : ∃ z, cz.length = z := ⟨_, rfl⟩
  have HZ := Lib.hid hzc
  have HZQ := Lib.hid hzq
  have hzq1 : zq ≤ 40 := by have h3 := cells_len l; rw [hzc] at h3; have h2 := HL.out; omega
  clear hf hzc hzq
  have e1 : (er == er) = true := by simp
  obtain ⟨br, hbr⟩ : ∃ b, rightB l = b := ⟨_, rfl⟩
  have HBR := Lib.hid hbr
  clear hbr
  have bb : Below w.heap.size w w := Below.refl _ _
  go_enter Try.func3, Try.ntmps3
  go_wp2_with fail
  have k4 : Blk (w.alloc (.cells #[.int .i64 cl, .int .i64 vr, .int .i64 vl] 24)) w.heap.size 24 #[.int .i64 cl, .int .i64 vr, .int .i64 vl] := Blk.new _ _ _
  replace hr := hr.alloc (.cells #[.int .i64 cl, .int .i64 vr, .int .i64 vl] 24)
  replace bb := bl_alloc bb (.cells #[.int .i64 cl, .int .i64 vr, .int .i64 vl] 24)
  refine (HS.out.add l _ _ _ _ _ _ _ _ _ hr hnc (by omega) HA.out HQ.out).mono ?_
  rintro e w2 ⟨B1, d1, z1, rfl, s1, b_⟩
  replace hr := hr.below b_
  replace k4 := k4.below b_
  replace bb := bl_trans bb b_
  clear b_
  have q0 := k4.cell 0 _ rfl
  have q1 := k4.cell 1 _ rfl
  have q2 := k4.cell 2 _ rfl
  go_wp2_with fail
  refine (refadd l _ _ _ _ _ _ _ _ _ hr (by omega) HA.out HQ.out).mono ?_
  rintro e w3 ⟨B2, d2, rfl, s2, b_⟩
  replace hr := hr.below b_
  replace s1 := s1.below b_
  replace bb := bl_trans bb b_
  clear b_
  clear k4
  clear q0 q1 q2
  go_wp2_with fail
  refine (HS.out.find l _ _ _ _ _ _ hr hnc (by omega) HF.out).mono ?_
  rintro e w4 ⟨rfl, b_⟩
  replace hr := hr.below b_
  replace s1 := s1.below b_
  replace s2 := s2.below b_
  replace bb := bl_trans bb b_
  clear b_
  have k11 : Blk (w4.alloc (.cells #[.int .i64 cx, .int .i64 vx, .int .i64 lx] 24)) w4.heap.size 24 #[.int .i64 cx, .int .i64 vx, .int .i64 lx] := Blk.new _ _ _
  go_wp2_with fail
  refine (right_g l _ _ _ _ _ (hr.alloc _) (by omega) HBR.out).mono ?_
  rintro e w6 ⟨rfl, b_⟩
  replace b_ := b_.below
  replace hr := (hr.alloc _).below b_
  replace s1 := (s1.alloc _).below b_
  replace s2 := (s2.alloc _).below b_
  replace k11 := k11.below b_
  replace bb := bl_trans (bl_alloc bb _) b_
  clear b_
  go_wp2_with fail
  refine (find_p l _ _ _ _ _ hr (by omega)).mono ?_
  rintro e w' ⟨p, rfl, hp, rfl⟩
  have HP := Lib.hid hp
  clear hp
  cases br with
  | false =>
    have H0 : Hid ((⟨cx, vx, lx⟩ : Read) = ⟨0, 0, 0⟩ ∧ bt = false ∧ cz = []) := Lib.hid (by
      have h2 := HF.out
      have h3 := HZ.out
      unfold findR at h2; unfold cellsS at h3
      rw [HBR.out] at h2 h3
      injection h2 with h4 h5
      exact ⟨h4.symm, h5.symm, h3.symm⟩)
    obtain ⟨h3, rfl, rfl⟩ := H0.out
    injection h3 with h3 h4 h5
    subst h3 h4 h5
    obtain rfl : zq = 0 := HZQ.out.symm
    clear H0
    have k15 : Blk (w6.alloc (.cells #[.int .i64 0, .int .i64 0, .int .i64 0] 24)) w6.heap.size 24 #[.int .i64 0, .int .i64 0, .int .i64 0] := Blk.new _ _ _
    go_wp2_with fail
    refine (HS.out.right l _ _ _ _ _ (hr.alloc _) hnc (by omega) HBR.out).mono ?_
    rintro e w9 ⟨rfl, b_⟩
    replace hr := (hr.alloc _).below b_
    replace s1 := (s1.alloc _).below b_
    replace s2 := (s2.alloc _).below b_
    replace k11 := (k11.alloc _).below b_
    replace k15 := k15.below b_
    replace bb := bl_trans (bl_alloc bb _) b_
    clear b_
    go_wp2_with fail
    refine (same_b m m _ _ _ _ _ _ _ true s1 s2 (by omega) (by omega) (decide_eq_true rfl)).mono ?_
    rintro e w10 ⟨rfl, b_⟩
    replace hr := hr.below b_
    replace k11 := k11.below b_
    replace k15 := k15.below b_
    replace bb := bl_trans bb b_
    clear b_
    clear s1
    clear s2
    have x0 := k11.cell 0 _ rfl
    have x1 := k11.cell 1 _ rfl
    have x2 := k11.cell 2 _ rfl
    have u0 := k15.cell 0 _ rfl
    have u1 := k15.cell 1 _ rfl
    have u2 := k15.cell 2 _ rfl
    clear k11 k15
    go_wp2_with fail
    refine (HS.out.cells l _ _ _ _ _ _ hr hnc (by omega) HZ.out HZQ.out).mono ?_
    rintro e w11 ⟨B6, d6, rfl, s6, b_⟩
    replace bb := bl_trans bb b_
    clear b_
    clear hr
    go_wp2_with fail
    refine (numbers_b [] [] _ _ _ _ _ _ _ true s6 Rd.none_ (by omega) (by omega) (decide_eq_true rfl)).mono ?_
    rintro e w12 ⟨rfl, b_⟩
    replace bb := bl_trans bb b_
    clear b_
    clear s6
    go_wp2_with fail
    refine (awake_any HS.out _).mono ?_
    rintro e w13 ⟨rfl, b_⟩
    replace bb := bl_trans bb b_
    clear b_
    go_wp2
    go_ret
    exact ⟨rfl, bb⟩
  | true =>
    have HZ' : Hid (sortZ (l.map Read.cell) = cz) := Lib.hid (by have h3 := HZ.out; unfold cellsS at h3; rw [if_pos HBR.out] at h3; exact h3)
    have HZN : Hid (zq = n) := Lib.hid (by rw [← HZQ.out, ← HZ'.out, sort_len, List.length_map]; exact HL.out)
    obtain rfl := HZN.out
    rcases HP.out with ⟨rfl, hnone⟩ | ⟨k, ⟨ck, vk, lk⟩, rfl, hk, hsome⟩
    · have H0 : Hid ((⟨cx, vx, lx⟩ : Read) = ⟨0, 0, 0⟩ ∧ bt = false) := Lib.hid (by
        have h2 := HF.out
        unfold findR at h2
        rw [if_pos HBR.out, hnone] at h2
        injection h2 with h4 h5
        exact ⟨h4.symm, h5.symm⟩)
      obtain ⟨h3, rfl⟩ := H0.out
      injection h3 with h3 h4 h5
      subst h3 h4 h5
      clear H0 hnone HP
      have k15 : Blk (w6.alloc (.cells #[.int .i64 0, .int .i64 0, .int .i64 0] 24)) w6.heap.size 24 #[.int .i64 0, .int .i64 0, .int .i64 0] := Blk.new _ _ _
      go_wp2_with fail
      refine (refcells l _ _ _ _ _ (hr.alloc _) (by omega) HBR.out HZ'.out).mono ?_
      rintro e w8 ⟨B5, d5, rfl, s5, b_⟩
      replace hr := (hr.alloc _).below b_
      replace s1 := (s1.alloc _).below b_
      replace s2 := (s2.alloc _).below b_
      replace k11 := (k11.alloc _).below b_
      replace k15 := k15.below b_
      replace bb := bl_trans (bl_alloc bb _) b_
      clear b_
      go_wp2_with fail
      refine (HS.out.right l _ _ _ _ _ hr hnc (by omega) HBR.out).mono ?_
      rintro e w9 ⟨rfl, b_⟩
      replace hr := hr.below b_
      replace s1 := s1.below b_
      replace s2 := s2.below b_
      replace k11 := k11.below b_
      replace k15 := k15.below b_
      replace s5 := s5.below b_
      replace bb := bl_trans bb b_
      clear b_
      go_wp2_with fail
      refine (same_b m m _ _ _ _ _ _ _ true s1 s2 (by omega) (by omega) (decide_eq_true rfl)).mono ?_
      rintro e w10 ⟨rfl, b_⟩
      replace hr := hr.below b_
      replace k11 := k11.below b_
      replace k15 := k15.below b_
      replace s5 := s5.below b_
      replace bb := bl_trans bb b_
      clear b_
      clear s1
      clear s2
      have x0 := k11.cell 0 _ rfl
      have x1 := k11.cell 1 _ rfl
      have x2 := k11.cell 2 _ rfl
      have u0 := k15.cell 0 _ rfl
      have u1 := k15.cell 1 _ rfl
      have u2 := k15.cell 2 _ rfl
      clear k11 k15
      go_wp2_with fail
      refine (HS.out.cells l _ _ _ _ _ _ hr hnc (by omega) HZ.out HZQ.out).mono ?_
      rintro e w11 ⟨B6, d6, rfl, s6, b_⟩
      replace s5 := s5.below b_
      replace bb := bl_trans bb b_
      clear b_
      clear hr
      go_wp2_with fail
      refine (numbers_b cz cz _ _ _ _ _ _ _ true s6 s5 (by omega) (by omega) (decide_eq_true rfl)).mono ?_
      rintro e w12 ⟨rfl, b_⟩
      replace bb := bl_trans bb b_
      clear b_
      clear s6
      clear s5
      go_wp2_with fail
      refine (awake_any HS.out _).mono ?_
      rintro e w13 ⟨rfl, b_⟩
      replace bb := bl_trans bb b_
      clear b_
      go_wp2
      go_ret
      exact ⟨rfl, bb⟩
    · have H0 : Hid ((⟨cx, vx, lx⟩ : Read) = ⟨ck, vk, lk⟩ ∧ bt = true) := Lib.hid (by
        have h2 := HF.out
        unfold findR at h2
        rw [if_pos HBR.out, hsome] at h2
        injection h2 with h4 h5
        exact ⟨h4.symm, h5.symm⟩)
      obtain ⟨h3, rfl⟩ := H0.out
      injection h3 with h3 h4 h5
      subst h3 h4 h5
      clear H0 hsome HP
      have hkn : k < zq := by rw [← HL.out]; exact (List.getElem?_eq_some_iff.1 hk).1
      obtain ⟨ab, ao, rfl, -⟩ := hr.2 (by omega)
      have hk0 : (0 : Int) ≤ (k : Int) := by omega
      have y0 : ∀ o, (w6.alloc o).cell? ⟨ab, ao + k * 3, none⟩ = some (.int .i64 cx) := fun o => (cells_read (hr.alloc o) hk).1
      have y1 : ∀ o, (w6.alloc o).cell? ⟨ab, ao + k * 3 + 1, none⟩ = some (.int .i64 vx) := fun o => (cells_read (hr.alloc o) hk).2.1
      have y2 : ∀ o, (w6.alloc o).cell? ⟨ab, ao + k * 3 + 2, none⟩ = some (.int .i64 lx) := fun o => (cells_read (hr.alloc o) hk).2.2
      clear hk
      have k15 : Blk (w6.alloc (.cells #[.int .i64 cx, .int .i64 vx, .int .i64 lx] 24)) w6.heap.size 24 #[.int .i64 cx, .int .i64 vx, .int .i64 lx] := Blk.new _ _ _
      go_wp2_with fail
      refine (refcells l _ _ _ _ _ (hr.alloc _) (by omega) HBR.out HZ'.out).mono ?_
      rintro e w8 ⟨B5, d5, rfl, s5, b_⟩
      replace hr := (hr.alloc _).below b_
      replace s1 := (s1.alloc _).below b_
      replace s2 := (s2.alloc _).below b_
      replace k11 := (k11.alloc _).below b_
      replace k15 := k15.below b_
      replace bb := bl_trans (bl_alloc bb _) b_
      clear b_
      go_wp2_with fail
      refine (HS.out.right l _ _ _ _ _ hr hnc (by omega) HBR.out).mono ?_
      rintro e w9 ⟨rfl, b_⟩
      replace hr := hr.below b_
      replace s1 := s1.below b_
      replace s2 := s2.below b_
      replace k11 := k11.below b_
      replace k15 := k15.below b_
      replace s5 := s5.below b_
      replace bb := bl_trans bb b_
      clear b_
      go_wp2_with fail
      refine (same_b m m _ _ _ _ _ _ _ true s1 s2 (by omega) (by omega) (decide_eq_true rfl)).mono ?_
      rintro e w10 ⟨rfl, b_⟩
      replace hr := hr.below b_
      replace k11 := k11.below b_
      replace k15 := k15.below b_
      replace s5 := s5.below b_
      replace bb := bl_trans bb b_
      clear b_
      clear s1
      clear s2
      have x0 := k11.cell 0 _ rfl
      have x1 := k11.cell 1 _ rfl
      have x2 := k11.cell 2 _ rfl
      have u0 := k15.cell 0 _ rfl
      have u1 := k15.cell 1 _ rfl
      have u2 := k15.cell 2 _ rfl
      clear k11 k15
      go_wp2_with fail
      refine (HS.out.cells l _ _ _ _ _ _ hr hnc (by omega) HZ.out HZQ.out).mono ?_
      rintro e w11 ⟨B6, d6, rfl, s6, b_⟩
      replace s5 := s5.below b_
      replace bb := bl_trans bb b_
      clear b_
      clear hr
      go_wp2_with fail
      refine (numbers_b cz cz _ _ _ _ _ _ _ true s6 s5 (by omega) (by omega) (decide_eq_true rfl)).mono ?_
      rintro e w12 ⟨rfl, b_⟩
      replace bb := bl_trans bb b_
      clear b_
      clear s6
      clear s5
      go_wp2_with fail
      refine (awake_any HS.out _).mono ?_
      rintro e w13 ⟨rfl, b_⟩
      replace bb := bl_trans bb b_
      clear b_
      go_wp2
      go_ret
      exact ⟨rfl, bb⟩
end Go.Proofs.Ytemfkjcfafenjaa.Reads
