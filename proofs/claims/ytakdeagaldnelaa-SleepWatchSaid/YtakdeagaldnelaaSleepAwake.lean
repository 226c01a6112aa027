/-
  THE FIXED ANSWER OF LAYER 15's STATEMENTS.
-/
import Derived.Test.YtakdeagaldnelaaSleepLaw
import Derived.Test.YtakdeagaldnelaaSleepCode4
import Derived.Test.YtakdeagaldnelaaSleepCode5
import Derived.Test.YtakdeagaldnelaaSleepOf
import Derived.Test.YtakdeagaldnelaaSleepWatched
import Derived.Test.YtakdeagaldnelaaMemA
namespace Go.Proofs.Ytakdeagaldnelaa.Sleep
open Go.ChangeShapes Go.WideShapes Go.ChangeAt Go.RowKit Mem
open Heap (Write)

theorem sls_count {w : World} {A : Option Addr} {n : Nat} {L : List RawS} {S : List Sl} (h : Sls w A n L) (e : cc L = S) : n = S.length := by rw [← h.len, ← cc_len L, e]
def s1 : Sl := ⟨3, 2, 0, [⟨2, 5⟩], []⟩
def s2 : Sl := ⟨1, 3, 0, [⟨4, 0⟩], [⟨2, 4⟩]⟩
theorem aw1 : addS [] s1 = ([s1], 0) := by decide +kernel
theorem aw2 : addS [s1] s2 = ([s2, s1], 0) := by decide +kernel
theorem aw3 : addS [s2, s1] s1 = ([s2, s1], 9) := by decide +kernel
theorem aw4 : findS [s2, s1] 3 = (s1, 0) := by decide +kernel
theorem aw5 : dropS [s2, s1] [3] = ([s2], 0) := by decide +kernel
theorem aw6 : dropS [s2, s1] [2] = ([s2, s1], 3) := by decide +kernel
theorem aw7 : ofS [s2, s1] [4, 2] = [1, 3] := by decide +kernel
theorem aw8 : (watchedS [⟨9, 0, 1⟩]).length = 1 := by decide +kernel
theorem aw9 : rightB [s2, s1] = true := by decide +kernel
def xa (h : Nat) : RawS := ⟨3, 2, 0, some ⟨h, 0, none⟩, 1, 1, [⟨2, 5⟩], none, 0, 0, []⟩
def xb (h : Nat) : RawS := ⟨1, 3, 0, some ⟨h + 1 + 1, 0, none⟩, 1, 1, [⟨4, 0⟩], some ⟨h + 1 + 1 + 1, 0, none⟩, 1, 1, [⟨2, 4⟩]⟩
set_option maxRecDepth 100000 in
set_option maxHeartbeats 8000000 in
theorem awake_any (w : World) : Calls Try.prog 10 #[] w (RetB w true) := by
  obtain ⟨h, hh⟩ : ∃ h, w.heap.size = h := ⟨_, rfl⟩
  obtain ⟨u1, hu1⟩ : ∃ u1, u1 = w.alloc (.cells #[.int .i64 2, .int .i64 5] 62) := ⟨_, rfl⟩
  obtain ⟨u2, hu2⟩ : ∃ u2, u2 = u1.alloc (.cells #[.int .i64 3, .int .i64 2, .int .i64 0, .slice (some ⟨h, 0, none⟩) 1 1, .slice none 0 0] 26) := ⟨_, rfl⟩
  obtain ⟨u3, hu3⟩ : ∃ u3, u3 = u2.alloc (.cells #[.int .i64 4, .int .i64 0] 62) := ⟨_, rfl⟩
  obtain ⟨u4, hu4⟩ : ∃ u4, u4 = u3.alloc (.cells #[.int .i64 2, .int .i64 4] 67) := ⟨_, rfl⟩
  obtain ⟨w0, hw0⟩ : ∃ w0, w0 = u4.alloc (.cells #[.int .i64 1, .int .i64 3, .int .i64 0, .slice (some ⟨h + 1 + 1, 0, none⟩) 1 1, .slice (some ⟨h + 1 + 1 + 1, 0, none⟩) 1 1] 26) := ⟨_, rfl⟩
  have z1 : u1.heap.size = h + 1 := by rw [hu1, World.size_alloc, hh]
  have z2 : u2.heap.size = h + 1 + 1 := by rw [hu2, World.size_alloc, z1]
  have z3 : u3.heap.size = h + 1 + 1 + 1 := by rw [hu3, World.size_alloc, z2]
  have z4 : u4.heap.size = h + 1 + 1 + 1 + 1 := by rw [hu4, World.size_alloc, z3]
  have IA : Hid (Inner w0 (xa h)) := Lib.hid (by
    have h1 : Inner u1 (xa h) := ⟨by rw [hu1]; exact Rd.builtAt w 2 1 (Heap.ws [⟨2, 5⟩]) _ rfl hh, Rd.none_⟩
    rw [hw0, hu4, hu3, hu2]; exact (((h1.alloc _).alloc _).alloc _).alloc _)
  have IB : Hid (Inner w0 (xb h)) := Lib.hid (by
    have h1 : Rd u3 2 (some ⟨h + 1 + 1, 0, none⟩) 1 (Heap.ws [⟨4, 0⟩]) := by rw [hu3]; exact Rd.builtAt u2 2 1 (Heap.ws [⟨4, 0⟩]) _ rfl z2
    have h2 : Rd u4 2 (some ⟨h + 1 + 1 + 1, 0, none⟩) 1 (Term.ops [⟨2, 4⟩]) := by rw [hu4]; exact Rd.builtAt u3 2 1 (Term.ops [⟨2, 4⟩]) _ rfl z3
    have h3 : Inner u4 (xb h) := ⟨by rw [hu4]; exact h1.alloc _, h2⟩
    rw [hw0]; exact h3.alloc _)
  have KA : Hid (Blk w0 (h + 1) 26 (cS (xa h))) := Lib.hid (by
    have h1 : Blk u2 (h + 1) 26 (cS (xa h)) := by rw [hu2, ← z1]; exact Blk.new _ _ _
    rw [hw0, hu4, hu3]; exact ((h1.alloc _).alloc _).alloc _)
  have KB : Hid (Blk w0 (h + 1 + 1 + 1 + 1) 26 (cS (xb h))) := Lib.hid (by
    rw [hw0, ← z4]; exact Blk.new _ _ _)
  have bb : Hid (Below w.heap.size w w0) := Lib.hid (by rw [hw0, hu4, hu3, hu2, hu1]; exact bl_alloc (bl_alloc (bl_alloc (bl_alloc (bl_alloc (Below.refl _ _) _) _) _) _) _)
  have LA : Hid (Lim1 (xa h)) := Lib.hid ⟨by show (1 : Nat) ≤ 1000000; decide, by show (0 : Nat) ≤ 1000000; decide⟩
  have LB : Hid (Lim1 (xb h)) := Lib.hid ⟨by show (1 : Nat) ≤ 1000000; decide, by show (1 : Nat) ≤ 1000000; decide⟩
  have A1 := Lib.hid (add_c [] (xa h) none 0 0 w0 ([s1], 0) Sls.none_ (by decide) Lim.nil_ IA.out LA.out aw1)
  have qa0 := KA.out.cell 0 _ rfl
  have qa1 := KA.out.cell 1 _ rfl
  have qa2 := KA.out.cell 2 _ rfl
  have qa3 := KA.out.cell 3 _ rfl
  have qa4 := KA.out.cell 4 _ rfl
  simp only [cS, xa] at A1 KA qa0 qa1 qa2 qa3 qa4
  simp only [cS, xb] at KB
  go_enter Try.func10, Try.ntmps10
  go_wp2_with fail
  rw [← hu1, ← hu2, ← hu3, ← hu4, ← hw0]
  clear hw0 hu4 hu3 hu2 hu1 z1 z2 z3 z4 hh qa0 qa1 qa2 qa3 qa4
  refine A1.out.mono ?_
  rintro e v1 ⟨B1, m1, d1, L1, rfl, t1, e1, l1, b_⟩
  obtain rfl : m1 = 1 := sls_count t1 e1
  have T1 := Lib.hid t1
  have E1 : Hid (cc L1 = [s1]) := Lib.hid e1
  have M1 := Lib.hid l1
  replace IA := Lib.hid (IA.out.below b_)
  replace IB := Lib.hid (IB.out.below b_)
  replace KA := Lib.hid (KA.out.below b_)
  replace KB := Lib.hid (KB.out.below b_)
  replace bb := Lib.hid (bl_trans bb.out b_)
  clear t1 e1 l1 b_ A1
  have A2 := Lib.hid (add_c L1 (xb h) B1 1 d1 v1 ([s2, s1], 0) T1.out (by decide) M1.out IB.out LB.out (by rw [E1.out]; exact aw2))
  simp only [cS, xb] at A2
  have q0 := KB.out.cell 0 _ rfl
  have q1 := KB.out.cell 1 _ rfl
  have q2 := KB.out.cell 2 _ rfl
  have q3 := KB.out.cell 3 _ rfl
  have q4 := KB.out.cell 4 _ rfl
  go_wp2_with fail
  clear q0 q1 q2 q3 q4
  refine A2.out.mono ?_
  rintro e v2 ⟨B2, m2, d2, L2, rfl, t2, e2, l2, b_⟩
  obtain rfl : m2 = 2 := sls_count t2 e2
  have T2 := Lib.hid t2
  have E2 : Hid (cc L2 = [s2, s1]) := Lib.hid e2
  have M2 := Lib.hid l2
  replace IA := Lib.hid (IA.out.below b_)
  replace KA := Lib.hid (KA.out.below b_)
  replace bb := Lib.hid (bl_trans bb.out b_)
  clear t2 e2 l2 b_ A2 IB LB KB T1 E1 M1
  have A3 := Lib.hid (add_c L2 (xa h) B2 2 d2 v2 ([s2, s1], 9) T2.out (by decide) M2.out IA.out LA.out (by rw [E2.out]; exact aw3))
  simp only [cS, xa] at A3
  have q0 := KA.out.cell 0 _ rfl
  have q1 := KA.out.cell 1 _ rfl
  have q2 := KA.out.cell 2 _ rfl
  have q3 := KA.out.cell 3 _ rfl
  have q4 := KA.out.cell 4 _ rfl
  go_wp2_with fail
  clear q0 q1 q2 q3 q4
  refine A3.out.mono ?_
  rintro e v3 ⟨B3, m3, d3, L3, rfl, -, -, -, b_⟩
  replace T2 := Lib.hid (T2.out.below b_)
  replace bb := Lib.hid (bl_trans bb.out b_)
  clear b_ A3 IA LA KA
  have A4 := Lib.hid (findS_c L2 B2 2 d2 3 v3 (s1, 0) T2.out (by decide) M2.out (by rw [E2.out]; exact aw4))
  go_wp2_with fail
  refine A4.out.mono ?_
  rintro e v4 ⟨⟨yw, ym, yt, yA, yn, yc, yW, yB, yk, yd, yT⟩, rfl, hst, hin, -, b_⟩
  obtain rfl : yn = 1 := by
    have h1 : yW = [⟨2, 5⟩] := congrArg Sl.watch hst
    have h2 := hin.lenW
    simp only at h2
    rw [h1] at h2; exact h2.symm
  have KS := Lib.hid (Blk.new v4 26 #[.int .i64 yw, .int .i64 ym, .int .i64 yt, .slice yA 1 yc, .slice yB yk yd])
  replace T2 := Lib.hid ((T2.out.below b_).alloc (.cells #[.int .i64 yw, .int .i64 ym, .int .i64 yt, .slice yA 1 yc, .slice yB yk yd] 26))
  replace bb := Lib.hid (bl_alloc (bl_trans bb.out b_) (.cells #[.int .i64 yw, .int .i64 ym, .int .i64 yt, .slice yA 1 yc, .slice yB yk yd] 26))
  clear b_ A4 hst hin
  simp only [cS]
  obtain ⟨g, hg⟩ : ∃ g, v4.heap.size = g := ⟨_, rfl⟩
  obtain ⟨v5, hv5⟩ : ∃ v5, v4.alloc (.cells #[.int .i64 yw, .int .i64 ym, .int .i64 yt, .slice yA 1 yc, .slice yB yk yd] 26) = v5 := ⟨_, rfl⟩
  rw [hg, hv5] at KS
  rw [hv5] at T2 bb
  have A5 := Lib.hid (drop_c L2 [3] B2 (some ⟨v5.heap.size, 0, none⟩) 2 d2 1 1 (v5.alloc (.cells #[.int .i64 3] 3)) ([s2], 0) (T2.out.alloc _) (by decide) M2.out (Rd.built v5 1 1 (zs [3]) _ rfl) (by decide) (by rw [E2.out]; exact aw5))
  have z5 : v5.heap.size = g + 1 := by rw [← hv5, World.size_alloc, hg]
  rw [z5] at A5
  go_wp2_with fail
  clear hv5 hg z5
  refine A5.out.mono ?_
  rintro e v6 ⟨B6, m6, d6, L6, rfl, t6, e6, -, b_⟩
  obtain rfl : m6 = 1 := sls_count t6 e6
  replace T2 := Lib.hid ((T2.out.alloc (.cells #[.int .i64 3] 3)).below b_)
  replace KS := Lib.hid ((KS.out.alloc (.cells #[.int .i64 3] 3)).below b_)
  replace bb := Lib.hid (bl_trans (bl_alloc bb.out (.cells #[.int .i64 3] 3)) b_)
  clear t6 e6 b_ A5
  have A6 := Lib.hid (drop_c L2 [2] B2 (some ⟨v6.heap.size, 0, none⟩) 2 d2 1 1 (v6.alloc (.cells #[.int .i64 2] 3)) ([s2, s1], 3) (T2.out.alloc _) (by decide) M2.out (Rd.built v6 1 1 (zs [2]) _ rfl) (by decide) (by rw [E2.out]; exact aw6))
  go_wp2_with fail
  refine A6.out.mono ?_
  rintro e v7 ⟨B7, m7, d7, L7, rfl, -, -, -, b_⟩
  replace T2 := Lib.hid ((T2.out.alloc (.cells #[.int .i64 2] 3)).below b_)
  replace KS := Lib.hid ((KS.out.alloc (.cells #[.int .i64 2] 3)).below b_)
  replace bb := Lib.hid (bl_trans (bl_alloc bb.out (.cells #[.int .i64 2] 3)) b_)
  clear b_ A6
  have A7 := Lib.hid (of_c L2 [4, 2] B2 (some ⟨v7.heap.size, 0, none⟩) 2 d2 2 2 (v7.alloc (.cells #[.int .i64 4, .int .i64 2] 3)) [1, 3] 2 (T2.out.alloc _) (by decide) M2.out (Rd.built v7 1 2 (zs [4, 2]) _ rfl) (by decide) (by rw [E2.out]; exact aw7) rfl)
  obtain ⟨b8, off8, x8, rfl, hx8, c0, -⟩ := T2.out.at_ 0 (by decide)
  have hw8 : x8.who = 1 := by
    have h1 := cc_at L2 0 x8 hx8
    rw [E2.out] at h1
    injection h1 with h1
    exact (congrArg Sl.who h1).symm
  have c0' : v7.cell? ⟨b8, off8, none⟩ = some (.int .i64 1) := by rw [hw8] at c0; simpa using c0
  have q3 := KS.out.cell 3 _ rfl
  clear c0 hx8 hw8
  go_wp2_with fail
  refine A7.out.mono ?_
  rintro e v8 ⟨vv8, rfl, o8⟩
  obtain ⟨B8, d8, rfl, r8⟩ := o8.form
  have R8 := Lib.hid r8
  replace T2 := Lib.hid ((T2.out.alloc (.cells #[.int .i64 4, .int .i64 2] 3)).below o8.2)
  replace bb := Lib.hid (bl_trans (bl_alloc bb.out (.cells #[.int .i64 4, .int .i64 2] 3)) o8.2)
  clear o8 r8 A7 c0' q3
  have A8 := Lib.hid (numbers_b [1, 3] [1, 3] B8 (some ⟨v8.heap.size, 0, none⟩) 2 2 d8 2 (v8.alloc (.cells #[.int .i64 1, .int .i64 3] 3)) true (R8.out.alloc _) (Rd.built v8 1 2 (zs [1, 3]) _ rfl) (by decide) (by decide) (by decide))
  go_wp2_with fail
  refine A8.out.mono ?_
  rintro e v9 ⟨rfl, b_⟩
  replace T2 := Lib.hid ((T2.out.alloc (.cells #[.int .i64 1, .int .i64 3] 3)).below b_)
  replace bb := Lib.hid (bl_trans (bl_alloc bb.out (.cells #[.int .i64 1, .int .i64 3] 3)) b_)
  clear b_ A8
  have A9 := Lib.hid (watched_c [⟨9, 0, 1⟩] (some ⟨v9.heap.size, 0, none⟩) 1 1 (v9.alloc (.cells #[.int .i64 9, .int .i64 0, .int .i64 1] 57)) 1 (Rd.built v9 3 1 (Reads.ds [⟨9, 0, 1⟩]) _ rfl) (by decide) (by decide) aw8)
  go_wp2_with fail
  refine A9.out.mono ?_
  rintro e v10 ⟨vv10, rfl, o10⟩
  obtain ⟨B10, d10, rfl, r10⟩ := o10.form
  replace T2 := Lib.hid ((T2.out.alloc (.cells #[.int .i64 9, .int .i64 0, .int .i64 1] 57)).below o10.2)
  replace bb := Lib.hid (bl_trans (bl_alloc bb.out (.cells #[.int .i64 9, .int .i64 0, .int .i64 1] 57)) o10.2)
  clear o10 r10 A9
  have A10 := Lib.hid (right_c L2 _ 2 d2 v10 true T2.out (by decide) M2.out (by rw [E2.out]; exact aw9))
  go_wp2_with fail
  refine A10.out.mono ?_
  rintro e v11 ⟨rfl, b_⟩
  have HB := Lib.hid (bl_trans bb.out b_)
  clear b_ A10
  go_wp2
  go_ret
  exact ⟨rfl, HB.out⟩
end Go.Proofs.Ytakdeagaldnelaa.Sleep
