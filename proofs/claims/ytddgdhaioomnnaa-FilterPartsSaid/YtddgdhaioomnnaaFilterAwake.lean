/-
  THE FIXED ANSWER OF LAYER 16's STATEMENTS.
-/
import Derived.Test.YtddgdhaioomnnaaFilterCode2
import Derived.Test.YtddgdhaioomnnaaMemA
namespace Go.Proofs.Ytddgdhaioomnnaa.Filter
open Go.ChangeShapes Go.WideShapes Go.ChangeAt Go.RowKit Mem
open Heap (Write)
open Sleep

theorem sls_count {w : World} {A : Option Addr} {n : Nat} {L : List RawS} {S : List Sl} (h : Sls w A n L) (e : cc L = S) : n = S.length := by rw [← h.len, ← cc_len L, e]
def hs1 : List Heap.Cell := [⟨true, 5⟩, ⟨true, 0⟩]
def so : Sl := ⟨2, 2, 0, [⟨0, 5⟩], []⟩
def sa : Sl := ⟨4, 1, 0, [⟨0, 5⟩], []⟩
def sp : Sl := ⟨6, 3, 0, [⟨1, 0⟩], [⟨2, 1⟩]⟩
theorem aw1 : lieS [] so hs1 = ([so], 0) := by decide +kernel
theorem aw2 : lieS [so] sa hs1 = ([so, sa], 0) := by decide +kernel
theorem aw3 : lieS [so, sa] sp hs1 = ([so, sa, sp], 0) := by decide +kernel
theorem aw4 : wokenS [so, sa, sp] hs1 [0] = [4] := by decide +kernel
theorem aw4r : restS [so, sa, sp] hs1 [0] = [so, sp] := by decide +kernel
theorem aw5 : lieS [] so [⟨true, 6⟩] = ([], 9) := by decide +kernel
theorem aw6 : wokenS [so, sa, sp] [⟨true, 6⟩, ⟨true, 1⟩] [1, 0] = [2, 4, 6] := by decide +kernel
theorem aw7 : mayS so hs1 = false := by decide +kernel
theorem aw8 : mayS sa hs1 = true := by decide +kernel
def xo (h : Nat) : RawS := ⟨2, 2, 0, some ⟨h + 1, 0, none⟩, 1, 1, [⟨0, 5⟩], none, 0, 0, []⟩
def xa (h : Nat) : RawS := ⟨4, 1, 0, some ⟨h + 1 + 1 + 1, 0, none⟩, 1, 1, [⟨0, 5⟩], none, 0, 0, []⟩
def xp (h : Nat) : RawS := ⟨6, 3, 0, some ⟨h + 1 + 1 + 1 + 1 + 1, 0, none⟩, 1, 1, [⟨1, 0⟩], some ⟨h + 1 + 1 + 1 + 1 + 1 + 1, 0, none⟩, 1, 1, [⟨2, 1⟩]⟩
set_option maxRecDepth 100000 in
set_option maxHeartbeats 8000000 in
theorem awake_any (w : World) : Calls Try.prog 10 #[] w (RetB w true) := by
  obtain ⟨h, hh⟩ : ∃ h, w.heap.size = h := ⟨_, rfl⟩
  obtain ⟨u0, hu0⟩ : ∃ u, u = w.alloc (.cells #[.bool true, .int .i64 5, .bool true, .int .i64 0] 57) := ⟨_, rfl⟩
  obtain ⟨u1, hu1⟩ : ∃ u, u = u0.alloc (.cells #[.int .i64 0, .int .i64 5] 32) := ⟨_, rfl⟩
  obtain ⟨u2, hu2⟩ : ∃ u, u = u1.alloc (.cells #[.int .i64 2, .int .i64 2, .int .i64 0, .slice (some ⟨h + 1, 0, none⟩) 1 1, .slice none 0 0] 36) := ⟨_, rfl⟩
  obtain ⟨u3, hu3⟩ : ∃ u, u = u2.alloc (.cells #[.int .i64 0, .int .i64 5] 32) := ⟨_, rfl⟩
  obtain ⟨u4, hu4⟩ : ∃ u, u = u3.alloc (.cells #[.int .i64 4, .int .i64 1, .int .i64 0, .slice (some ⟨h + 1 + 1 + 1, 0, none⟩) 1 1, .slice none 0 0] 36) := ⟨_, rfl⟩
  obtain ⟨u5, hu5⟩ : ∃ u, u = u4.alloc (.cells #[.int .i64 1, .int .i64 0] 32) := ⟨_, rfl⟩
  obtain ⟨u6, hu6⟩ : ∃ u, u = u5.alloc (.cells #[.int .i64 2, .int .i64 1] 59) := ⟨_, rfl⟩
  obtain ⟨u7, hu7⟩ : ∃ u, u = u6.alloc (.cells #[.int .i64 6, .int .i64 3, .int .i64 0, .slice (some ⟨h + 1 + 1 + 1 + 1 + 1, 0, none⟩) 1 1, .slice (some ⟨h + 1 + 1 + 1 + 1 + 1 + 1, 0, none⟩) 1 1] 36) := ⟨_, rfl⟩
  have z0 : u0.heap.size = h + 1 := by rw [hu0, World.size_alloc, hh]
  have z1 : u1.heap.size = h + 1 + 1 := by rw [hu1, World.size_alloc, z0]
  have z2 : u2.heap.size = h + 1 + 1 + 1 := by rw [hu2, World.size_alloc, z1]
  have z3 : u3.heap.size = h + 1 + 1 + 1 + 1 := by rw [hu3, World.size_alloc, z2]
  have z4 : u4.heap.size = h + 1 + 1 + 1 + 1 + 1 := by rw [hu4, World.size_alloc, z3]
  have z5 : u5.heap.size = h + 1 + 1 + 1 + 1 + 1 + 1 := by rw [hu5, World.size_alloc, z4]
  have z6 : u6.heap.size = h + 1 + 1 + 1 + 1 + 1 + 1 + 1 := by rw [hu6, World.size_alloc, z5]
  have HH : Hid (Rd u7 2 (some ⟨h, 0, none⟩) 2 (Heap.cs hs1)) := Lib.hid (by
    have h1 : Rd u0 2 (some ⟨h, 0, none⟩) 2 (Heap.cs hs1) := by rw [hu0]; exact Rd.builtAt w 2 2 (Heap.cs hs1) _ rfl hh
    rw [hu7, hu6, hu5, hu4, hu3, hu2, hu1]; exact (((((((h1).alloc _).alloc _).alloc _).alloc _).alloc _).alloc _).alloc _)
  have r1 : Rd u1 2 (some ⟨h + 1, 0, none⟩) 1 (Heap.ws [⟨0, 5⟩]) := by rw [hu1]; exact Rd.builtAt u0 2 1 (Heap.ws [⟨0, 5⟩]) _ rfl z0
  have r3 : Rd u3 2 (some ⟨h + 1 + 1 + 1, 0, none⟩) 1 (Heap.ws [⟨0, 5⟩]) := by rw [hu3]; exact Rd.builtAt u2 2 1 (Heap.ws [⟨0, 5⟩]) _ rfl z2
  have r5 : Rd u5 2 (some ⟨h + 1 + 1 + 1 + 1 + 1, 0, none⟩) 1 (Heap.ws [⟨1, 0⟩]) := by rw [hu5]; exact Rd.builtAt u4 2 1 (Heap.ws [⟨1, 0⟩]) _ rfl z4
  have r6 : Rd u6 2 (some ⟨h + 1 + 1 + 1 + 1 + 1 + 1, 0, none⟩) 1 (Term.ops [⟨2, 1⟩]) := by rw [hu6]; exact Rd.builtAt u5 2 1 (Term.ops [⟨2, 1⟩]) _ rfl z5
  have IO : Hid (Inner u7 (xo h)) := Lib.hid (by
    have h1 : Inner u1 (xo h) := ⟨r1, Rd.none_⟩
    rw [hu7, hu6, hu5, hu4, hu3, hu2]; exact ((((((h1).alloc _).alloc _).alloc _).alloc _).alloc _).alloc _)
  have IA : Hid (Inner u7 (xa h)) := Lib.hid (by
    have h1 : Inner u3 (xa h) := ⟨r3, Rd.none_⟩
    rw [hu7, hu6, hu5, hu4]; exact ((((h1).alloc _).alloc _).alloc _).alloc _)
  have IP : Hid (Inner u7 (xp h)) := Lib.hid (by
    have h1 : Inner u6 (xp h) := ⟨by rw [hu6]; exact r5.alloc _, r6⟩
    rw [hu7]; exact (h1).alloc _)
  have KO : Hid (Blk u7 (h + 1 + 1) 36 (cS (xo h))) := Lib.hid (by
    have h1 : Blk u2 (h + 1 + 1) 36 (cS (xo h)) := by rw [hu2, ← z1]; exact Blk.new _ _ _
    rw [hu7, hu6, hu5, hu4, hu3]; exact (((((h1).alloc _).alloc _).alloc _).alloc _).alloc _)
  have KA : Hid (Blk u7 (h + 1 + 1 + 1 + 1) 36 (cS (xa h))) := Lib.hid (by
    have h1 : Blk u4 (h + 1 + 1 + 1 + 1) 36 (cS (xa h)) := by rw [hu4, ← z3]; exact Blk.new _ _ _
    rw [hu7, hu6, hu5]; exact (((h1).alloc _).alloc _).alloc _)
  have KP : Hid (Blk u7 (h + 1 + 1 + 1 + 1 + 1 + 1 + 1) 36 (cS (xp h))) := Lib.hid (by
    have h1 : Blk u7 (h + 1 + 1 + 1 + 1 + 1 + 1 + 1) 36 (cS (xp h)) := by rw [hu7, ← z6]; exact Blk.new _ _ _
    exact h1)
  have bb : Hid (Below w.heap.size w u7) := Lib.hid (by rw [hu7, hu6, hu5, hu4, hu3, hu2, hu1, hu0]; exact bl_alloc (bl_alloc (bl_alloc (bl_alloc (bl_alloc (bl_alloc (bl_alloc (bl_alloc (Below.refl _ _) _) _) _) _) _) _) _) _)
  have LO : Hid (Lim1 (xo h)) := Lib.hid ⟨by show (1 : Nat) ≤ 1000000; decide, by show (0 : Nat) ≤ 1000000; decide⟩
  have LA : Hid (Lim1 (xa h)) := Lib.hid ⟨by show (1 : Nat) ≤ 1000000; decide, by show (0 : Nat) ≤ 1000000; decide⟩
  have LP : Hid (Lim1 (xp h)) := Lib.hid ⟨by show (1 : Nat) ≤ 1000000; decide, by show (1 : Nat) ≤ 1000000; decide⟩
  clear r1 r3 r5 r6
  have C_ := Lib.hid (lie_c [] (xo h) hs1 none (some ⟨h, 0, none⟩) 0 0 2 2 u7 ([so], 0) Sls.none_ (by decide) Lim.nil_ IO.out LO.out HH.out (by decide) aw1)
  have q0 := KO.out.cell 0 _ rfl
  have q1 := KO.out.cell 1 _ rfl
  have q2 := KO.out.cell 2 _ rfl
  have q3 := KO.out.cell 3 _ rfl
  have q4 := KO.out.cell 4 _ rfl
  simp only [cS, xo] at C_ KO q0 q1 q2 q3 q4
  simp only [cS, xa] at KA
  simp only [cS, xp] at KP
  go_enter Try.func10, Try.ntmps10
  go_wp2_with fail
  rw [← hu0, ← hu1, ← hu2, ← hu3, ← hu4, ← hu5, ← hu6, ← hu7]
  clear hu0 hu1 hu2 hu3 hu4 hu5 hu6 hu7 z0 z1 z2 z3 z4 z5 z6 hh q0 q1 q2 q3 q4
  refine C_.out.mono ?_
  rintro e v1 ⟨B1, m1, d1, L1, rfl, t1, e1, l1, b_⟩
  obtain rfl : m1 = 1 := sls_count t1 e1
  have T1 := Lib.hid t1
  have E1 : Hid (cc L1 = [so]) := Lib.hid e1
  have M1 := Lib.hid l1
  replace HH := Lib.hid (HH.out.below b_)
  replace IO := Lib.hid (IO.out.below b_)
  replace IA := Lib.hid (IA.out.below b_)
  replace IP := Lib.hid (IP.out.below b_)
  replace KO := Lib.hid (KO.out.below b_)
  replace KA := Lib.hid (KA.out.below b_)
  replace KP := Lib.hid (KP.out.below b_)
  replace bb := Lib.hid (bl_trans bb.out b_)
  clear t1 e1 l1 b_ C_
  have C_ := Lib.hid (lie_c L1 (xa h) hs1 B1 (some ⟨h, 0, none⟩) 1 d1 2 2 v1 ([so, sa], 0) T1.out (by decide) M1.out IA.out LA.out HH.out (by decide) (by rw [E1.out]; exact aw2))
  simp only [cS, xa] at C_
  have q0 := KA.out.cell 0 _ rfl
  have q1 := KA.out.cell 1 _ rfl
  have q2 := KA.out.cell 2 _ rfl
  have q3 := KA.out.cell 3 _ rfl
  have q4 := KA.out.cell 4 _ rfl
  go_wp2_with fail
  clear q0 q1 q2 q3 q4
  refine C_.out.mono ?_
  rintro e v2 ⟨B2, m2, d2, L2, rfl, t1, e1, l1, b_⟩
  obtain rfl : m2 = 2 := sls_count t1 e1
  have T2 := Lib.hid t1
  have E2 : Hid (cc L2 = [so, sa]) := Lib.hid e1
  have M2 := Lib.hid l1
  replace HH := Lib.hid (HH.out.below b_)
  replace IO := Lib.hid (IO.out.below b_)
  replace IA := Lib.hid (IA.out.below b_)
  replace IP := Lib.hid (IP.out.below b_)
  replace KO := Lib.hid (KO.out.below b_)
  replace KA := Lib.hid (KA.out.below b_)
  replace KP := Lib.hid (KP.out.below b_)
  replace bb := Lib.hid (bl_trans bb.out b_)
  clear t1 e1 l1 b_ C_
  clear T1 E1 M1
  have C_ := Lib.hid (lie_c L2 (xp h) hs1 B2 (some ⟨h, 0, none⟩) 2 d2 2 2 v2 ([so, sa, sp], 0) T2.out (by decide) M2.out IP.out LP.out HH.out (by decide) (by rw [E2.out]; exact aw3))
  simp only [cS, xp] at C_
  have q0 := KP.out.cell 0 _ rfl
  have q1 := KP.out.cell 1 _ rfl
  have q2 := KP.out.cell 2 _ rfl
  have q3 := KP.out.cell 3 _ rfl
  have q4 := KP.out.cell 4 _ rfl
  go_wp2_with fail
  clear q0 q1 q2 q3 q4
  refine C_.out.mono ?_
  rintro e v3 ⟨B3, m3, d3, L3, rfl, t1, e1, l1, b_⟩
  obtain rfl : m3 = 3 := sls_count t1 e1
  have T3 := Lib.hid t1
  have E3 : Hid (cc L3 = [so, sa, sp]) := Lib.hid e1
  have M3 := Lib.hid l1
  replace HH := Lib.hid (HH.out.below b_)
  replace IO := Lib.hid (IO.out.below b_)
  replace IA := Lib.hid (IA.out.below b_)
  replace IP := Lib.hid (IP.out.below b_)
  replace KO := Lib.hid (KO.out.below b_)
  replace KA := Lib.hid (KA.out.below b_)
  replace KP := Lib.hid (KP.out.below b_)
  replace bb := Lib.hid (bl_trans bb.out b_)
  clear t1 e1 l1 b_ C_
  clear T2 E2 M2 IP LP KP
  have C_ := Lib.hid (wake_c L3 hs1 [⟨0, 5⟩] B3 (some ⟨h, 0, none⟩) (some ⟨v3.heap.size, 0, none⟩) 3 d3 2 2 1 1 (v3.alloc (.cells #[.int .i64 0, .int .i64 5] 32)) [so, sp] 1 [4] (T3.out.alloc _) (by decide) M3.out (HH.out.alloc _) (by decide) (Rd.built v3 2 1 (Heap.ws [⟨0, 5⟩]) _ rfl) (by decide) (by rw [E3.out]; exact aw4) rfl (by rw [E3.out]; exact aw4r))
  go_wp2_with fail
  refine C_.out.mono ?_
  rintro e v4 ⟨B4, m4, d4, L4, C4, f4, rfl, t1, e1, -, r4, b_⟩
  obtain rfl : m4 = 2 := sls_count t1 e1
  replace HH := Lib.hid ((HH.out.alloc (.cells #[.int .i64 0, .int .i64 5] 32)).below b_)
  replace IO := Lib.hid ((IO.out.alloc (.cells #[.int .i64 0, .int .i64 5] 32)).below b_)
  replace IA := Lib.hid ((IA.out.alloc (.cells #[.int .i64 0, .int .i64 5] 32)).below b_)
  replace KO := Lib.hid ((KO.out.alloc (.cells #[.int .i64 0, .int .i64 5] 32)).below b_)
  replace KA := Lib.hid ((KA.out.alloc (.cells #[.int .i64 0, .int .i64 5] 32)).below b_)
  replace T3 := Lib.hid ((T3.out.alloc (.cells #[.int .i64 0, .int .i64 5] 32)).below b_)
  have R4 := Lib.hid r4
  replace bb := Lib.hid (bl_trans (bl_alloc bb.out (.cells #[.int .i64 0, .int .i64 5] 32)) b_)
  clear t1 e1 r4 b_ C_
  have C_ := Lib.hid (lie_c [] (xo h) [⟨true, 6⟩] none (some ⟨v4.heap.size, 0, none⟩) 0 0 1 1 (v4.alloc (.cells #[.bool true, .int .i64 6] 57)) ([], 9) Sls.none_ (by decide) Lim.nil_ (IO.out.alloc _) LO.out (Rd.built v4 2 1 (Heap.cs [⟨true, 6⟩]) _ rfl) (by decide) aw5)
  simp only [cS, xo] at C_
  have q0 := KO.out.cell 0 _ rfl
  have q1 := KO.out.cell 1 _ rfl
  have q2 := KO.out.cell 2 _ rfl
  have q3 := KO.out.cell 3 _ rfl
  have q4 := KO.out.cell 4 _ rfl
  go_wp2_with fail
  clear q0 q1 q2 q3 q4
  refine C_.out.mono ?_
  rintro e v5 ⟨B5, m5, d5, L5, rfl, -, -, -, b_⟩
  replace HH := Lib.hid ((HH.out.alloc (.cells #[.bool true, .int .i64 6] 57)).below b_)
  replace IO := Lib.hid ((IO.out.alloc (.cells #[.bool true, .int .i64 6] 57)).below b_)
  replace IA := Lib.hid ((IA.out.alloc (.cells #[.bool true, .int .i64 6] 57)).below b_)
  replace KO := Lib.hid ((KO.out.alloc (.cells #[.bool true, .int .i64 6] 57)).below b_)
  replace KA := Lib.hid ((KA.out.alloc (.cells #[.bool true, .int .i64 6] 57)).below b_)
  replace T3 := Lib.hid ((T3.out.alloc (.cells #[.bool true, .int .i64 6] 57)).below b_)
  replace R4 := Lib.hid ((R4.out.alloc (.cells #[.bool true, .int .i64 6] 57)).below b_)
  replace bb := Lib.hid (bl_trans (bl_alloc bb.out (.cells #[.bool true, .int .i64 6] 57)) b_)
  clear b_ C_
  have C_ := Lib.hid (woken_c L3 [⟨true, 6⟩, ⟨true, 1⟩] [⟨1, 0⟩, ⟨0, 0⟩] B3 (some ⟨v5.heap.size, 0, none⟩) (some ⟨v5.heap.size + 1, 0, none⟩) 3 d3 2 2 2 2 ((v5.alloc (.cells #[.bool true, .int .i64 6, .bool true, .int .i64 1] 57)).alloc (.cells #[.int .i64 1, .int .i64 0, .int .i64 0, .int .i64 0] 32)) [2, 4, 6] 3 ((T3.out.alloc _).alloc _) (by decide) M3.out ((Rd.built v5 2 2 (Heap.cs [⟨true, 6⟩, ⟨true, 1⟩]) _ rfl).alloc _) (by decide) (Rd.builtAt (v5.alloc (.cells #[.bool true, .int .i64 6, .bool true, .int .i64 1] 57)) 2 2 (Heap.ws [⟨1, 0⟩, ⟨0, 0⟩]) _ rfl (by rw [World.size_alloc])) (by decide) (by rw [E3.out]; exact aw6) rfl)
  go_wp2_with fail
  refine C_.out.mono ?_
  rintro e v6 ⟨w6, rfl, o6⟩
  obtain ⟨B6, d6, rfl, r6⟩ := o6.form
  have b_ := o6.2
  replace HH := Lib.hid (((HH.out.alloc (.cells #[.bool true, .int .i64 6, .bool true, .int .i64 1] 57)).alloc (.cells #[.int .i64 1, .int .i64 0, .int .i64 0, .int .i64 0] 32)).below b_)
  replace IO := Lib.hid (((IO.out.alloc (.cells #[.bool true, .int .i64 6, .bool true, .int .i64 1] 57)).alloc (.cells #[.int .i64 1, .int .i64 0, .int .i64 0, .int .i64 0] 32)).below b_)
  replace IA := Lib.hid (((IA.out.alloc (.cells #[.bool true, .int .i64 6, .bool true, .int .i64 1] 57)).alloc (.cells #[.int .i64 1, .int .i64 0, .int .i64 0, .int .i64 0] 32)).below b_)
  replace KO := Lib.hid (((KO.out.alloc (.cells #[.bool true, .int .i64 6, .bool true, .int .i64 1] 57)).alloc (.cells #[.int .i64 1, .int .i64 0, .int .i64 0, .int .i64 0] 32)).below b_)
  replace KA := Lib.hid (((KA.out.alloc (.cells #[.bool true, .int .i64 6, .bool true, .int .i64 1] 57)).alloc (.cells #[.int .i64 1, .int .i64 0, .int .i64 0, .int .i64 0] 32)).below b_)
  replace T3 := Lib.hid (((T3.out.alloc (.cells #[.bool true, .int .i64 6, .bool true, .int .i64 1] 57)).alloc (.cells #[.int .i64 1, .int .i64 0, .int .i64 0, .int .i64 0] 32)).below b_)
  replace R4 := Lib.hid (((R4.out.alloc (.cells #[.bool true, .int .i64 6, .bool true, .int .i64 1] 57)).alloc (.cells #[.int .i64 1, .int .i64 0, .int .i64 0, .int .i64 0] 32)).below b_)
  have R6 := Lib.hid r6
  replace bb := Lib.hid (bl_trans (bl_alloc (bl_alloc bb.out (.cells #[.bool true, .int .i64 6, .bool true, .int .i64 1] 57)) (.cells #[.int .i64 1, .int .i64 0, .int .i64 0, .int .i64 0] 32)) b_)
  clear b_ o6 r6 C_
  clear T3 E3 M3
  have C_ := Lib.hid (numbers_b [4] [4] C4 (some ⟨v6.heap.size, 0, none⟩) 1 1 f4 1 (v6.alloc (.cells #[.int .i64 4] 3)) true (R4.out.alloc _) (Rd.built v6 1 1 (zs [4]) _ rfl) (by decide) (by decide) (by decide))
  go_wp2_with fail
  refine C_.out.mono ?_
  rintro e v7 ⟨rfl, b_⟩
  replace HH := Lib.hid ((HH.out.alloc (.cells #[.int .i64 4] 3)).below b_)
  replace IO := Lib.hid ((IO.out.alloc (.cells #[.int .i64 4] 3)).below b_)
  replace IA := Lib.hid ((IA.out.alloc (.cells #[.int .i64 4] 3)).below b_)
  replace KO := Lib.hid ((KO.out.alloc (.cells #[.int .i64 4] 3)).below b_)
  replace KA := Lib.hid ((KA.out.alloc (.cells #[.int .i64 4] 3)).below b_)
  replace R4 := Lib.hid ((R4.out.alloc (.cells #[.int .i64 4] 3)).below b_)
  replace R6 := Lib.hid ((R6.out.alloc (.cells #[.int .i64 4] 3)).below b_)
  replace bb := Lib.hid (bl_trans (bl_alloc bb.out (.cells #[.int .i64 4] 3)) b_)
  clear b_ C_
  have C_ := Lib.hid (numbers_b [2, 4, 6] [2, 4, 6] B6 (some ⟨v7.heap.size, 0, none⟩) 3 3 d6 3 (v7.alloc (.cells #[.int .i64 2, .int .i64 4, .int .i64 6] 3)) true (R6.out.alloc _) (Rd.built v7 1 3 (zs [2, 4, 6]) _ rfl) (by decide) (by decide) (by decide))
  go_wp2_with fail
  refine C_.out.mono ?_
  rintro e v8 ⟨rfl, b_⟩
  clear R4 R6
  replace HH := Lib.hid ((HH.out.alloc (.cells #[.int .i64 2, .int .i64 4, .int .i64 6] 3)).below b_)
  replace IO := Lib.hid ((IO.out.alloc (.cells #[.int .i64 2, .int .i64 4, .int .i64 6] 3)).below b_)
  replace IA := Lib.hid ((IA.out.alloc (.cells #[.int .i64 2, .int .i64 4, .int .i64 6] 3)).below b_)
  replace KO := Lib.hid ((KO.out.alloc (.cells #[.int .i64 2, .int .i64 4, .int .i64 6] 3)).below b_)
  replace KA := Lib.hid ((KA.out.alloc (.cells #[.int .i64 2, .int .i64 4, .int .i64 6] 3)).below b_)
  replace bb := Lib.hid (bl_trans (bl_alloc bb.out (.cells #[.int .i64 2, .int .i64 4, .int .i64 6] 3)) b_)
  clear b_ C_
  have C_ := Lib.hid (may_c (xo h) hs1 (some ⟨h, 0, none⟩) 2 2 v8 false IO.out LO.out HH.out (by decide) aw7)
  simp only [cS, xo] at C_
  have q0 := KO.out.cell 0 _ rfl
  have q1 := KO.out.cell 1 _ rfl
  have q2 := KO.out.cell 2 _ rfl
  have q3 := KO.out.cell 3 _ rfl
  have q4 := KO.out.cell 4 _ rfl
  go_wp2_with fail
  clear q0 q1 q2 q3 q4
  refine C_.out.mono ?_
  rintro e v9 ⟨rfl, b_⟩
  replace HH := Lib.hid (HH.out.below b_)
  replace IO := Lib.hid (IO.out.below b_)
  replace IA := Lib.hid (IA.out.below b_)
  replace KO := Lib.hid (KO.out.below b_)
  replace KA := Lib.hid (KA.out.below b_)
  replace bb := Lib.hid (bl_trans bb.out b_)
  clear b_ C_
  have C_ := Lib.hid (may_c (xa h) hs1 (some ⟨h, 0, none⟩) 2 2 v9 true IA.out LA.out HH.out (by decide) aw8)
  simp only [cS, xa] at C_
  have q0 := KA.out.cell 0 _ rfl
  have q1 := KA.out.cell 1 _ rfl
  have q2 := KA.out.cell 2 _ rfl
  have q3 := KA.out.cell 3 _ rfl
  have q4 := KA.out.cell 4 _ rfl
  go_wp2_with fail
  clear q0 q1 q2 q3 q4
  refine C_.out.mono ?_
  rintro e v10 ⟨rfl, b_⟩
  replace HH := Lib.hid (HH.out.below b_)
  replace IO := Lib.hid (IO.out.below b_)
  replace IA := Lib.hid (IA.out.below b_)
  replace KO := Lib.hid (KO.out.below b_)
  replace KA := Lib.hid (KA.out.below b_)
  replace bb := Lib.hid (bl_trans bb.out b_)
  clear b_ C_
  have HB := Lib.hid bb.out
  go_wp2
  go_ret
  exact ⟨rfl, HB.out⟩
end Go.Proofs.Ytddgdhaioomnnaa.Filter
