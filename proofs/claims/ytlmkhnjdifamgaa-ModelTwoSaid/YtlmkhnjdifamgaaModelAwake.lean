/-
  THE FIXED ANSWER awake OF LAYER 10.
-/
import Derived.Test.YtlmkhnjdifamgaaModelLaw
namespace Go.Proofs.Ytlmkhnjdifamgaa.Model
open Go.ChangeShapes Go.WideShapes Go.ChangeAt Go.RowKit Mem Go.Proofs.Ytlmkhnjdifamgaa.Code

def awH : List Heap.Cell := [⟨true, 5⟩, ⟨true, 0⟩]
/-- The fixed code, whose terms lie at g. -/
def awC (g : Nat) : List Raw := [⟨⟨7, 3, 1, []⟩, none, 0, 0⟩, ⟨⟨3, 1, 0, [⟨1, 1⟩]⟩, some ⟨g, 0, none⟩, 1, 1⟩, ⟨⟨1, 2, 0, []⟩, none, 0, 0⟩, ⟨⟨5, 0, 0, []⟩, none, 0, 0⟩, ⟨⟨3, 0, 0, [⟨1, 1⟩]⟩, some ⟨g, 0, none⟩, 1, 1⟩]
theorem aw_terms {w : World} {g : Nat} (h : Rd w 2 (some ⟨g, 0, none⟩) 1 (Term.ops [⟨1, 1⟩])) : Terms w (awC g) := by
  intro r hr
  unfold awC at hr
  simp only [List.mem_cons, List.not_mem_nil, or_false] at hr
  rcases hr with rfl | rfl | rfl | rfl | rfl
  · exact ⟨Rd.none_, Nat.le_refl _, by show 0 ≤ 9223372036854775807; omega⟩
  · exact ⟨h, Nat.le_refl _, by show 1 ≤ 9223372036854775807; omega⟩
  · exact ⟨Rd.none_, Nat.le_refl _, by show 0 ≤ 9223372036854775807; omega⟩
  · exact ⟨Rd.none_, Nat.le_refl _, by show 0 ≤ 9223372036854775807; omega⟩
  · exact ⟨h, Nat.le_refl _, by show 1 ≤ 9223372036854775807; omega⟩
theorem aw_lim (g : Nat) : Lim (awC g) := by
  intro r hr
  unfold awC at hr
  simp only [List.mem_cons, List.not_mem_nil, or_false] at hr
  rcases hr with rfl | rfl | rfl | rfl | rfl
  · show 0 ≤ 1000000; omega
  · show 1 ≤ 1000000; omega
  · show 0 ≤ 1000000; omega
  · show 0 ≤ 1000000; omega
  · show 1 ≤ 1000000; omega
def bare (d a b : Int) : List Raw := [⟨⟨d, a, b, []⟩, none, 0, 0⟩]
theorem bare_terms (w : World) (d a b : Int) : Terms w (bare d a b) := by
  intro r hr
  unfold bare at hr
  rw [List.mem_singleton] at hr
  subst hr
  exact ⟨Rd.none_, Nat.le_refl _, by show 0 ≤ 9223372036854775807; omega⟩
theorem bare_lim (d a b : Int) : Lim (bare d a b) := by
  intro r hr
  unfold bare at hr
  rw [List.mem_singleton] at hr
  subst hr
  exact Nat.zero_le _
theorem at_first {w : World} {A : Option Addr} {n : Nat} {l : List Raw} (h : At w A n l) (k : Nat) (hk : k ≤ n) : At w A k (l.take k) := ⟨rd_first rc_len (by decide) h.1 k hk, h.2.sub (fun _ hr => List.mem_of_mem_take hr)⟩
theorem lim_first {l : List Raw} (h : Lim l) (k : Nat) : Lim (l.take k) := fun r hr => h r (List.mem_of_mem_take hr)
theorem aw_run1 (g : Nat) : runS (ss (awC g)) awH = (⟨1, 0, [0, 0, 0, 0, 0, 0, 0, 0], [2], [0], [⟨0, 1⟩]⟩, [⟨true, 1⟩, ⟨true, 0⟩], true) := by
  have e : ss (awC g) = [⟨7, 3, 1, []⟩, ⟨3, 1, 0, [⟨1, 1⟩]⟩, ⟨1, 2, 0, []⟩, ⟨5, 0, 0, []⟩, ⟨3, 0, 0, [⟨1, 1⟩]⟩] := rfl
  rw [e]; decide +kernel
theorem aw_run2 : runS (ss (bare 6 7 0)) awH = (⟨3, 7, [], [], [], []⟩, awH, true) := by decide +kernel
theorem aw_run3 : runS (ss (bare 1 0 9)) awH = (⟨4, 9, [], [], [], []⟩, awH, true) := by decide +kernel
theorem aw_run4 (g : Nat) : runS (ss ((awC g).take 2)) awH = (⟨0, 0, [], [], [], []⟩, awH, false) := by
  have e : ss ((awC g).take 2) = [⟨7, 3, 1, []⟩, ⟨3, 1, 0, [⟨1, 1⟩]⟩] := rfl
  rw [e]; decide +kernel
set_option maxRecDepth 100000 in
set_option maxHeartbeats 2000000 in
theorem awake_any (S : Said) (w : World) : Calls Try.prog 9 #[] w (RetB w true) := by
  have HS := Lib.hid S
  clear S
  obtain ⟨w1, hw1⟩ : ∃ w1, w1 = ((w.alloc (.cells (Term.ops [⟨1, 1⟩]).toArray 49)).alloc (.cells (Heap.cs awH).toArray 35)).alloc (.cells (rs (awC w.heap.size)).toArray 46) := ⟨_, rfl⟩
  have hb1 : Below w.heap.size w w1 := by rw [hw1]; exact bl_alloc (bl_alloc (bl_alloc (Below.refl _ _) _) _) _
  have HC : Hid (At w1 (some ⟨w.heap.size + 1 + 1, 0, none⟩) 5 (awC w.heap.size)) := Lib.hid (by
    rw [hw1]
    exact ⟨Rd.builtAt _ 4 5 (rs (awC w.heap.size)) _ rfl (by simp), aw_terms (((Rd.built w 2 1 (Term.ops [⟨1, 1⟩]) _ rfl).alloc _).alloc _)⟩)
  have HH : Hid (Rd w1 2 (some ⟨w.heap.size + 1, 0, none⟩) 2 (Heap.cs awH)) := Lib.hid (by rw [hw1]; exact (Rd.builtAt _ 2 2 (Heap.cs awH) _ rfl (by simp)).alloc _)
  have BB := Lib.hid hb1
  clear hb1
  subst hw1
  go_enter Try.func9, Try.ntmps9
  go_wp2_with fail
  refine (HS.out.run (awC w.heap.size) awH _ _ 5 5 2 2 _ _ _ true 8 1 1 1 2 0 HC.out (by decide) (by decide) (aw_lim _) (by decide) HH.out (by decide) (aw_run1 _) rfl rfl rfl rfl rfl rfl).mono ?_
  rintro e v1 ⟨A1, c1, A2, c2, A3, c3, A4, c4, G, gc, rfl, ho1, hg1, b1⟩
  have O1 := Lib.hid ho1
  have G1 := Lib.hid hg1
  replace BB := Lib.hid (bl_trans BB.out b1)
  replace HC := Lib.hid (HC.out.below b1)
  replace HH := Lib.hid (HH.out.below b1)
  have K1 : Hid (Blk (v1.alloc (.cells #[.int .i64 1, .int .i64 0, .slice A1 8 c1, .slice A2 1 c2, .slice A3 1 c3, .slice A4 1 c4] 30)) v1.heap.size 30 #[.int .i64 1, .int .i64 0, .slice A1 8 c1, .slice A2 1 c2, .slice A3 1 c3, .slice A4 1 c4]) := Lib.hid (Blk.new _ _ _)
  clear ho1 hg1 b1
  have S2 : Hid (At ((v1.alloc (.cells #[.int .i64 1, .int .i64 0, .slice A1 8 c1, .slice A2 1 c2, .slice A3 1 c3, .slice A4 1 c4] 30)).alloc (.cells (rs (bare 6 7 0)).toArray 46)) (some ⟨v1.heap.size + 1, 0, none⟩) 1 (bare 6 7 0)) := Lib.hid ⟨Rd.builtAt _ 4 1 (rs (bare 6 7 0)) _ rfl (by simp), bare_terms _ _ _ _⟩
  go_wp2_with fail
  refine (HS.out.run (bare 6 7 0) awH _ _ 1 1 2 2 _ _ _ true 0 0 0 0 2 0 S2.out (by decide) (by decide) (bare_lim _ _ _) (by decide) ((HH.out.alloc _).alloc _) (by decide) aw_run2 rfl rfl rfl rfl rfl rfl).mono ?_
  rintro e v2 ⟨X1, x1, X2, x2, X3, x3, X4, x4, GX, gx, rfl, -, -, b2⟩
  replace BB := Lib.hid (bl_trans (bl_alloc (bl_alloc BB.out _) _) b2)
  replace O1 := Lib.hid (O1.out.below (bl_trans (bl_alloc (bl_alloc (Below.refl _ _) _) _) b2))
  replace G1 := Lib.hid (((G1.out.alloc _).alloc _).below b2)
  replace HC := Lib.hid (((HC.out.alloc _).alloc _).below b2)
  replace HH := Lib.hid (((HH.out.alloc _).alloc _).below b2)
  replace K1 := Lib.hid ((K1.out.alloc _).below b2)
  have K2 : Hid (Blk (v2.alloc (.cells #[.int .i64 3, .int .i64 7, .slice X1 0 x1, .slice X2 0 x2, .slice X3 0 x3, .slice X4 0 x4] 30)) v2.heap.size 30 #[.int .i64 3, .int .i64 7, .slice X1 0 x1, .slice X2 0 x2, .slice X3 0 x3, .slice X4 0 x4]) := Lib.hid (Blk.new _ _ _)
  clear b2 S2
  have S3 : Hid (At ((v2.alloc (.cells #[.int .i64 3, .int .i64 7, .slice X1 0 x1, .slice X2 0 x2, .slice X3 0 x3, .slice X4 0 x4] 30)).alloc (.cells (rs (bare 1 0 9)).toArray 46)) (some ⟨v2.heap.size + 1, 0, none⟩) 1 (bare 1 0 9)) := Lib.hid ⟨Rd.builtAt _ 4 1 (rs (bare 1 0 9)) _ rfl (by simp), bare_terms _ _ _ _⟩
  go_wp2_with fail
  refine (HS.out.run (bare 1 0 9) awH _ _ 1 1 2 2 _ _ _ true 0 0 0 0 2 0 S3.out (by decide) (by decide) (bare_lim _ _ _) (by decide) ((HH.out.alloc _).alloc _) (by decide) aw_run3 rfl rfl rfl rfl rfl rfl).mono ?_
  rintro e v3 ⟨Y1, y1, Y2, y2, Y3, y3, Y4, y4, GY, gy, rfl, -, -, b3⟩
  replace BB := Lib.hid (bl_trans (bl_alloc (bl_alloc BB.out _) _) b3)
  replace O1 := Lib.hid (O1.out.below (bl_trans (bl_alloc (bl_alloc (Below.refl _ _) _) _) b3))
  replace G1 := Lib.hid (((G1.out.alloc _).alloc _).below b3)
  replace HC := Lib.hid (((HC.out.alloc _).alloc _).below b3)
  replace HH := Lib.hid (((HH.out.alloc _).alloc _).below b3)
  replace K1 := Lib.hid (((K1.out.alloc _).alloc _).below b3)
  replace K2 := Lib.hid ((K2.out.alloc _).below b3)
  have K3 : Hid (Blk (v3.alloc (.cells #[.int .i64 4, .int .i64 9, .slice Y1 0 y1, .slice Y2 0 y2, .slice Y3 0 y3, .slice Y4 0 y4] 30)) v3.heap.size 30 #[.int .i64 4, .int .i64 9, .slice Y1 0 y1, .slice Y2 0 y2, .slice Y3 0 y3, .slice Y4 0 y4]) := Lib.hid (Blk.new _ _ _)
  clear b3 S3
  go_wp2_with fail
  refine (HS.out.run ((awC w.heap.size).take 2) awH _ _ 2 5 2 2 _ _ _ false 0 0 0 0 2 1 (at_first (HC.out.alloc _) 2 (by decide)) (by decide) (by decide) (lim_first (aw_lim _) 2) (by decide) (HH.out.alloc _) (by decide) (aw_run4 _) rfl rfl rfl rfl rfl rfl).mono ?_
  rintro e v4 ⟨Z1, z1, Z2, z2, Z3, z3, Z4, z4, GZ, gz, rfl, -, -, b4⟩
  replace BB := Lib.hid (bl_alloc (bl_trans (bl_alloc BB.out _) b4) (.cells #[.int .i64 0, .int .i64 0, .slice Z1 0 z1, .slice Z2 0 z2, .slice Z3 0 z3, .slice Z4 0 z4] 30))
  have o1 := O1.out.below (bl_trans (bl_alloc (Below.refl _ _) _) b4)
  have g1 := ((G1.out.alloc _).below b4)
  have k1 := ((K1.out.alloc (.cells #[.int .i64 4, .int .i64 9, .slice Y1 0 y1, .slice Y2 0 y2, .slice Y3 0 y3, .slice Y4 0 y4] 30)).below b4).alloc (.cells #[.int .i64 0, .int .i64 0, .slice Z1 0 z1, .slice Z2 0 z2, .slice Z3 0 z3, .slice Z4 0 z4] 30)
  have k2 := ((K2.out.alloc (.cells #[.int .i64 4, .int .i64 9, .slice Y1 0 y1, .slice Y2 0 y2, .slice Y3 0 y3, .slice Y4 0 y4] 30)).below b4).alloc (.cells #[.int .i64 0, .int .i64 0, .slice Z1 0 z1, .slice Z2 0 z2, .slice Z3 0 z3, .slice Z4 0 z4] 30)
  have k3 := (K3.out.below b4).alloc (.cells #[.int .i64 0, .int .i64 0, .slice Z1 0 z1, .slice Z2 0 z2, .slice Z3 0 z3, .slice Z4 0 z4] 30)
  clear b4 HC HH K1 K2 K3 O1 G1
  have a0 := k1.cell 0 _ rfl
  have a2 := k1.cell 2 _ rfl
  have a3 := k1.cell 3 _ rfl
  have a4 := k1.cell 4 _ rfl
  have a5 := k1.cell 5 _ rfl
  have b0 := k2.cell 0 _ rfl
  have b1 := k2.cell 1 _ rfl
  have d0 := k3.cell 0 _ rfl
  have d1 := k3.cell 1 _ rfl
  clear k1 k2 k3
  obtain ⟨pb, po, pz, rfl, hp, p0⟩ := at_z (o1.path.alloc (.cells #[.int .i64 0, .int .i64 0, .slice Z1 0 z1, .slice Z2 0 z2, .slice Z3 0 z3, .slice Z4 0 z4] 30)) 0 (by decide)
  obtain rfl : pz = 2 := by simpa using hp.symm
  obtain ⟨sb, so, sz, rfl, hsn, s0⟩ := at_z (o1.seen.alloc (.cells #[.int .i64 0, .int .i64 0, .slice Z1 0 z1, .slice Z2 0 z2, .slice Z3 0 z3, .slice Z4 0 z4] 30)) 0 (by decide)
  obtain rfl : sz = 0 := by simpa using hsn.symm
  obtain ⟨rb, ro, rz, rfl, hrg, r2⟩ := at_z (o1.regs.alloc (.cells #[.int .i64 0, .int .i64 0, .slice Z1 0 z1, .slice Z2 0 z2, .slice Z3 0 z3, .slice Z4 0 z4] 30)) 2 (by decide)
  obtain rfl : rz = 0 := by simpa using hrg.symm
  obtain ⟨gb, go, gz1, rfl, hgg, g0, g1'⟩ := Heap.at_cell (g1.alloc (.cells #[.int .i64 0, .int .i64 0, .slice Z1 0 z1, .slice Z2 0 z2, .slice Z3 0 z3, .slice Z4 0 z4] 30)) 0 (by decide)
  obtain ⟨gb2, go2, gz2, hge, hgg2, g2, g3⟩ := Heap.at_cell (g1.alloc (.cells #[.int .i64 0, .int .i64 0, .slice Z1 0 z1, .slice Z2 0 z2, .slice Z3 0 z3, .slice Z4 0 z4] 30)) 1 (by decide)
  obtain rfl : gz1 = ⟨true, 1⟩ := by simpa using hgg.symm
  obtain rfl : gz2 = ⟨true, 0⟩ := by simpa using hgg2.symm
  injection hge with hge
  injection hge with e1 e2
  subst e1 e2
  simp only [Nat.add_zero, Nat.zero_mul, Nat.one_mul] at p0 s0 g0 g1' g2 g3
  clear o1 g1 hp hsn hrg hgg hgg2
  go_wp2
  go_ret
  exact ⟨rfl, BB.out⟩
end Go.Proofs.Ytlmkhnjdifamgaa.Model
