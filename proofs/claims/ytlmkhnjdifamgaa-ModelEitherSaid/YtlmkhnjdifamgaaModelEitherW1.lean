/-
  THE WALK OF THE LAW ModelEither, IN PARTS.
-/
import Derived.Test.YtlmkhnjdifamgaaModelTail
import Derived.Test.YtlmkhnjdifamgaaModelJoin
namespace Go.Proofs.Ytlmkhnjdifamgaa.Model
open Go.ChangeShapes Go.WideShapes Go.ChangeAt Go.RowKit Mem Go.Proofs.Ytlmkhnjdifamgaa.Code

set_option maxRecDepth 100000 in
set_option maxHeartbeats 20000000 in
theorem either_no (HS : Hid Said) (A D HA : Option Addr) (n c m d hn hc : Nat) (l l2 : List Raw) (h : List Heap.Cell) (w : World) (hnc : n ≤ c) (mn : n ≤ 9223372036854775807) (cm : c ≤ 9223372036854775807) (hmd : m ≤ d) (mm : m ≤ 9223372036854775807) (dm : d ≤ 9223372036854775807) (HA0 : Hid (At w A n l)) (HB0 : Hid (At w D m l2)) (HH0 : Hid (Rd w 2 HA hn (Heap.cs h))) (HSA : Hid (smallI l = (n : Int))) (HLM : Hid (Lim l)) (hn40 : n ≤ 40) (HSB : Hid (smallI l2 = (m : Int))) (HLB : Hid (Lim l2)) (hm40 : m ≤ 40) (h64 : hn ≤ 64) (nz : ((n : Int) == 0) = false) (mz : ((m : Int) == 0) = false) (o p y : Out) (g g3 g4 : List Heap.Cell) (r1 r2 r3 r4 s1 s2 s3 s4 q1 q2 q3 q4 : Nat) (e1 : o.regs.length = r1) (e2 : o.path.length = r2) (e3 : o.seen.length = r3) (e4 : o.writes.length = r4) (e5 : g.length = hn) (l1 : r1 ≤ 8) (l2_ : r2 ≤ 24) (l3 : r3 ≤ 64) (l4 : r4 ≤ 64) (d1 : p.regs.length = s1) (d2 : p.path.length = s2) (d3 : p.seen.length = s3) (d4 : p.writes.length = s4) (d5 : g3.length = hn) (m1 : s1 ≤ 8) (m2 : s2 ≤ 24) (m3 : s3 ≤ 64) (m4 : s4 ≤ 64) (f1 : y.regs.length = q1) (f2 : y.path.length = q2) (f3 : y.seen.length = q3) (f4 : y.writes.length = q4) (f5 : g4.length = hn) (k1 : q1 ≤ 8) (k2 : q2 ≤ 24) (k3 : q3 ≤ 64) (k4 : q4 ≤ 64) (ok3 ok4 : Bool) (HRO : Hid (runS (ss ([bareR 7 (n : Int) (m : Int)] ++ l ++ l2)) h = (o, g, false))) (HRX : Hid (runS (ss l) h = (p, g3, ok3))) (HRY : Hid (runS (ss l2) h = (y, g4, ok4))) (fx fy : Int) (hfx : errOf ok3 = fx) (hfy : errOf ok4 = fy) :
    Calls Try.prog 5 #[.slice A n c, .slice D m d, .slice HA hn hc] w (RetB w true) := by
  have bb : Hid (Below w.heap.size w w) := Lib.hid (Below.refl _ _)
  have h64' : ¬ ((64 : Int) < (hn : Int)) := by omega
  have HLC : Hid (Lim ([bareR 7 (n : Int) (m : Int)] ++ l ++ l2)) := Lib.hid (Lim.app (Lim.app (barer_lim _ _ _) HLM.out) HLB.out)
  go_enter Try.func5, Try.ntmps5
  go_wp2_with fail
  refine (small_c l _ _ _ _ ((n : Int)) HA0.out mn HSA.out).mono ?_
  rintro e wv1 ⟨rfl, b_⟩
  replace HA0 := Lib.hid (HA0.out.below b_)
  replace HB0 := Lib.hid (HB0.out.below b_)
  replace HH0 := Lib.hid (HH0.out.below b_)
  replace bb := Lib.hid (bl_trans bb.out b_)
  clear b_
  go_wp2_with fail
  refine (small_c l2 _ _ _ _ ((m : Int)) HB0.out mm HSB.out).mono ?_
  rintro e wv2 ⟨rfl, b_⟩
  replace HA0 := Lib.hid (HA0.out.below b_)
  replace HB0 := Lib.hid (HB0.out.below b_)
  replace HH0 := Lib.hid (HH0.out.below b_)
  replace bb := Lib.hid (bl_trans bb.out b_)
  clear b_
  have T1 : Hid True := Lib.hid trivial
  have T2 : Hid True := Lib.hid trivial
  go_wp2_with (first
    | (at_builtin; clear T1; refine append_rd rfl _ _ 22 rfl tStep wv2 _ 1 (rs [bareR 7 (n : Int) (m : Int)]) rfl (own_built _ _ 4 1 (rs [bareR 7 (n : Int) (m : Int)]) rfl (by decide)) _ n _ (rs l) rfl (HA0.out.1.alloc _) (rs_one _) (by omega) (by omega) ?_; intro v1 p1 ho hg'; clear hg'; have HO := Lib.hid (own_eq ho (rs_app [bareR 7 (n : Int) (m : Int)] l).symm); clear ho)
    | (at_builtin; clear T2; refine append_rd rfl _ _ 22 rfl tStep wv2 _ (1 + n) (rs ([bareR 7 (n : Int) (m : Int)] ++ l)) rfl HO.out _ m _ (rs l2) rfl (HB0.out.1.below HO.out.2) (rs_one _) (by omega) (by omega) ?_; intro v2 p2 ho hg'; clear hg'; replace HO := Lib.hid (own_eq ho (rs_app ([bareR 7 (n : Int) (m : Int)] ++ l) l2).symm); clear ho; obtain ⟨BR1, dR1, rfl, cR1, r_⟩ := own_room HO.out; obtain ⟨_, hlR⟩ := own_lim HO.out; have RC : Hid (At _ BR1 (1 + n + m) ([bareR 7 (n : Int) (m : Int)] ++ l ++ l2)) := Lib.hid ⟨r_, ((barer_terms _ _ _ _).app (HA0.out.2.below HO.out.2)).app (HB0.out.2.below HO.out.2)⟩; clear r_; replace bb := Lib.hid (bl_trans bb.out HO.out.2); replace HA0 := Lib.hid (HA0.out.below HO.out.2); replace HB0 := Lib.hid (HB0.out.below HO.out.2); replace HH0 := Lib.hid (HH0.out.below HO.out.2); clear HO))
  refine (HS.out.run ([bareR 7 (n : Int) (m : Int)] ++ l ++ l2) h _ _ (1 + n + m) dR1 hn hc _ _ _ _ r1 r2 r3 r4 hn 1 RC.out cR1 hlR HLC.out (by omega) HH0.out (by omega) HRO.out e1 e2 e3 e4 e5 rfl).mono ?_
  rintro e wv3 ⟨Aa1, ca1, Aa2, ca2, Aa3, ca3, Aa4, ca4, Ga, gca, rfl, ho, hg, b_⟩
  replace HA0 := Lib.hid (HA0.out.below b_)
  replace HB0 := Lib.hid (HB0.out.below b_)
  replace HH0 := Lib.hid (HH0.out.below b_)
  replace RC := Lib.hid (RC.out.below b_)
  replace bb := Lib.hid (bl_trans bb.out b_)
  have OAa := Lib.hid ho
  have GRa := Lib.hid hg
  clear b_ ho hg
  clear RC
  have Ba : Hid (w.heap.size ≤ wv3.heap.size) := Lib.hid bb.out.size
  obtain ⟨wv4, hwv4⟩ : ∃ W, W = wv3.alloc (.cells #[.int .i64 o.kind, .int .i64 o.why, .slice Aa1 r1 ca1, .slice Aa2 r2 ca2, .slice Aa3 r3 ca3, .slice Aa4 r4 ca4] 30) := ⟨_, rfl⟩
  have b_ : Below wv3.heap.size wv3 wv4 := by rw [hwv4]; exact bl_alloc (Below.refl _ _) _
  replace HA0 := Lib.hid (HA0.out.below b_)
  replace HB0 := Lib.hid (HB0.out.below b_)
  replace HH0 := Lib.hid (HH0.out.below b_)
  replace OAa := Lib.hid (OAa.out.below b_)
  replace GRa := Lib.hid (GRa.out.below b_)
  replace bb := Lib.hid (bl_trans bb.out b_)
  clear b_
  have Ka : Hid (Blk wv4 wv3.heap.size 30 #[.int .i64 o.kind, .int .i64 o.why, .slice Aa1 r1 ca1, .slice Aa2 r2 ca2, .slice Aa3 r3 ca3, .slice Aa4 r4 ca4]) := Lib.hid (by rw [hwv4]; exact Blk.new _ _ _)
  go_wp2_with fail
  rw [← hwv4]
  clear hwv4
  refine (HS.out.run l h _ _ n c hn hc _ _ _ _ s1 s2 s3 s4 hn fx HA0.out hnc cm HLM.out (by omega) HH0.out (by omega) HRX.out d1 d2 d3 d4 d5 hfx).mono ?_
  rintro e wv5 ⟨Ab1, cb1, Ab2, cb2, Ab3, cb3, Ab4, cb4, Gb, gcb, rfl, ho, hg, b_⟩
  replace HA0 := Lib.hid (HA0.out.below b_)
  replace HB0 := Lib.hid (HB0.out.below b_)
  replace HH0 := Lib.hid (HH0.out.below b_)
  replace OAa := Lib.hid (OAa.out.below b_)
  replace GRa := Lib.hid (GRa.out.below b_)
  replace Ka := Lib.hid (Ka.out.below b_)
  replace bb := Lib.hid (bl_trans bb.out b_)
  have OAb := Lib.hid ho
  have GRb := Lib.hid hg
  clear b_ ho hg
  clear HA0
  have Bb : Hid (w.heap.size ≤ wv5.heap.size) := Lib.hid bb.out.size
  obtain ⟨wv6, hwv6⟩ : ∃ W, W = wv5.alloc (.cells #[.int .i64 p.kind, .int .i64 p.why, .slice Ab1 s1 cb1, .slice Ab2 s2 cb2, .slice Ab3 s3 cb3, .slice Ab4 s4 cb4] 30) := ⟨_, rfl⟩
  have b_ : Below wv5.heap.size wv5 wv6 := by rw [hwv6]; exact bl_alloc (Below.refl _ _) _
  replace HB0 := Lib.hid (HB0.out.below b_)
  replace HH0 := Lib.hid (HH0.out.below b_)
  replace OAa := Lib.hid (OAa.out.below b_)
  replace GRa := Lib.hid (GRa.out.below b_)
  replace Ka := Lib.hid (Ka.out.below b_)
  replace OAb := Lib.hid (OAb.out.below b_)
  replace GRb := Lib.hid (GRb.out.below b_)
  replace bb := Lib.hid (bl_trans bb.out b_)
  clear b_
  have Kb : Hid (Blk wv6 wv5.heap.size 30 #[.int .i64 p.kind, .int .i64 p.why, .slice Ab1 s1 cb1, .slice Ab2 s2 cb2, .slice Ab3 s3 cb3, .slice Ab4 s4 cb4]) := Lib.hid (by rw [hwv6]; exact Blk.new _ _ _)
  go_wp2_with fail
  rw [← hwv6]
  clear hwv6
  refine (HS.out.run l2 h _ _ m d hn hc _ _ _ _ q1 q2 q3 q4 hn fy HB0.out hmd dm HLB.out (by omega) HH0.out (by omega) HRY.out f1 f2 f3 f4 f5 hfy).mono ?_
  rintro e wv7 ⟨Ac1, cc1, Ac2, cc2, Ac3, cc3, Ac4, cc4, Gc, gcc, rfl, ho, hg, b_⟩
  replace HB0 := Lib.hid (HB0.out.below b_)
  replace HH0 := Lib.hid (HH0.out.below b_)
  replace OAa := Lib.hid (OAa.out.below b_)
  replace GRa := Lib.hid (GRa.out.below b_)
  replace Ka := Lib.hid (Ka.out.below b_)
  replace OAb := Lib.hid (OAb.out.below b_)
  replace GRb := Lib.hid (GRb.out.below b_)
  replace Kb := Lib.hid (Kb.out.below b_)
  replace bb := Lib.hid (bl_trans bb.out b_)
  have OAc := Lib.hid ho
  have GRc := Lib.hid hg
  clear b_ ho hg
  clear HB0 HH0
  have Bc : Hid (w.heap.size ≤ wv7.heap.size) := Lib.hid bb.out.size
  obtain ⟨wv8, hwv8⟩ : ∃ W, W = wv7.alloc (.cells #[.int .i64 y.kind, .int .i64 y.why, .slice Ac1 q1 cc1, .slice Ac2 q2 cc2, .slice Ac3 q3 cc3, .slice Ac4 q4 cc4] 30) := ⟨_, rfl⟩
  have b_ : Below wv7.heap.size wv7 wv8 := by rw [hwv8]; exact bl_alloc (Below.refl _ _) _
  replace OAa := Lib.hid (OAa.out.below b_)
  replace GRa := Lib.hid (GRa.out.below b_)
  replace Ka := Lib.hid (Ka.out.below b_)
  replace OAb := Lib.hid (OAb.out.below b_)
  replace GRb := Lib.hid (GRb.out.below b_)
  replace Kb := Lib.hid (Kb.out.below b_)
  replace OAc := Lib.hid (OAc.out.below b_)
  replace GRc := Lib.hid (GRc.out.below b_)
  replace bb := Lib.hid (bl_trans bb.out b_)
  clear b_
  have Kc : Hid (Blk wv8 wv7.heap.size 30 #[.int .i64 y.kind, .int .i64 y.why, .slice Ac1 q1 cc1, .slice Ac2 q2 cc2, .slice Ac3 q3 cc3, .slice Ac4 q4 cc4]) := Lib.hid (by rw [hwv8]; exact Blk.new _ _ _)
  go_wp2_with fail
  rw [← hwv8]
  clear hwv8
  refine (awake_any HS.out _).mono ?_
  rintro e wv9 ⟨rfl, b_⟩
  replace OAa := Lib.hid (OAa.out.below b_)
  replace GRa := Lib.hid (GRa.out.below b_)
  replace Ka := Lib.hid (Ka.out.below b_)
  replace OAb := Lib.hid (OAb.out.below b_)
  replace GRb := Lib.hid (GRb.out.below b_)
  replace Kb := Lib.hid (Kb.out.below b_)
  replace OAc := Lib.hid (OAc.out.below b_)
  replace GRc := Lib.hid (GRc.out.below b_)
  replace Kc := Lib.hid (Kc.out.below b_)
  replace bb := Lib.hid (bl_trans bb.out b_)
  clear b_
  go_wp2
  go_ret
  exact ⟨rfl, bb.out⟩
end Go.Proofs.Ytlmkhnjdifamgaa.Model
