/-
  THE WALK OF THE LAW ModelTwo, IN PARTS.
-/
import Derived.Test.YtlmkhnjdifamgaaModelTail
import Derived.Test.YtlmkhnjdifamgaaModelJoin2
namespace Go.Proofs.Ytlmkhnjdifamgaa.Model
open Go.ChangeShapes Go.WideShapes Go.ChangeAt Go.RowKit Mem Go.Proofs.Ytlmkhnjdifamgaa.Code

set_option maxRecDepth 100000 in
set_option maxHeartbeats 20000000 in
theorem two_a (HS : Hid Said) (A D HA : Option Addr) (n c m d hn hc : Nat) (l l2 : List Raw) (h : List Heap.Cell) (w : World) (hnc : n ≤ c) (mn : n ≤ 9223372036854775807) (cm : c ≤ 9223372036854775807) (hmd : m ≤ d) (mm : m ≤ 9223372036854775807) (dm : d ≤ 9223372036854775807) (HA0 : Hid (At w A n l)) (HB0 : Hid (At w D m l2)) (HH0 : Hid (Rd w 2 HA hn (Heap.cs h))) (HSA : Hid (smallI l = (n : Int))) (HLM : Hid (Lim l)) (hn40 : n ≤ 40) (HSB : Hid (smallI l2 = (m : Int))) (HLB : Hid (Lim l2)) (hm40 : m ≤ 40) (h64 : hn ≤ 64) (o p : Out) (g g3 : List Heap.Cell) (r1 r2 r3 r4 s1 s2 s3 s4 : Nat) (e1 : o.regs.length = r1) (e2 : o.path.length = r2) (e3 : o.seen.length = r3) (e4 : o.writes.length = r4) (e5 : g.length = hn) (l1 : r1 ≤ 8) (l2_ : r2 ≤ 24) (l3 : r3 ≤ 64) (l4 : r4 ≤ 64) (d1 : p.regs.length = s1) (d2 : p.path.length = s2) (d3 : p.seen.length = s3) (d4 : p.writes.length = s4) (d5 : g3.length = hn) (m1 : s1 ≤ 8) (m2 : s2 ≤ 24) (m3 : s3 ≤ 64) (m4 : s4 ≤ 64) (ok3 : Bool) (HRO : Hid (runS (ss l ++ (zeros ++ ss l2)) h = (o, g, false))) (HRX : Hid (runS (ss l) h = (p, g3, ok3))) (fx : Int) (hfx : errOf ok3 = fx) :
    Calls Try.prog 6 #[.slice A n c, .slice D m d, .slice HA hn hc] w (RetB w true) := by
  have bb : Hid (Below w.heap.size w w) := Lib.hid (Below.refl _ _)
  have h64' : ¬ ((64 : Int) < (hn : Int)) := by omega
  go_enter Try.func6, Try.ntmps6
  go_wp2_with fail
  refine (small_c l _ _ _ _ ((n : Int)) HA0.out mn HSA.out).mono ?_
  rintro e wv1 ⟨rfl, b_⟩
  replace HA0 := Lib.hid (HA0.out.below b_)
  replace HB0 := Lib.hid (HB0.out.below b_)
  replace HH0 := Lib.hid (HH0.out.below b_)
  replace bb := Lib.hid (bl_trans bb.out b_)
  clear b_
  go_wp2_with fail
  refine (small_c l2 _ _ _ _ ((m : Int)) HB0.out mm HSB.out).mono ?_
  rintro e wv2 ⟨rfl, b_⟩
  replace HA0 := Lib.hid (HA0.out.below b_)
  replace HB0 := Lib.hid (HB0.out.below b_)
  replace HH0 := Lib.hid (HH0.out.below b_)
  replace bb := Lib.hid (bl_trans bb.out b_)
  clear b_
  go_wp2_with (at_builtin; refine append_rd rfl _ _ 22 rfl tStep wv2 (.slice (some ⟨wv2.heap.size, 0, none⟩) 0 0) 0 [] rfl (Own.empty wv2 _ _) A n c (rs l) rfl (HA0.out.1.alloc _) (rs_one _) (by omega) (by omega) ?_; intro v1 p1 ho hg'; clear hg'; have HO := Lib.hid (own_zero ho); clear ho)
  go_loopw [7, 35] (fun v i wr => ∃ (j : Nat) (zr : List Raw), j ≤ 8 ∧ i = .int .i64 j ∧ Own wv2 wr 46 4 v (n + j) (rs (l ++ zr)) ∧ Hid (Zs wr v zr j)) (fun _ i _ => 8 - (intOf i).toNat)
  case atStart => exact ⟨0, [], Nat.zero_le _, rfl, by rw [List.append_nil]; exact HO.out, Lib.hid (Zs.start _ _)⟩
  case round =>
    obtain ⟨j, zr, hj, rfl, hown, HZ⟩ := hrel
    have HOWN := Lib.hid hown
    clear hown HO
    by_cases hlt : j < 8
    · obtain ⟨wt, hwt⟩ : ∃ W, W = (wr.alloc (.cells #[.int .i64 1, .int .i64 0] 49)).alloc (.cells (rs [zR wr.heap.size j]).toArray 46) := ⟨_, rfl⟩
      have HBT : Hid (Below wr.heap.size wr wt) := Lib.hid (by rw [hwt]; exact bl_alloc (bl_alloc (Below.refl _ _) _) _)
      have HT : Hid (Rd wt 2 (some ⟨wr.heap.size, 0, none⟩) 1 (Term.ops [⟨1, 0⟩])) := Lib.hid (by rw [hwt]; exact (Rd.built _ 2 1 (Term.ops [⟨1, 0⟩]) _ rfl).alloc _)
      have HRS : Hid (Rd wt 4 (some ⟨wr.heap.size + 1, 0, none⟩) 1 (rs [zR wr.heap.size j])) := Lib.hid (by rw [hwt]; exact Rd.builtAt _ 4 1 (rs [zR wr.heap.size j]) _ rfl (by simp))
      have HOT := Lib.hid (HOWN.out.below HBT.out)
      have hwt' : wt = (wr.alloc (.cells #[.int .i64 1, .int .i64 0] 49)).alloc (.cells #[.int .i64 2, .int .i64 (j : Int), .int .i64 0, .slice (some ⟨wr.heap.size, 0, none⟩) 1 1] 46) := hwt
      clear hwt
      go_wp2_with (at_builtin; rw [← hwt']; clear hwt'; refine append_moved rfl _ _ 22 rfl tStep wv2 _ (n + j) (rs (l ++ zr)) rfl HOT.out _ 1 1 (rs [zR wr.heap.size j]) rfl HRS.out (rs_one _) (by omega) (by omega) (by decide) ?_; intro v8 w8 ho8 hm8; have HO8 := Lib.hid (own_eq (ys := rs (l ++ (zr ++ [zR wr.heap.size j]))) ho8 (by rw [← rs_app, List.append_assoc])); have HZ8 := Lib.hid (HZ.out.step hlt HBT.out HT.out HOWN.out (Nat.le_refl _) hm8); clear ho8 hm8)
      go_roundw
      case rel => exact ⟨j + 1, zr ++ [zR wr.heap.size j], by omega, by go_num, HO8.out, HZ8⟩
      case measure => simp [intOf]; omega
    · have hj8 : j = 8 := by omega
      subst hj8
      go_wp2_with (at_builtin; refine append_rd rfl _ _ 22 rfl tStep wv2 _ (n + 8) (rs (l ++ zr)) rfl HOWN.out D m d (rs l2) rfl (HB0.out.1.below HOWN.out.2) (rs_one _) (by omega) (by omega) ?_; intro v2 p2 ho hg'; have HZ2 := Lib.hid (HZ.out.terms.grown HZ.out.off hg'); clear hg'; have HO2 := Lib.hid (own_eq ho (rs_app (l ++ zr) l2).symm); clear ho; obtain ⟨BR1, dR1, rfl, cR1, r_⟩ := own_room HO2.out; obtain ⟨_, hlR⟩ := own_lim HO2.out; have RC : Hid (At p2 BR1 (n + 8 + m) (l ++ zr ++ l2)) := Lib.hid ⟨r_, ((HA0.out.2.below HO2.out.2).app HZ2.out).app (HB0.out.2.below HO2.out.2)⟩; clear r_ HZ2; replace bb := Lib.hid (bl_trans bb.out HO2.out.2); replace HA0 := Lib.hid (HA0.out.below HO2.out.2); replace HB0 := Lib.hid (HB0.out.below HO2.out.2); replace HH0 := Lib.hid (HH0.out.below HO2.out.2); clear HO2 HOWN)
      refine (HS.out.run (l ++ zr ++ l2) h _ _ (n + 8 + m) dR1 hn hc _ _ _ _ r1 r2 r3 r4 hn 1 RC.out cR1 hlR (Lim.app (Lim.app HLM.out HZ.out.lim) HLB.out) (by omega) HH0.out (by omega) (by rw [two_ss _ _ _ HZ.out.ss_]; exact HRO.out) e1 e2 e3 e4 e5 rfl).mono ?_
      rintro e wv3 ⟨Aa1, ca1, Aa2, ca2, Aa3, ca3, Aa4, ca4, Ga, gca, rfl, ho, hg, b_⟩
      replace HA0 := Lib.hid (HA0.out.below b_)
      replace HB0 := Lib.hid (HB0.out.below b_)
      replace HH0 := Lib.hid (HH0.out.below b_)
      replace RC := Lib.hid (RC.out.below b_)
      replace bb := Lib.hid (bl_trans bb.out b_)
      have OAa := Lib.hid ho
      have GRa := Lib.hid hg
      clear b_ ho hg
      clear RC
      have Ba : Hid (w.heap.size ≤ wv3.heap.size) := Lib.hid bb.out.size
      obtain ⟨wv4, hwv4⟩ : ∃ W, W = wv3.alloc (.cells #[.int .i64 o.kind, .int .i64 o.why, .slice Aa1 r1 ca1, .slice Aa2 r2 ca2, .slice Aa3 r3 ca3, .slice Aa4 r4 ca4] 30) := ⟨_, rfl⟩
      have b_ : Below wv3.heap.size wv3 wv4 := by rw [hwv4]; exact bl_alloc (Below.refl _ _) _
      replace HA0 := Lib.hid (HA0.out.below b_)
      replace HB0 := Lib.hid (HB0.out.below b_)
      replace HH0 := Lib.hid (HH0.out.below b_)
      replace OAa := Lib.hid (OAa.out.below b_)
      replace GRa := Lib.hid (GRa.out.below b_)
      replace bb := Lib.hid (bl_trans bb.out b_)
      clear b_
      have Ka : Hid (Blk wv4 wv3.heap.size 30 #[.int .i64 o.kind, .int .i64 o.why, .slice Aa1 r1 ca1, .slice Aa2 r2 ca2, .slice Aa3 r3 ca3, .slice Aa4 r4 ca4]) := Lib.hid (by rw [hwv4]; exact Blk.new _ _ _)
      go_wp2_with fail
      rw [← hwv4]
      clear hwv4
      refine (HS.out.run l h _ _ n c hn hc _ _ _ _ s1 s2 s3 s4 hn fx HA0.out hnc cm HLM.out (by omega) HH0.out (by omega) HRX.out d1 d2 d3 d4 d5 hfx).mono ?_
      rintro e wv5 ⟨Ab1, cb1, Ab2, cb2, Ab3, cb3, Ab4, cb4, Gb, gcb, rfl, ho, hg, b_⟩
      replace HA0 := Lib.hid (HA0.out.below b_)
      replace HB0 := Lib.hid (HB0.out.below b_)
      replace HH0 := Lib.hid (HH0.out.below b_)
      replace OAa := Lib.hid (OAa.out.below b_)
      replace GRa := Lib.hid (GRa.out.below b_)
      replace Ka := Lib.hid (Ka.out.below b_)
      replace bb := Lib.hid (bl_trans bb.out b_)
      have OAb := Lib.hid ho
      have GRb := Lib.hid hg
      clear b_ ho hg
      clear HA0
      have Bb : Hid (w.heap.size ≤ wv5.heap.size) := Lib.hid bb.out.size
      obtain ⟨wv6, hwv6⟩ : ∃ W, W = wv5.alloc (.cells #[.int .i64 p.kind, .int .i64 p.why, .slice Ab1 s1 cb1, .slice Ab2 s2 cb2, .slice Ab3 s3 cb3, .slice Ab4 s4 cb4] 30) := ⟨_, rfl⟩
      have b_ : Below wv5.heap.size wv5 wv6 := by rw [hwv6]; exact bl_alloc (Below.refl _ _) _
      replace HB0 := Lib.hid (HB0.out.below b_)
      replace HH0 := Lib.hid (HH0.out.below b_)
      replace OAa := Lib.hid (OAa.out.below b_)
      replace GRa := Lib.hid (GRa.out.below b_)
      replace Ka := Lib.hid (Ka.out.below b_)
      replace OAb := Lib.hid (OAb.out.below b_)
      replace GRb := Lib.hid (GRb.out.below b_)
      replace bb := Lib.hid (bl_trans bb.out b_)
      clear b_
      have Kb : Hid (Blk wv6 wv5.heap.size 30 #[.int .i64 p.kind, .int .i64 p.why, .slice Ab1 s1 cb1, .slice Ab2 s2 cb2, .slice Ab3 s3 cb3, .slice Ab4 s4 cb4]) := Lib.hid (by rw [hwv6]; exact Blk.new _ _ _)
      go_wp2_with fail
      rw [← hwv6]
      clear hwv6
      refine (awake_any HS.out _).mono ?_
      rintro e wv7 ⟨rfl, b_⟩
      replace HB0 := Lib.hid (HB0.out.below b_)
      replace HH0 := Lib.hid (HH0.out.below b_)
      replace OAa := Lib.hid (OAa.out.below b_)
      replace GRa := Lib.hid (GRa.out.below b_)
      replace Ka := Lib.hid (Ka.out.below b_)
      replace OAb := Lib.hid (OAb.out.below b_)
      replace GRb := Lib.hid (GRb.out.below b_)
      replace Kb := Lib.hid (Kb.out.below b_)
      replace bb := Lib.hid (bl_trans bb.out b_)
      clear b_
      go_wp2
      go_ret
      exact ⟨rfl, bb.out⟩
end Go.Proofs.Ytlmkhnjdifamgaa.Model
