/-
  THE WALK OF THE LAW ModelEither, IN PARTS.
-/
import Derived.Test.YtlmkhnjdifamgaaModelTail
import Derived.Test.YtlmkhnjdifamgaaModelJoin
namespace Go.Proofs.Ytlmkhnjdifamgaa.Model
open Go.ChangeShapes Go.WideShapes Go.ChangeAt Go.RowKit Mem Go.Proofs.Ytlmkhnjdifamgaa.Code

set_option maxRecDepth 100000 in
set_option maxHeartbeats 20000000 in
theorem either_y (HS : Hid Said) (A D HA : Option Addr) (n c m d hn hc : Nat) (l l2 : List Raw) (h : List Heap.Cell) (w : World) (hnc : n ≤ c) (mn : n ≤ 9223372036854775807) (cm : c ≤ 9223372036854775807) (hmd : m ≤ d) (mm : m ≤ 9223372036854775807) (dm : d ≤ 9223372036854775807) (HA0 : Hid (At w A n l)) (HB0 : Hid (At w D m l2)) (HH0 : Hid (Rd w 2 HA hn (Heap.cs h))) (HSA : Hid (smallI l = (n : Int))) (HLM : Hid (Lim l)) (hn40 : n ≤ 40) (HSB : Hid (smallI l2 = (m : Int))) (HLB : Hid (Lim l2)) (hm40 : m ≤ 40) (h64 : hn ≤ 64) (nz : ((n : Int) == 0) = false) (mz : ((m : Int) == 0) = false) (o p y : Out) (g g3 g4 : List Heap.Cell) (r1 r2 r3 r4 s1 s2 s3 s4 q1 q2 q3 q4 : Nat) (e1 : o.regs.length = r1) (e2 : o.path.length = r2) (e3 : o.seen.length = r3) (e4 : o.writes.length = r4) (e5 : g.length = hn) (l1 : r1 ≤ 8) (l2_ : r2 ≤ 24) (l3 : r3 ≤ 64) (l4 : r4 ≤ 64) (d1 : p.regs.length = s1) (d2 : p.path.length = s2) (d3 : p.seen.length = s3) (d4 : p.writes.length = s4) (d5 : g3.length = hn) (m1 : s1 ≤ 8) (m2 : s2 ≤ 24) (m3 : s3 ≤ 64) (m4 : s4 ≤ 64) (f1 : y.regs.length = q1) (f2 : y.path.length = q2) (f3 : y.seen.length = q3) (f4 : y.writes.length = q4) (f5 : g4.length = hn) (k1 : q1 ≤ 8) (k2 : q2 ≤ 24) (k3 : q3 ≤ 64) (k4 : q4 ≤ 64) (HRO : Hid (runS (ss ([bareR 7 (n : Int) (m : Int)] ++ l ++ l2)) h = (o, g, true))) (HRX : Hid (runS (ss l) h = (p, g3, true))) (HRY : Hid (runS (ss l2) h = (y, g4, true))) (hk2 : Hid (p.kind = 2)) (has : Hid (AsPart o y g g4 2)) (hsub : Hid (∀ z ∈ p.seen, z ∈ o.seen)) :
    Calls Try.prog 5 #[.slice A n c, .slice D m d, .slice HA hn hc] w (RetB w true) := by
  have bb : Hid (Below w.heap.size w w) := Lib.hid (Below.refl _ _)
  have h64' : ¬ ((64 : Int) < (hn : Int)) := by omega
  have HLC : Hid (Lim ([bareR 7 (n : Int) (m : Int)] ++ l ++ l2)) := Lib.hid (Lim.app (Lim.app (barer_lim _ _ _) HLM.out) HLB.out)
  go_enter Try.func5, Try.ntmps5
  go_wp2_with fail
  refine (small_c l _ _ _ _ ((n : Int)) HA0.out mn HSA.out).mono ?_
  rintro e wv1 ⟨rfl, b_⟩
  replace HA0 := Lib.hid (HA0.out.below b_)
  replace HB0 := Lib.hid (HB0.out.below b_)
  replace HH0 := Lib.hid (HH0.out.below b_)
  replace bb := Lib.hid (bl_trans bb.out b_)
  clear b_
  go_wp2_with fail
  refine (small_c l2 _ _ _ _ ((m : Int)) HB0.out mm HSB.out).mono ?_
  rintro e wv2 ⟨rfl, b_⟩
  replace HA0 := Lib.hid (HA0.out.below b_)
  replace HB0 := Lib.hid (HB0.out.below b_)
  replace HH0 := Lib.hid (HH0.out.below b_)
  replace bb := Lib.hid (bl_trans bb.out b_)
  clear b_
  have T1 : Hid True := Lib.hid trivial
  have T2 : Hid True := Lib.hid trivial
  go_wp2_with (first
    | (at_builtin; clear T1; refine append_rd rfl _ _ 22 rfl tStep wv2 _ 1 (rs [bareR 7 (n : Int) (m : Int)]) rfl (own_built _ _ 4 1 (rs [bareR 7 (n : Int) (m : Int)]) rfl (by decide)) _ n _ (rs l) rfl (HA0.out.1.alloc _) (rs_one _) (by omega) (by omega) ?_; intro v1 p1 ho hg'; clear hg'; have HO := Lib.hid (own_eq ho (rs_app [bareR 7 (n : Int) (m : Int)] l).symm); clear ho)
    | (at_builtin; clear T2; refine append_rd rfl _ _ 22 rfl tStep wv2 _ (1 + n) (rs ([bareR 7 (n : Int) (m : Int)] ++ l)) rfl HO.out _ m _ (rs l2) rfl (HB0.out.1.below HO.out.2) (rs_one _) (by omega) (by omega) ?_; intro v2 p2 ho hg'; clear hg'; replace HO := Lib.hid (own_eq ho (rs_app ([bareR 7 (n : Int) (m : Int)] ++ l) l2).symm); clear ho; obtain ⟨BR1, dR1, rfl, cR1, r_⟩ := own_room HO.out; obtain ⟨_, hlR⟩ := own_lim HO.out; have RC : Hid (At _ BR1 (1 + n + m) ([bareR 7 (n : Int) (m : Int)] ++ l ++ l2)) := Lib.hid ⟨r_, ((barer_terms _ _ _ _).app (HA0.out.2.below HO.out.2)).app (HB0.out.2.below HO.out.2)⟩; clear r_; replace bb := Lib.hid (bl_trans bb.out HO.out.2); replace HA0 := Lib.hid (HA0.out.below HO.out.2); replace HB0 := Lib.hid (HB0.out.below HO.out.2); replace HH0 := Lib.hid (HH0.out.below HO.out.2); clear HO))
  refine (HS.out.run ([bareR 7 (n : Int) (m : Int)] ++ l ++ l2) h _ _ (1 + n + m) dR1 hn hc _ _ _ _ r1 r2 r3 r4 hn 0 RC.out cR1 hlR HLC.out (by omega) HH0.out (by omega) HRO.out e1 e2 e3 e4 e5 rfl).mono ?_
  rintro e wv3 ⟨Aa1, ca1, Aa2, ca2, Aa3, ca3, Aa4, ca4, Ga, gca, rfl, ho, hg, b_⟩
  replace HA0 := Lib.hid (HA0.out.below b_)
  replace HB0 := Lib.hid (HB0.out.below b_)
  replace HH0 := Lib.hid (HH0.out.below b_)
  replace RC := Lib.hid (RC.out.below b_)
  replace bb := Lib.hid (bl_trans bb.out b_)
  have OAa := Lib.hid ho
  have GRa := Lib.hid hg
  clear b_ ho hg
  clear RC
  have Ba : Hid (w.heap.size ≤ wv3.heap.size) := Lib.hid bb.out.size
  obtain ⟨wv4, hwv4⟩ : ∃ W, W = wv3.alloc (.cells #[.int .i64 o.kind, .int .i64 o.why, .slice Aa1 r1 ca1, .slice Aa2 r2 ca2, .slice Aa3 r3 ca3, .slice Aa4 r4 ca4] 30) := ⟨_, rfl⟩
  have b_ : Below wv3.heap.size wv3 wv4 := by rw [hwv4]; exact bl_alloc (Below.refl _ _) _
  replace HA0 := Lib.hid (HA0.out.below b_)
  replace HB0 := Lib.hid (HB0.out.below b_)
  replace HH0 := Lib.hid (HH0.out.below b_)
  replace OAa := Lib.hid (OAa.out.below b_)
  replace GRa := Lib.hid (GRa.out.below b_)
  replace bb := Lib.hid (bl_trans bb.out b_)
  clear b_
  have Ka : Hid (Blk wv4 wv3.heap.size 30 #[.int .i64 o.kind, .int .i64 o.why, .slice Aa1 r1 ca1, .slice Aa2 r2 ca2, .slice Aa3 r3 ca3, .slice Aa4 r4 ca4]) := Lib.hid (by rw [hwv4]; exact Blk.new _ _ _)
  go_wp2_with fail
  rw [← hwv4]
  clear hwv4
  refine (HS.out.run l h _ _ n c hn hc _ _ _ _ s1 s2 s3 s4 hn 0 HA0.out hnc cm HLM.out (by omega) HH0.out (by omega) HRX.out d1 d2 d3 d4 d5 rfl).mono ?_
  rintro e wv5 ⟨Ab1, cb1, Ab2, cb2, Ab3, cb3, Ab4, cb4, Gb, gcb, rfl, ho, hg, b_⟩
  replace HA0 := Lib.hid (HA0.out.below b_)
  replace HB0 := Lib.hid (HB0.out.below b_)
  replace HH0 := Lib.hid (HH0.out.below b_)
  replace OAa := Lib.hid (OAa.out.below b_)
  replace GRa := Lib.hid (GRa.out.below b_)
  replace Ka := Lib.hid (Ka.out.below b_)
  replace bb := Lib.hid (bl_trans bb.out b_)
  have OAb := Lib.hid ho
  have GRb := Lib.hid hg
  clear b_ ho hg
  clear HA0
  have Bb : Hid (w.heap.size ≤ wv5.heap.size) := Lib.hid bb.out.size
  obtain ⟨wv6, hwv6⟩ : ∃ W, W = wv5.alloc (.cells #[.int .i64 p.kind, .int .i64 p.why, .slice Ab1 s1 cb1, .slice Ab2 s2 cb2, .slice Ab3 s3 cb3, .slice Ab4 s4 cb4] 30) := ⟨_, rfl⟩
  have b_ : Below wv5.heap.size wv5 wv6 := by rw [hwv6]; exact bl_alloc (Below.refl _ _) _
  replace HB0 := Lib.hid (HB0.out.below b_)
  replace HH0 := Lib.hid (HH0.out.below b_)
  replace OAa := Lib.hid (OAa.out.below b_)
  replace GRa := Lib.hid (GRa.out.below b_)
  replace Ka := Lib.hid (Ka.out.below b_)
  replace OAb := Lib.hid (OAb.out.below b_)
  replace GRb := Lib.hid (GRb.out.below b_)
  replace bb := Lib.hid (bl_trans bb.out b_)
  clear b_
  have Kb : Hid (Blk wv6 wv5.heap.size 30 #[.int .i64 p.kind, .int .i64 p.why, .slice Ab1 s1 cb1, .slice Ab2 s2 cb2, .slice Ab3 s3 cb3, .slice Ab4 s4 cb4]) := Lib.hid (by rw [hwv6]; exact Blk.new _ _ _)
  go_wp2_with fail
  rw [← hwv6]
  clear hwv6
  refine (HS.out.run l2 h _ _ m d hn hc _ _ _ _ q1 q2 q3 q4 hn 0 HB0.out hmd dm HLB.out (by omega) HH0.out (by omega) HRY.out f1 f2 f3 f4 f5 rfl).mono ?_
  rintro e wv7 ⟨Ac1, cc1, Ac2, cc2, Ac3, cc3, Ac4, cc4, Gc, gcc, rfl, ho, hg, b_⟩
  replace HB0 := Lib.hid (HB0.out.below b_)
  replace HH0 := Lib.hid (HH0.out.below b_)
  replace OAa := Lib.hid (OAa.out.below b_)
  replace GRa := Lib.hid (GRa.out.below b_)
  replace Ka := Lib.hid (Ka.out.below b_)
  replace OAb := Lib.hid (OAb.out.below b_)
  replace GRb := Lib.hid (GRb.out.below b_)
  replace Kb := Lib.hid (Kb.out.below b_)
  replace bb := Lib.hid (bl_trans bb.out b_)
  have OAc := Lib.hid ho
  have GRc := Lib.hid hg
  clear b_ ho hg
  clear HB0 HH0
  obtain ⟨wv8, hwv8⟩ : ∃ W, W = wv7.alloc (.cells #[.int .i64 y.kind, .int .i64 y.why, .slice Ac1 q1 cc1, .slice Ac2 q2 cc2, .slice Ac3 q3 cc3, .slice Ac4 q4 cc4] 30) := ⟨_, rfl⟩
  have b_ : Below wv7.heap.size wv7 wv8 := by rw [hwv8]; exact bl_alloc (Below.refl _ _) _
  replace OAa := Lib.hid (OAa.out.below b_)
  replace GRa := Lib.hid (GRa.out.below b_)
  replace Ka := Lib.hid (Ka.out.below b_)
  replace OAb := Lib.hid (OAb.out.below b_)
  replace GRb := Lib.hid (GRb.out.below b_)
  replace Kb := Lib.hid (Kb.out.below b_)
  replace OAc := Lib.hid (OAc.out.below b_)
  replace GRc := Lib.hid (GRc.out.below b_)
  replace bb := Lib.hid (bl_trans bb.out b_)
  clear b_
  have Kc : Hid (Blk wv8 wv7.heap.size 30 #[.int .i64 y.kind, .int .i64 y.why, .slice Ac1 q1 cc1, .slice Ac2 q2 cc2, .slice Ac3 q3 cc3, .slice Ac4 q4 cc4]) := Lib.hid (by rw [hwv8]; exact Blk.new _ _ _)
  have HG : Hid (wv8.heap.size = (wv7.heap.size + 1)) := Lib.hid (by rw [hwv8]; simp)
  have BD : Hid (w.heap.size ≤ (wv7.heap.size + 1)) := Lib.hid (by rw [← HG.out]; exact bb.out.size)
  have LWOAa := Lib.hid (OAa.out.lw (Nat.le_of_eq HG.out))
  have LWOAb := Lib.hid (OAb.out.lw (Nat.le_of_eq HG.out))
  have LWOAc := Lib.hid (OAc.out.lw (Nat.le_of_eq HG.out))
  have LWGRa := Lib.hid (rd_lw GRa.out (by decide) (Nat.le_of_eq HG.out))
  have LWGRb := Lib.hid (rd_lw GRb.out (by decide) (Nat.le_of_eq HG.out))
  have LWGRc := Lib.hid (rd_lw GRc.out (by decide) (Nat.le_of_eq HG.out))
  have NEa : Hid ((wv7.heap.size + 1) ≠ wv3.heap.size) := Lib.hid (by have := Ka.out.lt; have := HG.out; omega)
  have NEb : Hid ((wv7.heap.size + 1) ≠ wv5.heap.size) := Lib.hid (by have := Kb.out.lt; have := HG.out; omega)
  have NEc : Hid ((wv7.heap.size + 1) ≠ wv7.heap.size) := Lib.hid (by have := Kc.out.lt; have := HG.out; omega)
  have kb0 := Kb.out.cell 0 _ rfl
  have kb1 := Kb.out.cell 1 _ rfl
  have kb2 := Kb.out.cell 2 _ rfl
  have kb3 := Kb.out.cell 3 _ rfl
  have kb4 := Kb.out.cell 4 _ rfl
  have kb5 := Kb.out.cell 5 _ rfl
  have OAa1 := OAa
  have OAb1 := OAb
  have GRa1 := GRa
  have GRc1 := GRc
  have Ka1 := Ka
  have Kb1 := Kb
  have bb1 := bb
  obtain ⟨wv9, hwv9⟩ : ∃ W, W = wv8.alloc (.cells #[.int .i64 p.kind, .int .i64 p.why, .slice Ab1 s1 cb1, .slice Ab2 s2 cb2, .slice Ab3 s3 cb3, .slice Ab4 s4 cb4] 30) := ⟨_, rfl⟩
  have b_ : Below wv8.heap.size wv8 wv9 := by rw [hwv9]; exact bl_alloc (Below.refl _ _) _
  replace OAa := Lib.hid (OAa.out.below b_)
  replace GRa := Lib.hid (GRa.out.below b_)
  replace Ka := Lib.hid (Ka.out.below b_)
  replace OAb := Lib.hid (OAb.out.below b_)
  replace GRb := Lib.hid (GRb.out.below b_)
  replace Kb := Lib.hid (Kb.out.below b_)
  replace OAc := Lib.hid (OAc.out.below b_)
  replace GRc := Lib.hid (GRc.out.below b_)
  replace Kc := Lib.hid (Kc.out.below b_)
  replace bb := Lib.hid (bl_trans bb.out b_)
  clear b_
  have Kd : Hid (Blk wv9 (wv7.heap.size + 1) 30 #[.int .i64 p.kind, .int .i64 p.why, .slice Ab1 s1 cb1, .slice Ab2 s2 cb2, .slice Ab3 s3 cb3, .slice Ab4 s4 cb4]) := Lib.hid (by rw [hwv9, ← HG.out]; exact Blk.new _ _ _)
  have kx0 := Kb.out.cell 0 _ rfl
  rw [hwv8] at kb0
  rw [hwv8] at kb1
  rw [hwv8] at kb2
  rw [hwv8] at kb3
  rw [hwv8] at kb4
  rw [hwv8] at kb5
  rw [hwv9, hwv8] at kx0
  have hkx : (p.kind == 2) = true := by rw [hk2.out]; rfl
  have kc0 := Kc.out.cell 0 _ rfl
  rw [hwv9, hwv8] at kc0
  have kc1 := Kc.out.cell 1 _ rfl
  rw [hwv9, hwv8] at kc1
  have kc2 := Kc.out.cell 2 _ rfl
  rw [hwv9, hwv8] at kc2
  have kc3 := Kc.out.cell 3 _ rfl
  rw [hwv9, hwv8] at kc3
  have kc4 := Kc.out.cell 4 _ rfl
  rw [hwv9, hwv8] at kc4
  have kc5 := Kc.out.cell 5 _ rfl
  rw [hwv9, hwv8] at kc5
  clear Kd
  obtain ⟨wv10, hwv10⟩ : ∃ W, W = wv8.alloc (.cells #[.int .i64 y.kind, .int .i64 y.why, .slice Ac1 q1 cc1, .slice Ac2 q2 cc2, .slice Ac3 q3 cc3, .slice Ac4 q4 cc4] 30) := ⟨_, rfl⟩
  have b_ : Below wv8.heap.size wv8 wv10 := by rw [hwv10]; exact bl_alloc (Below.refl _ _) _
  replace OAa := Lib.hid (OAa1.out.below b_)
  replace OAb := Lib.hid (OAb1.out.below b_)
  replace GRa := Lib.hid (GRa1.out.below b_)
  replace GRc := Lib.hid (GRc1.out.below b_)
  replace Ka := Lib.hid (Ka1.out.below b_)
  replace Kb := Lib.hid (Kb1.out.below b_)
  replace bb := Lib.hid (bl_trans bb1.out b_)
  clear b_ OAa1 OAb1 GRa1 GRc1 Ka1 Kb1 bb1 OAc GRb Kc
  have Kd : Hid (Blk wv10 (wv7.heap.size + 1) 30 #[.int .i64 y.kind, .int .i64 y.why, .slice Ac1 q1 cc1, .slice Ac2 q2 cc2, .slice Ac3 q3 cc3, .slice Ac4 q4 cc4]) := Lib.hid (by rw [hwv10, ← HG.out]; exact Blk.new _ _ _)
  have kx4 := Kb.out.cell 4 _ rfl
  rw [hwv10, hwv8] at kx4
  go_wp2_with fail
  rw [← hwv8, ← hwv10]
  clear hwv10 hwv9 hwv8 kx0 kx4 kb0 kc0 kb1 kc1 kb2 kc2 kb3 kc3 kb4 kc4 kb5 kc5
  have LX : Hid (p.seen.length = s3) := Lib.hid d3
  have LO : Hid (o.seen.length = r3) := Lib.hid e3
  have SUB := hsub
  go_loopw [113] (fun i wr => ∃ j : Nat, j ≤ s3 ∧ i = .int .i64 j ∧ wr = wv10) (fun i _ => s3 - (intOf i).toNat)
  case atStart => exact ⟨0, Nat.zero_le _, rfl, rfl⟩
  case round =>
    obtain ⟨j, hj, rfl, hw⟩ := hrel
    have hw := hw.symm
    subst hw
    by_cases hlt : j < s3
    · obtain ⟨xb, xo, z, hXA, hxz, hxc⟩ := at_z OAb.out.seen j hlt
      have HZ : Hid (z ∈ o.seen) := Lib.hid (SUB.out z (List.mem_of_getElem? hxz))
      subst hXA
      clear hxz
      have kk4 := Ka.out.cell 4 _ rfl
      go_wp2_with fail
      clear hxc kk4
      go_loopw [22, 120] (fun a i wr => ∃ q : Nat, q ≤ r3 ∧ i = .int .i64 q ∧ a = .bool (inb o.seen z q) ∧ wr = wv10) (fun _ i _ => r3 - (intOf i).toNat)
      case atStart => exact ⟨0, Nat.zero_le _, rfl, rfl, rfl⟩
      case round =>
        obtain ⟨q, hq, rfl, rfl, hw⟩ := hrel
        have hw := hw.symm
        subst hw
        by_cases hlq : q < r3
        · obtain ⟨ob, oo, u, hOA, hou, hoc⟩ := at_z OAa.out.seen q hlq
          have HST := Lib.hid (inb_step o.seen z u q hou)
          subst hOA
          clear hou
          cases hib : inb o.seen z q with
          | true =>
            go_wp2_with fail
            go_roundw
            case rel => exact ⟨q + 1, by omega, by go_num, by rw [HST.out, hib]; rfl, (by first | trivial | rfl)⟩
            case measure => simp [intOf]; omega
          | false =>
            go_wp2_with fail
            go_roundw
            case rel => exact ⟨q + 1, by omega, by go_num, by rw [HST.out, hib]; rfl, (by first | trivial | rfl)⟩
            case measure => simp [intOf]; omega
        · have hib : inb o.seen z q = true := inb_end _ _ _ (by rw [LO.out]; omega) HZ.out
          rw [hib]
          go_wp2_with fail
          go_roundw
          case rel => exact ⟨j + 1, by omega, by go_num, (by first | trivial | rfl)⟩
          case measure => simp [intOf]; omega
    · skip
      obtain ⟨z1, z2⟩ := has.out.swap
      have w1_ := has.out.seen
      rw [e3, f3] at w1_
      have z3 : ¬ ((r3 : Int) < (q3 : Int)) := by omega
      have ka0 := Ka.out.cell 0 _ rfl
      have kd0 := Kd.out.cell 0 _ rfl
      have ka1 := Ka.out.cell 1 _ rfl
      have kd1 := Kd.out.cell 1 _ rfl
      go_wp2_with fail
      clear ka0 ka1 kd0 kd1
      rw [has.out.heap] at GRa
      refine (Heap.same_b g4 g4 _ _ _ _ _ _ _ true GRa.out GRc.out (by omega) (by omega) (decide_eq_true rfl)).mono ?_
      rintro e wv11 ⟨rfl, b_⟩
      replace Ka := Lib.hid (Ka.out.below b_)
      replace Kb := Lib.hid (Kb.out.below b_)
      replace Kd := Lib.hid (Kd.out.below b_)
      replace OAa := Lib.hid (OAa.out.below b_)
      replace OAb := Lib.hid (OAb.out.below b_)
      replace GRa := Lib.hid (GRa.out.below b_)
      replace GRc := Lib.hid (GRc.out.below b_)
      replace bb := Lib.hid (bl_trans bb.out b_)
      clear b_
      have ka0 := Ka.out.cell 0 _ rfl
      have ka3 := Ka.out.cell 3 _ rfl
      have ka4 := Ka.out.cell 4 _ rfl
      have kd0 := Kd.out.cell 0 _ rfl
      have kd3 := Kd.out.cell 3 _ rfl
      have kd4 := Kd.out.cell 4 _ rfl
      by_cases hk1 : o.kind = 1
      · have hp := has.out.one hk1
        have hlen : r2 = 1 + q2 := by rw [← e2, hp, List.length_cons, f2]; omega
        obtain ⟨pb, po, pz, hPA, hpz, hpc⟩ := at_z OAa.out.path 0 (by omega)
        rw [hp] at hpz
        obtain rfl : 2 = pz := by simpa using hpz
        subst hPA hlen
        simp only [Nat.add_zero] at hpc
        clear hpz
        have hq1 : (o.kind != 1) = false := by rw [hk1]; rfl
        have hq2 : (((1 + q2 : Nat) : Int) != (q2 : Int)) = true := by simp; omega
        have hq3 : (((1 + q2 : Nat) : Int) == 1 + (q2 : Int)) = true := by simp
        clear hk1 hp has
        go_wp2_with fail
        refine (awake_any HS.out _).mono ?_
        rintro e wv12 ⟨rfl, b_⟩
        replace Ka := Lib.hid (Ka.out.below b_)
        replace Kb := Lib.hid (Kb.out.below b_)
        replace Kd := Lib.hid (Kd.out.below b_)
        replace OAa := Lib.hid (OAa.out.below b_)
        replace OAb := Lib.hid (OAb.out.below b_)
        replace GRa := Lib.hid (GRa.out.below b_)
        replace GRc := Lib.hid (GRc.out.below b_)
        replace bb := Lib.hid (bl_trans bb.out b_)
        clear b_
        go_wp2
        go_ret
        exact ⟨rfl, bb.out⟩
      · obtain ⟨hp, hp2⟩ := has.out.none_ hk1
        have hl1 : r2 = 0 := by rw [← e2, hp]; rfl
        have hl2 : q2 = 0 := by rw [← f2, hp2]; rfl
        subst hl1 hl2
        have hq1 : (o.kind != 1) = true := by simp [hk1]
        clear hk1 hp hp2 has
        go_wp2_with fail
        refine (awake_any HS.out _).mono ?_
        rintro e wv13 ⟨rfl, b_⟩
        replace Ka := Lib.hid (Ka.out.below b_)
        replace Kb := Lib.hid (Kb.out.below b_)
        replace Kd := Lib.hid (Kd.out.below b_)
        replace OAa := Lib.hid (OAa.out.below b_)
        replace OAb := Lib.hid (OAb.out.below b_)
        replace GRa := Lib.hid (GRa.out.below b_)
        replace GRc := Lib.hid (GRc.out.below b_)
        replace bb := Lib.hid (bl_trans bb.out b_)
        clear b_
        go_wp2
        go_ret
        exact ⟨rfl, bb.out⟩
end Go.Proofs.Ytlmkhnjdifamgaa.Model
