/-
  THE WALK OF THE LAW ModelSeen.
-/
import Derived.Test.YtlmkhnjdifamgaaModelTail
import Derived.Test.YtlmkhnjdifamgaaModelSeenO
namespace Go.Proofs.Ytlmkhnjdifamgaa.Model
open Go.ChangeShapes Go.WideShapes Go.ChangeAt Go.RowKit Mem Go.Proofs.Ytlmkhnjdifamgaa.Code

set_option maxRecDepth 100000 in
set_option maxHeartbeats 20000000 in
theorem seen_walk (S : Said) (A HA VA : Option Addr) (n c hn hc vn vc : Nat) (l : List Raw) (h : List Heap.Cell) (vs : List Int) (w : World) (hnc : n ≤ c) (mn : n ≤ 9223372036854775807) (cm : c ≤ 9223372036854775807) (hat : At w A n l) (hmn : hn ≤ 9223372036854775807) (hh : Rd w 2 HA hn (Heap.cs h)) (hvm : vn ≤ 9223372036854775807) (hvr : Rd w 1 VA vn (is32 vs)) (hvb : ∀ x ∈ vs, -2147483648 ≤ x ∧ x ≤ 2147483647) :
    Calls Try.prog 3 #[.slice A n c, .slice HA hn hc, .slice VA vn vc] w (RetB w true) := by
  have HS := Lib.hid S
  clear S
  have HL := Lib.hid hat.len
  have HA0 := Lib.hid hat
  have HV0 := Lib.hid hvr
  have HVL := Lib.hid (is_len hvr)
  have HVB := Lib.hid hvb
  have HH0 := Lib.hid hh
  have HHL : Hid (h.length = hn) := Lib.hid (by have h1 := hh.1; rw [Heap.cs_len] at h1; omega)
  clear hat hvr hvb hh
  have bb : Hid (Below w.heap.size w w) := Lib.hid (Below.refl _ _)
  cases hs : smallB l with
  | false =>
    have HSM := Lib.hid (small_neg l hs)
    clear hs
    go_enter Try.func3, Try.ntmps3
    go_wp2_with fail
    refine (small_c l _ _ _ _ (-1) HA0.out mn HSM.out).mono ?_
    rintro e wv1 ⟨rfl, b_⟩
    replace HA0 := Lib.hid (HA0.out.below b_)
    replace HH0 := Lib.hid (HH0.out.below b_)
    replace HV0 := Lib.hid (HV0.out.below b_)
    replace bb := Lib.hid (bl_trans bb.out b_)
    clear b_
    go_wp2_with fail
    refine (awake_any HS.out _).mono ?_
    rintro e wv2 ⟨rfl, b_⟩
    replace HA0 := Lib.hid (HA0.out.below b_)
    replace HH0 := Lib.hid (HH0.out.below b_)
    replace HV0 := Lib.hid (HV0.out.below b_)
    replace bb := Lib.hid (bl_trans bb.out b_)
    clear b_
    go_wp2
    go_ret
    exact ⟨rfl, bb.out⟩
  | true =>
    obtain ⟨hlim, h40⟩ := small_lim l hs
    have HSM := Lib.hid (small_val l n HL.out hs)
    have HLM := Lib.hid hlim
    have hn40 : n ≤ 40 := by rw [← HL.out]; exact h40
    clear hs hlim h40
    by_cases h64 : hn ≤ 64
    case neg =>
      have h64' : (64 : Int) < (hn : Int) := by omega
      go_enter Try.func3, Try.ntmps3
      go_wp2_with fail
      refine (small_c l _ _ _ _ ((n : Int)) HA0.out mn HSM.out).mono ?_
      rintro e wv1 ⟨rfl, b_⟩
      replace HA0 := Lib.hid (HA0.out.below b_)
      replace HH0 := Lib.hid (HH0.out.below b_)
      replace HV0 := Lib.hid (HV0.out.below b_)
      replace bb := Lib.hid (bl_trans bb.out b_)
      clear b_
      go_wp2_with fail
      refine (awake_any HS.out _).mono ?_
      rintro e wv2 ⟨rfl, b_⟩
      replace HA0 := Lib.hid (HA0.out.below b_)
      replace HH0 := Lib.hid (HH0.out.below b_)
      replace HV0 := Lib.hid (HV0.out.below b_)
      replace bb := Lib.hid (bl_trans bb.out b_)
      clear b_
      go_wp2
      go_ret
      exact ⟨rfl, bb.out⟩
    have h64' : ¬ ((64 : Int) < (hn : Int)) := by omega
    by_cases hvn : hn ≤ vn
    case neg =>
      have hvn' : (vn : Int) < (hn : Int) := by omega
      go_enter Try.func3, Try.ntmps3
      go_wp2_with fail
      refine (small_c l _ _ _ _ ((n : Int)) HA0.out mn HSM.out).mono ?_
      rintro e wv1 ⟨rfl, b_⟩
      replace HA0 := Lib.hid (HA0.out.below b_)
      replace HH0 := Lib.hid (HH0.out.below b_)
      replace HV0 := Lib.hid (HV0.out.below b_)
      replace bb := Lib.hid (bl_trans bb.out b_)
      clear b_
      go_wp2_with fail
      refine (awake_any HS.out _).mono ?_
      rintro e wv2 ⟨rfl, b_⟩
      replace HA0 := Lib.hid (HA0.out.below b_)
      replace HH0 := Lib.hid (HH0.out.below b_)
      replace HV0 := Lib.hid (HV0.out.below b_)
      replace bb := Lib.hid (bl_trans bb.out b_)
      clear b_
      go_wp2
      go_ret
      exact ⟨rfl, bb.out⟩
    have hvn' : ¬ ((vn : Int) < (hn : Int)) := by omega
    obtain ⟨o, g, ok, r1, r2, r3, r4, gn, hrun, e1, e2, e3, e4, e5, l1, l2, l3, l4, l5⟩ := run_names (ss l) h
    have hok : okR (ss l) h = ok := by rw [← run_flag, hrun]
    rw [HHL.out] at l5
    rw [l5] at e5
    clear l5
    cases ok with
    | false =>
      have HRA := Lib.hid hrun
      clear hrun hok
      go_enter Try.func3, Try.ntmps3
      go_wp2_with fail
      refine (small_c l _ _ _ _ ((n : Int)) HA0.out mn HSM.out).mono ?_
      rintro e wv1 ⟨rfl, b_⟩
      replace HA0 := Lib.hid (HA0.out.below b_)
      replace HH0 := Lib.hid (HH0.out.below b_)
      replace HV0 := Lib.hid (HV0.out.below b_)
      replace bb := Lib.hid (bl_trans bb.out b_)
      clear b_
      go_wp2_with fail
      refine (HS.out.run l h _ _ n c hn hc _ _ _ _ r1 r2 r3 r4 hn 1 HA0.out hnc cm HLM.out (by omega) HH0.out (by omega) HRA.out e1 e2 e3 e4 e5 rfl).mono ?_
      rintro e wv2 ⟨Aa1, ca1, Aa2, ca2, Aa3, ca3, Aa4, ca4, Ga, gca, rfl, ho, hg, b_⟩
      replace HA0 := Lib.hid (HA0.out.below b_)
      replace HH0 := Lib.hid (HH0.out.below b_)
      replace HV0 := Lib.hid (HV0.out.below b_)
      replace bb := Lib.hid (bl_trans bb.out b_)
      have OAa := Lib.hid ho
      have GRa := Lib.hid hg
      clear b_ ho hg
      have Ba : Hid (w.heap.size ≤ wv2.heap.size) := Lib.hid bb.out.size
      obtain ⟨wv3, hwv3⟩ : ∃ W, W = wv2.alloc (.cells #[.int .i64 o.kind, .int .i64 o.why, .slice Aa1 r1 ca1, .slice Aa2 r2 ca2, .slice Aa3 r3 ca3, .slice Aa4 r4 ca4] 30) := ⟨_, rfl⟩
      have b_ : Below wv2.heap.size wv2 wv3 := by rw [hwv3]; exact bl_alloc (Below.refl _ _) _
      replace HA0 := Lib.hid (HA0.out.below b_)
      replace HH0 := Lib.hid (HH0.out.below b_)
      replace HV0 := Lib.hid (HV0.out.below b_)
      replace OAa := Lib.hid (OAa.out.below b_)
      replace GRa := Lib.hid (GRa.out.below b_)
      replace bb := Lib.hid (bl_trans bb.out b_)
      clear b_
      have Ka : Hid (Blk wv3 wv2.heap.size 30 #[.int .i64 o.kind, .int .i64 o.why, .slice Aa1 r1 ca1, .slice Aa2 r2 ca2, .slice Aa3 r3 ca3, .slice Aa4 r4 ca4]) := Lib.hid (by rw [hwv3]; exact Blk.new _ _ _)
      go_wp2_with fail
      rw [← hwv3]
      clear hwv3
      refine (awake_any HS.out _).mono ?_
      rintro e wv4 ⟨rfl, b_⟩
      replace HA0 := Lib.hid (HA0.out.below b_)
      replace HH0 := Lib.hid (HH0.out.below b_)
      replace HV0 := Lib.hid (HV0.out.below b_)
      replace OAa := Lib.hid (OAa.out.below b_)
      replace GRa := Lib.hid (GRa.out.below b_)
      replace Ka := Lib.hid (Ka.out.below b_)
      replace bb := Lib.hid (bl_trans bb.out b_)
      clear b_
      go_wp2
      go_ret
      exact ⟨rfl, bb.out⟩
    | true =>
      obtain ⟨hin, hokg, hsame⟩ := seen_facts (ss l) h vs hok HVB.out (by rw [HHL.out, HVL.out]; exact hvn)
      have hpos : 0 < hn := by have := (Heap.right_len h (ok_parts hok).2.2.2.2.2).1; rw [HHL.out] at this; exact this
      rw [hrun, HHL.out] at hin hokg hsame
      simp only at hin hokg hsame
      obtain ⟨o2, g4, ok2, t1, t2, t3, t4, gn4, hry, f1, f2, f3, f4, f5, k1, k2, k3, k4, k5⟩ := run_names (ss l) (back h (mix h vs hn) o.seen)
      have hok2 : okR (ss l) (back h (mix h vs hn) o.seen) = ok2 := by rw [← run_flag, hry]
      rw [hokg] at hok2
      subst hok2
      rw [hry] at hsame
      simp only at hsame
      subst hsame
      have HGL : Hid ((back h (mix h vs hn) o2.seen).length = hn) := Lib.hid (by rw [back_len, mix_len, HHL.out])
      rw [HGL.out] at k5
      rw [k5] at f5
      have HRA := Lib.hid hrun
      have HRY := Lib.hid hry
      have HIN := Lib.hid hin
      clear hrun hry hin hok hokg f1 f2 f3 f4 k1 k2 k3 k4 k5
      go_enter Try.func3, Try.ntmps3
      go_wp2_with fail
      refine (small_c l _ _ _ _ ((n : Int)) HA0.out mn HSM.out).mono ?_
      rintro e wv1 ⟨rfl, b_⟩
      replace HA0 := Lib.hid (HA0.out.below b_)
      replace HH0 := Lib.hid (HH0.out.below b_)
      replace HV0 := Lib.hid (HV0.out.below b_)
      replace bb := Lib.hid (bl_trans bb.out b_)
      clear b_
      go_wp2_with fail
      refine (HS.out.run l h _ _ n c hn hc _ _ _ _ r1 r2 r3 r4 hn 0 HA0.out hnc cm HLM.out (by omega) HH0.out (by omega) HRA.out e1 e2 e3 e4 e5 rfl).mono ?_
      rintro e wv2 ⟨Aa1, ca1, Aa2, ca2, Aa3, ca3, Aa4, ca4, Ga, gca, rfl, ho, hg, b_⟩
      replace HA0 := Lib.hid (HA0.out.below b_)
      replace HH0 := Lib.hid (HH0.out.below b_)
      replace HV0 := Lib.hid (HV0.out.below b_)
      replace bb := Lib.hid (bl_trans bb.out b_)
      have OAa := Lib.hid ho
      have GRa := Lib.hid hg
      clear b_ ho hg
      have Ba : Hid (w.heap.size ≤ wv2.heap.size) := Lib.hid bb.out.size
      obtain ⟨wv3, hwv3⟩ : ∃ W, W = wv2.alloc (.cells #[.int .i64 o2.kind, .int .i64 o2.why, .slice Aa1 r1 ca1, .slice Aa2 r2 ca2, .slice Aa3 r3 ca3, .slice Aa4 r4 ca4] 30) := ⟨_, rfl⟩
      have b_ : Below wv2.heap.size wv2 wv3 := by rw [hwv3]; exact bl_alloc (Below.refl _ _) _
      replace HA0 := Lib.hid (HA0.out.below b_)
      replace HH0 := Lib.hid (HH0.out.below b_)
      replace HV0 := Lib.hid (HV0.out.below b_)
      replace OAa := Lib.hid (OAa.out.below b_)
      replace GRa := Lib.hid (GRa.out.below b_)
      replace bb := Lib.hid (bl_trans bb.out b_)
      clear b_
      have Ka : Hid (Blk wv3 wv2.heap.size 30 #[.int .i64 o2.kind, .int .i64 o2.why, .slice Aa1 r1 ca1, .slice Aa2 r2 ca2, .slice Aa3 r3 ca3, .slice Aa4 r4 ca4]) := Lib.hid (by rw [hwv3]; exact Blk.new _ _ _)
      have hWW := hwv3
      clear hWW
      have hsz : wv3.heap.size = wv2.heap.size + 1 := by rw [hwv3]; simp
      have HOW : Hid (Own wv3 (wv3.alloc (.cells #[] 35)) 35 2 (.slice (some ⟨wv2.heap.size + 1, 0, none⟩) 0 0) 0 []) := Lib.hid (by rw [← hsz]; exact Own.empty _ _ _)
      go_wp2_with (at_builtin; rw [← hwv3]; refine append_rd rfl _ _ 23 rfl Heap.tCell wv3 _ 0 [] rfl HOW.out HA hn hc (Heap.cs h) rfl (HH0.out.alloc _) (Heap.cs_one h) (by omega) (by omega) ?_; intro v1 p1 ho hg'; clear hg'; have HO := Lib.hid (own_zero ho); clear ho HOW hsz; obtain ⟨gb, gcap, rfl⟩ := own_lay HO.out hpos)
      clear hwv3
      go_loopw [48] (fun i wr => ∃ j : Nat, j ≤ hn ∧ i = .int .i64 j ∧ Own wv3 wr 35 2 (.slice (some ⟨gb, 0, none⟩) hn gcap) hn (Heap.cs (mix h vs j))) (fun i _ => hn - (intOf i).toNat)
      case atStart => exact ⟨0, Nat.zero_le _, rfl, HO.out⟩
      case round =>
        obtain ⟨j, hj, rfl, hown⟩ := hrel
        have HJ := Lib.hid hown
        clear hown HO
        by_cases hlt : j < hn
        · obtain ⟨hb, hoff, xc, hHA, hxc, -, -⟩ := Heap.at_cell HH0.out j hlt
          clear hHA
          obtain ⟨c0, c1, z0, z1⟩ := own_cell HJ.out j xc (by rw [mix_at]; exact hxc)
          cases hxl : xc.live with
          | false =>
            have HN := Lib.hid (mix_no h vs j xc hxc hxl)
            rw [hxl] at c0
            clear hxc hxl z0 z1 c1
            go_wp2_with fail
            go_roundw
            case rel => exact ⟨j + 1, by omega, by go_num, by rw [HN.out]; exact HJ.out⟩
            case measure => simp [intOf]; omega
          | true =>
            obtain ⟨vb, vo, xv, hVA, hxv, v0⟩ := at_i (HV0.out.below HJ.out.2) j (by omega)
            obtain ⟨hv1, hv2⟩ := HVB.out xv (List.mem_of_getElem? hxv)
            have HY := Lib.hid (mix_own HJ.out xc xv hxc hxv hxl)
            rw [hxl] at c0
            subst hVA
            clear hxc hxl hxv z0
            go_wp2_with fail
            go_roundw
            case rel => exact ⟨j + 1, by omega, by go_num, HY.out⟩
            case measure => simp [intOf]; omega
        · have hjn : j = hn := by omega
          rw [hjn] at HJ
          clear hjn
          generalize wr = wy at *
          have kk4 := (Ka.out.below HJ.out.2).cell 4 _ rfl
          go_wp2_with fail
          clear kk4
          go_loopw [69] (fun i wr => ∃ q : Nat, q ≤ r3 ∧ i = .int .i64 q ∧ Own wv3 wr 35 2 (.slice (some ⟨gb, 0, none⟩) hn gcap) hn (Heap.cs (back h (mix h vs hn) (o2.seen.take q)))) (fun i _ => r3 - (intOf i).toNat)
          case atStart => exact ⟨0, Nat.zero_le _, rfl, HJ.out⟩
          case round =>
            obtain ⟨q, hq, rfl, hown⟩ := hrel
            have HQ := Lib.hid hown
            clear hown HJ
            by_cases hlt : q < r3
            · obtain ⟨sb, so, sz, hSA, hsz, s0_⟩ := at_z (OAa.out.seen.below HQ.out.2) q hlt
              obtain ⟨hz0, hz1⟩ := HIN.out sz (List.mem_of_getElem? hsz)
              obtain ⟨k, rfl⟩ := Int.eq_ofNat_of_zero_le hz0
              have hkn : k < hn := by omega
              obtain ⟨hb, hoff, xc, hHA, hxc, c0, c1⟩ := Heap.at_cell (HH0.out.below HQ.out.2) k hkn
              have hG : ∃ y, (back h (mix h vs hn) (o2.seen.take q))[k]? = some y := ⟨_, List.getElem?_eq_getElem (by rw [back_len, mix_len, HHL.out]; exact hkn)⟩
              obtain ⟨yc, hyc⟩ := hG
              obtain ⟨y0, y1, z0, z1⟩ := own_cell HQ.out k yc hyc
              have HY := Lib.hid (back_own HQ.out xc hsz hxc)
              have hk1 : ¬ ((k : Int) < 0) := by omega
              have hk2 : ¬ ((hn : Int) ≤ (k : Int)) := by omega
              subst hSA hHA
              clear hsz hz0 hz1 hxc hyc
              go_wp2_with fail
              go_roundw
              case rel => exact ⟨q + 1, by omega, by go_num, HY.out⟩
              case measure => simp [intOf]; omega
            · have hqr : o2.seen.take q = o2.seen := List.take_of_length_le (by omega)
              rw [hqr] at HQ
              clear hqr
              generalize wr = wz at *
              replace HA0 := Lib.hid (HA0.out.below HQ.out.2)
              replace HH0 := Lib.hid (HH0.out.below HQ.out.2)
              replace HV0 := Lib.hid (HV0.out.below HQ.out.2)
              replace OAa := Lib.hid (OAa.out.below HQ.out.2)
              replace GRa := Lib.hid (GRa.out.below HQ.out.2)
              replace Ka := Lib.hid (Ka.out.below HQ.out.2)
              replace bb := Lib.hid (bl_trans bb.out HQ.out.2)
              have HGR := Lib.hid (own_rd HQ.out)
              clear HQ
              go_wp2_with fail
              refine (HS.out.run l (back h (mix h vs hn) o2.seen) _ _ n c hn gcap _ _ _ _ r1 r2 r3 r4 hn 0 HA0.out hnc cm HLM.out (by omega) HGR.out (by omega) HRY.out e1 e2 e3 e4 f5 rfl).mono ?_
              rintro e wv4 ⟨Ab1, cb1, Ab2, cb2, Ab3, cb3, Ab4, cb4, Gb, gcb, rfl, ho, hg, b_⟩
              replace HA0 := Lib.hid (HA0.out.below b_)
              replace HH0 := Lib.hid (HH0.out.below b_)
              replace HV0 := Lib.hid (HV0.out.below b_)
              replace OAa := Lib.hid (OAa.out.below b_)
              replace GRa := Lib.hid (GRa.out.below b_)
              replace Ka := Lib.hid (Ka.out.below b_)
              replace HGR := Lib.hid (HGR.out.below b_)
              replace bb := Lib.hid (bl_trans bb.out b_)
              have OAb := Lib.hid ho
              have GRb := Lib.hid hg
              clear b_ ho hg
              clear HA0 HH0 HV0 HGR
              have Bb : Hid (w.heap.size ≤ wv4.heap.size) := Lib.hid bb.out.size
              obtain ⟨wv5, hwv5⟩ : ∃ W, W = wv4.alloc (.cells #[.int .i64 o2.kind, .int .i64 o2.why, .slice Ab1 r1 cb1, .slice Ab2 r2 cb2, .slice Ab3 r3 cb3, .slice Ab4 r4 cb4] 30) := ⟨_, rfl⟩
              have b_ : Below wv4.heap.size wv4 wv5 := by rw [hwv5]; exact bl_alloc (Below.refl _ _) _
              replace OAa := Lib.hid (OAa.out.below b_)
              replace GRa := Lib.hid (GRa.out.below b_)
              replace Ka := Lib.hid (Ka.out.below b_)
              replace OAb := Lib.hid (OAb.out.below b_)
              replace GRb := Lib.hid (GRb.out.below b_)
              replace bb := Lib.hid (bl_trans bb.out b_)
              clear b_
              have Kb : Hid (Blk wv5 wv4.heap.size 30 #[.int .i64 o2.kind, .int .i64 o2.why, .slice Ab1 r1 cb1, .slice Ab2 r2 cb2, .slice Ab3 r3 cb3, .slice Ab4 r4 cb4]) := Lib.hid (by rw [hwv5]; exact Blk.new _ _ _)
              have KEEP : Hid (∀ W, Below wv5.heap.size wv5 W → W.cell? ⟨wv2.heap.size, 0, none⟩ = some (.int .i64 o2.kind) ∧ W.cell? ⟨wv2.heap.size, 1, none⟩ = some (.int .i64 o2.why) ∧ W.cell? ⟨wv2.heap.size, 2, none⟩ = some (.slice Aa1 r1 ca1) ∧ W.cell? ⟨wv2.heap.size, 3, none⟩ = some (.slice Aa2 r2 ca2) ∧ W.cell? ⟨wv2.heap.size, 4, none⟩ = some (.slice Aa3 r3 ca3) ∧ W.cell? ⟨wv2.heap.size, 5, none⟩ = some (.slice Aa4 r4 ca4) ∧ W.cell? ⟨wv4.heap.size, 0, none⟩ = some (.int .i64 o2.kind) ∧ W.cell? ⟨wv4.heap.size, 1, none⟩ = some (.int .i64 o2.why) ∧ W.cell? ⟨wv4.heap.size, 2, none⟩ = some (.slice Ab1 r1 cb1) ∧ W.cell? ⟨wv4.heap.size, 3, none⟩ = some (.slice Ab2 r2 cb2) ∧ W.cell? ⟨wv4.heap.size, 4, none⟩ = some (.slice Ab3 r3 cb3) ∧ W.cell? ⟨wv4.heap.size, 5, none⟩ = some (.slice Ab4 r4 cb4)) := Lib.hid (fun W h => ⟨(Ka.out.below h).cell 0 _ rfl, (Ka.out.below h).cell 1 _ rfl, (Ka.out.below h).cell 2 _ rfl, (Ka.out.below h).cell 3 _ rfl, (Ka.out.below h).cell 4 _ rfl, (Ka.out.below h).cell 5 _ rfl, (Kb.out.below h).cell 0 _ rfl, (Kb.out.below h).cell 1 _ rfl, (Kb.out.below h).cell 2 _ rfl, (Kb.out.below h).cell 3 _ rfl, (Kb.out.below h).cell 4 _ rfl, (Kb.out.below h).cell 5 _ rfl⟩)
              have bq : Hid (Below wv5.heap.size wv5 wv5.drew) := Lib.hid (Below.refl _ _).drew
              go_wp2_with fail
              rw [← hwv5]
              clear hwv5
              try simp only [List.append_eq, List.cons_append, List.nil_append]
              refine wp_region_held_drew (S := fun (W : World) => W.cell? ⟨wv2.heap.size, 0, none⟩ = some (.int .i64 o2.kind) ∧ W.cell? ⟨wv2.heap.size, 1, none⟩ = some (.int .i64 o2.why) ∧ W.cell? ⟨wv2.heap.size, 2, none⟩ = some (.slice Aa1 r1 ca1) ∧ W.cell? ⟨wv2.heap.size, 3, none⟩ = some (.slice Aa2 r2 ca2) ∧ W.cell? ⟨wv2.heap.size, 4, none⟩ = some (.slice Aa3 r3 ca3) ∧ W.cell? ⟨wv2.heap.size, 5, none⟩ = some (.slice Aa4 r4 ca4) ∧ W.cell? ⟨wv4.heap.size, 0, none⟩ = some (.int .i64 o2.kind) ∧ W.cell? ⟨wv4.heap.size, 1, none⟩ = some (.int .i64 o2.why) ∧ W.cell? ⟨wv4.heap.size, 2, none⟩ = some (.slice Ab1 r1 cb1) ∧ W.cell? ⟨wv4.heap.size, 3, none⟩ = some (.slice Ab2 r2 cb2) ∧ W.cell? ⟨wv4.heap.size, 4, none⟩ = some (.slice Ab3 r3 cb3) ∧ W.cell? ⟨wv4.heap.size, 5, none⟩ = some (.slice Ab4 r4 cb4)) (by kernel_rfl) (KEEP.out _ bq.out) (fun hHeld0 => ?_)
              refine wpAnyH_take (i := 0) (v := .int .i64 0) rfl (by kernel_rfl) (by kernel_rfl) (by kernel_rfl) (fun _ _ _ h => h) (Or.inl ⟨by kernel_rfl, fun W hS => by go_simp⟩) hHeld0 ?_
              try simp only [Act.put]
              try simp only [List.setIfInBounds_toArray]
              try simp only [List.set_cons_succ]
              try simp only [List.set_cons_zero]
              refine wpAnyH_take (i := 1) (v := .bool true) rfl (by kernel_rfl) (by kernel_rfl) (by kernel_rfl) (fun _ _ _ h => h) (Or.inl ⟨by kernel_rfl, fun W hS => by go_simp⟩) hHeld0 ?_
              try simp only [Act.put]
              try simp only [List.setIfInBounds_toArray]
              try simp only [List.set_cons_succ]
              try simp only [List.set_cons_zero]
              refine wpAnyH_take (i := 2) (v := .bool true) rfl (by kernel_rfl) (by kernel_rfl) (by kernel_rfl) (fun _ _ _ h => h) (Or.inl ⟨by kernel_rfl, fun W hS => by go_simp⟩) hHeld0 ?_
              try simp only [Act.put]
              try simp only [List.setIfInBounds_toArray]
              try simp only [List.set_cons_succ]
              try simp only [List.set_cons_zero]
              refine wpAnyH_take (i := 3) (v := .agg #[.int .i64 o2.kind, .int .i64 o2.why, .slice Aa1 r1 ca1, .slice Aa2 r2 ca2, .slice Aa3 r3 ca3, .slice Aa4 r4 ca4]) rfl (by kernel_rfl) (by kernel_rfl) (by kernel_rfl) (fun _ _ _ h => h) (Or.inl ⟨by kernel_rfl, fun W hS => by obtain ⟨k_0, k_1, k_2, k_3, k_4, k_5, k_6, k_7, k_8, k_9, k_10, k_11⟩ := hS; go_simp⟩) hHeld0 ?_
              try simp only [Act.put]
              try simp only [List.setIfInBounds_toArray]
              try simp only [List.set_cons_succ]
              try simp only [List.set_cons_zero]
              refine wpAnyH_take (i := 5) (v := .agg #[.int .i64 o2.kind, .int .i64 o2.why, .slice Ab1 r1 cb1, .slice Ab2 r2 cb2, .slice Ab3 r3 cb3, .slice Ab4 r4 cb4]) rfl (by kernel_rfl) (by kernel_rfl) (by kernel_rfl) (fun _ _ _ h => h) (Or.inl ⟨by kernel_rfl, fun W hS => by obtain ⟨k_0, k_1, k_2, k_3, k_4, k_5, k_6, k_7, k_8, k_9, k_10, k_11⟩ := hS; go_simp⟩) hHeld0 ?_
              try simp only [Act.put]
              try simp only [List.setIfInBounds_toArray]
              try simp only [List.set_cons_succ]
              try simp only [List.set_cons_zero]
              refine wpAnyH_ready (rs := [4]) (by kernel_rfl) (by simp) ?_
              refine AllReadyH.cons rfl (fun KK0 hK => ?_) AllReadyH.nil
              rw [if_pos (by kernel_rfl)]
              refine calls_wp 12 #[.agg #[.int .i64 o2.kind, .int .i64 o2.why, .slice Aa1 r1 ca1, .slice Aa2 r2 ca2, .slice Aa3 r3 ca3, .slice Aa4 r4 ca4]] _ (ref_m _ _ _ _ _ _ _ _ _ _ _ _ _ _ _) (run_call _ _ _ rfl rfl Try.func12 (by kernel_rfl) (by kernel_rfl) _ (by kernel_rfl)) ?_
              rintro e wq ⟨rfl, b_⟩
              refine ⟨_, rfl, ?_⟩
              replace bq := Lib.hid (bl_trans bq.out b_)
              clear b_
              refine hK.out _ _ (KEEP.out _ bq.out) (fun hHeld1 => ?_)
              clear hHeld0 hK KK0
              try simp only [Act.put]
              try simp only [List.setIfInBounds_toArray]
              try simp only [List.set_cons_succ]
              try simp only [List.set_cons_zero]
              refine wpAnyH_ready (rs := [6]) (by kernel_rfl) (by simp) ?_
              refine AllReadyH.cons rfl (fun KK0 hK => ?_) AllReadyH.nil
              rw [if_pos (by kernel_rfl)]
              refine calls_wp 12 #[.agg #[.int .i64 o2.kind, .int .i64 o2.why, .slice Ab1 r1 cb1, .slice Ab2 r2 cb2, .slice Ab3 r3 cb3, .slice Ab4 r4 cb4]] _ (ref_m _ _ _ _ _ _ _ _ _ _ _ _ _ _ _) (run_call _ _ _ rfl rfl Try.func12 (by kernel_rfl) (by kernel_rfl) _ (by kernel_rfl)) ?_
              rintro e wq ⟨rfl, b_⟩
              refine ⟨_, rfl, ?_⟩
              replace bq := Lib.hid (bl_trans bq.out b_)
              clear b_
              refine hK.out _ _ (KEEP.out _ bq.out) (fun hHeld2 => ?_)
              clear hHeld1 hK KK0
              try simp only [Act.put]
              try simp only [List.setIfInBounds_toArray]
              try simp only [List.set_cons_succ]
              try simp only [List.set_cons_zero]
              refine wpAnyH_ready (rs := [7]) (by kernel_rfl) (by simp) ?_
              refine AllReadyH.cons rfl (fun KK0 hK => ?_) AllReadyH.nil
              rw [if_pos (by kernel_rfl)]
              refine calls_wp 11 #[.agg #[.int .i64 o2.kind, .int .i64 o2.why, .slice Aa1 r1 ca1, .slice Aa2 r2 ca2, .slice Aa3 r3 ca3, .slice Aa4 r4 ca4], .agg #[.int .i64 o2.kind, .int .i64 o2.why, .slice Ab1 r1 cb1, .slice Ab2 r2 cb2, .slice Ab3 r3 cb3, .slice Ab4 r4 cb4]] _ (same_r o2 _ _ _ _ _ _ _ _ r1 r2 r3 r4 _ _ _ _ _ _ _ _ _ (OAa.out.below bq.out) (OAb.out.below bq.out) (by omega) (by omega) (by omega) (by omega)) (run_call _ _ _ rfl rfl Try.func11 (by kernel_rfl) (by kernel_rfl) _ (by kernel_rfl)) ?_
              rintro e wq ⟨rfl, b_⟩
              refine ⟨_, rfl, ?_⟩
              replace bq := Lib.hid (bl_trans bq.out b_)
              clear b_
              refine hK.out _ _ (KEEP.out _ bq.out) (fun hHeld3 => ?_)
              clear hHeld2 hK KK0
              try simp only [Act.put]
              try simp only [List.setIfInBounds_toArray]
              try simp only [List.set_cons_succ]
              try simp only [List.set_cons_zero]
              refine wpAnyH_take (i := 8) (v := .bool true) rfl (by kernel_rfl) (by kernel_rfl) (by kernel_rfl) (fun _ _ _ h => h) (Or.inl ⟨by kernel_rfl, fun W hS => by go_simp⟩) hHeld3 ?_
              try simp only [Act.put]
              try simp only [List.setIfInBounds_toArray]
              try simp only [List.set_cons_succ]
              try simp only [List.set_cons_zero]
              refine wpAnyH_take (i := 9) (v := .bool true) rfl (by kernel_rfl) (by kernel_rfl) (by kernel_rfl) (fun _ _ _ h => h) (Or.inl ⟨by kernel_rfl, fun W hS => by go_simp⟩) hHeld3 ?_
              try simp only [Act.put]
              try simp only [List.setIfInBounds_toArray]
              try simp only [List.set_cons_succ]
              try simp only [List.set_cons_zero]
              refine wpAnyH_ready (rs := [10]) (by kernel_rfl) (by simp) ?_
              refine AllReadyH.cons rfl (fun KK0 hK => ?_) AllReadyH.nil
              rw [if_pos (by kernel_rfl)]
              refine calls_wp 9 #[] _ (awake_any HS.out _) (run_call _ _ _ rfl rfl Try.func9 (by kernel_rfl) (by kernel_rfl) _ (by kernel_rfl)) ?_
              rintro e wq ⟨rfl, b_⟩
              refine ⟨_, rfl, ?_⟩
              replace bq := Lib.hid (bl_trans bq.out b_)
              clear b_
              refine hK.out _ _ (KEEP.out _ bq.out) (fun hHeld4 => ?_)
              clear hHeld3 hK KK0
              try simp only [Act.put]
              try simp only [List.setIfInBounds_toArray]
              try simp only [List.set_cons_succ]
              try simp only [List.set_cons_zero]
              refine wpAnyH_take (i := 11) (v := .bool true) rfl (by kernel_rfl) (by kernel_rfl) (by kernel_rfl) (fun _ _ _ h => h) (Or.inl ⟨by kernel_rfl, fun W hS => by go_simp⟩) hHeld4 ?_
              try simp only [Act.put]
              try simp only [List.setIfInBounds_toArray]
              try simp only [List.set_cons_succ]
              try simp only [List.set_cons_zero]
              refine wpAnyH_ready (rs := [12]) (by kernel_rfl) (by simp) ?_
              refine AllReadyH.cons rfl (fun KK0 hK => ?_) AllReadyH.nil
              go_simp
              refine hK.out _ _ (KEEP.out _ bq.out) (fun hHeld5 => ?_)
              clear hHeld4 hK KK0
              try simp only [Act.put]
              try simp only [List.setIfInBounds_toArray]
              try simp only [List.set_cons_succ]
              try simp only [List.set_cons_zero]
              refine wpAnyH_done (by kernel_rfl) ?_ _
              replace bb := Lib.hid (bl_trans bb.out bq.out)
              go_wp2
              go_ret
              exact ⟨rfl, bb.out⟩
end Go.Proofs.Ytlmkhnjdifamgaa.Model
