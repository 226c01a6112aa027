/-
  THE WALK OF THE LAW ModelTells.
-/
import Derived.Test.YtbeeojccadeboaaGreatModelTail
import Derived.Test.YtbeeojccadeboaaGreatModelRRun
namespace Go.Proofs.YtbeeojccadeboaaGreat.Model
open Go.ChangeShapes Go.WideShapes Go.ChangeAt Go.RowKit Mem Go.Proofs.YtbeeojccadeboaaGreat.Code

set_option maxRecDepth 100000 in
set_option maxHeartbeats 4000000 in
theorem tells_walk (S : Said) (A HA : Option Addr) (n c hn hc : Nat) (l : List Raw) (h : List Heap.Cell) (w : World) (hnc : n ≤ c) (mn : n ≤ 9223372036854775807) (cm : c ≤ 9223372036854775807) (hat : At w A n l) (hmn : hn ≤ 9223372036854775807) (hh : Rd w 2 HA hn (Heap.cs h)) :
    Calls Tryz.prog 3 #[.slice A n c, .slice HA hn hc] w (RetB w true) := by
  have HS := Lib.hid S
  clear S
  have HL := Lib.hid hat.len
  have HA0 := Lib.hid hat
  have HH0 := Lib.hid hh
  have HHL : Hid (h.length = hn) := Lib.hid (by have h1 := hh.1; rw [Heap.cs_len] at h1; omega)
  clear hat hh
  have bb : Hid (Below w.heap.size w w) := Lib.hid (Below.refl _ _)
  cases hs : smallB l with
  | false =>
    have HSM := Lib.hid (small_neg l hs)
    clear hs
    go_enter Tryz.func3, Tryz.ntmps3
    go_wp2_with fail
    refine (small_c l _ _ _ _ (-1) HA0.out mn HSM.out).mono ?_
    rintro e wv1 ⟨rfl, b_⟩
    replace HA0 := Lib.hid (HA0.out.below b_)
    replace HH0 := Lib.hid (HH0.out.below b_)
    replace bb := Lib.hid (bl_trans bb.out b_)
    clear b_
    go_wp2_with fail
    refine (awake_any HS.out _).mono ?_
    rintro e wv2 ⟨rfl, b_⟩
    replace HA0 := Lib.hid (HA0.out.below b_)
    replace HH0 := Lib.hid (HH0.out.below b_)
    replace bb := Lib.hid (bl_trans bb.out b_)
    clear b_
    go_wp2
    go_ret
    exact ⟨rfl, bb.out⟩
  | true =>
    obtain ⟨hlim, h40⟩ := small_lim l hs
    have HSM := Lib.hid (small_val l n HL.out hs)
    have HLM := Lib.hid hlim
    have hn40 : n ≤ 40 := by rw [← HL.out]; exact h40
    clear hs hlim h40
    by_cases h64 : hn ≤ 100
    case neg =>
      have h64' : (100 : Int) < (hn : Int) := by omega
      go_enter Tryz.func3, Tryz.ntmps3
      go_wp2_with fail
      refine (small_c l _ _ _ _ ((n : Int)) HA0.out mn HSM.out).mono ?_
      rintro e wv1 ⟨rfl, b_⟩
      replace HA0 := Lib.hid (HA0.out.below b_)
      replace HH0 := Lib.hid (HH0.out.below b_)
      replace bb := Lib.hid (bl_trans bb.out b_)
      clear b_
      go_wp2_with fail
      refine (awake_any HS.out _).mono ?_
      rintro e wv2 ⟨rfl, b_⟩
      replace HA0 := Lib.hid (HA0.out.below b_)
      replace HH0 := Lib.hid (HH0.out.below b_)
      replace bb := Lib.hid (bl_trans bb.out b_)
      clear b_
      go_wp2
      go_ret
      exact ⟨rfl, bb.out⟩
    have h64' : ¬ ((100 : Int) < (hn : Int)) := by omega
    obtain ⟨o, g, ok, r1, r2, r3, r4, gn, hrun, e1, e2, e3, e4, e5, l1, l2, l3, l4, l5⟩ := run_names (ss l) h
    rw [HHL.out] at l5
    cases ok with
    | false =>
      have HRA := Lib.hid hrun
      clear hrun
      go_enter Tryz.func3, Tryz.ntmps3
      go_wp2_with fail
      refine (small_c l _ _ _ _ (n : Int) HA0.out mn HSM.out).mono ?_
      rintro e wv1 ⟨rfl, b_⟩
      replace HA0 := Lib.hid (HA0.out.below b_)
      replace HH0 := Lib.hid (HH0.out.below b_)
      replace bb := Lib.hid (bl_trans bb.out b_)
      clear b_
      go_wp2_with fail
      refine (HS.out.run l h _ _ n c hn hc _ _ _ _ r1 r2 r3 r4 gn 1 HA0.out hnc cm HLM.out (by omega) HH0.out (by omega) HRA.out e1 e2 e3 e4 e5 rfl).mono ?_
      rintro e wv2 ⟨Aa1, ca1, Aa2, ca2, Aa3, ca3, Aa4, ca4, Ga, gca, rfl, ho, hg, b_⟩
      replace HA0 := Lib.hid (HA0.out.below b_)
      replace HH0 := Lib.hid (HH0.out.below b_)
      replace bb := Lib.hid (bl_trans bb.out b_)
      have OAa := Lib.hid ho
      have GRa := Lib.hid hg
      clear b_ ho hg
      have Ba : Hid (w.heap.size ≤ wv2.heap.size) := Lib.hid bb.out.size
      obtain ⟨wv3, hwv3⟩ : ∃ W, W = wv2.alloc (.cells #[.int .i64 o.kind, .int .i64 o.why, .slice Aa1 r1 ca1, .slice Aa2 r2 ca2, .slice Aa3 r3 ca3, .slice Aa4 r4 ca4] 29) := ⟨_, rfl⟩
      have b_ : Below wv2.heap.size wv2 wv3 := by rw [hwv3]; exact bl_alloc (Below.refl _ _) _
      replace HA0 := Lib.hid (HA0.out.below b_)
      replace HH0 := Lib.hid (HH0.out.below b_)
      replace OAa := Lib.hid (OAa.out.below b_)
      replace GRa := Lib.hid (GRa.out.below b_)
      replace bb := Lib.hid (bl_trans bb.out b_)
      clear b_
      have Ka : Hid (Blk wv3 wv2.heap.size 29 #[.int .i64 o.kind, .int .i64 o.why, .slice Aa1 r1 ca1, .slice Aa2 r2 ca2, .slice Aa3 r3 ca3, .slice Aa4 r4 ca4]) := Lib.hid (by rw [hwv3]; exact Blk.new _ _ _)
      go_wp2_with fail
      rw [← hwv3]
      clear hwv3
      refine (ref_c l _ _ _ _ HA0.out HLM.out (by omega)).mono ?_
      rintro e wv4 ⟨BR, dR, mR, rfl, hatR, hssR, hlimR, b_⟩
      replace HA0 := Lib.hid (HA0.out.below b_)
      replace HH0 := Lib.hid (HH0.out.below b_)
      replace OAa := Lib.hid (OAa.out.below b_)
      replace GRa := Lib.hid (GRa.out.below b_)
      replace Ka := Lib.hid (Ka.out.below b_)
      replace bb := Lib.hid (bl_trans bb.out b_)
      have HAR := Lib.hid hatR
      clear b_ hatR
      have HRB : Hid (runS (ss mR) h = (o, g, false)) := Lib.hid (by rw [hssR]; exact HRA.out)
      have HLR := Lib.hid hlimR
      clear hssR hlimR
      clear HA0
      go_wp2_with fail
      refine (refrun mR h _ _ n dR hn hc _ o g false r1 r2 r3 r4 gn HAR.out HLR.out (by omega) HH0.out (by omega) HRB.out e1 e2 e3 e4 e5).mono ?_
      rintro e wv5 ⟨Ab1, cb1, Ab2, cb2, Ab3, cb3, Ab4, cb4, Gb, gcb, rfl, ho, hg, b_⟩
      replace HH0 := Lib.hid (HH0.out.below b_)
      replace OAa := Lib.hid (OAa.out.below b_)
      replace GRa := Lib.hid (GRa.out.below b_)
      replace Ka := Lib.hid (Ka.out.below b_)
      replace HAR := Lib.hid (HAR.out.below b_)
      replace bb := Lib.hid (bl_trans bb.out b_)
      have OAb := Lib.hid ho
      have GRb := Lib.hid hg
      clear b_ ho hg
      clear HAR HH0
      have Bb : Hid (w.heap.size ≤ wv5.heap.size) := Lib.hid bb.out.size
      obtain ⟨wv6, hwv6⟩ : ∃ W, W = wv5.alloc (.cells #[.int .i64 o.kind, .int .i64 o.why, .slice Ab1 r1 cb1, .slice Ab2 r2 cb2, .slice Ab3 r3 cb3, .slice Ab4 r4 cb4] 33) := ⟨_, rfl⟩
      have b_ : Below wv5.heap.size wv5 wv6 := by rw [hwv6]; exact bl_alloc (Below.refl _ _) _
      replace OAa := Lib.hid (OAa.out.below b_)
      replace GRa := Lib.hid (GRa.out.below b_)
      replace Ka := Lib.hid (Ka.out.below b_)
      replace OAb := Lib.hid (OAb.out.below b_)
      replace GRb := Lib.hid (GRb.out.below b_)
      replace bb := Lib.hid (bl_trans bb.out b_)
      clear b_
      have Kb : Hid (Blk wv6 wv5.heap.size 33 #[.int .i64 o.kind, .int .i64 o.why, .slice Ab1 r1 cb1, .slice Ab2 r2 cb2, .slice Ab3 r3 cb3, .slice Ab4 r4 cb4]) := Lib.hid (by rw [hwv6]; exact Blk.new _ _ _)
      go_wp2_with fail
      rw [← hwv6]
      clear hwv6
      have KEEP : Hid (∀ W, Below wv6.heap.size wv6 W → W.cell? ⟨wv2.heap.size, 0, none⟩ = some (.int .i64 o.kind) ∧ W.cell? ⟨wv2.heap.size, 1, none⟩ = some (.int .i64 o.why) ∧ W.cell? ⟨wv2.heap.size, 2, none⟩ = some (.slice Aa1 r1 ca1) ∧ W.cell? ⟨wv2.heap.size, 3, none⟩ = some (.slice Aa2 r2 ca2) ∧ W.cell? ⟨wv2.heap.size, 4, none⟩ = some (.slice Aa3 r3 ca3) ∧ W.cell? ⟨wv2.heap.size, 5, none⟩ = some (.slice Aa4 r4 ca4) ∧ W.cell? ⟨wv5.heap.size, 0, none⟩ = some (.int .i64 o.kind) ∧ W.cell? ⟨wv5.heap.size, 1, none⟩ = some (.int .i64 o.why) ∧ W.cell? ⟨wv5.heap.size, 2, none⟩ = some (.slice Ab1 r1 cb1) ∧ W.cell? ⟨wv5.heap.size, 3, none⟩ = some (.slice Ab2 r2 cb2) ∧ W.cell? ⟨wv5.heap.size, 4, none⟩ = some (.slice Ab3 r3 cb3) ∧ W.cell? ⟨wv5.heap.size, 5, none⟩ = some (.slice Ab4 r4 cb4)) := Lib.hid (fun W h => ⟨(Ka.out.below h).cell 0 _ rfl, (Ka.out.below h).cell 1 _ rfl, (Ka.out.below h).cell 2 _ rfl, (Ka.out.below h).cell 3 _ rfl, (Ka.out.below h).cell 4 _ rfl, (Ka.out.below h).cell 5 _ rfl, (Kb.out.below h).cell 0 _ rfl, (Kb.out.below h).cell 1 _ rfl, (Kb.out.below h).cell 2 _ rfl, (Kb.out.below h).cell 3 _ rfl, (Kb.out.below h).cell 4 _ rfl, (Kb.out.below h).cell 5 _ rfl⟩)
      have bq : Hid (Below wv6.heap.size wv6 wv6.drew) := Lib.hid (Below.refl _ _).drew
      go_wp2_with fail
      try simp only [List.append_eq, List.cons_append, List.nil_append]
      refine wp_region_held_drew (S := fun (W : World) => W.cell? ⟨wv2.heap.size, 0, none⟩ = some (.int .i64 o.kind) ∧ W.cell? ⟨wv2.heap.size, 1, none⟩ = some (.int .i64 o.why) ∧ W.cell? ⟨wv2.heap.size, 2, none⟩ = some (.slice Aa1 r1 ca1) ∧ W.cell? ⟨wv2.heap.size, 3, none⟩ = some (.slice Aa2 r2 ca2) ∧ W.cell? ⟨wv2.heap.size, 4, none⟩ = some (.slice Aa3 r3 ca3) ∧ W.cell? ⟨wv2.heap.size, 5, none⟩ = some (.slice Aa4 r4 ca4) ∧ W.cell? ⟨wv5.heap.size, 0, none⟩ = some (.int .i64 o.kind) ∧ W.cell? ⟨wv5.heap.size, 1, none⟩ = some (.int .i64 o.why) ∧ W.cell? ⟨wv5.heap.size, 2, none⟩ = some (.slice Ab1 r1 cb1) ∧ W.cell? ⟨wv5.heap.size, 3, none⟩ = some (.slice Ab2 r2 cb2) ∧ W.cell? ⟨wv5.heap.size, 4, none⟩ = some (.slice Ab3 r3 cb3) ∧ W.cell? ⟨wv5.heap.size, 5, none⟩ = some (.slice Ab4 r4 cb4)) (by kernel_rfl) (KEEP.out _ bq.out) (fun hHeld0 => ?_)
      refine wpAnyH_take (i := 0) (v := .agg #[.int .i64 o.kind, .int .i64 o.why, .slice Aa1 r1 ca1, .slice Aa2 r2 ca2, .slice Aa3 r3 ca3, .slice Aa4 r4 ca4]) rfl (by kernel_rfl) (by kernel_rfl) (by kernel_rfl) (fun _ _ _ h => h) (Or.inl ⟨by kernel_rfl, fun W hS => by obtain ⟨k_0, k_1, k_2, k_3, k_4, k_5, k_6, k_7, k_8, k_9, k_10, k_11⟩ := hS; go_simp⟩) hHeld0 ?_
      try simp only [Act.put]
      try simp only [List.setIfInBounds_toArray]
      try simp only [List.set_cons_succ]
      try simp only [List.set_cons_zero]
      refine wpAnyH_take (i := 2) (v := .agg #[.int .i64 o.kind, .int .i64 o.why, .slice Ab1 r1 cb1, .slice Ab2 r2 cb2, .slice Ab3 r3 cb3, .slice Ab4 r4 cb4]) rfl (by kernel_rfl) (by kernel_rfl) (by kernel_rfl) (fun _ _ _ h => h) (Or.inl ⟨by kernel_rfl, fun W hS => by obtain ⟨k_0, k_1, k_2, k_3, k_4, k_5, k_6, k_7, k_8, k_9, k_10, k_11⟩ := hS; go_simp⟩) hHeld0 ?_
      try simp only [Act.put]
      try simp only [List.setIfInBounds_toArray]
      try simp only [List.set_cons_succ]
      try simp only [List.set_cons_zero]
      refine wpAnyH_ready (rs := [1]) (by kernel_rfl) (by simp) ?_
      refine AllReadyH.cons rfl (fun KK0 hK => ?_) AllReadyH.nil
      rw [if_pos (by kernel_rfl)]
      refine calls_wp 16 #[.agg #[.int .i64 o.kind, .int .i64 o.why, .slice Aa1 r1 ca1, .slice Aa2 r2 ca2, .slice Aa3 r3 ca3, .slice Aa4 r4 ca4]] _ (ref_m _ _ _ _ _ _ _ _ _ _ _ _ _ _ _) (run_call _ _ _ rfl rfl Tryz.func16 (by kernel_rfl) (by kernel_rfl) _ (by kernel_rfl)) ?_
      rintro e wq ⟨rfl, b_⟩
      refine ⟨_, rfl, ?_⟩
      replace bq := Lib.hid (bl_trans bq.out b_)
      clear b_
      refine hK.out _ _ (KEEP.out _ bq.out) (fun hHeld1 => ?_)
      clear hHeld0 hK KK0
      try simp only [Act.put]
      try simp only [List.setIfInBounds_toArray]
      try simp only [List.set_cons_succ]
      try simp only [List.set_cons_zero]
      refine wpAnyH_ready (rs := [3]) (by kernel_rfl) (by simp) ?_
      refine AllReadyH.cons rfl (fun KK0 hK => ?_) AllReadyH.nil
      rw [if_pos (by kernel_rfl)]
      refine calls_wp 15 #[.agg #[.int .i64 o.kind, .int .i64 o.why, .slice Aa1 r1 ca1, .slice Aa2 r2 ca2, .slice Aa3 r3 ca3, .slice Aa4 r4 ca4], .agg #[.int .i64 o.kind, .int .i64 o.why, .slice Ab1 r1 cb1, .slice Ab2 r2 cb2, .slice Ab3 r3 cb3, .slice Ab4 r4 cb4]] _ (same_r o _ _ _ _ _ _ _ _ r1 r2 r3 r4 _ _ _ _ _ _ _ _ _ (OAa.out.below bq.out) (OAb.out.below bq.out) (by omega) (by omega) (by omega) (by omega)) (run_call _ _ _ rfl rfl Tryz.func15 (by kernel_rfl) (by kernel_rfl) _ (by kernel_rfl)) ?_
      rintro e wq ⟨rfl, b_⟩
      refine ⟨_, rfl, ?_⟩
      replace bq := Lib.hid (bl_trans bq.out b_)
      clear b_
      refine hK.out _ _ (KEEP.out _ bq.out) (fun hHeld2 => ?_)
      clear hHeld1 hK KK0
      try simp only [Act.put]
      try simp only [List.setIfInBounds_toArray]
      try simp only [List.set_cons_succ]
      try simp only [List.set_cons_zero]
      refine wpAnyH_take (i := 4) (v := .bool true) rfl (by kernel_rfl) (by kernel_rfl) (by kernel_rfl) (fun _ _ _ h => h) (Or.inl ⟨by kernel_rfl, fun W hS => by go_simp⟩) hHeld2 ?_
      try simp only [Act.put]
      try simp only [List.setIfInBounds_toArray]
      try simp only [List.set_cons_succ]
      try simp only [List.set_cons_zero]
      refine wpAnyH_take (i := 5) (v := .slice Ga gn gca) rfl (by kernel_rfl) (by kernel_rfl) (by kernel_rfl) (fun _ _ _ h => h) (Or.inl ⟨by kernel_rfl, fun W hS => by go_simp⟩) hHeld2 ?_
      try simp only [Act.put]
      try simp only [List.setIfInBounds_toArray]
      try simp only [List.set_cons_succ]
      try simp only [List.set_cons_zero]
      refine wpAnyH_take (i := 6) (v := .slice Gb gn gcb) rfl (by kernel_rfl) (by kernel_rfl) (by kernel_rfl) (fun _ _ _ h => h) (Or.inl ⟨by kernel_rfl, fun W hS => by go_simp⟩) hHeld2 ?_
      try simp only [Act.put]
      try simp only [List.setIfInBounds_toArray]
      try simp only [List.set_cons_succ]
      try simp only [List.set_cons_zero]
      refine wpAnyH_ready (rs := [7]) (by kernel_rfl) (by simp) ?_
      refine AllReadyH.cons rfl (fun KK0 hK => ?_) AllReadyH.nil
      rw [if_pos (by kernel_rfl)]
      refine calls_wp 17 #[.slice Ga gn gca, .slice Gb gn gcb] _ (Heap.same_b g g _ _ _ _ _ _ _ true (GRa.out.below bq.out) (GRb.out.below bq.out) (by omega) (by omega) (decide_eq_true rfl)) (run_call _ _ _ rfl rfl Tryz.func17 (by kernel_rfl) (by kernel_rfl) _ (by kernel_rfl)) ?_
      rintro e wq ⟨rfl, b_⟩
      refine ⟨_, rfl, ?_⟩
      replace bq := Lib.hid (bl_trans bq.out b_)
      clear b_
      refine hK.out _ _ (KEEP.out _ bq.out) (fun hHeld3 => ?_)
      clear hHeld2 hK KK0
      try simp only [Act.put]
      try simp only [List.setIfInBounds_toArray]
      try simp only [List.set_cons_succ]
      try simp only [List.set_cons_zero]
      refine wpAnyH_take (i := 8) (v := .bool true) rfl (by kernel_rfl) (by kernel_rfl) (by kernel_rfl) (fun _ _ _ h => h) (Or.inl ⟨by kernel_rfl, fun W hS => by go_simp⟩) hHeld3 ?_
      try simp only [Act.put]
      try simp only [List.setIfInBounds_toArray]
      try simp only [List.set_cons_succ]
      try simp only [List.set_cons_zero]
      refine wpAnyH_take (i := 9) (v := .bool true) rfl (by kernel_rfl) (by kernel_rfl) (by kernel_rfl) (fun _ _ _ h => h) (Or.inl ⟨by kernel_rfl, fun W hS => by go_simp⟩) hHeld3 ?_
      try simp only [Act.put]
      try simp only [List.setIfInBounds_toArray]
      try simp only [List.set_cons_succ]
      try simp only [List.set_cons_zero]
      refine wpAnyH_take (i := 10) (v := .int .i64 1) rfl (by kernel_rfl) (by kernel_rfl) (by kernel_rfl) (fun _ _ _ h => h) (Or.inl ⟨by kernel_rfl, fun W hS => by go_simp⟩) hHeld3 ?_
      try simp only [Act.put]
      try simp only [List.setIfInBounds_toArray]
      try simp only [List.set_cons_succ]
      try simp only [List.set_cons_zero]
      refine wpAnyH_take (i := 11) (v := .bool false) rfl (by kernel_rfl) (by kernel_rfl) (by kernel_rfl) (fun _ _ _ h => h) (Or.inl ⟨by kernel_rfl, fun W hS => by go_simp⟩) hHeld3 ?_
      try simp only [Act.put]
      try simp only [List.setIfInBounds_toArray]
      try simp only [List.set_cons_succ]
      try simp only [List.set_cons_zero]
      refine wpAnyH_take (i := 12) (v := .bool false) rfl (by kernel_rfl) (by kernel_rfl) (by kernel_rfl) (fun _ _ _ h => h) (Or.inl ⟨by kernel_rfl, fun W hS => by go_simp⟩) hHeld3 ?_
      try simp only [Act.put]
      try simp only [List.setIfInBounds_toArray]
      try simp only [List.set_cons_succ]
      try simp only [List.set_cons_zero]
      refine wpAnyH_take (i := 13) (v := .bool true) rfl (by kernel_rfl) (by kernel_rfl) (by kernel_rfl) (fun _ _ _ h => h) (Or.inl ⟨by kernel_rfl, fun W hS => by go_simp⟩) hHeld3 ?_
      try simp only [Act.put]
      try simp only [List.setIfInBounds_toArray]
      try simp only [List.set_cons_succ]
      try simp only [List.set_cons_zero]
      refine wpAnyH_take (i := 14) (v := .bool true) rfl (by kernel_rfl) (by kernel_rfl) (by kernel_rfl) (fun _ _ _ h => h) (Or.inl ⟨by kernel_rfl, fun W hS => by go_simp⟩) hHeld3 ?_
      try simp only [Act.put]
      try simp only [List.setIfInBounds_toArray]
      try simp only [List.set_cons_succ]
      try simp only [List.set_cons_zero]
      refine wpAnyH_take (i := 15) (v := .bool true) rfl (by kernel_rfl) (by kernel_rfl) (by kernel_rfl) (fun _ _ _ h => h) (Or.inl ⟨by kernel_rfl, fun W hS => by go_simp⟩) hHeld3 ?_
      try simp only [Act.put]
      try simp only [List.setIfInBounds_toArray]
      try simp only [List.set_cons_succ]
      try simp only [List.set_cons_zero]
      refine wpAnyH_take (i := 16) (v := .bool false) rfl (by kernel_rfl) (by kernel_rfl) (by kernel_rfl) (fun _ _ _ h => h) (Or.inl ⟨by kernel_rfl, fun W hS => by go_simp⟩) hHeld3 ?_
      try simp only [Act.put]
      try simp only [List.setIfInBounds_toArray]
      try simp only [List.set_cons_succ]
      try simp only [List.set_cons_zero]
      refine wpAnyH_take (i := 17) (v := .bool false) rfl (by kernel_rfl) (by kernel_rfl) (by kernel_rfl) (fun _ _ _ h => h) (Or.inl ⟨by kernel_rfl, fun W hS => by go_simp⟩) hHeld3 ?_
      try simp only [Act.put]
      try simp only [List.setIfInBounds_toArray]
      try simp only [List.set_cons_succ]
      try simp only [List.set_cons_zero]
      refine wpAnyH_take (i := 18) (v := .int .i64 1) rfl (by kernel_rfl) (by kernel_rfl) (by kernel_rfl) (fun _ _ _ h => h) (Or.inl ⟨by kernel_rfl, fun W hS => by go_simp⟩) hHeld3 ?_
      try simp only [Act.put]
      try simp only [List.setIfInBounds_toArray]
      try simp only [List.set_cons_succ]
      try simp only [List.set_cons_zero]
      refine wpAnyH_take (i := 19) (v := .bool true) rfl (by kernel_rfl) (by kernel_rfl) (by kernel_rfl) (fun _ _ _ h => h) (Or.inl ⟨by kernel_rfl, fun W hS => by go_simp⟩) hHeld3 ?_
      try simp only [Act.put]
      try simp only [List.setIfInBounds_toArray]
      try simp only [List.set_cons_succ]
      try simp only [List.set_cons_zero]
      refine wpAnyH_take (i := 20) (v := .bool true) rfl (by kernel_rfl) (by kernel_rfl) (by kernel_rfl) (fun _ _ _ h => h) (Or.inl ⟨by kernel_rfl, fun W hS => by go_simp⟩) hHeld3 ?_
      try simp only [Act.put]
      try simp only [List.setIfInBounds_toArray]
      try simp only [List.set_cons_succ]
      try simp only [List.set_cons_zero]
      refine wpAnyH_take (i := 21) (v := .bool true) rfl (by kernel_rfl) (by kernel_rfl) (by kernel_rfl) (fun _ _ _ h => h) (Or.inl ⟨by kernel_rfl, fun W hS => by go_simp⟩) hHeld3 ?_
      try simp only [Act.put]
      try simp only [List.setIfInBounds_toArray]
      try simp only [List.set_cons_succ]
      try simp only [List.set_cons_zero]
      refine wpAnyH_take (i := 22) (v := .bool true) rfl (by kernel_rfl) (by kernel_rfl) (by kernel_rfl) (fun _ _ _ h => h) (Or.inl ⟨by kernel_rfl, fun W hS => by go_simp⟩) hHeld3 ?_
      try simp only [Act.put]
      try simp only [List.setIfInBounds_toArray]
      try simp only [List.set_cons_succ]
      try simp only [List.set_cons_zero]
      refine wpAnyH_ready (rs := [23]) (by kernel_rfl) (by simp) ?_
      refine AllReadyH.cons rfl (fun KK0 hK => ?_) AllReadyH.nil
      rw [if_pos (by kernel_rfl)]
      refine calls_wp 11 #[] _ (awake_any HS.out _) (run_call _ _ _ rfl rfl Tryz.func11 (by kernel_rfl) (by kernel_rfl) _ (by kernel_rfl)) ?_
      rintro e wq ⟨rfl, b_⟩
      refine ⟨_, rfl, ?_⟩
      replace bq := Lib.hid (bl_trans bq.out b_)
      clear b_
      refine hK.out _ _ (KEEP.out _ bq.out) (fun hHeld4 => ?_)
      clear hHeld3 hK KK0
      try simp only [Act.put]
      try simp only [List.setIfInBounds_toArray]
      try simp only [List.set_cons_succ]
      try simp only [List.set_cons_zero]
      refine wpAnyH_take (i := 24) (v := .bool true) rfl (by kernel_rfl) (by kernel_rfl) (by kernel_rfl) (fun _ _ _ h => h) (Or.inl ⟨by kernel_rfl, fun W hS => by go_simp⟩) hHeld4 ?_
      try simp only [Act.put]
      try simp only [List.setIfInBounds_toArray]
      try simp only [List.set_cons_succ]
      try simp only [List.set_cons_zero]
      refine wpAnyH_ready (rs := [25]) (by kernel_rfl) (by simp) ?_
      refine AllReadyH.cons rfl (fun KK0 hK => ?_) AllReadyH.nil
      go_simp
      refine hK.out _ _ (KEEP.out _ bq.out) (fun hHeld5 => ?_)
      clear hHeld4 hK KK0
      try simp only [Act.put]
      try simp only [List.setIfInBounds_toArray]
      try simp only [List.set_cons_succ]
      try simp only [List.set_cons_zero]
      refine wpAnyH_done (by kernel_rfl) ?_ _
      replace bb := Lib.hid (bl_trans bb.out bq.out)
      go_wp2
      go_ret
      exact ⟨rfl, bb.out⟩
    | true =>
      have HRA := Lib.hid hrun
      clear hrun
      go_enter Tryz.func3, Tryz.ntmps3
      go_wp2_with fail
      refine (small_c l _ _ _ _ (n : Int) HA0.out mn HSM.out).mono ?_
      rintro e wv1 ⟨rfl, b_⟩
      replace HA0 := Lib.hid (HA0.out.below b_)
      replace HH0 := Lib.hid (HH0.out.below b_)
      replace bb := Lib.hid (bl_trans bb.out b_)
      clear b_
      go_wp2_with fail
      refine (HS.out.run l h _ _ n c hn hc _ _ _ _ r1 r2 r3 r4 gn 0 HA0.out hnc cm HLM.out (by omega) HH0.out (by omega) HRA.out e1 e2 e3 e4 e5 rfl).mono ?_
      rintro e wv2 ⟨Aa1, ca1, Aa2, ca2, Aa3, ca3, Aa4, ca4, Ga, gca, rfl, ho, hg, b_⟩
      replace HA0 := Lib.hid (HA0.out.below b_)
      replace HH0 := Lib.hid (HH0.out.below b_)
      replace bb := Lib.hid (bl_trans bb.out b_)
      have OAa := Lib.hid ho
      have GRa := Lib.hid hg
      clear b_ ho hg
      have Ba : Hid (w.heap.size ≤ wv2.heap.size) := Lib.hid bb.out.size
      obtain ⟨wv3, hwv3⟩ : ∃ W, W = wv2.alloc (.cells #[.int .i64 o.kind, .int .i64 o.why, .slice Aa1 r1 ca1, .slice Aa2 r2 ca2, .slice Aa3 r3 ca3, .slice Aa4 r4 ca4] 29) := ⟨_, rfl⟩
      have b_ : Below wv2.heap.size wv2 wv3 := by rw [hwv3]; exact bl_alloc (Below.refl _ _) _
      replace HA0 := Lib.hid (HA0.out.below b_)
      replace HH0 := Lib.hid (HH0.out.below b_)
      replace OAa := Lib.hid (OAa.out.below b_)
      replace GRa := Lib.hid (GRa.out.below b_)
      replace bb := Lib.hid (bl_trans bb.out b_)
      clear b_
      have Ka : Hid (Blk wv3 wv2.heap.size 29 #[.int .i64 o.kind, .int .i64 o.why, .slice Aa1 r1 ca1, .slice Aa2 r2 ca2, .slice Aa3 r3 ca3, .slice Aa4 r4 ca4]) := Lib.hid (by rw [hwv3]; exact Blk.new _ _ _)
      go_wp2_with fail
      rw [← hwv3]
      clear hwv3
      refine (ref_c l _ _ _ _ HA0.out HLM.out (by omega)).mono ?_
      rintro e wv4 ⟨BR, dR, mR, rfl, hatR, hssR, hlimR, b_⟩
      replace HA0 := Lib.hid (HA0.out.below b_)
      replace HH0 := Lib.hid (HH0.out.below b_)
      replace OAa := Lib.hid (OAa.out.below b_)
      replace GRa := Lib.hid (GRa.out.below b_)
      replace Ka := Lib.hid (Ka.out.below b_)
      replace bb := Lib.hid (bl_trans bb.out b_)
      have HAR := Lib.hid hatR
      clear b_ hatR
      have HRB : Hid (runS (ss mR) h = (o, g, true)) := Lib.hid (by rw [hssR]; exact HRA.out)
      have HLR := Lib.hid hlimR
      clear hssR hlimR
      clear HA0
      go_wp2_with fail
      refine (refrun mR h _ _ n dR hn hc _ o g true r1 r2 r3 r4 gn HAR.out HLR.out (by omega) HH0.out (by omega) HRB.out e1 e2 e3 e4 e5).mono ?_
      rintro e wv5 ⟨Ab1, cb1, Ab2, cb2, Ab3, cb3, Ab4, cb4, Gb, gcb, rfl, ho, hg, b_⟩
      replace HH0 := Lib.hid (HH0.out.below b_)
      replace OAa := Lib.hid (OAa.out.below b_)
      replace GRa := Lib.hid (GRa.out.below b_)
      replace Ka := Lib.hid (Ka.out.below b_)
      replace HAR := Lib.hid (HAR.out.below b_)
      replace bb := Lib.hid (bl_trans bb.out b_)
      have OAb := Lib.hid ho
      have GRb := Lib.hid hg
      clear b_ ho hg
      clear HAR HH0
      have Bb : Hid (w.heap.size ≤ wv5.heap.size) := Lib.hid bb.out.size
      obtain ⟨wv6, hwv6⟩ : ∃ W, W = wv5.alloc (.cells #[.int .i64 o.kind, .int .i64 o.why, .slice Ab1 r1 cb1, .slice Ab2 r2 cb2, .slice Ab3 r3 cb3, .slice Ab4 r4 cb4] 33) := ⟨_, rfl⟩
      have b_ : Below wv5.heap.size wv5 wv6 := by rw [hwv6]; exact bl_alloc (Below.refl _ _) _
      replace OAa := Lib.hid (OAa.out.below b_)
      replace GRa := Lib.hid (GRa.out.below b_)
      replace Ka := Lib.hid (Ka.out.below b_)
      replace OAb := Lib.hid (OAb.out.below b_)
      replace GRb := Lib.hid (GRb.out.below b_)
      replace bb := Lib.hid (bl_trans bb.out b_)
      clear b_
      have Kb : Hid (Blk wv6 wv5.heap.size 33 #[.int .i64 o.kind, .int .i64 o.why, .slice Ab1 r1 cb1, .slice Ab2 r2 cb2, .slice Ab3 r3 cb3, .slice Ab4 r4 cb4]) := Lib.hid (by rw [hwv6]; exact Blk.new _ _ _)
      go_wp2_with fail
      rw [← hwv6]
      clear hwv6
      have KEEP : Hid (∀ W, Below wv6.heap.size wv6 W → W.cell? ⟨wv2.heap.size, 0, none⟩ = some (.int .i64 o.kind) ∧ W.cell? ⟨wv2.heap.size, 1, none⟩ = some (.int .i64 o.why) ∧ W.cell? ⟨wv2.heap.size, 2, none⟩ = some (.slice Aa1 r1 ca1) ∧ W.cell? ⟨wv2.heap.size, 3, none⟩ = some (.slice Aa2 r2 ca2) ∧ W.cell? ⟨wv2.heap.size, 4, none⟩ = some (.slice Aa3 r3 ca3) ∧ W.cell? ⟨wv2.heap.size, 5, none⟩ = some (.slice Aa4 r4 ca4) ∧ W.cell? ⟨wv5.heap.size, 0, none⟩ = some (.int .i64 o.kind) ∧ W.cell? ⟨wv5.heap.size, 1, none⟩ = some (.int .i64 o.why) ∧ W.cell? ⟨wv5.heap.size, 2, none⟩ = some (.slice Ab1 r1 cb1) ∧ W.cell? ⟨wv5.heap.size, 3, none⟩ = some (.slice Ab2 r2 cb2) ∧ W.cell? ⟨wv5.heap.size, 4, none⟩ = some (.slice Ab3 r3 cb3) ∧ W.cell? ⟨wv5.heap.size, 5, none⟩ = some (.slice Ab4 r4 cb4)) := Lib.hid (fun W h => ⟨(Ka.out.below h).cell 0 _ rfl, (Ka.out.below h).cell 1 _ rfl, (Ka.out.below h).cell 2 _ rfl, (Ka.out.below h).cell 3 _ rfl, (Ka.out.below h).cell 4 _ rfl, (Ka.out.below h).cell 5 _ rfl, (Kb.out.below h).cell 0 _ rfl, (Kb.out.below h).cell 1 _ rfl, (Kb.out.below h).cell 2 _ rfl, (Kb.out.below h).cell 3 _ rfl, (Kb.out.below h).cell 4 _ rfl, (Kb.out.below h).cell 5 _ rfl⟩)
      have bq : Hid (Below wv6.heap.size wv6 wv6.drew) := Lib.hid (Below.refl _ _).drew
      go_wp2_with fail
      try simp only [List.append_eq, List.cons_append, List.nil_append]
      refine wp_region_held_drew (S := fun (W : World) => W.cell? ⟨wv2.heap.size, 0, none⟩ = some (.int .i64 o.kind) ∧ W.cell? ⟨wv2.heap.size, 1, none⟩ = some (.int .i64 o.why) ∧ W.cell? ⟨wv2.heap.size, 2, none⟩ = some (.slice Aa1 r1 ca1) ∧ W.cell? ⟨wv2.heap.size, 3, none⟩ = some (.slice Aa2 r2 ca2) ∧ W.cell? ⟨wv2.heap.size, 4, none⟩ = some (.slice Aa3 r3 ca3) ∧ W.cell? ⟨wv2.heap.size, 5, none⟩ = some (.slice Aa4 r4 ca4) ∧ W.cell? ⟨wv5.heap.size, 0, none⟩ = some (.int .i64 o.kind) ∧ W.cell? ⟨wv5.heap.size, 1, none⟩ = some (.int .i64 o.why) ∧ W.cell? ⟨wv5.heap.size, 2, none⟩ = some (.slice Ab1 r1 cb1) ∧ W.cell? ⟨wv5.heap.size, 3, none⟩ = some (.slice Ab2 r2 cb2) ∧ W.cell? ⟨wv5.heap.size, 4, none⟩ = some (.slice Ab3 r3 cb3) ∧ W.cell? ⟨wv5.heap.size, 5, none⟩ = some (.slice Ab4 r4 cb4)) (by kernel_rfl) (KEEP.out _ bq.out) (fun hHeld0 => ?_)
      refine wpAnyH_take (i := 0) (v := .agg #[.int .i64 o.kind, .int .i64 o.why, .slice Aa1 r1 ca1, .slice Aa2 r2 ca2, .slice Aa3 r3 ca3, .slice Aa4 r4 ca4]) rfl (by kernel_rfl) (by kernel_rfl) (by kernel_rfl) (fun _ _ _ h => h) (Or.inl ⟨by kernel_rfl, fun W hS => by obtain ⟨k_0, k_1, k_2, k_3, k_4, k_5, k_6, k_7, k_8, k_9, k_10, k_11⟩ := hS; go_simp⟩) hHeld0 ?_
      try simp only [Act.put]
      try simp only [List.setIfInBounds_toArray]
      try simp only [List.set_cons_succ]
      try simp only [List.set_cons_zero]
      refine wpAnyH_take (i := 2) (v := .agg #[.int .i64 o.kind, .int .i64 o.why, .slice Ab1 r1 cb1, .slice Ab2 r2 cb2, .slice Ab3 r3 cb3, .slice Ab4 r4 cb4]) rfl (by kernel_rfl) (by kernel_rfl) (by kernel_rfl) (fun _ _ _ h => h) (Or.inl ⟨by kernel_rfl, fun W hS => by obtain ⟨k_0, k_1, k_2, k_3, k_4, k_5, k_6, k_7, k_8, k_9, k_10, k_11⟩ := hS; go_simp⟩) hHeld0 ?_
      try simp only [Act.put]
      try simp only [List.setIfInBounds_toArray]
      try simp only [List.set_cons_succ]
      try simp only [List.set_cons_zero]
      refine wpAnyH_ready (rs := [1]) (by kernel_rfl) (by simp) ?_
      refine AllReadyH.cons rfl (fun KK0 hK => ?_) AllReadyH.nil
      rw [if_pos (by kernel_rfl)]
      refine calls_wp 16 #[.agg #[.int .i64 o.kind, .int .i64 o.why, .slice Aa1 r1 ca1, .slice Aa2 r2 ca2, .slice Aa3 r3 ca3, .slice Aa4 r4 ca4]] _ (ref_m _ _ _ _ _ _ _ _ _ _ _ _ _ _ _) (run_call _ _ _ rfl rfl Tryz.func16 (by kernel_rfl) (by kernel_rfl) _ (by kernel_rfl)) ?_
      rintro e wq ⟨rfl, b_⟩
      refine ⟨_, rfl, ?_⟩
      replace bq := Lib.hid (bl_trans bq.out b_)
      clear b_
      refine hK.out _ _ (KEEP.out _ bq.out) (fun hHeld1 => ?_)
      clear hHeld0 hK KK0
      try simp only [Act.put]
      try simp only [List.setIfInBounds_toArray]
      try simp only [List.set_cons_succ]
      try simp only [List.set_cons_zero]
      refine wpAnyH_ready (rs := [3]) (by kernel_rfl) (by simp) ?_
      refine AllReadyH.cons rfl (fun KK0 hK => ?_) AllReadyH.nil
      rw [if_pos (by kernel_rfl)]
      refine calls_wp 15 #[.agg #[.int .i64 o.kind, .int .i64 o.why, .slice Aa1 r1 ca1, .slice Aa2 r2 ca2, .slice Aa3 r3 ca3, .slice Aa4 r4 ca4], .agg #[.int .i64 o.kind, .int .i64 o.why, .slice Ab1 r1 cb1, .slice Ab2 r2 cb2, .slice Ab3 r3 cb3, .slice Ab4 r4 cb4]] _ (same_r o _ _ _ _ _ _ _ _ r1 r2 r3 r4 _ _ _ _ _ _ _ _ _ (OAa.out.below bq.out) (OAb.out.below bq.out) (by omega) (by omega) (by omega) (by omega)) (run_call _ _ _ rfl rfl Tryz.func15 (by kernel_rfl) (by kernel_rfl) _ (by kernel_rfl)) ?_
      rintro e wq ⟨rfl, b_⟩
      refine ⟨_, rfl, ?_⟩
      replace bq := Lib.hid (bl_trans bq.out b_)
      clear b_
      refine hK.out _ _ (KEEP.out _ bq.out) (fun hHeld2 => ?_)
      clear hHeld1 hK KK0
      try simp only [Act.put]
      try simp only [List.setIfInBounds_toArray]
      try simp only [List.set_cons_succ]
      try simp only [List.set_cons_zero]
      refine wpAnyH_take (i := 4) (v := .bool true) rfl (by kernel_rfl) (by kernel_rfl) (by kernel_rfl) (fun _ _ _ h => h) (Or.inl ⟨by kernel_rfl, fun W hS => by go_simp⟩) hHeld2 ?_
      try simp only [Act.put]
      try simp only [List.setIfInBounds_toArray]
      try simp only [List.set_cons_succ]
      try simp only [List.set_cons_zero]
      refine wpAnyH_take (i := 5) (v := .slice Ga gn gca) rfl (by kernel_rfl) (by kernel_rfl) (by kernel_rfl) (fun _ _ _ h => h) (Or.inl ⟨by kernel_rfl, fun W hS => by go_simp⟩) hHeld2 ?_
      try simp only [Act.put]
      try simp only [List.setIfInBounds_toArray]
      try simp only [List.set_cons_succ]
      try simp only [List.set_cons_zero]
      refine wpAnyH_take (i := 6) (v := .slice Gb gn gcb) rfl (by kernel_rfl) (by kernel_rfl) (by kernel_rfl) (fun _ _ _ h => h) (Or.inl ⟨by kernel_rfl, fun W hS => by go_simp⟩) hHeld2 ?_
      try simp only [Act.put]
      try simp only [List.setIfInBounds_toArray]
      try simp only [List.set_cons_succ]
      try simp only [List.set_cons_zero]
      refine wpAnyH_ready (rs := [7]) (by kernel_rfl) (by simp) ?_
      refine AllReadyH.cons rfl (fun KK0 hK => ?_) AllReadyH.nil
      rw [if_pos (by kernel_rfl)]
      refine calls_wp 17 #[.slice Ga gn gca, .slice Gb gn gcb] _ (Heap.same_b g g _ _ _ _ _ _ _ true (GRa.out.below bq.out) (GRb.out.below bq.out) (by omega) (by omega) (decide_eq_true rfl)) (run_call _ _ _ rfl rfl Tryz.func17 (by kernel_rfl) (by kernel_rfl) _ (by kernel_rfl)) ?_
      rintro e wq ⟨rfl, b_⟩
      refine ⟨_, rfl, ?_⟩
      replace bq := Lib.hid (bl_trans bq.out b_)
      clear b_
      refine hK.out _ _ (KEEP.out _ bq.out) (fun hHeld3 => ?_)
      clear hHeld2 hK KK0
      try simp only [Act.put]
      try simp only [List.setIfInBounds_toArray]
      try simp only [List.set_cons_succ]
      try simp only [List.set_cons_zero]
      refine wpAnyH_take (i := 8) (v := .bool true) rfl (by kernel_rfl) (by kernel_rfl) (by kernel_rfl) (fun _ _ _ h => h) (Or.inl ⟨by kernel_rfl, fun W hS => by go_simp⟩) hHeld3 ?_
      try simp only [Act.put]
      try simp only [List.setIfInBounds_toArray]
      try simp only [List.set_cons_succ]
      try simp only [List.set_cons_zero]
      refine wpAnyH_take (i := 9) (v := .bool true) rfl (by kernel_rfl) (by kernel_rfl) (by kernel_rfl) (fun _ _ _ h => h) (Or.inl ⟨by kernel_rfl, fun W hS => by go_simp⟩) hHeld3 ?_
      try simp only [Act.put]
      try simp only [List.setIfInBounds_toArray]
      try simp only [List.set_cons_succ]
      try simp only [List.set_cons_zero]
      refine wpAnyH_take (i := 10) (v := .int .i64 0) rfl (by kernel_rfl) (by kernel_rfl) (by kernel_rfl) (fun _ _ _ h => h) (Or.inl ⟨by kernel_rfl, fun W hS => by go_simp⟩) hHeld3 ?_
      try simp only [Act.put]
      try simp only [List.setIfInBounds_toArray]
      try simp only [List.set_cons_succ]
      try simp only [List.set_cons_zero]
      refine wpAnyH_take (i := 11) (v := .bool true) rfl (by kernel_rfl) (by kernel_rfl) (by kernel_rfl) (fun _ _ _ h => h) (Or.inl ⟨by kernel_rfl, fun W hS => by go_simp⟩) hHeld3 ?_
      try simp only [Act.put]
      try simp only [List.setIfInBounds_toArray]
      try simp only [List.set_cons_succ]
      try simp only [List.set_cons_zero]
      refine wpAnyH_take (i := 12) (v := .bool true) rfl (by kernel_rfl) (by kernel_rfl) (by kernel_rfl) (fun _ _ _ h => h) (Or.inl ⟨by kernel_rfl, fun W hS => by go_simp⟩) hHeld3 ?_
      try simp only [Act.put]
      try simp only [List.setIfInBounds_toArray]
      try simp only [List.set_cons_succ]
      try simp only [List.set_cons_zero]
      refine wpAnyH_take (i := 13) (v := .bool true) rfl (by kernel_rfl) (by kernel_rfl) (by kernel_rfl) (fun _ _ _ h => h) (Or.inl ⟨by kernel_rfl, fun W hS => by go_simp⟩) hHeld3 ?_
      try simp only [Act.put]
      try simp only [List.setIfInBounds_toArray]
      try simp only [List.set_cons_succ]
      try simp only [List.set_cons_zero]
      refine wpAnyH_take (i := 14) (v := .bool true) rfl (by kernel_rfl) (by kernel_rfl) (by kernel_rfl) (fun _ _ _ h => h) (Or.inl ⟨by kernel_rfl, fun W hS => by go_simp⟩) hHeld3 ?_
      try simp only [Act.put]
      try simp only [List.setIfInBounds_toArray]
      try simp only [List.set_cons_succ]
      try simp only [List.set_cons_zero]
      refine wpAnyH_take (i := 15) (v := .bool true) rfl (by kernel_rfl) (by kernel_rfl) (by kernel_rfl) (fun _ _ _ h => h) (Or.inl ⟨by kernel_rfl, fun W hS => by go_simp⟩) hHeld3 ?_
      try simp only [Act.put]
      try simp only [List.setIfInBounds_toArray]
      try simp only [List.set_cons_succ]
      try simp only [List.set_cons_zero]
      refine wpAnyH_take (i := 16) (v := .bool true) rfl (by kernel_rfl) (by kernel_rfl) (by kernel_rfl) (fun _ _ _ h => h) (Or.inl ⟨by kernel_rfl, fun W hS => by go_simp⟩) hHeld3 ?_
      try simp only [Act.put]
      try simp only [List.setIfInBounds_toArray]
      try simp only [List.set_cons_succ]
      try simp only [List.set_cons_zero]
      refine wpAnyH_take (i := 17) (v := .bool true) rfl (by kernel_rfl) (by kernel_rfl) (by kernel_rfl) (fun _ _ _ h => h) (Or.inl ⟨by kernel_rfl, fun W hS => by go_simp⟩) hHeld3 ?_
      try simp only [Act.put]
      try simp only [List.setIfInBounds_toArray]
      try simp only [List.set_cons_succ]
      try simp only [List.set_cons_zero]
      refine wpAnyH_take (i := 18) (v := undef) rfl (by kernel_rfl) (by kernel_rfl) (by kernel_rfl) (fun _ _ _ h => h) (Or.inr ⟨by kernel_rfl, rfl⟩) hHeld3 ?_
      try simp only [Act.put]
      try simp only [List.setIfInBounds_toArray]
      try simp only [List.set_cons_succ]
      try simp only [List.set_cons_zero]
      refine wpAnyH_take (i := 19) (v := undef) rfl (by kernel_rfl) (by kernel_rfl) (by kernel_rfl) (fun _ _ _ h => h) (Or.inr ⟨by kernel_rfl, rfl⟩) hHeld3 ?_
      try simp only [Act.put]
      try simp only [List.setIfInBounds_toArray]
      try simp only [List.set_cons_succ]
      try simp only [List.set_cons_zero]
      refine wpAnyH_take (i := 20) (v := .bool true) rfl (by kernel_rfl) (by kernel_rfl) (by kernel_rfl) (fun _ _ _ h => h) (Or.inl ⟨by kernel_rfl, fun W hS => by go_simp⟩) hHeld3 ?_
      try simp only [Act.put]
      try simp only [List.setIfInBounds_toArray]
      try simp only [List.set_cons_succ]
      try simp only [List.set_cons_zero]
      refine wpAnyH_take (i := 21) (v := .bool true) rfl (by kernel_rfl) (by kernel_rfl) (by kernel_rfl) (fun _ _ _ h => h) (Or.inl ⟨by kernel_rfl, fun W hS => by go_simp⟩) hHeld3 ?_
      try simp only [Act.put]
      try simp only [List.setIfInBounds_toArray]
      try simp only [List.set_cons_succ]
      try simp only [List.set_cons_zero]
      refine wpAnyH_take (i := 22) (v := .bool true) rfl (by kernel_rfl) (by kernel_rfl) (by kernel_rfl) (fun _ _ _ h => h) (Or.inl ⟨by kernel_rfl, fun W hS => by go_simp⟩) hHeld3 ?_
      try simp only [Act.put]
      try simp only [List.setIfInBounds_toArray]
      try simp only [List.set_cons_succ]
      try simp only [List.set_cons_zero]
      refine wpAnyH_ready (rs := [23]) (by kernel_rfl) (by simp) ?_
      refine AllReadyH.cons rfl (fun KK0 hK => ?_) AllReadyH.nil
      rw [if_pos (by kernel_rfl)]
      refine calls_wp 11 #[] _ (awake_any HS.out _) (run_call _ _ _ rfl rfl Tryz.func11 (by kernel_rfl) (by kernel_rfl) _ (by kernel_rfl)) ?_
      rintro e wq ⟨rfl, b_⟩
      refine ⟨_, rfl, ?_⟩
      replace bq := Lib.hid (bl_trans bq.out b_)
      clear b_
      refine hK.out _ _ (KEEP.out _ bq.out) (fun hHeld4 => ?_)
      clear hHeld3 hK KK0
      try simp only [Act.put]
      try simp only [List.setIfInBounds_toArray]
      try simp only [List.set_cons_succ]
      try simp only [List.set_cons_zero]
      refine wpAnyH_take (i := 24) (v := .bool true) rfl (by kernel_rfl) (by kernel_rfl) (by kernel_rfl) (fun _ _ _ h => h) (Or.inl ⟨by kernel_rfl, fun W hS => by go_simp⟩) hHeld4 ?_
      try simp only [Act.put]
      try simp only [List.setIfInBounds_toArray]
      try simp only [List.set_cons_succ]
      try simp only [List.set_cons_zero]
      refine wpAnyH_ready (rs := [25]) (by kernel_rfl) (by simp) ?_
      refine AllReadyH.cons rfl (fun KK0 hK => ?_) AllReadyH.nil
      go_simp
      refine hK.out _ _ (KEEP.out _ bq.out) (fun hHeld5 => ?_)
      clear hHeld4 hK KK0
      try simp only [Act.put]
      try simp only [List.setIfInBounds_toArray]
      try simp only [List.set_cons_succ]
      try simp only [List.set_cons_zero]
      refine wpAnyH_done (by kernel_rfl) ?_ _
      replace bb := Lib.hid (bl_trans bb.out bq.out)
      go_wp2
      go_ret
      exact ⟨rfl, bb.out⟩
end Go.Proofs.YtbeeojccadeboaaGreat.Model
