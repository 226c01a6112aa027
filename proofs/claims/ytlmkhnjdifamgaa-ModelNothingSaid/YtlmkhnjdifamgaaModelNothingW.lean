/-
  THE WALK OF THE LAW ModelNothing.
-/
import Derived.Test.YtlmkhnjdifamgaaModelCases
import Derived.Test.YtlmkhnjdifamgaaHeapA
import Derived.Test.YtlmkhnjdifamgaaWritesA
namespace Go.Proofs.Ytlmkhnjdifamgaa.Model
open Go.ChangeShapes Go.WideShapes Go.ChangeAt Go.RowKit Mem Go.Proofs.Ytlmkhnjdifamgaa.Code

set_option maxRecDepth 100000 in
set_option maxHeartbeats 4000000 in
theorem nothing_walk (S : Said) (A HA : Option Addr) (n c hn hc : Nat) (l : List Raw) (h : List Heap.Cell) (w : World) (hnc : n ≤ c) (mn : n ≤ 9223372036854775807) (cm : c ≤ 9223372036854775807) (hat : At w A n l) (hmn : hn ≤ 9223372036854775807) (hh : Rd w 2 HA hn (Heap.cs h)) :
    Calls Try.prog 4 #[.slice A n c, .slice HA hn hc] w (RetB w true) := by
  have HS := Lib.hid S
  clear S
  have HL := Lib.hid hat.len
  have HA0 := Lib.hid hat
  have HH0 := Lib.hid hh
  have HHL : Hid (h.length = hn) := Lib.hid (by have h1 := hh.1; rw [Heap.cs_len] at h1; omega)
  clear hat hh
  have bb : Hid (Below w.heap.size w w) := Lib.hid (Below.refl _ _)
  cases hs : smallB l with
  | false =>
    have HSM := Lib.hid (small_neg l hs)
    clear hs
    go_enter Try.func4, Try.ntmps4
    go_wp2_with fail
    refine (small_c l _ _ _ _ (-1) (HA0.out.below bb.out) mn HSM.out).mono ?_
    rintro e w1 ⟨rfl, b_⟩
    replace bb := Lib.hid (bl_trans bb.out b_)
    clear b_
    go_wp2_with fail
    refine (awake_any HS.out _).mono ?_
    rintro e wz ⟨rfl, b_⟩
    replace bb := Lib.hid (bl_trans bb.out b_)
    clear b_
    go_wp2
    go_ret
    exact ⟨rfl, bb.out⟩
  | true =>
    obtain ⟨hlim, h40⟩ := small_lim l hs
    have HSM := Lib.hid (small_val l n HL.out hs)
    have HLM := Lib.hid hlim
    have hn40 : n ≤ 40 := by rw [← HL.out]; exact h40
    clear hs hlim h40
    by_cases h64 : hn ≤ 64
    · rcases run_cases (ss l) h with hrun | ⟨k, y, sn, hk, hsn, hck, hri, hrun⟩ | ⟨y, rg, p, sn, ws, g, h1, h2, h3, h4, h5, hck, hri, hput, hrun⟩
      · have HRUN := Lib.hid hrun
        clear hrun
        go_enter Try.func4, Try.ntmps4
        go_wp2_with fail
        refine (small_c l _ _ _ _ (n : Int) (HA0.out.below bb.out) mn HSM.out).mono ?_
        rintro e w1 ⟨rfl, b_⟩
        replace bb := Lib.hid (bl_trans bb.out b_)
        clear b_
        go_wp2_with (at_builtin; refine append_rd rfl _ _ 23 rfl Heap.tCell w1 (.slice (some ⟨w1.heap.size, 0, none⟩) 0 0) 0 [] rfl (Own.empty w1 _ _) HA hn hc (Heap.cs h) rfl ((HH0.out.below bb.out).alloc _) (Heap.cs_one h) (by omega) (by omega) ?_; intro v2 w2 ho2 hg2; rw [Nat.zero_add, List.nil_append] at ho2; obtain ⟨B2, d2, rfl, rd2⟩ := ho2.form; have RW := Lib.hid rd2; replace bb := Lib.hid (bl_trans bb.out ho2.2); clear ho2 hg2 rd2)
        refine (HS.out.run l h _ _ n c hn hc _ _ _ _ 0 0 0 0 hn 1 (HA0.out.below bb.out) hnc cm HLM.out (by omega) (HH0.out.below bb.out) (by omega) HRUN.out rfl rfl rfl rfl HHL.out rfl).mono ?_
        rintro e w3 ⟨A1, c1, A2, c2, A3, c3, A4, c4, G, gc, rfl, ho, hg, b_⟩
        have OA := Lib.hid ho
        have GR := Lib.hid hg
        replace RW := Lib.hid (RW.out.below b_)
        replace bb := Lib.hid (bl_trans bb.out b_)
        have K1 : Hid (Blk (w3.alloc (.cells #[.int .i64 0, .int .i64 0, .slice A1 0 c1, .slice A2 0 c2, .slice A3 0 c3, .slice A4 0 c4] 30)) w3.heap.size 30 #[.int .i64 0, .int .i64 0, .slice A1 0 c1, .slice A2 0 c2, .slice A3 0 c3, .slice A4 0 c4]) := Lib.hid (Blk.new _ _ _)
        have kk0 := K1.out.cell 0 _ rfl
        clear b_ ho hg
        go_wp2_with fail
        refine (Heap.same_b h h _ _ _ _ _ _ _ true ((HH0.out.below bb.out).alloc _) (RW.out.alloc _) (by omega) (by omega) (decide_eq_true rfl)).mono ?_
        rintro e w4 ⟨rfl, b_⟩
        replace K1 := Lib.hid (K1.out.below b_)
        replace OA := Lib.hid (OA.out.below (bl_trans (bl_alloc (Below.refl _ _) _) b_))
        replace GR := Lib.hid ((GR.out.alloc _).below b_)
        replace bb := Lib.hid (bl_trans (bl_alloc bb.out _) b_)
        clear b_ RW kk0
        have kk0 := K1.out.cell 0 _ rfl
        have kk2 := K1.out.cell 2 _ rfl
        have kk3 := K1.out.cell 3 _ rfl
        have kk5 := K1.out.cell 5 _ rfl
        go_wp2_with fail
        refine (Heap.same_b h h _ _ _ _ _ _ _ true GR.out (HH0.out.below bb.out) (by omega) (by omega) (decide_eq_true rfl)).mono ?_
        rintro e w5 ⟨rfl, b_⟩
        replace K1 := Lib.hid (K1.out.below b_)
        replace bb := Lib.hid (bl_trans bb.out b_)
        clear b_ kk0 kk2 kk3 kk5 GR OA
        have kk2 := K1.out.cell 2 _ rfl
        have kk3 := K1.out.cell 3 _ rfl
        have kk5 := K1.out.cell 5 _ rfl
        go_wp2_with fail
        refine (awake_any HS.out _).mono ?_
        rintro e wz ⟨rfl, b_⟩
        replace bb := Lib.hid (bl_trans bb.out b_)
        clear b_
        go_wp2
        go_ret
        exact ⟨rfl, bb.out⟩
      · obtain ⟨ns, hns⟩ : ∃ ns, sn.length = ns := ⟨_, rfl⟩
        rw [hns] at hsn
        have q : (k != 1) = true := by simp [hk]
        have q0 : (k == 1) = false := beq_eq_false_iff_ne.2 hk
        have HRUN := Lib.hid hrun
        clear hrun
        go_enter Try.func4, Try.ntmps4
        go_wp2_with fail
        refine (small_c l _ _ _ _ (n : Int) (HA0.out.below bb.out) mn HSM.out).mono ?_
        rintro e w1 ⟨rfl, b_⟩
        replace bb := Lib.hid (bl_trans bb.out b_)
        clear b_
        go_wp2_with (at_builtin; refine append_rd rfl _ _ 23 rfl Heap.tCell w1 (.slice (some ⟨w1.heap.size, 0, none⟩) 0 0) 0 [] rfl (Own.empty w1 _ _) HA hn hc (Heap.cs h) rfl ((HH0.out.below bb.out).alloc _) (Heap.cs_one h) (by omega) (by omega) ?_; intro v2 w2 ho2 hg2; rw [Nat.zero_add, List.nil_append] at ho2; obtain ⟨B2, d2, rfl, rd2⟩ := ho2.form; have RW := Lib.hid rd2; replace bb := Lib.hid (bl_trans bb.out ho2.2); clear ho2 hg2 rd2)
        refine (HS.out.run l h _ _ n c hn hc _ _ _ _ 0 0 ns 0 hn 0 (HA0.out.below bb.out) hnc cm HLM.out (by omega) (HH0.out.below bb.out) (by omega) HRUN.out rfl rfl hns rfl HHL.out rfl).mono ?_
        rintro e w3 ⟨A1, c1, A2, c2, A3, c3, A4, c4, G, gc, rfl, ho, hg, b_⟩
        have OA := Lib.hid ho
        have GR := Lib.hid hg
        replace RW := Lib.hid (RW.out.below b_)
        replace bb := Lib.hid (bl_trans bb.out b_)
        have K1 : Hid (Blk (w3.alloc (.cells #[.int .i64 k, .int .i64 y, .slice A1 0 c1, .slice A2 0 c2, .slice A3 ns c3, .slice A4 0 c4] 30)) w3.heap.size 30 #[.int .i64 k, .int .i64 y, .slice A1 0 c1, .slice A2 0 c2, .slice A3 ns c3, .slice A4 0 c4]) := Lib.hid (Blk.new _ _ _)
        have kk0 := K1.out.cell 0 _ rfl
        clear b_ ho hg
        go_wp2_with fail
        refine (Heap.same_b h h _ _ _ _ _ _ _ true ((HH0.out.below bb.out).alloc _) (RW.out.alloc _) (by omega) (by omega) (decide_eq_true rfl)).mono ?_
        rintro e w4 ⟨rfl, b_⟩
        replace K1 := Lib.hid (K1.out.below b_)
        replace OA := Lib.hid (OA.out.below (bl_trans (bl_alloc (Below.refl _ _) _) b_))
        replace GR := Lib.hid ((GR.out.alloc _).below b_)
        replace bb := Lib.hid (bl_trans (bl_alloc bb.out _) b_)
        clear b_ RW kk0
        have kk0 := K1.out.cell 0 _ rfl
        have kk2 := K1.out.cell 2 _ rfl
        have kk3 := K1.out.cell 3 _ rfl
        have kk5 := K1.out.cell 5 _ rfl
        go_wp2_with fail
        refine (Heap.same_b h h _ _ _ _ _ _ _ true GR.out (HH0.out.below bb.out) (by omega) (by omega) (decide_eq_true rfl)).mono ?_
        rintro e w5 ⟨rfl, b_⟩
        replace K1 := Lib.hid (K1.out.below b_)
        replace bb := Lib.hid (bl_trans bb.out b_)
        clear b_ kk0 kk2 kk3 kk5 GR OA
        have kk2 := K1.out.cell 2 _ rfl
        have kk3 := K1.out.cell 3 _ rfl
        have kk5 := K1.out.cell 5 _ rfl
        go_wp2_with fail
        refine (awake_any HS.out _).mono ?_
        rintro e wz ⟨rfl, b_⟩
        replace bb := Lib.hid (bl_trans bb.out b_)
        clear b_
        go_wp2
        go_ret
        exact ⟨rfl, bb.out⟩
      · obtain ⟨ns, hns⟩ : ∃ ns, sn.length = ns := ⟨_, rfl⟩
        obtain ⟨np, hnp⟩ : ∃ np, p.length = np := ⟨_, rfl⟩
        obtain ⟨nw, hnw⟩ : ∃ nw, ws.length = nw := ⟨_, rfl⟩
        rw [hnw] at h4
        have HPUT := Lib.hid hput
        clear hput
        have HRUN := Lib.hid hrun
        clear hrun
        go_enter Try.func4, Try.ntmps4
        go_wp2_with fail
        refine (small_c l _ _ _ _ (n : Int) (HA0.out.below bb.out) mn HSM.out).mono ?_
        rintro e w1 ⟨rfl, b_⟩
        replace bb := Lib.hid (bl_trans bb.out b_)
        clear b_
        go_wp2_with (at_builtin; refine append_rd rfl _ _ 23 rfl Heap.tCell w1 (.slice (some ⟨w1.heap.size, 0, none⟩) 0 0) 0 [] rfl (Own.empty w1 _ _) HA hn hc (Heap.cs h) rfl ((HH0.out.below bb.out).alloc _) (Heap.cs_one h) (by omega) (by omega) ?_; intro v2 w2 ho2 hg2; rw [Nat.zero_add, List.nil_append] at ho2; obtain ⟨B2, d2, rfl, rd2⟩ := ho2.form; have RW := Lib.hid rd2; replace bb := Lib.hid (bl_trans bb.out ho2.2); clear ho2 hg2 rd2)
        refine (HS.out.run l h _ _ n c hn hc _ _ _ _ 8 np ns nw hn 0 (HA0.out.below bb.out) hnc cm HLM.out (by omega) (HH0.out.below bb.out) (by omega) HRUN.out h1 hnp hns hnw (h5.trans HHL.out) rfl).mono ?_
        rintro e w3 ⟨A1, c1, A2, c2, A3, c3, A4, c4, G, gc, rfl, ho, hg, b_⟩
        have OA := Lib.hid ho
        have GR := Lib.hid hg
        replace RW := Lib.hid (RW.out.below b_)
        replace bb := Lib.hid (bl_trans bb.out b_)
        have K1 : Hid (Blk (w3.alloc (.cells #[.int .i64 1, .int .i64 y, .slice A1 8 c1, .slice A2 np c2, .slice A3 ns c3, .slice A4 nw c4] 30)) w3.heap.size 30 #[.int .i64 1, .int .i64 y, .slice A1 8 c1, .slice A2 np c2, .slice A3 ns c3, .slice A4 nw c4]) := Lib.hid (Blk.new _ _ _)
        have kk0 := K1.out.cell 0 _ rfl
        clear b_ ho hg
        go_wp2_with fail
        refine (Heap.same_b h h _ _ _ _ _ _ _ true ((HH0.out.below bb.out).alloc _) (RW.out.alloc _) (by omega) (by omega) (decide_eq_true rfl)).mono ?_
        rintro e w4 ⟨rfl, b_⟩
        replace K1 := Lib.hid (K1.out.below b_)
        replace OA := Lib.hid (OA.out.below (bl_trans (bl_alloc (Below.refl _ _) _) b_))
        replace GR := Lib.hid ((GR.out.alloc _).below b_)
        replace bb := Lib.hid (bl_trans (bl_alloc bb.out _) b_)
        clear b_ RW kk0
        have kk0 := K1.out.cell 0 _ rfl
        have kk2 := K1.out.cell 2 _ rfl
        have kk3 := K1.out.cell 3 _ rfl
        have kk5 := K1.out.cell 5 _ rfl
        go_wp2_with fail
        refine (Heap.put_c h ws _ _ _ _ _ _ _ (g, 0) (HH0.out.below bb.out) OA.out.writes (by omega) (by omega) HPUT.out).mono ?_
        rintro e w5 ⟨B5, d5, rfl, r5, b_⟩
        have R5 := Lib.hid r5
        replace K1 := Lib.hid (K1.out.below b_)
        replace GR := Lib.hid (GR.out.below b_)
        replace bb := Lib.hid (bl_trans bb.out b_)
        clear b_ r5 kk0 kk2 kk3 kk5 OA
        go_wp2_with fail
        refine (Heap.same_b g g _ _ _ _ _ _ _ true R5.out GR.out (by omega) (by omega) (decide_eq_true rfl)).mono ?_
        rintro e w6 ⟨rfl, b_⟩
        replace K1 := Lib.hid (K1.out.below b_)
        replace bb := Lib.hid (bl_trans bb.out b_)
        clear b_ R5 GR
        have kk2 := K1.out.cell 2 _ rfl
        go_wp2_with fail
        refine (awake_any HS.out _).mono ?_
        rintro e wz ⟨rfl, b_⟩
        replace bb := Lib.hid (bl_trans bb.out b_)
        clear b_
        go_wp2
        go_ret
        exact ⟨rfl, bb.out⟩
    · have h64' : ¬ ((hn : Int) ≤ 64) := by omega
      go_enter Try.func4, Try.ntmps4
      go_wp2_with fail
      refine (small_c l _ _ _ _ (n : Int) (HA0.out.below bb.out) mn HSM.out).mono ?_
      rintro e w1 ⟨rfl, b_⟩
      replace bb := Lib.hid (bl_trans bb.out b_)
      clear b_
      go_wp2_with fail
      refine (awake_any HS.out _).mono ?_
      rintro e wz ⟨rfl, b_⟩
      replace bb := Lib.hid (bl_trans bb.out b_)
      clear b_
      go_wp2
      go_ret
      exact ⟨rfl, bb.out⟩
end Go.Proofs.Ytlmkhnjdifamgaa.Model
