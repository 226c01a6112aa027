/-
  THE WALK OF THE LAW WritesKeeps.
-/
import Derived.Test.YtjmilnfemjnhoaaWritesAwake
import Derived.Deep.RegionHeld3
namespace Go.Proofs.Ytjmilnfemjnhoaa.Writes
open Go.ChangeShapes Go.WideShapes Go.ChangeAt Go.RowKit Mem
open Heap (Write wc ws ws_len vB at_write)

set_option maxRecDepth 100000 in
set_option maxHeartbeats 4000000 in
theorem keeps_walk (S : Said) (A : Option Addr) (n c : Nat) (B : Option Addr) (m d : Nat) (l : Log) (ce : Int) (w : World) (hl : LogAt w A n c B m d l) :
    Calls Try.prog 7 #[.agg #[.slice A n c, .slice B m d], .int .i64 ce] w (RetB w true) := by
  have HS := Lib.hid S
  clear S
  have HL := Lib.hid hl
  have LN := Lib.hid hl.ln
  have LM := Lib.hid hl.lm
  clear hl
  by_cases hsm : n ≤ 40 ∧ m ≤ 20
  case neg =>
    have HSM : Hid ((decide (n ≤ 40) && decide (m ≤ 20)) = false) := Lib.hid (by rw [Bool.and_eq_false_iff]; simp; omega)
    clear hsm
    go_enter Try.func7, Try.ntmps7
    go_wp2_with fail
    refine (small_b _ _ _ _ _ _ _ false HSM.out).mono ?_
    rintro e v1 ⟨rfl, b1⟩
    go_wp2_with fail
    refine (awake_any HS.out _).mono ?_
    rintro e v2 ⟨rfl, b2⟩
    go_wp2
    go_ret
    exact ⟨rfl, bl_trans (bl_trans (bl_alloc (Below.refl _ _) _) b1) b2⟩
  obtain ⟨hn40, hm20⟩ := hsm
  have HSM : Hid ((decide (n ≤ 40) && decide (m ≤ 20)) = true) := Lib.hid (by simp [hn40, hm20])
  obtain ⟨br, hbr⟩ : ∃ y, rightB l = y := ⟨_, rfl⟩
  have EBR := Lib.hid hbr
  clear hbr
  obtain ⟨⟨q_l, q_e⟩, h⟩ : ∃ y, keepS l = y := ⟨_, rfl⟩
  obtain ⟨q_n, hn_⟩ : ∃ y, q_l.list.length = y := ⟨_, rfl⟩
  obtain ⟨q_m, hm_⟩ : ∃ y, q_l.marks.length = y := ⟨_, rfl⟩
  have q_b : q_n ≤ 41 ∧ q_m ≤ 41 := by have h9 := keep_len l; rw [h] at h9; have h8 := h9.1; have h7 := h9.2; rw [hn_] at h8; rw [hm_] at h7; have := LN.out; have := LM.out; omega
  have Eq := Lib.hid h
  have Nq := Lib.hid hn_
  have Mq := Lib.hid hm_
  clear h hn_ hm_
  obtain ⟨⟨b_l, b_e⟩, h⟩ : ∃ y, backS l = y := ⟨_, rfl⟩
  obtain ⟨b_n, hn_⟩ : ∃ y, b_l.list.length = y := ⟨_, rfl⟩
  obtain ⟨b_m, hm_⟩ : ∃ y, b_l.marks.length = y := ⟨_, rfl⟩
  have b_b : b_n ≤ 41 ∧ b_m ≤ 41 := by have h9 := back_len l; rw [h] at h9; have h8 := h9.1; have h7 := h9.2; rw [hn_] at h8; rw [hm_] at h7; have := LN.out; have := LM.out; omega
  have Eb := Lib.hid h
  have Nb := Lib.hid hn_
  have Mb := Lib.hid hm_
  clear h hn_ hm_
  obtain ⟨⟨k_l, k_e⟩, h⟩ : ∃ y, markS l = y := ⟨_, rfl⟩
  obtain ⟨k_n, hn_⟩ : ∃ y, k_l.list.length = y := ⟨_, rfl⟩
  obtain ⟨k_m, hm_⟩ : ∃ y, k_l.marks.length = y := ⟨_, rfl⟩
  have k_b : k_n ≤ 41 ∧ k_m ≤ 41 := by have h9 := mark_len l; rw [h] at h9; have h8 := h9.1; have h7 := h9.2; rw [hn_] at h8; rw [hm_] at h7; have := LN.out; have := LM.out; omega
  have Ek := Lib.hid h
  have Nk := Lib.hid hn_
  have Mk := Lib.hid hm_
  clear h hn_ hm_
  go_enter Try.func7, Try.ntmps7
  go_wp2_with fail
  have bb : Hid (Below w.heap.size w (w.alloc (.cells #[.slice A n c, .slice B m d] 25))) := Lib.hid (bl_alloc (Below.refl _ _) _)
  replace HL := Lib.hid (HL.out.below bb.out)
  have Kl : Hid (Blk (w.alloc (.cells #[.slice A n c, .slice B m d] 25)) w.heap.size 25 #[.slice A n c, .slice B m d]) := Lib.hid (Blk.new _ _ _)
  generalize w.alloc (.cells #[.slice A n c, .slice B m d] 25) = w1 at *
  refine (small_b _ _ _ _ _ _ _ true HSM.out).mono ?_
  rintro e w2 ⟨rfl, b_⟩
  replace HL := Lib.hid (HL.out.below b_)
  replace Kl := Lib.hid (Kl.out.below b_)
  replace bb := Lib.hid (bl_trans bb.out b_)
  clear b_ 
  have zl0 := Kl.out.cell 0 _ rfl
  have zl1 := Kl.out.cell 1 _ rfl
  go_wp2_with fail
  refine (HS.out.right l _ _ _ _ _ _ _ br HL.out (by omega) (by omega) EBR.out).mono ?_
  rintro e w3 ⟨rfl, b_⟩
  replace HL := Lib.hid (HL.out.below b_)
  replace Kl := Lib.hid (Kl.out.below b_)
  replace bb := Lib.hid (bl_trans bb.out b_)
  clear b_ zl0 zl1
  cases br with
  | false =>
    go_wp2_with fail
    refine (awake_any HS.out _).mono ?_
    rintro e w4 ⟨rfl, b_⟩
    replace HL := Lib.hid (HL.out.below b_)
    replace Kl := Lib.hid (Kl.out.below b_)
    replace bb := Lib.hid (bl_trans bb.out b_)
    clear b_ 
    go_wp2
    go_ret
    exact ⟨rfl, bb.out⟩
  | true =>
    obtain ⟨⟨gv, gb⟩, hg⟩ : ∃ y, getS l ce = y := ⟨_, rfl⟩
    obtain ⟨la, hla⟩ : ∃ y, lastS l = y := ⟨_, rfl⟩
    obtain ⟨lq, hlq⟩ : ∃ y, la.length = y := ⟨_, rfl⟩
    have lqb : lq ≤ 40 := by have h9 := lastS_len l; rw [hla, hlq] at h9; have := LN.out; omega
    have EKT : Hid (getS k_l ce = (gv, gb) ∧ lastS k_l = la) := Lib.hid (by rw [← hg, ← hla]; exact mark_told l k_l EBR.out k_e Ek.out ce)
    have EG := Lib.hid hg
    have ELA := Lib.hid hla
    have ELQ := Lib.hid hlq
    clear hg hla hlq
    have q5 : (gv != gv) = false := by simp
    have q6 : (gb != gb) = false := by simp
    have zl0 := Kl.out.cell 0 _ rfl
    have zl1 := Kl.out.cell 1 _ rfl
    go_wp2_with fail
    refine (HS.out.keep l _ _ _ _ _ _ _ _ _ _ HL.out (by omega) (by omega) Eq.out Nq.out Mq.out).mono ?_
    rintro e w4 ⟨A4, c4, B4, d4, rfl, pr⟩
    have b_ := pr.ol.2
    replace HL := Lib.hid (HL.out.below b_)
    replace Kl := Lib.hid (Kl.out.below b_)
    replace bb := Lib.hid (bl_trans bb.out b_)
    have Lq := Lib.hid pr.log
    clear pr
    clear b_ zl0 zl1
    have zl0 : ∀ o, (w4.alloc o).cell? ⟨w.heap.size, 0, none⟩ = some (.slice A n c) := fun o => (Kl.out.alloc o).cell 0 _ rfl
    have zl1 : ∀ o, (w4.alloc o).cell? ⟨w.heap.size, 1, none⟩ = some (.slice B m d) := fun o => (Kl.out.alloc o).cell 1 _ rfl
    go_wp2_with fail
    refine (HS.out.back l _ _ _ _ _ _ _ _ _ _ (HL.out.alloc _) (by omega) (by omega) Eb.out Nb.out Mb.out).mono ?_
    rintro e w5 ⟨A5, c5, B5, d5, rfl, pr⟩
    have b_ := pr.ol.2
    replace HL := Lib.hid ((HL.out.alloc _).below b_)
    replace Lq := Lib.hid ((Lq.out.alloc _).below b_)
    replace Kl := Lib.hid ((Kl.out.alloc _).below b_)
    have Kq := Lib.hid ((Blk.new w4 25 #[.slice A4 q_n c4, .slice B4 q_m d4]).below b_)
    replace bb := Lib.hid (bl_trans (bl_alloc bb.out _) b_)
    have Lb := Lib.hid pr.log
    clear pr
    clear b_ zl0 zl1
    have zl0 : ∀ o, (w5.alloc o).cell? ⟨w.heap.size, 0, none⟩ = some (.slice A n c) := fun o => (Kl.out.alloc o).cell 0 _ rfl
    have zl1 : ∀ o, (w5.alloc o).cell? ⟨w.heap.size, 1, none⟩ = some (.slice B m d) := fun o => (Kl.out.alloc o).cell 1 _ rfl
    go_wp2_with fail
    refine (HS.out.mark l _ _ _ _ _ _ _ _ _ _ (HL.out.alloc _) (by omega) (by omega) Ek.out Nk.out Mk.out).mono ?_
    rintro e w6 ⟨A6, c6, B6, d6, rfl, pr⟩
    have b_ := pr.ol.2
    replace HL := Lib.hid ((HL.out.alloc _).below b_)
    replace Lq := Lib.hid ((Lq.out.alloc _).below b_)
    replace Lb := Lib.hid ((Lb.out.alloc _).below b_)
    replace Kl := Lib.hid ((Kl.out.alloc _).below b_)
    replace Kq := Lib.hid ((Kq.out.alloc _).below b_)
    have Kb := Lib.hid ((Blk.new w5 25 #[.slice A5 b_n c5, .slice B5 b_m d5]).below b_)
    replace bb := Lib.hid (bl_trans (bl_alloc bb.out _) b_)
    have Lk := Lib.hid pr.log
    clear pr
    clear b_ zl0 zl1
    have zl0 : ∀ o, (w6.alloc o).cell? ⟨w.heap.size, 0, none⟩ = some (.slice A n c) := fun o => (Kl.out.alloc o).cell 0 _ rfl
    have zl1 : ∀ o, (w6.alloc o).cell? ⟨w.heap.size, 1, none⟩ = some (.slice B m d) := fun o => (Kl.out.alloc o).cell 1 _ rfl
    go_wp2_with fail
    refine (HS.out.get l _ _ _ _ _ _ ce _ (gv, gb) (HL.out.alloc _) (by omega) (by omega) EG.out).mono ?_
    rintro e w7 ⟨rfl, b_⟩
    replace HL := Lib.hid ((HL.out.alloc _).below b_)
    replace Lq := Lib.hid ((Lq.out.alloc _).below b_)
    replace Lb := Lib.hid ((Lb.out.alloc _).below b_)
    replace Lk := Lib.hid ((Lk.out.alloc _).below b_)
    replace Kl := Lib.hid ((Kl.out.alloc _).below b_)
    replace Kq := Lib.hid ((Kq.out.alloc _).below b_)
    replace Kb := Lib.hid ((Kb.out.alloc _).below b_)
    have Kk := Lib.hid ((Blk.new w6 25 #[.slice A6 k_n c6, .slice B6 k_m d6]).below b_)
    replace bb := Lib.hid (bl_trans (bl_alloc bb.out _) b_)
    clear b_ zl0 zl1
    have zk0 := Kk.out.cell 0 _ rfl
    have zk1 := Kk.out.cell 1 _ rfl
    go_wp2_with fail
    refine (HS.out.get k_l _ _ _ _ _ _ ce _ (gv, gb) Lk.out (by omega) (by omega) EKT.out.1).mono ?_
    rintro e w8 ⟨rfl, b_⟩
    replace HL := Lib.hid (HL.out.below b_)
    replace Lq := Lib.hid (Lq.out.below b_)
    replace Lb := Lib.hid (Lb.out.below b_)
    replace Lk := Lib.hid (Lk.out.below b_)
    replace Kl := Lib.hid (Kl.out.below b_)
    replace Kq := Lib.hid (Kq.out.below b_)
    replace Kb := Lib.hid (Kb.out.below b_)
    replace Kk := Lib.hid (Kk.out.below b_)
    replace bb := Lib.hid (bl_trans bb.out b_)
    clear b_ zk0 zk1
    by_cases hke : k_e = 0
    · subst hke
      have T1 : Hid True := Lib.hid trivial
      have T2 : Hid True := Lib.hid trivial
      have T3 : Hid True := Lib.hid trivial
      have KEEP : Hid (∀ W, Below w8.heap.size w8 W → W.cell? ⟨w.heap.size, 0, none⟩ = some (.slice A n c) ∧ W.cell? ⟨w.heap.size, 1, none⟩ = some (.slice B m d) ∧ W.cell? ⟨w6.heap.size, 0, none⟩ = some (.slice A6 k_n c6) ∧ W.cell? ⟨w6.heap.size, 1, none⟩ = some (.slice B6 k_m d6)) := Lib.hid (fun W h => ⟨(Kl.out.below h).cell 0 _ rfl, (Kl.out.below h).cell 1 _ rfl, (Kk.out.below h).cell 0 _ rfl, (Kk.out.below h).cell 1 _ rfl⟩)
      have bq : Hid (Below w8.heap.size w8 w8.drew) := Lib.hid (Below.refl _ _).drew
      go_wp2_with fail
      try simp only [List.append_eq, List.cons_append, List.nil_append]
      go_region_held3 (fun w' => w'.cell? ⟨w.heap.size, 0, none⟩ = some (.slice A n c) ∧ w'.cell? ⟨w.heap.size, 1, none⟩ = some (.slice B m d) ∧ w'.cell? ⟨w6.heap.size, 0, none⟩ = some (.slice A6 k_n c6) ∧ w'.cell? ⟨w6.heap.size, 1, none⟩ = some (.slice B6 k_m d6)) (exact KEEP.out _ bq.out)
        (first
        | (go_at_call 26
           clear T1
           refine (HS.out.last k_l _ _ _ _ _ _ _ la lq (Lk.out.below bq.out) (by omega) (by omega) EKT.out.2 ELQ.out).mono ?_
           rintro e wq ⟨Ax, dx, rfl, sx, b_⟩
           replace bq := Lib.hid (bl_trans bq.out b_)
           clear b_)
        | (go_at_call 26
           clear T2
           refine (HS.out.last l _ _ _ _ _ _ _ la lq (HL.out.below bq.out) (by omega) (by omega) ELA.out ELQ.out).mono ?_
           rintro e wq ⟨Ay, dy, rfl, sy, b_⟩
           have by_ := b_
           replace bq := Lib.hid (bl_trans bq.out b_)
           clear b_)
        | (go_at_call 25
           clear T3
           refine (list_b la la _ _ _ _ _ _ _ true (sx.below by_) sy (by omega) (by omega) (decide_eq_true rfl)).mono ?_
           rintro e wq ⟨rfl, b_⟩
           replace bq := Lib.hid (bl_trans bq.out b_)
           clear b_))
      replace bb := Lib.hid (bl_trans bb.out bq.out)
      have bz := bq.out
      replace HL := Lib.hid (HL.out.below bz)
      replace Lq := Lib.hid (Lq.out.below bz)
      replace Lb := Lib.hid (Lb.out.below bz)
      replace Kl := Lib.hid (Kl.out.below bz)
      replace Kq := Lib.hid (Kq.out.below bz)
      replace Kb := Lib.hid (Kb.out.below bz)
      clear bz bq KEEP sx sy by_ Lk Kk
      generalize wq = w9 at *
      by_cases h0 : m = 0
      · have H3 : Hid ((q_l, q_e) = (l, 3) ∧ (b_l, b_e) = (l, 3)) := Lib.hid ⟨by rw [← Eq.out]; exact keep_none l EBR.out (by rw [LM.out]; exact h0), by rw [← Eb.out]; exact back_none l EBR.out (by rw [LM.out]; exact h0)⟩
        obtain rfl : q_e = 3 := (Prod.mk.inj H3.out.1).2
        obtain rfl : b_e = 3 := (Prod.mk.inj H3.out.2).2
        have t0 : ((m : Int) == 0) = true := by simp [h0]
        clear h0 H3
        have zl0 := Kl.out.cell 0 _ rfl
        have zl1 := Kl.out.cell 1 _ rfl
        go_wp2_with fail
        refine (awake_any HS.out _).mono ?_
        rintro e wx ⟨rfl, b_⟩
        replace HL := Lib.hid (HL.out.below b_)
        replace Lq := Lib.hid (Lq.out.below b_)
        replace Lb := Lib.hid (Lb.out.below b_)
        replace Kl := Lib.hid (Kl.out.below b_)
        replace Kq := Lib.hid (Kq.out.below b_)
        replace Kb := Lib.hid (Kb.out.below b_)
        replace bb := Lib.hid (bl_trans bb.out b_)
        clear b_ zl0 zl1
        go_wp2
        go_ret
        exact ⟨rfl, bb.out⟩
      · obtain ⟨j, hj, hjn, -⟩ := right_last l EBR.out (by rw [LM.out]; exact h0)
        rw [LM.out] at hj
        rw [LN.out] at hjn
        obtain ⟨k, hk⟩ : ∃ k, m - 1 = k := ⟨_, rfl⟩
        rw [hk] at hj
        have HQB : Hid ((q_l, q_e) = (⟨l.list, l.marks.take k⟩, 0) ∧ (b_l, b_e) = (⟨l.list.take j, l.marks.take k⟩, 0)) := Lib.hid ⟨by
            have h2 := keep_new l EBR.out (by rw [LM.out]; exact h0)
            rw [LM.out, hk] at h2
            rw [← Eq.out]; exact h2, by
            have h2 := back_new l EBR.out j (by rw [LM.out, hk]; exact hj)
            rw [LM.out, hk] at h2
            rw [← Eb.out]; exact h2⟩
        have HRQ : Hid (rightB q_l = true ∧ lastS q_l = la) := Lib.hid (by
          have e1 : q_l = ⟨l.list, l.marks.take (l.marks.length - 1)⟩ := by rw [LM.out, hk]; exact (Prod.mk.inj HQB.out.1).1
          rw [e1]; exact ⟨keep_right l EBR.out, (keep_told l EBR.out).trans ELA.out⟩)
        have HRB : Hid (rightB b_l = true) := Lib.hid (by
          have e1 : b_l = ⟨l.list.take j, l.marks.take (l.marks.length - 1)⟩ := by rw [LM.out, hk]; exact (Prod.mk.inj HQB.out.2).1
          rw [e1]; exact back_right l EBR.out j (by rw [LM.out, hk]; exact hj))
        have HBL : Hid (b_l.list = l.list.take j) := Lib.hid (by rw [(Prod.mk.inj HQB.out.2).1])
        have HMM : Hid (q_m = b_m) := Lib.hid (by rw [← Mq.out, ← Mb.out, (Prod.mk.inj HQB.out.1).1, (Prod.mk.inj HQB.out.2).1])
        obtain rfl := HMM.out
        obtain rfl : q_e = 0 := (Prod.mk.inj HQB.out.1).2
        obtain rfl : b_e = 0 := (Prod.mk.inj HQB.out.2).2
        have hkm : (m : Int) - 1 = (k : Int) := by omega
        have hklt : k < m := by omega
        have hnc := HL.out.nc
        have hjc : j ≤ c := by omega
        have t0 : ((m : Int) == 0) = false := beq_eq_false_iff_ne.2 (by omega)
        have q7 : ((q_m : Int) == (q_m : Int)) = true := by simp
        obtain ⟨b1, off, zj, rfl, gz, c0⟩ := at_z HL.out.rm k hklt
        obtain rfl : (j : Int) = zj := by rw [hj] at gz; injection gz
        have HCUT : Hid (Rd w9 2 A j (ws b_l.list)) := Lib.hid (by rw [HBL.out]; exact (HL.out.cut j m hjn (Nat.le_refl _)).rl)
        have LBL := Lib.hid Lb.out.rl
        clear gz hj hk h0 HQB
        have zl0 := Kl.out.cell 0 _ rfl
        have zl1 := Kl.out.cell 1 _ rfl
        go_wp2_with fail
        have T1 : Hid True := Lib.hid trivial
        have T2 : Hid True := Lib.hid trivial
        have T3 : Hid True := Lib.hid trivial
        have T4 : Hid True := Lib.hid trivial
        have T5 : Hid True := Lib.hid trivial
        have T6 : Hid True := Lib.hid trivial
        have KEEP : Hid (∀ W, Below w9.heap.size w9 W → W.cell? ⟨w.heap.size, 0, none⟩ = some (.slice A n c) ∧ W.cell? ⟨w.heap.size, 1, none⟩ = some (.slice (some ⟨b1, off, none⟩) m d) ∧ W.cell? ⟨w4.heap.size, 0, none⟩ = some (.slice A4 q_n c4) ∧ W.cell? ⟨w4.heap.size, 1, none⟩ = some (.slice B4 q_m d4) ∧ W.cell? ⟨w5.heap.size, 0, none⟩ = some (.slice A5 b_n c5) ∧ W.cell? ⟨w5.heap.size, 1, none⟩ = some (.slice B5 q_m d5)) := Lib.hid (fun W h => ⟨(Kl.out.below h).cell 0 _ rfl, (Kl.out.below h).cell 1 _ rfl, (Kq.out.below h).cell 0 _ rfl, (Kq.out.below h).cell 1 _ rfl, (Kb.out.below h).cell 0 _ rfl, (Kb.out.below h).cell 1 _ rfl⟩)
        have bq : Hid (Below w9.heap.size w9 w9.drew) := Lib.hid (Below.refl _ _).drew
        go_wp2_with fail
        try simp only [List.append_eq, List.cons_append, List.nil_append]
        go_region_held3 (fun w' => w'.cell? ⟨w.heap.size, 0, none⟩ = some (.slice A n c) ∧ w'.cell? ⟨w.heap.size, 1, none⟩ = some (.slice (some ⟨b1, off, none⟩) m d) ∧ w'.cell? ⟨w4.heap.size, 0, none⟩ = some (.slice A4 q_n c4) ∧ w'.cell? ⟨w4.heap.size, 1, none⟩ = some (.slice B4 q_m d4) ∧ w'.cell? ⟨w5.heap.size, 0, none⟩ = some (.slice A5 b_n c5) ∧ w'.cell? ⟨w5.heap.size, 1, none⟩ = some (.slice B5 q_m d5)) (exact KEEP.out _ bq.out)
          (first
          | (go_at_call 26
             clear T1
             refine (HS.out.last q_l _ _ _ _ _ _ _ la lq (Lq.out.below bq.out) (by omega) (by omega) HRQ.out.2 ELQ.out).mono ?_
             rintro e wq ⟨Ax, dx, rfl, sx, b_⟩
             replace bq := Lib.hid (bl_trans bq.out b_)
             clear b_)
          | (go_at_call 26
             clear T2
             refine (HS.out.last l _ _ _ _ _ _ _ la lq (HL.out.below bq.out) (by omega) (by omega) ELA.out ELQ.out).mono ?_
             rintro e wq ⟨Ay, dy, rfl, sy, b_⟩
             have by_ := b_
             replace bq := Lib.hid (bl_trans bq.out b_)
             clear b_)
          | (go_at_call 25
             clear T3
             refine (list_b la la _ _ _ _ _ _ _ true (sx.below by_) sy (by omega) (by omega) (decide_eq_true rfl)).mono ?_
             rintro e wq ⟨rfl, b_⟩
             replace bq := Lib.hid (bl_trans bq.out b_)
             clear b_)
          | (go_at_call 25
             clear T4
             refine (list_b b_l.list b_l.list _ _ _ _ _ _ _ true (LBL.out.below bq.out) (HCUT.out.below bq.out) (by omega) (by omega) (decide_eq_true rfl)).mono ?_
             rintro e wq ⟨rfl, b_⟩
             replace bq := Lib.hid (bl_trans bq.out b_)
             clear b_)
          | (go_at_call 23
             clear T5
             refine (HS.out.right q_l _ _ _ _ _ _ _ true (Lq.out.below bq.out) (by omega) (by omega) HRQ.out.1).mono ?_
             rintro e wq ⟨rfl, b_⟩
             replace bq := Lib.hid (bl_trans bq.out b_)
             clear b_)
          | (go_at_call 23
             clear T6
             refine (HS.out.right b_l _ _ _ _ _ _ _ true (Lb.out.below bq.out) (by omega) (by omega) HRB.out).mono ?_
             rintro e wq ⟨rfl, b_⟩
             replace bq := Lib.hid (bl_trans bq.out b_)
             clear b_)
          | (go_at_call 10
             refine (awake_any HS.out _).mono ?_
             rintro e wq ⟨rfl, b_⟩
             replace bq := Lib.hid (bl_trans bq.out b_)
             clear b_))
        replace bb := Lib.hid (bl_trans bb.out bq.out)
        go_wp2
        go_ret
        exact ⟨rfl, bb.out⟩
    · have hke1 : (k_e == 0) = false := beq_eq_false_iff_ne.2 hke
      clear hke
      go_wp2_with fail
      go_quiet (fail)
      have bz : Below w8.heap.size w8 (w8.drewN nq) := bl_drewN (Below.refl _ _) _
      replace HL := Lib.hid (HL.out.below bz)
      replace Lq := Lib.hid (Lq.out.below bz)
      replace Lb := Lib.hid (Lb.out.below bz)
      replace Kl := Lib.hid (Kl.out.below bz)
      replace Kq := Lib.hid (Kq.out.below bz)
      replace Kb := Lib.hid (Kb.out.below bz)
      replace bb := Lib.hid (bl_trans bb.out bz)
      clear bz Lk Kk
      generalize w8.drewN nq = w9 at *
      by_cases h0 : m = 0
      · have H3 : Hid ((q_l, q_e) = (l, 3) ∧ (b_l, b_e) = (l, 3)) := Lib.hid ⟨by rw [← Eq.out]; exact keep_none l EBR.out (by rw [LM.out]; exact h0), by rw [← Eb.out]; exact back_none l EBR.out (by rw [LM.out]; exact h0)⟩
        obtain rfl : q_e = 3 := (Prod.mk.inj H3.out.1).2
        obtain rfl : b_e = 3 := (Prod.mk.inj H3.out.2).2
        have t0 : ((m : Int) == 0) = true := by simp [h0]
        clear h0 H3
        have zl0 := Kl.out.cell 0 _ rfl
        have zl1 := Kl.out.cell 1 _ rfl
        go_wp2_with fail
        refine (awake_any HS.out _).mono ?_
        rintro e wx ⟨rfl, b_⟩
        replace HL := Lib.hid (HL.out.below b_)
        replace Lq := Lib.hid (Lq.out.below b_)
        replace Lb := Lib.hid (Lb.out.below b_)
        replace Kl := Lib.hid (Kl.out.below b_)
        replace Kq := Lib.hid (Kq.out.below b_)
        replace Kb := Lib.hid (Kb.out.below b_)
        replace bb := Lib.hid (bl_trans bb.out b_)
        clear b_ zl0 zl1
        go_wp2
        go_ret
        exact ⟨rfl, bb.out⟩
      · obtain ⟨j, hj, hjn, -⟩ := right_last l EBR.out (by rw [LM.out]; exact h0)
        rw [LM.out] at hj
        rw [LN.out] at hjn
        obtain ⟨k, hk⟩ : ∃ k, m - 1 = k := ⟨_, rfl⟩
        rw [hk] at hj
        have HQB : Hid ((q_l, q_e) = (⟨l.list, l.marks.take k⟩, 0) ∧ (b_l, b_e) = (⟨l.list.take j, l.marks.take k⟩, 0)) := Lib.hid ⟨by
            have h2 := keep_new l EBR.out (by rw [LM.out]; exact h0)
            rw [LM.out, hk] at h2
            rw [← Eq.out]; exact h2, by
            have h2 := back_new l EBR.out j (by rw [LM.out, hk]; exact hj)
            rw [LM.out, hk] at h2
            rw [← Eb.out]; exact h2⟩
        have HRQ : Hid (rightB q_l = true ∧ lastS q_l = la) := Lib.hid (by
          have e1 : q_l = ⟨l.list, l.marks.take (l.marks.length - 1)⟩ := by rw [LM.out, hk]; exact (Prod.mk.inj HQB.out.1).1
          rw [e1]; exact ⟨keep_right l EBR.out, (keep_told l EBR.out).trans ELA.out⟩)
        have HRB : Hid (rightB b_l = true) := Lib.hid (by
          have e1 : b_l = ⟨l.list.take j, l.marks.take (l.marks.length - 1)⟩ := by rw [LM.out, hk]; exact (Prod.mk.inj HQB.out.2).1
          rw [e1]; exact back_right l EBR.out j (by rw [LM.out, hk]; exact hj))
        have HBL : Hid (b_l.list = l.list.take j) := Lib.hid (by rw [(Prod.mk.inj HQB.out.2).1])
        have HMM : Hid (q_m = b_m) := Lib.hid (by rw [← Mq.out, ← Mb.out, (Prod.mk.inj HQB.out.1).1, (Prod.mk.inj HQB.out.2).1])
        obtain rfl := HMM.out
        obtain rfl : q_e = 0 := (Prod.mk.inj HQB.out.1).2
        obtain rfl : b_e = 0 := (Prod.mk.inj HQB.out.2).2
        have hkm : (m : Int) - 1 = (k : Int) := by omega
        have hklt : k < m := by omega
        have hnc := HL.out.nc
        have hjc : j ≤ c := by omega
        have t0 : ((m : Int) == 0) = false := beq_eq_false_iff_ne.2 (by omega)
        have q7 : ((q_m : Int) == (q_m : Int)) = true := by simp
        obtain ⟨b1, off, zj, rfl, gz, c0⟩ := at_z HL.out.rm k hklt
        obtain rfl : (j : Int) = zj := by rw [hj] at gz; injection gz
        have HCUT : Hid (Rd w9 2 A j (ws b_l.list)) := Lib.hid (by rw [HBL.out]; exact (HL.out.cut j m hjn (Nat.le_refl _)).rl)
        have LBL := Lib.hid Lb.out.rl
        clear gz hj hk h0 HQB
        have zl0 := Kl.out.cell 0 _ rfl
        have zl1 := Kl.out.cell 1 _ rfl
        go_wp2_with fail
        have T1 : Hid True := Lib.hid trivial
        have T2 : Hid True := Lib.hid trivial
        have T3 : Hid True := Lib.hid trivial
        have T4 : Hid True := Lib.hid trivial
        have T5 : Hid True := Lib.hid trivial
        have T6 : Hid True := Lib.hid trivial
        have KEEP : Hid (∀ W, Below w9.heap.size w9 W → W.cell? ⟨w.heap.size, 0, none⟩ = some (.slice A n c) ∧ W.cell? ⟨w.heap.size, 1, none⟩ = some (.slice (some ⟨b1, off, none⟩) m d) ∧ W.cell? ⟨w4.heap.size, 0, none⟩ = some (.slice A4 q_n c4) ∧ W.cell? ⟨w4.heap.size, 1, none⟩ = some (.slice B4 q_m d4) ∧ W.cell? ⟨w5.heap.size, 0, none⟩ = some (.slice A5 b_n c5) ∧ W.cell? ⟨w5.heap.size, 1, none⟩ = some (.slice B5 q_m d5)) := Lib.hid (fun W h => ⟨(Kl.out.below h).cell 0 _ rfl, (Kl.out.below h).cell 1 _ rfl, (Kq.out.below h).cell 0 _ rfl, (Kq.out.below h).cell 1 _ rfl, (Kb.out.below h).cell 0 _ rfl, (Kb.out.below h).cell 1 _ rfl⟩)
        have bq : Hid (Below w9.heap.size w9 w9.drew) := Lib.hid (Below.refl _ _).drew
        go_wp2_with fail
        try simp only [List.append_eq, List.cons_append, List.nil_append]
        go_region_held3 (fun w' => w'.cell? ⟨w.heap.size, 0, none⟩ = some (.slice A n c) ∧ w'.cell? ⟨w.heap.size, 1, none⟩ = some (.slice (some ⟨b1, off, none⟩) m d) ∧ w'.cell? ⟨w4.heap.size, 0, none⟩ = some (.slice A4 q_n c4) ∧ w'.cell? ⟨w4.heap.size, 1, none⟩ = some (.slice B4 q_m d4) ∧ w'.cell? ⟨w5.heap.size, 0, none⟩ = some (.slice A5 b_n c5) ∧ w'.cell? ⟨w5.heap.size, 1, none⟩ = some (.slice B5 q_m d5)) (exact KEEP.out _ bq.out)
          (first
          | (go_at_call 26
             clear T1
             refine (HS.out.last q_l _ _ _ _ _ _ _ la lq (Lq.out.below bq.out) (by omega) (by omega) HRQ.out.2 ELQ.out).mono ?_
             rintro e wq ⟨Ax, dx, rfl, sx, b_⟩
             replace bq := Lib.hid (bl_trans bq.out b_)
             clear b_)
          | (go_at_call 26
             clear T2
             refine (HS.out.last l _ _ _ _ _ _ _ la lq (HL.out.below bq.out) (by omega) (by omega) ELA.out ELQ.out).mono ?_
             rintro e wq ⟨Ay, dy, rfl, sy, b_⟩
             have by_ := b_
             replace bq := Lib.hid (bl_trans bq.out b_)
             clear b_)
          | (go_at_call 25
             clear T3
             refine (list_b la la _ _ _ _ _ _ _ true (sx.below by_) sy (by omega) (by omega) (decide_eq_true rfl)).mono ?_
             rintro e wq ⟨rfl, b_⟩
             replace bq := Lib.hid (bl_trans bq.out b_)
             clear b_)
          | (go_at_call 25
             clear T4
             refine (list_b b_l.list b_l.list _ _ _ _ _ _ _ true (LBL.out.below bq.out) (HCUT.out.below bq.out) (by omega) (by omega) (decide_eq_true rfl)).mono ?_
             rintro e wq ⟨rfl, b_⟩
             replace bq := Lib.hid (bl_trans bq.out b_)
             clear b_)
          | (go_at_call 23
             clear T5
             refine (HS.out.right q_l _ _ _ _ _ _ _ true (Lq.out.below bq.out) (by omega) (by omega) HRQ.out.1).mono ?_
             rintro e wq ⟨rfl, b_⟩
             replace bq := Lib.hid (bl_trans bq.out b_)
             clear b_)
          | (go_at_call 23
             clear T6
             refine (HS.out.right b_l _ _ _ _ _ _ _ true (Lb.out.below bq.out) (by omega) (by omega) HRB.out).mono ?_
             rintro e wq ⟨rfl, b_⟩
             replace bq := Lib.hid (bl_trans bq.out b_)
             clear b_)
          | (go_at_call 10
             refine (awake_any HS.out _).mono ?_
             rintro e wq ⟨rfl, b_⟩
             replace bq := Lib.hid (bl_trans bq.out b_)
             clear b_))
        replace bb := Lib.hid (bl_trans bb.out bq.out)
        go_wp2
        go_ret
        exact ⟨rfl, bb.out⟩
end Go.Proofs.Ytjmilnfemjnhoaa.Writes
