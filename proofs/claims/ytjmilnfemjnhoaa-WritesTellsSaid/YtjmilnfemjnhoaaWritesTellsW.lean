/-
  THE WALK OF THE LAW WritesTells.
-/
import Derived.Test.YtjmilnfemjnhoaaWritesAwake
import Derived.Deep.RegionHeld3
namespace Go.Proofs.Ytjmilnfemjnhoaa.Writes
open Go.ChangeShapes Go.WideShapes Go.ChangeAt Go.RowKit Mem
open Heap (Write wc ws ws_len vB at_write)

set_option maxRecDepth 100000 in
set_option maxHeartbeats 4000000 in
theorem tells_walk (S : Said) (A : Option Addr) (n c : Nat) (B : Option Addr) (m d : Nat) (l : Log) (x : Write) (ce : Int) (w : World) (hl : LogAt w A n c B m d l) :
    Calls Try.prog 3 #[.agg #[.slice A n c, .slice B m d], .agg #[.int .i64 x.cell, .int .i64 x.value], .int .i64 ce] w (RetB w true) := by
  have HS := Lib.hid S
  clear S
  have HL := Lib.hid hl
  have LN := Lib.hid hl.ln
  have LM := Lib.hid hl.lm
  clear hl
  obtain ⟨cl, vl⟩ := x
  by_cases hsm : n ≤ 40 ∧ m ≤ 20
  case neg =>
    have HSM : Hid ((decide (n ≤ 40) && decide (m ≤ 20)) = false) := Lib.hid (by rw [Bool.and_eq_false_iff]; simp; omega)
    clear hsm
    go_enter Try.func3, Try.ntmps3
    go_wp2_with fail
    refine (small_b _ _ _ _ _ _ _ false HSM.out).mono ?_
    rintro e v1 ⟨rfl, b1⟩
    go_wp2_with fail
    refine (awake_any HS.out _).mono ?_
    rintro e v2 ⟨rfl, b2⟩
    go_wp2
    go_ret
    exact ⟨rfl, bl_trans (bl_trans (bl_alloc (bl_alloc (Below.refl _ _) _) _) b1) b2⟩
  obtain ⟨hn40, hm20⟩ := hsm
  have HSM : Hid ((decide (n ≤ 40) && decide (m ≤ 20)) = true) := Lib.hid (by simp [hn40, hm20])
  obtain ⟨⟨p_l, p_e⟩, h⟩ : ∃ y, putS l ⟨cl, vl⟩ = y := ⟨_, rfl⟩
  obtain ⟨p_n, hn_⟩ : ∃ y, p_l.list.length = y := ⟨_, rfl⟩
  obtain ⟨p_m, hm_⟩ : ∃ y, p_l.marks.length = y := ⟨_, rfl⟩
  have p_b : p_n ≤ 41 ∧ p_m ≤ 41 := by have h9 := put_len l ⟨cl, vl⟩; rw [h] at h9; have h8 := h9.1; have h7 := h9.2; rw [hn_] at h8; rw [hm_] at h7; have := LN.out; have := LM.out; omega
  have Ep := Lib.hid h
  have Np := Lib.hid hn_
  have Mp := Lib.hid hm_
  clear h hn_ hm_
  obtain ⟨⟨k_l, k_e⟩, h⟩ : ∃ y, markS l = y := ⟨_, rfl⟩
  obtain ⟨k_n, hn_⟩ : ∃ y, k_l.list.length = y := ⟨_, rfl⟩
  obtain ⟨k_m, hm_⟩ : ∃ y, k_l.marks.length = y := ⟨_, rfl⟩
  have k_b : k_n ≤ 41 ∧ k_m ≤ 41 := by have h9 := mark_len l; rw [h] at h9; have h8 := h9.1; have h7 := h9.2; rw [hn_] at h8; rw [hm_] at h7; have := LN.out; have := LM.out; omega
  have Ek := Lib.hid h
  have Nk := Lib.hid hn_
  have Mk := Lib.hid hm_
  clear h hn_ hm_
  obtain ⟨⟨b_l, b_e⟩, h⟩ : ∃ y, backS l = y := ⟨_, rfl⟩
  obtain ⟨b_n, hn_⟩ : ∃ y, b_l.list.length = y := ⟨_, rfl⟩
  obtain ⟨b_m, hm_⟩ : ∃ y, b_l.marks.length = y := ⟨_, rfl⟩
  have b_b : b_n ≤ 41 ∧ b_m ≤ 41 := by have h9 := back_len l; rw [h] at h9; have h8 := h9.1; have h7 := h9.2; rw [hn_] at h8; rw [hm_] at h7; have := LN.out; have := LM.out; omega
  have Eb := Lib.hid h
  have Nb := Lib.hid hn_
  have Mb := Lib.hid hm_
  clear h hn_ hm_
  obtain ⟨⟨q_l, q_e⟩, h⟩ : ∃ y, keepS l = y := ⟨_, rfl⟩
  obtain ⟨q_n, hn_⟩ : ∃ y, q_l.list.length = y := ⟨_, rfl⟩
  obtain ⟨q_m, hm_⟩ : ∃ y, q_l.marks.length = y := ⟨_, rfl⟩
  have q_b : q_n ≤ 41 ∧ q_m ≤ 41 := by have h9 := keep_len l; rw [h] at h9; have h8 := h9.1; have h7 := h9.2; rw [hn_] at h8; rw [hm_] at h7; have := LN.out; have := LM.out; omega
  have Eq := Lib.hid h
  have Nq := Lib.hid hn_
  have Mq := Lib.hid hm_
  clear h hn_ hm_
  obtain ⟨⟨gv, gb⟩, hg⟩ : ∃ y, getS l ce = y := ⟨_, rfl⟩
  have EG := Lib.hid hg
  clear hg
  obtain ⟨la, hla⟩ : ∃ y, lastS l = y := ⟨_, rfl⟩
  obtain ⟨lq, hlq⟩ : ∃ y, la.length = y := ⟨_, rfl⟩
  have lqb : lq ≤ 40 := by have h9 := lastS_len l; rw [hla, hlq] at h9; have := LN.out; omega
  have ELA := Lib.hid hla
  have ELQ := Lib.hid hlq
  clear hla hlq
  obtain ⟨br, hbr⟩ : ∃ y, rightB l = y := ⟨_, rfl⟩
  have EBR := Lib.hid hbr
  clear hbr
  have q1 : (p_e == p_e) = true := by simp
  have q2 : (k_e == k_e) = true := by simp
  have q3 : (b_e == b_e) = true := by simp
  have q4 : (q_e == q_e) = true := by simp
  go_enter Try.func3, Try.ntmps3
  go_wp2_with fail
  have bb : Hid (Below w.heap.size w ((w.alloc (.cells #[.slice A n c, .slice B m d] 25)).alloc (.cells #[.int .i64 cl, .int .i64 vl] 27))) := Lib.hid (bl_alloc (bl_alloc (Below.refl _ _) _) _)
  replace HL := Lib.hid (HL.out.below bb.out)
  have Kl : Hid (Blk ((w.alloc (.cells #[.slice A n c, .slice B m d] 25)).alloc (.cells #[.int .i64 cl, .int .i64 vl] 27)) w.heap.size 25 #[.slice A n c, .slice B m d]) := Lib.hid ((Blk.new _ _ _).alloc _)
  have Kx : Hid (Blk ((w.alloc (.cells #[.slice A n c, .slice B m d] 25)).alloc (.cells #[.int .i64 cl, .int .i64 vl] 27)) (w.heap.size + 1) 27 #[.int .i64 cl, .int .i64 vl]) := Lib.hid (by have := Blk.new (w.alloc (.cells #[.slice A n c, .slice B m d] 25)) 27 #[.int .i64 cl, .int .i64 vl]; simpa using this)
  generalize (w.alloc (.cells #[.slice A n c, .slice B m d] 25)).alloc (.cells #[.int .i64 cl, .int .i64 vl] 27) = w1 at *
  refine (small_b _ _ _ _ _ _ _ true HSM.out).mono ?_
  rintro e w2 ⟨rfl, b_⟩
  replace HL := Lib.hid (HL.out.below b_)
  replace Kl := Lib.hid (Kl.out.below b_)
  replace Kx := Lib.hid (Kx.out.below b_)
  replace bb := Lib.hid (bl_trans bb.out b_)
  clear b_ 
  have zl0 := Kl.out.cell 0 _ rfl
  have zl1 := Kl.out.cell 1 _ rfl
  go_wp2_with fail
  refine (ref_c _ _ _ _ _ _ _).mono ?_
  rintro e w3 ⟨rfl, b_⟩
  replace HL := Lib.hid (HL.out.below b_)
  replace Kl := Lib.hid (Kl.out.below b_)
  replace Kx := Lib.hid (Kx.out.below b_)
  replace bb := Lib.hid (bl_trans bb.out b_)
  clear b_ zl0 zl1
  have zl0 : ∀ o, (w3.alloc o).cell? ⟨w.heap.size, 0, none⟩ = some (.slice A n c) := fun o => (Kl.out.alloc o).cell 0 _ rfl
  have zl1 : ∀ o, (w3.alloc o).cell? ⟨w.heap.size, 1, none⟩ = some (.slice B m d) := fun o => (Kl.out.alloc o).cell 1 _ rfl
  have zx0 : ∀ o, (w3.alloc o).cell? ⟨w.heap.size + 1, 0, none⟩ = some (.int .i64 cl) := fun o => (Kx.out.alloc o).cell 0 _ rfl
  have zx1 : ∀ o, (w3.alloc o).cell? ⟨w.heap.size + 1, 1, none⟩ = some (.int .i64 vl) := fun o => (Kx.out.alloc o).cell 1 _ rfl
  go_wp2_with fail
  refine (HS.out.put l _ _ _ _ _ _ _ _ _ _ _ _ (HL.out.alloc _) (by omega) (by omega) Ep.out Np.out Mp.out).mono ?_
  rintro e w4 ⟨A4, c4, B4, d4, rfl, pr⟩
  have b_ := pr.ol.2
  replace HL := Lib.hid ((HL.out.alloc _).below b_)
  replace Kl := Lib.hid ((Kl.out.alloc _).below b_)
  replace Kx := Lib.hid ((Kx.out.alloc _).below b_)
  have KX := Lib.hid ((Blk.new w3 30 #[.slice A n c, .slice B m d]).below b_)
  replace bb := Lib.hid (bl_trans (bl_alloc bb.out _) b_)
  have La := Lib.hid pr.log
  clear pr
  clear b_ zl0 zl1 zx0 zx1
  have zX0 : ∀ o, (w4.alloc o).cell? ⟨w3.heap.size, 0, none⟩ = some (.slice A n c) := fun o => (KX.out.alloc o).cell 0 _ rfl
  have zX1 : ∀ o, (w4.alloc o).cell? ⟨w3.heap.size, 1, none⟩ = some (.slice B m d) := fun o => (KX.out.alloc o).cell 1 _ rfl
  have zx0 : ∀ o, (w4.alloc o).cell? ⟨w.heap.size + 1, 0, none⟩ = some (.int .i64 cl) := fun o => (Kx.out.alloc o).cell 0 _ rfl
  have zx1 : ∀ o, (w4.alloc o).cell? ⟨w.heap.size + 1, 1, none⟩ = some (.int .i64 vl) := fun o => (Kx.out.alloc o).cell 1 _ rfl
  go_wp2_with fail
  refine (refput l _ _ _ _ _ _ _ _ _ _ _ _ (HL.out.alloc _) (by omega) (by omega) Ep.out Np.out Mp.out).mono ?_
  rintro e w5 ⟨A5, c5, B5, d5, rfl, lg, b_⟩
  clear Kx
  replace HL := Lib.hid ((HL.out.alloc _).below b_)
  replace La := Lib.hid ((La.out.alloc _).below b_)
  replace Kl := Lib.hid ((Kl.out.alloc _).below b_)
  replace KX := Lib.hid ((KX.out.alloc _).below b_)
  have Ka := Lib.hid ((Blk.new w4 25 #[.slice A4 p_n c4, .slice B4 p_m d4]).below b_)
  replace bb := Lib.hid (bl_trans (bl_alloc bb.out _) b_)
  have Lb := Lib.hid lg
  clear lg
  clear b_ zX0 zX1 zx0 zx1
  have zl0 : ∀ o, (w5.alloc o).cell? ⟨w.heap.size, 0, none⟩ = some (.slice A n c) := fun o => (Kl.out.alloc o).cell 0 _ rfl
  have zl1 : ∀ o, (w5.alloc o).cell? ⟨w.heap.size, 1, none⟩ = some (.slice B m d) := fun o => (Kl.out.alloc o).cell 1 _ rfl
  go_wp2_with fail
  refine (HS.out.mark l _ _ _ _ _ _ _ _ _ _ (HL.out.alloc _) (by omega) (by omega) Ek.out Nk.out Mk.out).mono ?_
  rintro e w6 ⟨A6, c6, B6, d6, rfl, pr⟩
  have b_ := pr.ol.2
  replace HL := Lib.hid ((HL.out.alloc _).below b_)
  replace La := Lib.hid ((La.out.alloc _).below b_)
  replace Lb := Lib.hid ((Lb.out.alloc _).below b_)
  replace Kl := Lib.hid ((Kl.out.alloc _).below b_)
  replace KX := Lib.hid ((KX.out.alloc _).below b_)
  replace Ka := Lib.hid ((Ka.out.alloc _).below b_)
  have Kb := Lib.hid ((Blk.new w5 30 #[.slice A5 p_n c5, .slice B5 p_m d5]).below b_)
  replace bb := Lib.hid (bl_trans (bl_alloc bb.out _) b_)
  have Lc := Lib.hid pr.log
  clear pr
  clear b_ zl0 zl1
  have zX0 : ∀ o, (w6.alloc o).cell? ⟨w3.heap.size, 0, none⟩ = some (.slice A n c) := fun o => (KX.out.alloc o).cell 0 _ rfl
  have zX1 : ∀ o, (w6.alloc o).cell? ⟨w3.heap.size, 1, none⟩ = some (.slice B m d) := fun o => (KX.out.alloc o).cell 1 _ rfl
  go_wp2_with fail
  refine (refmark l _ _ _ _ _ _ _ _ _ _ (HL.out.alloc _) (by omega) (by omega) Ek.out Nk.out Mk.out).mono ?_
  rintro e w7 ⟨A7, c7, B7, d7, rfl, lg, b_⟩
  replace HL := Lib.hid ((HL.out.alloc _).below b_)
  replace La := Lib.hid ((La.out.alloc _).below b_)
  replace Lb := Lib.hid ((Lb.out.alloc _).below b_)
  replace Lc := Lib.hid ((Lc.out.alloc _).below b_)
  replace Kl := Lib.hid ((Kl.out.alloc _).below b_)
  replace KX := Lib.hid ((KX.out.alloc _).below b_)
  replace Ka := Lib.hid ((Ka.out.alloc _).below b_)
  replace Kb := Lib.hid ((Kb.out.alloc _).below b_)
  have Kc := Lib.hid ((Blk.new w6 25 #[.slice A6 k_n c6, .slice B6 k_m d6]).below b_)
  replace bb := Lib.hid (bl_trans (bl_alloc bb.out _) b_)
  have Ld := Lib.hid lg
  clear lg
  clear b_ zX0 zX1
  have zl0 : ∀ o, (w7.alloc o).cell? ⟨w.heap.size, 0, none⟩ = some (.slice A n c) := fun o => (Kl.out.alloc o).cell 0 _ rfl
  have zl1 : ∀ o, (w7.alloc o).cell? ⟨w.heap.size, 1, none⟩ = some (.slice B m d) := fun o => (Kl.out.alloc o).cell 1 _ rfl
  go_wp2_with fail
  refine (HS.out.back l _ _ _ _ _ _ _ _ _ _ (HL.out.alloc _) (by omega) (by omega) Eb.out Nb.out Mb.out).mono ?_
  rintro e w8 ⟨A8, c8, B8, d8, rfl, pr⟩
  have b_ := pr.ol.2
  replace HL := Lib.hid ((HL.out.alloc _).below b_)
  replace La := Lib.hid ((La.out.alloc _).below b_)
  replace Lb := Lib.hid ((Lb.out.alloc _).below b_)
  replace Lc := Lib.hid ((Lc.out.alloc _).below b_)
  replace Ld := Lib.hid ((Ld.out.alloc _).below b_)
  replace Kl := Lib.hid ((Kl.out.alloc _).below b_)
  replace KX := Lib.hid ((KX.out.alloc _).below b_)
  replace Ka := Lib.hid ((Ka.out.alloc _).below b_)
  replace Kb := Lib.hid ((Kb.out.alloc _).below b_)
  replace Kc := Lib.hid ((Kc.out.alloc _).below b_)
  have Kd := Lib.hid ((Blk.new w7 30 #[.slice A7 k_n c7, .slice B7 k_m d7]).below b_)
  replace bb := Lib.hid (bl_trans (bl_alloc bb.out _) b_)
  have Lp := Lib.hid pr.log
  clear pr
  clear b_ zl0 zl1
  have zX0 : ∀ o, (w8.alloc o).cell? ⟨w3.heap.size, 0, none⟩ = some (.slice A n c) := fun o => (KX.out.alloc o).cell 0 _ rfl
  have zX1 : ∀ o, (w8.alloc o).cell? ⟨w3.heap.size, 1, none⟩ = some (.slice B m d) := fun o => (KX.out.alloc o).cell 1 _ rfl
  go_wp2_with fail
  refine (refback l _ _ _ _ _ _ false _ _ _ _ (HL.out.alloc _) (by omega) (by omega) (show bkS l false = _ from Eb.out) Nb.out Mb.out).mono ?_
  rintro e w9 ⟨A9, c9, B9, d9, rfl, lg, b_⟩
  replace HL := Lib.hid ((HL.out.alloc _).below b_)
  replace La := Lib.hid ((La.out.alloc _).below b_)
  replace Lb := Lib.hid ((Lb.out.alloc _).below b_)
  replace Lc := Lib.hid ((Lc.out.alloc _).below b_)
  replace Ld := Lib.hid ((Ld.out.alloc _).below b_)
  replace Lp := Lib.hid ((Lp.out.alloc _).below b_)
  replace Kl := Lib.hid ((Kl.out.alloc _).below b_)
  replace KX := Lib.hid ((KX.out.alloc _).below b_)
  replace Ka := Lib.hid ((Ka.out.alloc _).below b_)
  replace Kb := Lib.hid ((Kb.out.alloc _).below b_)
  replace Kc := Lib.hid ((Kc.out.alloc _).below b_)
  replace Kd := Lib.hid ((Kd.out.alloc _).below b_)
  have Kp := Lib.hid ((Blk.new w8 25 #[.slice A8 b_n c8, .slice B8 b_m d8]).below b_)
  replace bb := Lib.hid (bl_trans (bl_alloc bb.out _) b_)
  have Lq := Lib.hid lg
  clear lg
  clear b_ zX0 zX1
  have zl0 : ∀ o, (w9.alloc o).cell? ⟨w.heap.size, 0, none⟩ = some (.slice A n c) := fun o => (Kl.out.alloc o).cell 0 _ rfl
  have zl1 : ∀ o, (w9.alloc o).cell? ⟨w.heap.size, 1, none⟩ = some (.slice B m d) := fun o => (Kl.out.alloc o).cell 1 _ rfl
  go_wp2_with fail
  refine (HS.out.keep l _ _ _ _ _ _ _ _ _ _ (HL.out.alloc _) (by omega) (by omega) Eq.out Nq.out Mq.out).mono ?_
  rintro e w10 ⟨A10, c10, B10, d10, rfl, pr⟩
  have b_ := pr.ol.2
  replace HL := Lib.hid ((HL.out.alloc _).below b_)
  replace La := Lib.hid ((La.out.alloc _).below b_)
  replace Lb := Lib.hid ((Lb.out.alloc _).below b_)
  replace Lc := Lib.hid ((Lc.out.alloc _).below b_)
  replace Ld := Lib.hid ((Ld.out.alloc _).below b_)
  replace Lp := Lib.hid ((Lp.out.alloc _).below b_)
  replace Lq := Lib.hid ((Lq.out.alloc _).below b_)
  replace Kl := Lib.hid ((Kl.out.alloc _).below b_)
  replace KX := Lib.hid ((KX.out.alloc _).below b_)
  replace Ka := Lib.hid ((Ka.out.alloc _).below b_)
  replace Kb := Lib.hid ((Kb.out.alloc _).below b_)
  replace Kc := Lib.hid ((Kc.out.alloc _).below b_)
  replace Kd := Lib.hid ((Kd.out.alloc _).below b_)
  replace Kp := Lib.hid ((Kp.out.alloc _).below b_)
  have Kq := Lib.hid ((Blk.new w9 30 #[.slice A9 b_n c9, .slice B9 b_m d9]).below b_)
  replace bb := Lib.hid (bl_trans (bl_alloc bb.out _) b_)
  have Lk := Lib.hid pr.log
  clear pr
  clear b_ zl0 zl1
  have zX0 : ∀ o, (w10.alloc o).cell? ⟨w3.heap.size, 0, none⟩ = some (.slice A n c) := fun o => (KX.out.alloc o).cell 0 _ rfl
  have zX1 : ∀ o, (w10.alloc o).cell? ⟨w3.heap.size, 1, none⟩ = some (.slice B m d) := fun o => (KX.out.alloc o).cell 1 _ rfl
  go_wp2_with fail
  refine (refback l _ _ _ _ _ _ true _ _ _ _ (HL.out.alloc _) (by omega) (by omega) (show bkS l true = _ from Eq.out) Nq.out Mq.out).mono ?_
  rintro e w11 ⟨A11, c11, B11, d11, rfl, lg, b_⟩
  replace HL := Lib.hid ((HL.out.alloc _).below b_)
  replace La := Lib.hid ((La.out.alloc _).below b_)
  replace Lb := Lib.hid ((Lb.out.alloc _).below b_)
  replace Lc := Lib.hid ((Lc.out.alloc _).below b_)
  replace Ld := Lib.hid ((Ld.out.alloc _).below b_)
  replace Lp := Lib.hid ((Lp.out.alloc _).below b_)
  replace Lq := Lib.hid ((Lq.out.alloc _).below b_)
  replace Lk := Lib.hid ((Lk.out.alloc _).below b_)
  replace Kl := Lib.hid ((Kl.out.alloc _).below b_)
  replace KX := Lib.hid ((KX.out.alloc _).below b_)
  replace Ka := Lib.hid ((Ka.out.alloc _).below b_)
  replace Kb := Lib.hid ((Kb.out.alloc _).below b_)
  replace Kc := Lib.hid ((Kc.out.alloc _).below b_)
  replace Kd := Lib.hid ((Kd.out.alloc _).below b_)
  replace Kp := Lib.hid ((Kp.out.alloc _).below b_)
  replace Kq := Lib.hid ((Kq.out.alloc _).below b_)
  have Kk := Lib.hid ((Blk.new w10 25 #[.slice A10 q_n c10, .slice B10 q_m d10]).below b_)
  replace bb := Lib.hid (bl_trans (bl_alloc bb.out _) b_)
  have Ln := Lib.hid lg
  clear lg
  clear b_ zX0 zX1
  have zl0 : ∀ o, (w11.alloc o).cell? ⟨w.heap.size, 0, none⟩ = some (.slice A n c) := fun o => (Kl.out.alloc o).cell 0 _ rfl
  have zl1 : ∀ o, (w11.alloc o).cell? ⟨w.heap.size, 1, none⟩ = some (.slice B m d) := fun o => (Kl.out.alloc o).cell 1 _ rfl
  go_wp2_with fail
  refine (HS.out.get l _ _ _ _ _ _ ce _ (gv, gb) (HL.out.alloc _) (by omega) (by omega) EG.out).mono ?_
  rintro e w12 ⟨rfl, b_⟩
  replace HL := Lib.hid ((HL.out.alloc _).below b_)
  replace La := Lib.hid ((La.out.alloc _).below b_)
  replace Lb := Lib.hid ((Lb.out.alloc _).below b_)
  replace Lc := Lib.hid ((Lc.out.alloc _).below b_)
  replace Ld := Lib.hid ((Ld.out.alloc _).below b_)
  replace Lp := Lib.hid ((Lp.out.alloc _).below b_)
  replace Lq := Lib.hid ((Lq.out.alloc _).below b_)
  replace Lk := Lib.hid ((Lk.out.alloc _).below b_)
  replace Ln := Lib.hid ((Ln.out.alloc _).below b_)
  replace Kl := Lib.hid ((Kl.out.alloc _).below b_)
  replace KX := Lib.hid ((KX.out.alloc _).below b_)
  replace Ka := Lib.hid ((Ka.out.alloc _).below b_)
  replace Kb := Lib.hid ((Kb.out.alloc _).below b_)
  replace Kc := Lib.hid ((Kc.out.alloc _).below b_)
  replace Kd := Lib.hid ((Kd.out.alloc _).below b_)
  replace Kp := Lib.hid ((Kp.out.alloc _).below b_)
  replace Kq := Lib.hid ((Kq.out.alloc _).below b_)
  replace Kk := Lib.hid ((Kk.out.alloc _).below b_)
  have Kn := Lib.hid ((Blk.new w11 30 #[.slice A11 q_n c11, .slice B11 q_m d11]).below b_)
  replace bb := Lib.hid (bl_trans (bl_alloc bb.out _) b_)
  clear b_ zl0 zl1
  have zX0 := KX.out.cell 0 _ rfl
  have zX1 := KX.out.cell 1 _ rfl
  go_wp2_with fail
  refine (right_g l _ _ _ _ _ _ _ br HL.out (by omega) (by omega) EBR.out).mono ?_
  rintro e w13 ⟨rfl, b_⟩
  replace b_ := b_.below
  replace HL := Lib.hid (HL.out.below b_)
  replace La := Lib.hid (La.out.below b_)
  replace Lb := Lib.hid (Lb.out.below b_)
  replace Lc := Lib.hid (Lc.out.below b_)
  replace Ld := Lib.hid (Ld.out.below b_)
  replace Lp := Lib.hid (Lp.out.below b_)
  replace Lq := Lib.hid (Lq.out.below b_)
  replace Lk := Lib.hid (Lk.out.below b_)
  replace Ln := Lib.hid (Ln.out.below b_)
  replace Kl := Lib.hid (Kl.out.below b_)
  replace KX := Lib.hid (KX.out.below b_)
  replace Ka := Lib.hid (Ka.out.below b_)
  replace Kb := Lib.hid (Kb.out.below b_)
  replace Kc := Lib.hid (Kc.out.below b_)
  replace Kd := Lib.hid (Kd.out.below b_)
  replace Kp := Lib.hid (Kp.out.below b_)
  replace Kq := Lib.hid (Kq.out.below b_)
  replace Kk := Lib.hid (Kk.out.below b_)
  replace Kn := Lib.hid (Kn.out.below b_)
  replace bb := Lib.hid (bl_trans bb.out b_)
  clear b_ zX0 zX1
  cases br with
  | false =>
    have H0 : Hid (gv = 0 ∧ gb = false ∧ la = []) := Lib.hid (by
      have h2 := EG.out
      have h3 := ELA.out
      unfold getS at h2; unfold lastS at h3
      rw [EBR.out] at h2 h3
      injection h2 with h4 h5
      exact ⟨h4.symm, h5.symm, h3.symm⟩)
    obtain ⟨rfl, rfl, rfl⟩ := H0.out
    obtain rfl : lq = 0 := ELQ.out.symm
    clear H0
    have KEEP : Hid (∀ W, Below w13.heap.size w13 W → W.cell? ⟨w.heap.size, 0, none⟩ = some (.slice A n c) ∧ W.cell? ⟨w.heap.size, 1, none⟩ = some (.slice B m d) ∧ W.cell? ⟨w4.heap.size, 0, none⟩ = some (.slice A4 p_n c4) ∧ W.cell? ⟨w4.heap.size, 1, none⟩ = some (.slice B4 p_m d4) ∧ W.cell? ⟨w5.heap.size, 0, none⟩ = some (.slice A5 p_n c5) ∧ W.cell? ⟨w5.heap.size, 1, none⟩ = some (.slice B5 p_m d5) ∧ W.cell? ⟨w6.heap.size, 0, none⟩ = some (.slice A6 k_n c6) ∧ W.cell? ⟨w6.heap.size, 1, none⟩ = some (.slice B6 k_m d6) ∧ W.cell? ⟨w7.heap.size, 0, none⟩ = some (.slice A7 k_n c7) ∧ W.cell? ⟨w7.heap.size, 1, none⟩ = some (.slice B7 k_m d7) ∧ W.cell? ⟨w8.heap.size, 0, none⟩ = some (.slice A8 b_n c8) ∧ W.cell? ⟨w8.heap.size, 1, none⟩ = some (.slice B8 b_m d8) ∧ W.cell? ⟨w9.heap.size, 0, none⟩ = some (.slice A9 b_n c9) ∧ W.cell? ⟨w9.heap.size, 1, none⟩ = some (.slice B9 b_m d9) ∧ W.cell? ⟨w10.heap.size, 0, none⟩ = some (.slice A10 q_n c10) ∧ W.cell? ⟨w10.heap.size, 1, none⟩ = some (.slice B10 q_m d10) ∧ W.cell? ⟨w11.heap.size, 0, none⟩ = some (.slice A11 q_n c11) ∧ W.cell? ⟨w11.heap.size, 1, none⟩ = some (.slice B11 q_m d11)) := Lib.hid (fun W h => ⟨(Kl.out.below h).cell 0 _ rfl, (Kl.out.below h).cell 1 _ rfl, (Ka.out.below h).cell 0 _ rfl, (Ka.out.below h).cell 1 _ rfl, (Kb.out.below h).cell 0 _ rfl, (Kb.out.below h).cell 1 _ rfl, (Kc.out.below h).cell 0 _ rfl, (Kc.out.below h).cell 1 _ rfl, (Kd.out.below h).cell 0 _ rfl, (Kd.out.below h).cell 1 _ rfl, (Kp.out.below h).cell 0 _ rfl, (Kp.out.below h).cell 1 _ rfl, (Kq.out.below h).cell 0 _ rfl, (Kq.out.below h).cell 1 _ rfl, (Kk.out.below h).cell 0 _ rfl, (Kk.out.below h).cell 1 _ rfl, (Kn.out.below h).cell 0 _ rfl, (Kn.out.below h).cell 1 _ rfl⟩)
    have bq : Hid (Below w13.heap.size w13 w13.drew) := Lib.hid (Below.refl _ _).drew
    go_wp2_with fail
    simp only [List.append_eq, List.cons_append, List.nil_append]
    go_region_held3 (fun w' => w'.cell? ⟨w.heap.size, 0, none⟩ = some (.slice A n c) ∧ w'.cell? ⟨w.heap.size, 1, none⟩ = some (.slice B m d) ∧ w'.cell? ⟨w4.heap.size, 0, none⟩ = some (.slice A4 p_n c4) ∧ w'.cell? ⟨w4.heap.size, 1, none⟩ = some (.slice B4 p_m d4) ∧ w'.cell? ⟨w5.heap.size, 0, none⟩ = some (.slice A5 p_n c5) ∧ w'.cell? ⟨w5.heap.size, 1, none⟩ = some (.slice B5 p_m d5) ∧ w'.cell? ⟨w6.heap.size, 0, none⟩ = some (.slice A6 k_n c6) ∧ w'.cell? ⟨w6.heap.size, 1, none⟩ = some (.slice B6 k_m d6) ∧ w'.cell? ⟨w7.heap.size, 0, none⟩ = some (.slice A7 k_n c7) ∧ w'.cell? ⟨w7.heap.size, 1, none⟩ = some (.slice B7 k_m d7) ∧ w'.cell? ⟨w8.heap.size, 0, none⟩ = some (.slice A8 b_n c8) ∧ w'.cell? ⟨w8.heap.size, 1, none⟩ = some (.slice B8 b_m d8) ∧ w'.cell? ⟨w9.heap.size, 0, none⟩ = some (.slice A9 b_n c9) ∧ w'.cell? ⟨w9.heap.size, 1, none⟩ = some (.slice B9 b_m d9) ∧ w'.cell? ⟨w10.heap.size, 0, none⟩ = some (.slice A10 q_n c10) ∧ w'.cell? ⟨w10.heap.size, 1, none⟩ = some (.slice B10 q_m d10) ∧ w'.cell? ⟨w11.heap.size, 0, none⟩ = some (.slice A11 q_n c11) ∧ w'.cell? ⟨w11.heap.size, 1, none⟩ = some (.slice B11 q_m d11)) (exact KEEP.out _ bq.out)
      (first
      | (go_at_call 23
         refine (HS.out.right l _ _ _ _ _ _ _ _ (HL.out.below bq.out) (by omega) (by omega) EBR.out).mono ?_
         rintro e wq ⟨rfl, b_⟩
         replace bq := Lib.hid (bl_trans bq.out b_)
         clear b_)
      | (go_at_call 11
         refine (ref_c _ _ _ _ _ _ _).mono ?_
         rintro e wq ⟨rfl, b_⟩
         replace bq := Lib.hid (bl_trans bq.out b_)
         clear b_)
      | (go_at_call 24
         refine (same_b p_l p_l _ _ _ _ _ _ _ _ _ _ _ _ _ true (La.out.below bq.out) (Lb.out.below bq.out) (by omega) (by omega) (by omega) (by omega) (decide_eq_true rfl)).mono ?_
         rintro e wq ⟨rfl, b_⟩
         replace bq := Lib.hid (bl_trans bq.out b_)
         clear b_
         clear La Lb)
      | (go_at_call 24
         refine (same_b k_l k_l _ _ _ _ _ _ _ _ _ _ _ _ _ true (Lc.out.below bq.out) (Ld.out.below bq.out) (by omega) (by omega) (by omega) (by omega) (decide_eq_true rfl)).mono ?_
         rintro e wq ⟨rfl, b_⟩
         replace bq := Lib.hid (bl_trans bq.out b_)
         clear b_
         clear Lc Ld)
      | (go_at_call 24
         refine (same_b b_l b_l _ _ _ _ _ _ _ _ _ _ _ _ _ true (Lp.out.below bq.out) (Lq.out.below bq.out) (by omega) (by omega) (by omega) (by omega) (decide_eq_true rfl)).mono ?_
         rintro e wq ⟨rfl, b_⟩
         replace bq := Lib.hid (bl_trans bq.out b_)
         clear b_
         clear Lp Lq)
      | (go_at_call 24
         refine (same_b q_l q_l _ _ _ _ _ _ _ _ _ _ _ _ _ true (Lk.out.below bq.out) (Ln.out.below bq.out) (by omega) (by omega) (by omega) (by omega) (decide_eq_true rfl)).mono ?_
         rintro e wq ⟨rfl, b_⟩
         replace bq := Lib.hid (bl_trans bq.out b_)
         clear b_
         clear Lk Ln)
      | (go_at_call 26
         refine (HS.out.last l _ _ _ _ _ _ _ [] 0 (HL.out.below bq.out) (by omega) (by omega) ELA.out ELQ.out).mono ?_
         rintro e wq ⟨Al, dl, rfl, sl, b_⟩
         replace bq := Lib.hid (bl_trans bq.out b_)
         clear b_)
      | (go_at_call 25
         refine (list_b [] [] _ _ _ _ _ _ _ true sl Rd.none_ (by omega) (by omega) (decide_eq_true rfl)).mono ?_
         rintro e wq ⟨rfl, b_⟩
         replace bq := Lib.hid (bl_trans bq.out b_)
         clear b_)
      | (go_at_call 10
         refine (awake_any HS.out _).mono ?_
         rintro e wq ⟨rfl, b_⟩
         replace bq := Lib.hid (bl_trans bq.out b_)
         clear b_))
    replace bb := Lib.hid (bl_trans bb.out bq.out)
    go_wp2
    go_ret
    exact ⟨rfl, bb.out⟩
  | true =>
    have EG2 : Hid (orNo (getL l.list ce) = (gv, gb)) := Lib.hid (by have h2 := EG.out; unfold getS at h2; rw [if_pos EBR.out] at h2; exact h2)
    have EL2 : Hid (lastL l.list = la) := Lib.hid (by have h2 := ELA.out; unfold lastS at h2; rw [if_pos EBR.out] at h2; exact h2)
    have q5 : (gv == gv) = true := by simp
    have q6 : (gb == gb) = true := by simp
    have EON : Hid (l.list.all oneB = true) := Lib.hid ((right_parts l).1 EBR.out).2.1
    have zX0 := KX.out.cell 0 _ rfl
    have zX1 := KX.out.cell 1 _ rfl
    go_wp2_with fail
    refine (refget l _ _ _ _ _ _ ce _ (gv, gb) HL.out (by omega) EG2.out).mono ?_
    rintro e u1 ⟨rfl, b_⟩
    replace HL := Lib.hid (HL.out.below b_)
    replace La := Lib.hid (La.out.below b_)
    replace Lb := Lib.hid (Lb.out.below b_)
    replace Lc := Lib.hid (Lc.out.below b_)
    replace Ld := Lib.hid (Ld.out.below b_)
    replace Lp := Lib.hid (Lp.out.below b_)
    replace Lq := Lib.hid (Lq.out.below b_)
    replace Lk := Lib.hid (Lk.out.below b_)
    replace Ln := Lib.hid (Ln.out.below b_)
    replace Kl := Lib.hid (Kl.out.below b_)
    replace KX := Lib.hid (KX.out.below b_)
    replace Ka := Lib.hid (Ka.out.below b_)
    replace Kb := Lib.hid (Kb.out.below b_)
    replace Kc := Lib.hid (Kc.out.below b_)
    replace Kd := Lib.hid (Kd.out.below b_)
    replace Kp := Lib.hid (Kp.out.below b_)
    replace Kq := Lib.hid (Kq.out.below b_)
    replace Kk := Lib.hid (Kk.out.below b_)
    replace Kn := Lib.hid (Kn.out.below b_)
    replace bb := Lib.hid (bl_trans bb.out b_)
    clear b_ zX0 zX1
    have zX0 := KX.out.cell 0 _ rfl
    have zX1 := KX.out.cell 1 _ rfl
    go_wp2_with fail
    refine (reflast l _ _ _ _ _ _ _ la lq HL.out (by omega) EON.out EL2.out ELQ.out).mono ?_
    rintro e u2 ⟨Am, dm, rfl, sm, b_⟩
    clear KX
    replace HL := Lib.hid (HL.out.below b_)
    replace La := Lib.hid (La.out.below b_)
    replace Lb := Lib.hid (Lb.out.below b_)
    replace Lc := Lib.hid (Lc.out.below b_)
    replace Ld := Lib.hid (Ld.out.below b_)
    replace Lp := Lib.hid (Lp.out.below b_)
    replace Lq := Lib.hid (Lq.out.below b_)
    replace Lk := Lib.hid (Lk.out.below b_)
    replace Ln := Lib.hid (Ln.out.below b_)
    replace Kl := Lib.hid (Kl.out.below b_)
    replace Ka := Lib.hid (Ka.out.below b_)
    replace Kb := Lib.hid (Kb.out.below b_)
    replace Kc := Lib.hid (Kc.out.below b_)
    replace Kd := Lib.hid (Kd.out.below b_)
    replace Kp := Lib.hid (Kp.out.below b_)
    replace Kq := Lib.hid (Kq.out.below b_)
    replace Kk := Lib.hid (Kk.out.below b_)
    replace Kn := Lib.hid (Kn.out.below b_)
    replace bb := Lib.hid (bl_trans bb.out b_)
    have RM := Lib.hid sm
    clear sm
    clear b_ zX0 zX1
    have KEEP : Hid (∀ W, Below u2.heap.size u2 W → W.cell? ⟨w.heap.size, 0, none⟩ = some (.slice A n c) ∧ W.cell? ⟨w.heap.size, 1, none⟩ = some (.slice B m d) ∧ W.cell? ⟨w4.heap.size, 0, none⟩ = some (.slice A4 p_n c4) ∧ W.cell? ⟨w4.heap.size, 1, none⟩ = some (.slice B4 p_m d4) ∧ W.cell? ⟨w5.heap.size, 0, none⟩ = some (.slice A5 p_n c5) ∧ W.cell? ⟨w5.heap.size, 1, none⟩ = some (.slice B5 p_m d5) ∧ W.cell? ⟨w6.heap.size, 0, none⟩ = some (.slice A6 k_n c6) ∧ W.cell? ⟨w6.heap.size, 1, none⟩ = some (.slice B6 k_m d6) ∧ W.cell? ⟨w7.heap.size, 0, none⟩ = some (.slice A7 k_n c7) ∧ W.cell? ⟨w7.heap.size, 1, none⟩ = some (.slice B7 k_m d7) ∧ W.cell? ⟨w8.heap.size, 0, none⟩ = some (.slice A8 b_n c8) ∧ W.cell? ⟨w8.heap.size, 1, none⟩ = some (.slice B8 b_m d8) ∧ W.cell? ⟨w9.heap.size, 0, none⟩ = some (.slice A9 b_n c9) ∧ W.cell? ⟨w9.heap.size, 1, none⟩ = some (.slice B9 b_m d9) ∧ W.cell? ⟨w10.heap.size, 0, none⟩ = some (.slice A10 q_n c10) ∧ W.cell? ⟨w10.heap.size, 1, none⟩ = some (.slice B10 q_m d10) ∧ W.cell? ⟨w11.heap.size, 0, none⟩ = some (.slice A11 q_n c11) ∧ W.cell? ⟨w11.heap.size, 1, none⟩ = some (.slice B11 q_m d11)) := Lib.hid (fun W h => ⟨(Kl.out.below h).cell 0 _ rfl, (Kl.out.below h).cell 1 _ rfl, (Ka.out.below h).cell 0 _ rfl, (Ka.out.below h).cell 1 _ rfl, (Kb.out.below h).cell 0 _ rfl, (Kb.out.below h).cell 1 _ rfl, (Kc.out.below h).cell 0 _ rfl, (Kc.out.below h).cell 1 _ rfl, (Kd.out.below h).cell 0 _ rfl, (Kd.out.below h).cell 1 _ rfl, (Kp.out.below h).cell 0 _ rfl, (Kp.out.below h).cell 1 _ rfl, (Kq.out.below h).cell 0 _ rfl, (Kq.out.below h).cell 1 _ rfl, (Kk.out.below h).cell 0 _ rfl, (Kk.out.below h).cell 1 _ rfl, (Kn.out.below h).cell 0 _ rfl, (Kn.out.below h).cell 1 _ rfl⟩)
    have bq : Hid (Below u2.heap.size u2 u2.drew) := Lib.hid (Below.refl _ _).drew
    go_wp2_with fail
    simp only [List.append_eq, List.cons_append, List.nil_append]
    go_region_held3 (fun w' => w'.cell? ⟨w.heap.size, 0, none⟩ = some (.slice A n c) ∧ w'.cell? ⟨w.heap.size, 1, none⟩ = some (.slice B m d) ∧ w'.cell? ⟨w4.heap.size, 0, none⟩ = some (.slice A4 p_n c4) ∧ w'.cell? ⟨w4.heap.size, 1, none⟩ = some (.slice B4 p_m d4) ∧ w'.cell? ⟨w5.heap.size, 0, none⟩ = some (.slice A5 p_n c5) ∧ w'.cell? ⟨w5.heap.size, 1, none⟩ = some (.slice B5 p_m d5) ∧ w'.cell? ⟨w6.heap.size, 0, none⟩ = some (.slice A6 k_n c6) ∧ w'.cell? ⟨w6.heap.size, 1, none⟩ = some (.slice B6 k_m d6) ∧ w'.cell? ⟨w7.heap.size, 0, none⟩ = some (.slice A7 k_n c7) ∧ w'.cell? ⟨w7.heap.size, 1, none⟩ = some (.slice B7 k_m d7) ∧ w'.cell? ⟨w8.heap.size, 0, none⟩ = some (.slice A8 b_n c8) ∧ w'.cell? ⟨w8.heap.size, 1, none⟩ = some (.slice B8 b_m d8) ∧ w'.cell? ⟨w9.heap.size, 0, none⟩ = some (.slice A9 b_n c9) ∧ w'.cell? ⟨w9.heap.size, 1, none⟩ = some (.slice B9 b_m d9) ∧ w'.cell? ⟨w10.heap.size, 0, none⟩ = some (.slice A10 q_n c10) ∧ w'.cell? ⟨w10.heap.size, 1, none⟩ = some (.slice B10 q_m d10) ∧ w'.cell? ⟨w11.heap.size, 0, none⟩ = some (.slice A11 q_n c11) ∧ w'.cell? ⟨w11.heap.size, 1, none⟩ = some (.slice B11 q_m d11)) (exact KEEP.out _ bq.out)
      (first
      | (go_at_call 23
         refine (HS.out.right l _ _ _ _ _ _ _ _ (HL.out.below bq.out) (by omega) (by omega) EBR.out).mono ?_
         rintro e wq ⟨rfl, b_⟩
         replace bq := Lib.hid (bl_trans bq.out b_)
         clear b_)
      | (go_at_call 11
         refine (ref_c _ _ _ _ _ _ _).mono ?_
         rintro e wq ⟨rfl, b_⟩
         replace bq := Lib.hid (bl_trans bq.out b_)
         clear b_)
      | (go_at_call 24
         refine (same_b p_l p_l _ _ _ _ _ _ _ _ _ _ _ _ _ true (La.out.below bq.out) (Lb.out.below bq.out) (by omega) (by omega) (by omega) (by omega) (decide_eq_true rfl)).mono ?_
         rintro e wq ⟨rfl, b_⟩
         replace bq := Lib.hid (bl_trans bq.out b_)
         clear b_
         clear La Lb)
      | (go_at_call 24
         refine (same_b k_l k_l _ _ _ _ _ _ _ _ _ _ _ _ _ true (Lc.out.below bq.out) (Ld.out.below bq.out) (by omega) (by omega) (by omega) (by omega) (decide_eq_true rfl)).mono ?_
         rintro e wq ⟨rfl, b_⟩
         replace bq := Lib.hid (bl_trans bq.out b_)
         clear b_
         clear Lc Ld)
      | (go_at_call 24
         refine (same_b b_l b_l _ _ _ _ _ _ _ _ _ _ _ _ _ true (Lp.out.below bq.out) (Lq.out.below bq.out) (by omega) (by omega) (by omega) (by omega) (decide_eq_true rfl)).mono ?_
         rintro e wq ⟨rfl, b_⟩
         replace bq := Lib.hid (bl_trans bq.out b_)
         clear b_
         clear Lp Lq)
      | (go_at_call 24
         refine (same_b q_l q_l _ _ _ _ _ _ _ _ _ _ _ _ _ true (Lk.out.below bq.out) (Ln.out.below bq.out) (by omega) (by omega) (by omega) (by omega) (decide_eq_true rfl)).mono ?_
         rintro e wq ⟨rfl, b_⟩
         replace bq := Lib.hid (bl_trans bq.out b_)
         clear b_
         clear Lk Ln)
      | (go_at_call 26
         refine (HS.out.last l _ _ _ _ _ _ _ la lq (HL.out.below bq.out) (by omega) (by omega) ELA.out ELQ.out).mono ?_
         rintro e wq ⟨Al, dl, rfl, sl, b_⟩
         replace bq := Lib.hid (bl_trans bq.out b_)
         clear b_)
      | (go_at_call 25
         refine (list_b la la _ _ _ _ _ _ _ true sl (RM.out.below bq.out) (by omega) (by omega) (decide_eq_true rfl)).mono ?_
         rintro e wq ⟨rfl, b_⟩
         replace bq := Lib.hid (bl_trans bq.out b_)
         clear b_)
      | (go_at_call 10
         refine (awake_any HS.out _).mono ?_
         rintro e wq ⟨rfl, b_⟩
         replace bq := Lib.hid (bl_trans bq.out b_)
         clear b_))
    replace bb := Lib.hid (bl_trans bb.out bq.out)
    go_wp2
    go_ret
    exact ⟨rfl, bb.out⟩
end Go.Proofs.Ytjmilnfemjnhoaa.Writes
