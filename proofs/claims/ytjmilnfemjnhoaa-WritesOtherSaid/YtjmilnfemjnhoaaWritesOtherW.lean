/-
  THE WALK OF THE LAW WritesOther.
-/
import Derived.Test.YtjmilnfemjnhoaaWritesAwake
import Derived.Deep.RegionHeld3
namespace Go.Proofs.Ytjmilnfemjnhoaa.Writes
open Go.ChangeShapes Go.WideShapes Go.ChangeAt Go.RowKit Mem
open Heap (Write wc ws ws_len vB at_write)

set_option maxRecDepth 100000 in
set_option maxHeartbeats 4000000 in
theorem other_walk (S : Said) (A : Option Addr) (n c : Nat) (B : Option Addr) (m d : Nat) (l : Log) (x : Write) (ce : Int) (w : World) (hl : LogAt w A n c B m d l) :
    Calls Try.prog 8 #[.agg #[.slice A n c, .slice B m d], .agg #[.int .i64 x.cell, .int .i64 x.value], .int .i64 ce] w (RetB w true) := by
  have HS := Lib.hid S
  clear S
  have HL := Lib.hid hl
  have LN := Lib.hid hl.ln
  have LM := Lib.hid hl.lm
  clear hl
  obtain ⟨cl, vl⟩ := x
  by_cases hsm : n ≤ 40 ∧ m ≤ 20
  case neg =>
    have HSM : Hid ((decide (n ≤ 40) && decide (m ≤ 20)) = false) := Lib.hid (by rw [Bool.and_eq_false_iff]; simp; omega)
    clear hsm
    go_enter Try.func8, Try.ntmps8
    go_wp2_with fail
    refine (small_b _ _ _ _ _ _ _ false HSM.out).mono ?_
    rintro e v1 ⟨rfl, b1⟩
    go_wp2_with fail
    refine (awake_any HS.out _).mono ?_
    rintro e v2 ⟨rfl, b2⟩
    go_wp2
    go_ret
    exact ⟨rfl, bl_trans (bl_trans (bl_alloc (bl_alloc (Below.refl _ _) _) _) b1) b2⟩
  obtain ⟨hn40, hm20⟩ := hsm
  have HSM : Hid ((decide (n ≤ 40) && decide (m ≤ 20)) = true) := Lib.hid (by simp [hn40, hm20])
  obtain ⟨⟨p_l, p_e⟩, h⟩ : ∃ y, putS l ⟨cl, vl⟩ = y := ⟨_, rfl⟩
  obtain ⟨p_n, hn_⟩ : ∃ y, p_l.list.length = y := ⟨_, rfl⟩
  obtain ⟨p_m, hm_⟩ : ∃ y, p_l.marks.length = y := ⟨_, rfl⟩
  have p_b : p_n ≤ 41 ∧ p_m ≤ 41 := by have h9 := put_len l ⟨cl, vl⟩; rw [h] at h9; have h8 := h9.1; have h7 := h9.2; rw [hn_] at h8; rw [hm_] at h7; have := LN.out; have := LM.out; omega
  have Ep := Lib.hid h
  have Np := Lib.hid hn_
  have Mp := Lib.hid hm_
  clear h hn_ hm_
  go_enter Try.func8, Try.ntmps8
  go_wp2_with fail
  have bb : Hid (Below w.heap.size w ((w.alloc (.cells #[.slice A n c, .slice B m d] 25)).alloc (.cells #[.int .i64 cl, .int .i64 vl] 27))) := Lib.hid (bl_alloc (bl_alloc (Below.refl _ _) _) _)
  replace HL := Lib.hid (HL.out.below bb.out)
  have Kl : Hid (Blk ((w.alloc (.cells #[.slice A n c, .slice B m d] 25)).alloc (.cells #[.int .i64 cl, .int .i64 vl] 27)) w.heap.size 25 #[.slice A n c, .slice B m d]) := Lib.hid ((Blk.new _ _ _).alloc _)
  have Kx : Hid (Blk ((w.alloc (.cells #[.slice A n c, .slice B m d] 25)).alloc (.cells #[.int .i64 cl, .int .i64 vl] 27)) (w.heap.size + 1) 27 #[.int .i64 cl, .int .i64 vl]) := Lib.hid (by have := Blk.new (w.alloc (.cells #[.slice A n c, .slice B m d] 25)) 27 #[.int .i64 cl, .int .i64 vl]; simpa using this)
  generalize (w.alloc (.cells #[.slice A n c, .slice B m d] 25)).alloc (.cells #[.int .i64 cl, .int .i64 vl] 27) = w1 at *
  refine (small_b _ _ _ _ _ _ _ true HSM.out).mono ?_
  rintro e w2 ⟨rfl, b_⟩
  replace HL := Lib.hid (HL.out.below b_)
  replace Kl := Lib.hid (Kl.out.below b_)
  replace Kx := Lib.hid (Kx.out.below b_)
  replace bb := Lib.hid (bl_trans bb.out b_)
  clear b_ 
  have zl0 := Kl.out.cell 0 _ rfl
  have zl1 := Kl.out.cell 1 _ rfl
  have zx0 := Kx.out.cell 0 _ rfl
  have zx1 := Kx.out.cell 1 _ rfl
  go_wp2_with fail
  refine (HS.out.put l _ _ _ _ _ _ _ _ _ _ _ _ HL.out (by omega) (by omega) Ep.out Np.out Mp.out).mono ?_
  rintro e w4 ⟨A4, c4, B4, d4, rfl, pr⟩
  have b_ := pr.ol.2
  replace HL := Lib.hid (HL.out.below b_)
  replace Kl := Lib.hid (Kl.out.below b_)
  replace Kx := Lib.hid (Kx.out.below b_)
  replace bb := Lib.hid (bl_trans bb.out b_)
  have La := Lib.hid pr.log
  clear pr
  clear b_ zl0 zl1 zx0 zx1
  by_cases he : p_e = 0
  · subst he
    obtain ⟨g1, g2, g3⟩ := other_law l p_l ⟨cl, vl⟩ Ep.out
    have qn : ((p_n : Int) == (n : Int) + 1) = true := by have h9 := Np.out; have h8 := LN.out; rw [g3, h8] at h9; simp; omega
    have G1 := Lib.hid g1
    clear g1 g3
    have zx0 : ∀ o, (w4.alloc o).cell? ⟨w.heap.size + 1, 0, none⟩ = some (.int .i64 cl) := fun o => (Kx.out.alloc o).cell 0 _ rfl
    have zx1 : ∀ o, (w4.alloc o).cell? ⟨w.heap.size + 1, 1, none⟩ = some (.int .i64 vl) := fun o => (Kx.out.alloc o).cell 1 _ rfl
    go_wp2_with fail
    refine (HS.out.get p_l _ _ _ _ _ _ cl _ (vl, true) (La.out.alloc _) (by omega) (by omega) G1.out).mono ?_
    rintro e w5 ⟨rfl, b_⟩
    replace HL := Lib.hid ((HL.out.alloc _).below b_)
    replace La := Lib.hid ((La.out.alloc _).below b_)
    replace Kl := Lib.hid ((Kl.out.alloc _).below b_)
    replace Kx := Lib.hid ((Kx.out.alloc _).below b_)
    have Ka := Lib.hid ((Blk.new w4 25 #[.slice A4 p_n c4, .slice B4 p_m d4]).below b_)
    replace bb := Lib.hid (bl_trans (bl_alloc bb.out _) b_)
    clear b_ zx0 zx1
    obtain ⟨⟨gv, gb⟩, hg⟩ : ∃ y, getS l ce = y := ⟨_, rfl⟩
    have EG := Lib.hid hg
    clear hg
    have zl0 := Kl.out.cell 0 _ rfl
    have zl1 := Kl.out.cell 1 _ rfl
    go_wp2_with fail
    refine (HS.out.get l _ _ _ _ _ _ ce _ (gv, gb) HL.out (by omega) (by omega) EG.out).mono ?_
    rintro e w6 ⟨rfl, b_⟩
    replace HL := Lib.hid (HL.out.below b_)
    replace La := Lib.hid (La.out.below b_)
    replace Kl := Lib.hid (Kl.out.below b_)
    replace Kx := Lib.hid (Kx.out.below b_)
    replace Ka := Lib.hid (Ka.out.below b_)
    replace bb := Lib.hid (bl_trans bb.out b_)
    clear b_ zl0 zl1
    by_cases hc : ce = cl
    · subst hc
      clear g2
      have za0 := Ka.out.cell 0 _ rfl
      have za1 := Ka.out.cell 1 _ rfl
      go_wp2_with fail
      refine (HS.out.get p_l _ _ _ _ _ _ ce _ (vl, true) La.out (by omega) (by omega) G1.out).mono ?_
      rintro e w7 ⟨rfl, b_⟩
      replace HL := Lib.hid (HL.out.below b_)
      replace La := Lib.hid (La.out.below b_)
      replace Kl := Lib.hid (Kl.out.below b_)
      replace Kx := Lib.hid (Kx.out.below b_)
      replace Ka := Lib.hid (Ka.out.below b_)
      replace bb := Lib.hid (bl_trans bb.out b_)
      clear b_ za0 za1
      have zx0 := Kx.out.cell 0 _ rfl
      have zx1 := Kx.out.cell 1 _ rfl
      have za0 := Ka.out.cell 0 _ rfl
      have za1 := Ka.out.cell 1 _ rfl
      have zl0 := Kl.out.cell 0 _ rfl
      have zl1 := Kl.out.cell 1 _ rfl
      go_wp2_with fail
      refine (awake_any HS.out _).mono ?_
      rintro e w8 ⟨rfl, b_⟩
      replace HL := Lib.hid (HL.out.below b_)
      replace La := Lib.hid (La.out.below b_)
      replace Kl := Lib.hid (Kl.out.below b_)
      replace Kx := Lib.hid (Kx.out.below b_)
      replace Ka := Lib.hid (Ka.out.below b_)
      replace bb := Lib.hid (bl_trans bb.out b_)
      clear b_ zx0 zx1 za0 za1 zl0 zl1
      go_wp2
      go_ret
      exact ⟨rfl, bb.out⟩
    · have G2 : Hid (getS p_l ce = (gv, gb)) := Lib.hid (by rw [g2 ce hc]; exact EG.out)
      have hc1 : (ce == cl) = false := beq_eq_false_iff_ne.2 hc
      have q5 : (gv == gv) = true := by simp
      have q6 : (gb == gb) = true := by simp
      clear g2 hc
      have za0 := Ka.out.cell 0 _ rfl
      have za1 := Ka.out.cell 1 _ rfl
      go_wp2_with fail
      refine (HS.out.get p_l _ _ _ _ _ _ ce _ (gv, gb) La.out (by omega) (by omega) G2.out).mono ?_
      rintro e w7 ⟨rfl, b_⟩
      replace HL := Lib.hid (HL.out.below b_)
      replace La := Lib.hid (La.out.below b_)
      replace Kl := Lib.hid (Kl.out.below b_)
      replace Kx := Lib.hid (Kx.out.below b_)
      replace Ka := Lib.hid (Ka.out.below b_)
      replace bb := Lib.hid (bl_trans bb.out b_)
      clear b_ za0 za1
      have zx0 := Kx.out.cell 0 _ rfl
      have zx1 := Kx.out.cell 1 _ rfl
      have za0 := Ka.out.cell 0 _ rfl
      have za1 := Ka.out.cell 1 _ rfl
      have zl0 := Kl.out.cell 0 _ rfl
      have zl1 := Kl.out.cell 1 _ rfl
      go_wp2_with fail
      refine (awake_any HS.out _).mono ?_
      rintro e w8 ⟨rfl, b_⟩
      replace HL := Lib.hid (HL.out.below b_)
      replace La := Lib.hid (La.out.below b_)
      replace Kl := Lib.hid (Kl.out.below b_)
      replace Kx := Lib.hid (Kx.out.below b_)
      replace Ka := Lib.hid (Ka.out.below b_)
      replace bb := Lib.hid (bl_trans bb.out b_)
      clear b_ zx0 zx1 za0 za1 zl0 zl1
      go_wp2
      go_ret
      exact ⟨rfl, bb.out⟩
  · have he1 : (p_e != 0) = true := by simpa using he
    have HM : Hid (p_l = l) := Lib.hid (put_err l p_l _ p_e Ep.out he)
    obtain rfl := HM.out
    clear he
    go_wp2_with fail
    have Ka : Hid (Blk (w4.alloc (.cells #[.slice A4 p_n c4, .slice B4 p_m d4] 25)) w4.heap.size 25 #[.slice A4 p_n c4, .slice B4 p_m d4]) := Lib.hid (Blk.new _ _ _)
    replace La := Lib.hid (La.out.alloc (.cells #[.slice A4 p_n c4, .slice B4 p_m d4] 25))
    replace HL := Lib.hid (HL.out.alloc (.cells #[.slice A4 p_n c4, .slice B4 p_m d4] 25))
    replace Kl := Lib.hid (Kl.out.alloc (.cells #[.slice A4 p_n c4, .slice B4 p_m d4] 25))
    replace bb := Lib.hid (bl_alloc bb.out (.cells #[.slice A4 p_n c4, .slice B4 p_m d4] 25))
    generalize w4.alloc (.cells #[.slice A4 p_n c4, .slice B4 p_m d4] 25) = w5 at *
    have KEEP : Hid (∀ W, Below w5.heap.size w5 W → W.cell? ⟨w.heap.size, 0, none⟩ = some (.slice A n c) ∧ W.cell? ⟨w.heap.size, 1, none⟩ = some (.slice B m d) ∧ W.cell? ⟨w4.heap.size, 0, none⟩ = some (.slice A4 p_n c4) ∧ W.cell? ⟨w4.heap.size, 1, none⟩ = some (.slice B4 p_m d4)) := Lib.hid (fun W h => ⟨(Kl.out.below h).cell 0 _ rfl, (Kl.out.below h).cell 1 _ rfl, (Ka.out.below h).cell 0 _ rfl, (Ka.out.below h).cell 1 _ rfl⟩)
    have bq : Hid (Below w5.heap.size w5 w5.drew) := Lib.hid (Below.refl _ _).drew
    go_wp2_with fail
    try simp only [List.append_eq, List.cons_append, List.nil_append]
    go_region_held3 (fun w' => w'.cell? ⟨w.heap.size, 0, none⟩ = some (.slice A n c) ∧ w'.cell? ⟨w.heap.size, 1, none⟩ = some (.slice B m d) ∧ w'.cell? ⟨w4.heap.size, 0, none⟩ = some (.slice A4 p_n c4) ∧ w'.cell? ⟨w4.heap.size, 1, none⟩ = some (.slice B4 p_m d4)) (exact KEEP.out _ bq.out)
      (first
      | (go_at_call 11
         refine (ref_c _ _ _ _ _ _ _).mono ?_
         rintro e wq ⟨rfl, b_⟩
         replace bq := Lib.hid (bl_trans bq.out b_)
         clear b_)
      | (go_at_call 24
         refine (same_b p_l p_l _ _ _ _ _ _ _ _ _ _ _ _ _ true (La.out.below bq.out) (HL.out.below bq.out) (by omega) (by omega) (by omega) (by omega) (decide_eq_true rfl)).mono ?_
         rintro e wq ⟨rfl, b_⟩
         replace bq := Lib.hid (bl_trans bq.out b_)
         clear b_)
      | (go_at_call 10
         refine (awake_any HS.out _).mono ?_
         rintro e wq ⟨rfl, b_⟩
         replace bq := Lib.hid (bl_trans bq.out b_)
         clear b_))
    replace bb := Lib.hid (bl_trans bb.out bq.out)
    go_wp2
    go_ret
    exact ⟨rfl, bb.out⟩
end Go.Proofs.Ytjmilnfemjnhoaa.Writes
