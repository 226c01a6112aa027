/-
  THE WALK OF THE LAW WritesBack.
-/
import Derived.Test.YtjmilnfemjnhoaaWritesAwake
import Derived.Deep.RegionHeld3
namespace Go.Proofs.Ytjmilnfemjnhoaa.Writes
open Go.ChangeShapes Go.WideShapes Go.ChangeAt Go.RowKit Mem
open Heap (Write wc ws ws_len vB at_write)

set_option maxRecDepth 100000 in
set_option maxHeartbeats 4000000 in
theorem back_walk (S : Said) (A : Option Addr) (n c : Nat) (B : Option Addr) (m d : Nat) (l : Log) (E : Option Addr) (mq dq : Nat) (xs : List Write) (nested : Bool) (w : World) (hl : LogAt w A n c B m d l) (mh : mq ≤ 9223372036854775807) (hh : Rd w 2 E mq (ws xs)) :
    Calls Try.prog 4 #[.agg #[.slice A n c, .slice B m d], .slice E mq dq, .bool nested] w (RetB w true) := by
  have HS := Lib.hid S
  clear S
  have HL := Lib.hid hl
  have LN := Lib.hid hl.ln
  have LM := Lib.hid hl.lm
  clear hl
  have HH := Lib.hid hh
  clear hh
  by_cases hsm : n ≤ 40 ∧ m ≤ 20
  case neg =>
    have HSM : Hid ((decide (n ≤ 40) && decide (m ≤ 20)) = false) := Lib.hid (by rw [Bool.and_eq_false_iff]; simp; omega)
    clear hsm
    go_enter Try.func4, Try.ntmps4
    go_wp2_with fail
    refine (small_b _ _ _ _ _ _ _ false HSM.out).mono ?_
    rintro e v1 ⟨rfl, b1⟩
    go_wp2_with fail
    refine (awake_any HS.out _).mono ?_
    rintro e v2 ⟨rfl, b2⟩
    go_wp2
    go_ret
    exact ⟨rfl, bl_trans (bl_trans (bl_alloc (Below.refl _ _) _) b1) b2⟩
  obtain ⟨hn40, hm20⟩ := hsm
  have HSM : Hid ((decide (n ≤ 40) && decide (m ≤ 20)) = true) := Lib.hid (by simp [hn40, hm20])
  by_cases h20 : 20 < mq
  case pos =>
    go_enter Try.func4, Try.ntmps4
    go_wp2_with fail
    refine (small_b _ _ _ _ _ _ _ true HSM.out).mono ?_
    rintro e v1 ⟨rfl, b1⟩
    go_wp2_with fail
    refine (awake_any HS.out _).mono ?_
    rintro e v2 ⟨rfl, b2⟩
    go_wp2
    go_ret
    exact ⟨rfl, bl_trans (bl_trans (bl_alloc (Below.refl _ _) _) b1) b2⟩
  obtain ⟨⟨k_l, k_e⟩, h⟩ : ∃ y, markS l = y := ⟨_, rfl⟩
  obtain ⟨k_n, hn_⟩ : ∃ y, k_l.list.length = y := ⟨_, rfl⟩
  obtain ⟨k_m, hm_⟩ : ∃ y, k_l.marks.length = y := ⟨_, rfl⟩
  have k_b : k_n ≤ 41 ∧ k_m ≤ 41 := by have h9 := mark_len l; rw [h] at h9; have h8 := h9.1; have h7 := h9.2; rw [hn_] at h8; rw [hm_] at h7; have := LN.out; have := LM.out; omega
  have Ek := Lib.hid h
  have Nk := Lib.hid hn_
  have Mk := Lib.hid hm_
  clear h hn_ hm_
  go_enter Try.func4, Try.ntmps4
  go_wp2_with fail
  have bb : Hid (Below w.heap.size w (w.alloc (.cells #[.slice A n c, .slice B m d] 25))) := Lib.hid (bl_alloc (Below.refl _ _) _)
  replace HL := Lib.hid (HL.out.below bb.out)
  replace HH := Lib.hid (HH.out.below bb.out)
  have Kl : Hid (Blk (w.alloc (.cells #[.slice A n c, .slice B m d] 25)) w.heap.size 25 #[.slice A n c, .slice B m d]) := Lib.hid (Blk.new _ _ _)
  generalize w.alloc (.cells #[.slice A n c, .slice B m d] 25) = w1 at *
  refine (small_b _ _ _ _ _ _ _ true HSM.out).mono ?_
  rintro e w2 ⟨rfl, b_⟩
  replace HL := Lib.hid (HL.out.below b_)
  replace HH := Lib.hid (HH.out.below b_)
  replace Kl := Lib.hid (Kl.out.below b_)
  replace bb := Lib.hid (bl_trans bb.out b_)
  clear b_ 
  have zl0 := Kl.out.cell 0 _ rfl
  have zl1 := Kl.out.cell 1 _ rfl
  go_wp2_with fail
  refine (HS.out.mark l _ _ _ _ _ _ _ _ _ _ HL.out (by omega) (by omega) Ek.out Nk.out Mk.out).mono ?_
  rintro e w4 ⟨A4, c4, B4, d4, rfl, pr⟩
  have b_ := pr.ol.2
  replace HL := Lib.hid (HL.out.below b_)
  replace HH := Lib.hid (HH.out.below b_)
  replace Kl := Lib.hid (Kl.out.below b_)
  replace bb := Lib.hid (bl_trans bb.out b_)
  have La := Lib.hid pr.log
  clear pr
  clear b_ zl0 zl1
  by_cases he : k_e = 0
  case neg =>
    have he1 : (k_e != 0) = true := by simpa using he
    have HM : Hid (k_l = l) := Lib.hid (mark_err l k_l k_e Ek.out he)
    obtain rfl := HM.out
    clear he
    go_wp2_with fail
    have Ka : Hid (Blk (w4.alloc (.cells #[.slice A4 k_n c4, .slice B4 k_m d4] 25)) w4.heap.size 25 #[.slice A4 k_n c4, .slice B4 k_m d4]) := Lib.hid (Blk.new _ _ _)
    replace HL := Lib.hid (HL.out.alloc (.cells #[.slice A4 k_n c4, .slice B4 k_m d4] 25))
    replace HH := Lib.hid (HH.out.alloc (.cells #[.slice A4 k_n c4, .slice B4 k_m d4] 25))
    replace La := Lib.hid (La.out.alloc (.cells #[.slice A4 k_n c4, .slice B4 k_m d4] 25))
    replace Kl := Lib.hid (Kl.out.alloc (.cells #[.slice A4 k_n c4, .slice B4 k_m d4] 25))
    replace bb := Lib.hid (bl_alloc bb.out (.cells #[.slice A4 k_n c4, .slice B4 k_m d4] 25))
    generalize w4.alloc (.cells #[.slice A4 k_n c4, .slice B4 k_m d4] 25) = w5 at *
    have KEEP : Hid (∀ W, Below w5.heap.size w5 W → W.cell? ⟨w.heap.size, 0, none⟩ = some (.slice A n c) ∧ W.cell? ⟨w.heap.size, 1, none⟩ = some (.slice B m d) ∧ W.cell? ⟨w4.heap.size, 0, none⟩ = some (.slice A4 k_n c4) ∧ W.cell? ⟨w4.heap.size, 1, none⟩ = some (.slice B4 k_m d4)) := Lib.hid (fun W h => ⟨(Kl.out.below h).cell 0 _ rfl, (Kl.out.below h).cell 1 _ rfl, (Ka.out.below h).cell 0 _ rfl, (Ka.out.below h).cell 1 _ rfl⟩)
    have bq : Hid (Below w5.heap.size w5 w5.drew) := Lib.hid (Below.refl _ _).drew
    go_wp2_with fail
    try simp only [List.append_eq, List.cons_append, List.nil_append]
    go_region_held3 (fun w' => w'.cell? ⟨w.heap.size, 0, none⟩ = some (.slice A n c) ∧ w'.cell? ⟨w.heap.size, 1, none⟩ = some (.slice B m d) ∧ w'.cell? ⟨w4.heap.size, 0, none⟩ = some (.slice A4 k_n c4) ∧ w'.cell? ⟨w4.heap.size, 1, none⟩ = some (.slice B4 k_m d4)) (exact KEEP.out _ bq.out)
      (first
      | (go_at_call 11
         refine (ref_c _ _ _ _ _ _ _).mono ?_
         rintro e wq ⟨rfl, b_⟩
         replace bq := Lib.hid (bl_trans bq.out b_)
         clear b_)
      | (go_at_call 24
         refine (same_b k_l k_l _ _ _ _ _ _ _ _ _ _ _ _ _ true (La.out.below bq.out) (HL.out.below bq.out) (by omega) (by omega) (by omega) (by omega) (decide_eq_true rfl)).mono ?_
         rintro e wq ⟨rfl, b_⟩
         replace bq := Lib.hid (bl_trans bq.out b_)
         clear b_)
      | (go_at_call 10
         refine (awake_any HS.out _).mono ?_
         rintro e wq ⟨rfl, b_⟩
         replace bq := Lib.hid (bl_trans bq.out b_)
         clear b_))
    replace bb := Lib.hid (bl_trans bb.out bq.out)
    go_wp2
    go_ret
    exact ⟨rfl, bb.out⟩
  subst he
  have EXT := Lib.hid (mark_ext l k_l Ek.out)
  go_wp2_with fail
  have Ka0 : Hid (Blk (w4.alloc (.cells #[.slice A4 k_n c4, .slice B4 k_m d4] 25)) w4.heap.size 25 #[.slice A4 k_n c4, .slice B4 k_m d4]) := Lib.hid (Blk.new _ _ _)
  have La0 := Lib.hid (La.out.alloc (.cells #[.slice A4 k_n c4, .slice B4 k_m d4] 25))
  clear La
  go_loopw [45] (fun i wr => ∃ (j : Nat) (ml : Log) (A5 : Option Addr) (n5 c5 : Nat) (B5 : Option Addr) (m5 d5 : Nat), j ≤ mq ∧ i = .int .i64 j ∧ Hid (Below w4.heap.size w4 wr) ∧ Hid (Blk wr w4.heap.size 25 #[.slice A5 n5 c5, .slice B5 m5 d5]) ∧ Hid (LogAt wr A5 n5 c5 B5 m5 d5 ml) ∧ Hid (Ext l ml)) (fun i _ => mq - (intOf i).toNat)
  case atStart => exact ⟨0, k_l, A4, k_n, c4, B4, k_m, d4, Nat.zero_le _, rfl, Lib.hid (bl_alloc (Below.refl _ _) _), Ka0, La0, EXT⟩
  case round =>
    clear Ka0 La0 EXT Ek Nk Mk
    obtain ⟨j, ml, A5, n5, c5, B5, m5, d5, hj, rfl, HB, Km, Lm, EX⟩ := hrel
    generalize wr = w5 at *
    have h5 : n5 ≤ 24 ∧ m5 ≤ 6 := by have h9 := (right_parts ml).1 EX.out.2; have h8 := Lm.out.ln; have h7 := Lm.out.lm; omega
    have hw45 : w.heap.size ≤ w4.heap.size := bb.out.size
    by_cases hlt : j < mq
    · obtain ⟨b1, off, ⟨cx, vx⟩, rfl, hx, c0, c1⟩ := at_write (HH.out.below HB.out) j hlt
      clear hx
      obtain ⟨⟨pl, pe⟩, hp⟩ : ∃ y, putS ml ⟨cx, vx⟩ = y := ⟨_, rfl⟩
      obtain ⟨pn, hpn⟩ : ∃ y, pl.list.length = y := ⟨_, rfl⟩
      obtain ⟨pm, hpm⟩ : ∃ y, pl.marks.length = y := ⟨_, rfl⟩
      have EP := Lib.hid hp
      have NP := Lib.hid hpn
      have MP := Lib.hid hpm
      have EX2 := Lib.hid (put_ext l ml ⟨cx, vx⟩ pl pe EX.out hp)
      clear hp hpn hpm
      have z0 : ∀ o, (w5.alloc o).cell? ⟨w4.heap.size, 0, none⟩ = some (.slice A5 n5 c5) := fun o => (Km.out.alloc o).cell 0 _ rfl
      have z1 : ∀ o, (w5.alloc o).cell? ⟨w4.heap.size, 1, none⟩ = some (.slice B5 m5 d5) := fun o => (Km.out.alloc o).cell 1 _ rfl
      go_wp2_with fail
      refine (HS.out.put ml _ _ _ _ _ _ cx vx _ (pl, pe) pn pm (Lm.out.alloc _) (by omega) (by omega) EP.out NP.out MP.out).mono ?_
      rintro e w6 ⟨A6, c6, B6, d6, rfl, pr⟩
      have b_ := pr.ol.2
      have k6 := (Km.out.alloc _).below b_
      have nm := pair_old (g := w4.heap.size) pr (by have := Km.out.lt; simp; omega)
      have y0 := k6.cell 0 _ rfl
      have y1 := k6.cell 1 _ rfl
      have yf := k6.frozen
      have KM2 := Lib.hid ((k6.set_ 0 (.slice A6 pn c6)).set_ 1 (.slice B6 pm d6))
      have LM2 := Lib.hid ((pr.log.set_ne nm.1 nm.2 0 (.slice A6 pn c6)).set_ne nm.1 nm.2 1 (.slice B6 pm d6))
      have HB2 := Lib.hid (bl_set (bl_set (bl_trans (bl_alloc HB.out _) b_) (p := ⟨w4.heap.size, 0, none⟩) (Nat.le_refl _) (.slice A6 pn c6)) (p := ⟨w4.heap.size, 1, none⟩) (Nat.le_refl _) (.slice B6 pm d6))
      clear pr b_ k6 nm z0 z1 c0 c1
      go_wp2
      go_roundw
      case rel => exact ⟨j + 1, pl, A6, pn, c6, B6, pm, d6, by omega, by go_num, HB2, KM2, LM2, EX2⟩
      case measure => simp [intOf]; omega
    · replace HL := Lib.hid (HL.out.below HB.out)
      replace Kl := Lib.hid (Kl.out.below HB.out)
      replace bb := Lib.hid (bl_trans bb.out HB.out)
      clear HH
      obtain ⟨eb, ek⟩ := back_ext l ml EX.out
      have EB := Lib.hid eb
      have EK := Lib.hid ek
      clear eb ek
      have NML := Lib.hid Lm.out.ln
      cases nested with
      | false =>
        have zm0 := Km.out.cell 0 _ rfl
        have zm1 := Km.out.cell 1 _ rfl
        go_wp2_with fail
        refine (HS.out.back ml _ _ _ _ _ _ _ (l, 0) n m Lm.out (by omega) (by omega) EB.out LN.out LM.out).mono ?_
        rintro e wb ⟨Ab, cb, Bb, db, rfl, pr⟩
        have b_ := pr.ol.2
        replace HL := Lib.hid (HL.out.below b_)
        replace Lm := Lib.hid (Lm.out.below b_)
        replace Kl := Lib.hid (Kl.out.below b_)
        replace Km := Lib.hid (Km.out.below b_)
        replace bb := Lib.hid (bl_trans bb.out b_)
        have Lb := Lib.hid pr.log
        clear pr
        clear b_ zm0 zm1
        have zm0 : ∀ o, (wb.alloc o).cell? ⟨w4.heap.size, 0, none⟩ = some (.slice A5 n5 c5) := fun o => (Km.out.alloc o).cell 0 _ rfl
        have zm1 : ∀ o, (wb.alloc o).cell? ⟨w4.heap.size, 1, none⟩ = some (.slice B5 m5 d5) := fun o => (Km.out.alloc o).cell 1 _ rfl
        go_wp2_with fail
        refine (HS.out.keep ml _ _ _ _ _ _ _ (⟨ml.list, l.marks⟩, 0) n5 m (Lm.out.alloc _) (by omega) (by omega) EK.out NML.out LM.out).mono ?_
        rintro e wk ⟨Ak, ck, Bk, dk, rfl, pr⟩
        have b_ := pr.ol.2
        replace HL := Lib.hid ((HL.out.alloc _).below b_)
        replace Lm := Lib.hid ((Lm.out.alloc _).below b_)
        replace Lb := Lib.hid ((Lb.out.alloc _).below b_)
        replace Kl := Lib.hid ((Kl.out.alloc _).below b_)
        replace Km := Lib.hid ((Km.out.alloc _).below b_)
        have Kb := Lib.hid ((Blk.new wb 25 #[.slice Ab n cb, .slice Bb m db]).below b_)
        replace bb := Lib.hid (bl_trans (bl_alloc bb.out _) b_)
        have Lk := Lib.hid pr.log
        clear pr
        clear b_ zm0 zm1
        go_wp2_with fail
        have Kk : Hid (Blk (wk.alloc (.cells #[.slice Ak n5 ck, .slice Bk m dk] 25)) wk.heap.size 25 #[.slice Ak n5 ck, .slice Bk m dk]) := Lib.hid (Blk.new _ _ _)
        replace HL := Lib.hid (HL.out.alloc (.cells #[.slice Ak n5 ck, .slice Bk m dk] 25))
        replace Lm := Lib.hid (Lm.out.alloc (.cells #[.slice Ak n5 ck, .slice Bk m dk] 25))
        replace Lb := Lib.hid (Lb.out.alloc (.cells #[.slice Ak n5 ck, .slice Bk m dk] 25))
        replace Lk := Lib.hid (Lk.out.alloc (.cells #[.slice Ak n5 ck, .slice Bk m dk] 25))
        replace Kl := Lib.hid (Kl.out.alloc (.cells #[.slice Ak n5 ck, .slice Bk m dk] 25))
        replace Km := Lib.hid (Km.out.alloc (.cells #[.slice Ak n5 ck, .slice Bk m dk] 25))
        replace Kb := Lib.hid (Kb.out.alloc (.cells #[.slice Ak n5 ck, .slice Bk m dk] 25))
        replace bb := Lib.hid (bl_alloc bb.out (.cells #[.slice Ak n5 ck, .slice Bk m dk] 25))
        generalize wk.alloc (.cells #[.slice Ak n5 ck, .slice Bk m dk] 25) = wy at *
        have RK := Lib.hid Lk.out.rl
        have RM := Lib.hid Lm.out.rl
        have q7 : ((m : Int) == (m : Int)) = true := by simp
        have KEEP : Hid (∀ W, Below wy.heap.size wy W → W.cell? ⟨w.heap.size, 0, none⟩ = some (.slice A n c) ∧ W.cell? ⟨w.heap.size, 1, none⟩ = some (.slice B m d) ∧ W.cell? ⟨w4.heap.size, 0, none⟩ = some (.slice A5 n5 c5) ∧ W.cell? ⟨w4.heap.size, 1, none⟩ = some (.slice B5 m5 d5) ∧ W.cell? ⟨wb.heap.size, 0, none⟩ = some (.slice Ab n cb) ∧ W.cell? ⟨wb.heap.size, 1, none⟩ = some (.slice Bb m db) ∧ W.cell? ⟨wk.heap.size, 0, none⟩ = some (.slice Ak n5 ck) ∧ W.cell? ⟨wk.heap.size, 1, none⟩ = some (.slice Bk m dk)) := Lib.hid (fun W h => ⟨(Kl.out.below h).cell 0 _ rfl, (Kl.out.below h).cell 1 _ rfl, (Km.out.below h).cell 0 _ rfl, (Km.out.below h).cell 1 _ rfl, (Kb.out.below h).cell 0 _ rfl, (Kb.out.below h).cell 1 _ rfl, (Kk.out.below h).cell 0 _ rfl, (Kk.out.below h).cell 1 _ rfl⟩)
        have bq : Hid (Below wy.heap.size wy wy.drew) := Lib.hid (Below.refl _ _).drew
        go_wp2_with fail
        try simp only [List.append_eq, List.cons_append, List.nil_append]
        go_region_held3 (fun w' => w'.cell? ⟨w.heap.size, 0, none⟩ = some (.slice A n c) ∧ w'.cell? ⟨w.heap.size, 1, none⟩ = some (.slice B m d) ∧ w'.cell? ⟨w4.heap.size, 0, none⟩ = some (.slice A5 n5 c5) ∧ w'.cell? ⟨w4.heap.size, 1, none⟩ = some (.slice B5 m5 d5) ∧ w'.cell? ⟨wb.heap.size, 0, none⟩ = some (.slice Ab n cb) ∧ w'.cell? ⟨wb.heap.size, 1, none⟩ = some (.slice Bb m db) ∧ w'.cell? ⟨wk.heap.size, 0, none⟩ = some (.slice Ak n5 ck) ∧ w'.cell? ⟨wk.heap.size, 1, none⟩ = some (.slice Bk m dk)) (exact KEEP.out _ bq.out)
          (first
          | (go_at_call 11
             refine (ref_c _ _ _ _ _ _ _).mono ?_
             rintro e wq ⟨rfl, b_⟩
             replace bq := Lib.hid (bl_trans bq.out b_)
             clear b_)
          | (go_at_call 24
             refine (same_b l l _ _ _ _ _ _ _ _ _ _ _ _ _ true (Lb.out.below bq.out) (HL.out.below bq.out) (by omega) (by omega) (by omega) (by omega) (decide_eq_true rfl)).mono ?_
             rintro e wq ⟨rfl, b_⟩
             replace bq := Lib.hid (bl_trans bq.out b_)
             clear b_)
          | (go_at_call 25
             refine (list_b ml.list ml.list _ _ _ _ _ _ _ true (RK.out.below bq.out) (RM.out.below bq.out) (by omega) (by omega) (decide_eq_true rfl)).mono ?_
             rintro e wq ⟨rfl, b_⟩
             replace bq := Lib.hid (bl_trans bq.out b_)
             clear b_)
          | (go_at_call 10
             refine (awake_any HS.out _).mono ?_
             rintro e wq ⟨rfl, b_⟩
             replace bq := Lib.hid (bl_trans bq.out b_)
             clear b_))
        replace bb := Lib.hid (bl_trans bb.out bq.out)
        go_wp2
        go_ret
        exact ⟨rfl, bb.out⟩
      | true =>
        obtain ⟨⟨nl, ne⟩, hp⟩ : ∃ y, markS ml = y := ⟨_, rfl⟩
        obtain ⟨nn, hpn⟩ : ∃ y, nl.list.length = y := ⟨_, rfl⟩
        obtain ⟨nm, hpm⟩ : ∃ y, nl.marks.length = y := ⟨_, rfl⟩
        have hnb : nn ≤ 25 ∧ nm ≤ 8 := by have h9 := mark_len ml; rw [hp] at h9; have h8 := h9.1; have h7 := h9.2; rw [hpn] at h8; rw [hpm] at h7; have := Lm.out.ln; have := Lm.out.lm; omega
        have EN := Lib.hid hp
        have NN := Lib.hid hpn
        have MN := Lib.hid hpm
        clear hp hpn hpm
        obtain ⟨⟨ol, oe⟩, hp⟩ : ∃ y, putS nl ⟨1, 1⟩ = y := ⟨_, rfl⟩
        obtain ⟨on, hpn⟩ : ∃ y, ol.list.length = y := ⟨_, rfl⟩
        obtain ⟨om, hpm⟩ : ∃ y, ol.marks.length = y := ⟨_, rfl⟩
        have hob : on ≤ 26 ∧ om ≤ 8 := by have h9 := put_len nl ⟨1, 1⟩; rw [hp] at h9; have h8 := h9.1; have h7 := h9.2; rw [hpn] at h8; rw [hpm] at h7; have := NN.out; have := MN.out; omega
        have EO := Lib.hid hp
        have NO := Lib.hid hpn
        have MO := Lib.hid hpm
        clear hp hpn hpm
        obtain ⟨⟨rl, re⟩, hp⟩ : ∃ y, backS ol = y := ⟨_, rfl⟩
        obtain ⟨rn, hpn⟩ : ∃ y, rl.list.length = y := ⟨_, rfl⟩
        obtain ⟨rm, hpm⟩ : ∃ y, rl.marks.length = y := ⟨_, rfl⟩
        have hrb : rn ≤ 26 ∧ rm ≤ 8 := by have h9 := back_len ol; rw [hp] at h9; have h8 := h9.1; have h7 := h9.2; rw [hpn] at h8; rw [hpm] at h7; have := NO.out; have := MO.out; omega
        have ER := Lib.hid hp
        have NR := Lib.hid hpn
        have MR := Lib.hid hpm
        clear hp hpn hpm
        have zm0 := Km.out.cell 0 _ rfl
        have zm1 := Km.out.cell 1 _ rfl
        go_wp2_with fail
        refine (HS.out.mark ml _ _ _ _ _ _ _ (nl, ne) nn nm Lm.out (by omega) (by omega) EN.out NN.out MN.out).mono ?_
        rintro e w6 ⟨An, cn, Bn, dn, rfl, pr⟩
        have b_ := pr.ol.2
        replace HL := Lib.hid (HL.out.below b_)
        replace Lm := Lib.hid (Lm.out.below b_)
        replace Kl := Lib.hid (Kl.out.below b_)
        replace Km := Lib.hid (Km.out.below b_)
        replace bb := Lib.hid (bl_trans bb.out b_)
        have Ln := Lib.hid pr.log
        clear pr
        clear b_ zm0 zm1
        go_wp2_with fail
        refine (HS.out.put nl _ _ _ _ _ _ 1 1 _ (ol, oe) on om (Ln.out.alloc _) (by omega) (by omega) EO.out NO.out MO.out).mono ?_
        rintro e w7 ⟨Ao, co, Bo, do_, rfl, pr⟩
        have b_ := pr.ol.2
        have k7 := (Blk.new w6 25 #[.slice An nn cn, .slice Bn nm dn]).below b_
        have nm7 := pair_old (g := w6.heap.size) pr (by simp)
        have y0 := k7.cell 0 _ rfl
        have y1 := k7.cell 1 _ rfl
        have yf := k7.frozen
        have Kn2 := Lib.hid ((k7.set_ 0 (.slice Ao on co)).set_ 1 (.slice Bo om do_))
        have Lo := Lib.hid ((pr.log.set_ne nm7.1 nm7.2 0 (.slice Ao on co)).set_ne nm7.1 nm7.2 1 (.slice Bo om do_))
        have b8 := bl_set (bl_set (bl_trans (bl_alloc (Below.refl w6.heap.size w6) _) b_) (p := ⟨w6.heap.size, 0, none⟩) (Nat.le_refl _) (.slice Ao on co)) (p := ⟨w6.heap.size, 1, none⟩) (Nat.le_refl _) (.slice Bo om do_)
        replace HL := Lib.hid (HL.out.below b8)
        replace Lm := Lib.hid (Lm.out.below b8)
        replace Kl := Lib.hid (Kl.out.below b8)
        replace Km := Lib.hid (Km.out.below b8)
        replace bb := Lib.hid (bl_trans bb.out b8)
        have v0 := Kn2.out.cell 0 _ rfl
        have v1 := Kn2.out.cell 1 _ rfl
        clear pr b_ k7 nm7 b8 Ln
        go_wp2_with fail
        clear y0 y1 yf v0 v1
        generalize (w7.setCell ⟨w6.heap.size, 0, none⟩ (.slice Ao on co)).setCell ⟨w6.heap.size, 1, none⟩ (.slice Bo om do_) = w8 at *
        clear Kn2
        refine (HS.out.back ol _ _ _ _ _ _ _ (rl, re) rn rm Lo.out (by omega) (by omega) ER.out NR.out MR.out).mono ?_
        rintro e w9 ⟨Ar, cr, Br, dr, rfl, pr⟩
        have b_ := pr.ol.2
        clear Lo
        replace HL := Lib.hid (HL.out.below b_)
        replace Lm := Lib.hid (Lm.out.below b_)
        replace Kl := Lib.hid (Kl.out.below b_)
        replace Km := Lib.hid (Km.out.below b_)
        replace bb := Lib.hid (bl_trans bb.out b_)
        have Lr := Lib.hid pr.log
        clear pr
        clear b_ 
        by_cases hne : ne = 0
        · subst hne
          have HRL : Hid ((rl, re) = (ml, 0)) := Lib.hid (by rw [← ER.out]; exact (back_ext ml ol (put_ext ml nl _ ol oe (mark_ext ml nl EN.out) EO.out)).1)
          obtain rfl : re = 0 := (Prod.mk.inj HRL.out).2
          have HRE : Hid (decide (rl = ml) = true) := Lib.hid (decide_eq_true (Prod.mk.inj HRL.out).1)
          go_wp2_with fail
          have Kr : Hid (Blk (w9.alloc (.cells #[.slice Ar rn cr, .slice Br rm dr] 25)) w9.heap.size 25 #[.slice Ar rn cr, .slice Br rm dr]) := Lib.hid (Blk.new _ _ _)
          replace HL := Lib.hid (HL.out.alloc (.cells #[.slice Ar rn cr, .slice Br rm dr] 25))
          replace Lm := Lib.hid (Lm.out.alloc (.cells #[.slice Ar rn cr, .slice Br rm dr] 25))
          replace Lr := Lib.hid (Lr.out.alloc (.cells #[.slice Ar rn cr, .slice Br rm dr] 25))
          replace Kl := Lib.hid (Kl.out.alloc (.cells #[.slice Ar rn cr, .slice Br rm dr] 25))
          replace Km := Lib.hid (Km.out.alloc (.cells #[.slice Ar rn cr, .slice Br rm dr] 25))
          replace bb := Lib.hid (bl_alloc bb.out (.cells #[.slice Ar rn cr, .slice Br rm dr] 25))
          generalize w9.alloc (.cells #[.slice Ar rn cr, .slice Br rm dr] 25) = wz at *
          have KEEP : Hid (∀ W, Below wz.heap.size wz W → W.cell? ⟨w4.heap.size, 0, none⟩ = some (.slice A5 n5 c5) ∧ W.cell? ⟨w4.heap.size, 1, none⟩ = some (.slice B5 m5 d5) ∧ W.cell? ⟨w9.heap.size, 0, none⟩ = some (.slice Ar rn cr) ∧ W.cell? ⟨w9.heap.size, 1, none⟩ = some (.slice Br rm dr)) := Lib.hid (fun W h => ⟨(Km.out.below h).cell 0 _ rfl, (Km.out.below h).cell 1 _ rfl, (Kr.out.below h).cell 0 _ rfl, (Kr.out.below h).cell 1 _ rfl⟩)
          have bq : Hid (Below wz.heap.size wz wz.drew) := Lib.hid (Below.refl _ _).drew
          go_wp2_with fail
          try simp only [List.append_eq, List.cons_append, List.nil_append]
          go_region_held3 (fun w' => w'.cell? ⟨w4.heap.size, 0, none⟩ = some (.slice A5 n5 c5) ∧ w'.cell? ⟨w4.heap.size, 1, none⟩ = some (.slice B5 m5 d5) ∧ w'.cell? ⟨w9.heap.size, 0, none⟩ = some (.slice Ar rn cr) ∧ w'.cell? ⟨w9.heap.size, 1, none⟩ = some (.slice Br rm dr)) (exact KEEP.out _ bq.out)
            (first
            | (go_at_call 11
               refine (ref_c _ _ _ _ _ _ _).mono ?_
               rintro e wq ⟨rfl, b_⟩
               replace bq := Lib.hid (bl_trans bq.out b_)
               clear b_)
            | (go_at_call 24
               refine (same_b rl ml _ _ _ _ _ _ _ _ _ _ _ _ _ true (Lr.out.below bq.out) (Lm.out.below bq.out) (by omega) (by omega) (by omega) (by omega) HRE.out).mono ?_
               rintro e wq ⟨rfl, b_⟩
               replace bq := Lib.hid (bl_trans bq.out b_)
               clear b_))
          replace bb := Lib.hid (bl_trans bb.out bq.out)
          have bz := bq.out
          replace HL := Lib.hid (HL.out.below bz)
          replace Lm := Lib.hid (Lm.out.below bz)
          replace Kl := Lib.hid (Kl.out.below bz)
          replace Km := Lib.hid (Km.out.below bz)
          clear bz bq KEEP Lr Kr
          generalize wq = wu at *
          have zm0 := Km.out.cell 0 _ rfl
          have zm1 := Km.out.cell 1 _ rfl
          go_wp2_with fail
          refine (HS.out.back ml _ _ _ _ _ _ _ (l, 0) n m Lm.out (by omega) (by omega) EB.out LN.out LM.out).mono ?_
          rintro e wb ⟨Ab, cb, Bb, db, rfl, pr⟩
          have b_ := pr.ol.2
          replace HL := Lib.hid (HL.out.below b_)
          replace Lm := Lib.hid (Lm.out.below b_)
          replace Kl := Lib.hid (Kl.out.below b_)
          replace Km := Lib.hid (Km.out.below b_)
          replace bb := Lib.hid (bl_trans bb.out b_)
          have Lb := Lib.hid pr.log
          clear pr
          clear b_ zm0 zm1
          have zm0 : ∀ o, (wb.alloc o).cell? ⟨w4.heap.size, 0, none⟩ = some (.slice A5 n5 c5) := fun o => (Km.out.alloc o).cell 0 _ rfl
          have zm1 : ∀ o, (wb.alloc o).cell? ⟨w4.heap.size, 1, none⟩ = some (.slice B5 m5 d5) := fun o => (Km.out.alloc o).cell 1 _ rfl
          go_wp2_with fail
          refine (HS.out.keep ml _ _ _ _ _ _ _ (⟨ml.list, l.marks⟩, 0) n5 m (Lm.out.alloc _) (by omega) (by omega) EK.out NML.out LM.out).mono ?_
          rintro e wk ⟨Ak, ck, Bk, dk, rfl, pr⟩
          have b_ := pr.ol.2
          replace HL := Lib.hid ((HL.out.alloc _).below b_)
          replace Lm := Lib.hid ((Lm.out.alloc _).below b_)
          replace Lb := Lib.hid ((Lb.out.alloc _).below b_)
          replace Kl := Lib.hid ((Kl.out.alloc _).below b_)
          replace Km := Lib.hid ((Km.out.alloc _).below b_)
          have Kb := Lib.hid ((Blk.new wb 25 #[.slice Ab n cb, .slice Bb m db]).below b_)
          replace bb := Lib.hid (bl_trans (bl_alloc bb.out _) b_)
          have Lk := Lib.hid pr.log
          clear pr
          clear b_ zm0 zm1
          go_wp2_with fail
          have Kk : Hid (Blk (wk.alloc (.cells #[.slice Ak n5 ck, .slice Bk m dk] 25)) wk.heap.size 25 #[.slice Ak n5 ck, .slice Bk m dk]) := Lib.hid (Blk.new _ _ _)
          replace HL := Lib.hid (HL.out.alloc (.cells #[.slice Ak n5 ck, .slice Bk m dk] 25))
          replace Lm := Lib.hid (Lm.out.alloc (.cells #[.slice Ak n5 ck, .slice Bk m dk] 25))
          replace Lb := Lib.hid (Lb.out.alloc (.cells #[.slice Ak n5 ck, .slice Bk m dk] 25))
          replace Lk := Lib.hid (Lk.out.alloc (.cells #[.slice Ak n5 ck, .slice Bk m dk] 25))
          replace Kl := Lib.hid (Kl.out.alloc (.cells #[.slice Ak n5 ck, .slice Bk m dk] 25))
          replace Km := Lib.hid (Km.out.alloc (.cells #[.slice Ak n5 ck, .slice Bk m dk] 25))
          replace Kb := Lib.hid (Kb.out.alloc (.cells #[.slice Ak n5 ck, .slice Bk m dk] 25))
          replace bb := Lib.hid (bl_alloc bb.out (.cells #[.slice Ak n5 ck, .slice Bk m dk] 25))
          generalize wk.alloc (.cells #[.slice Ak n5 ck, .slice Bk m dk] 25) = wy at *
          have RK := Lib.hid Lk.out.rl
          have RM := Lib.hid Lm.out.rl
          have q7 : ((m : Int) == (m : Int)) = true := by simp
          have KEEP : Hid (∀ W, Below wy.heap.size wy W → W.cell? ⟨w.heap.size, 0, none⟩ = some (.slice A n c) ∧ W.cell? ⟨w.heap.size, 1, none⟩ = some (.slice B m d) ∧ W.cell? ⟨w4.heap.size, 0, none⟩ = some (.slice A5 n5 c5) ∧ W.cell? ⟨w4.heap.size, 1, none⟩ = some (.slice B5 m5 d5) ∧ W.cell? ⟨wb.heap.size, 0, none⟩ = some (.slice Ab n cb) ∧ W.cell? ⟨wb.heap.size, 1, none⟩ = some (.slice Bb m db) ∧ W.cell? ⟨wk.heap.size, 0, none⟩ = some (.slice Ak n5 ck) ∧ W.cell? ⟨wk.heap.size, 1, none⟩ = some (.slice Bk m dk)) := Lib.hid (fun W h => ⟨(Kl.out.below h).cell 0 _ rfl, (Kl.out.below h).cell 1 _ rfl, (Km.out.below h).cell 0 _ rfl, (Km.out.below h).cell 1 _ rfl, (Kb.out.below h).cell 0 _ rfl, (Kb.out.below h).cell 1 _ rfl, (Kk.out.below h).cell 0 _ rfl, (Kk.out.below h).cell 1 _ rfl⟩)
          have bq : Hid (Below wy.heap.size wy wy.drew) := Lib.hid (Below.refl _ _).drew
          go_wp2_with fail
          try simp only [List.append_eq, List.cons_append, List.nil_append]
          go_region_held3 (fun w' => w'.cell? ⟨w.heap.size, 0, none⟩ = some (.slice A n c) ∧ w'.cell? ⟨w.heap.size, 1, none⟩ = some (.slice B m d) ∧ w'.cell? ⟨w4.heap.size, 0, none⟩ = some (.slice A5 n5 c5) ∧ w'.cell? ⟨w4.heap.size, 1, none⟩ = some (.slice B5 m5 d5) ∧ w'.cell? ⟨wb.heap.size, 0, none⟩ = some (.slice Ab n cb) ∧ w'.cell? ⟨wb.heap.size, 1, none⟩ = some (.slice Bb m db) ∧ w'.cell? ⟨wk.heap.size, 0, none⟩ = some (.slice Ak n5 ck) ∧ w'.cell? ⟨wk.heap.size, 1, none⟩ = some (.slice Bk m dk)) (exact KEEP.out _ bq.out)
            (first
            | (go_at_call 11
               refine (ref_c _ _ _ _ _ _ _).mono ?_
               rintro e wq ⟨rfl, b_⟩
               replace bq := Lib.hid (bl_trans bq.out b_)
               clear b_)
            | (go_at_call 24
               refine (same_b l l _ _ _ _ _ _ _ _ _ _ _ _ _ true (Lb.out.below bq.out) (HL.out.below bq.out) (by omega) (by omega) (by omega) (by omega) (decide_eq_true rfl)).mono ?_
               rintro e wq ⟨rfl, b_⟩
               replace bq := Lib.hid (bl_trans bq.out b_)
               clear b_)
            | (go_at_call 25
               refine (list_b ml.list ml.list _ _ _ _ _ _ _ true (RK.out.below bq.out) (RM.out.below bq.out) (by omega) (by omega) (decide_eq_true rfl)).mono ?_
               rintro e wq ⟨rfl, b_⟩
               replace bq := Lib.hid (bl_trans bq.out b_)
               clear b_)
            | (go_at_call 10
               refine (awake_any HS.out _).mono ?_
               rintro e wq ⟨rfl, b_⟩
               replace bq := Lib.hid (bl_trans bq.out b_)
               clear b_))
          replace bb := Lib.hid (bl_trans bb.out bq.out)
          go_wp2
          go_ret
          exact ⟨rfl, bb.out⟩
        · have hne1 : (ne == 0) = false := beq_eq_false_iff_ne.2 hne
          clear hne
          go_wp2_with fail
          have Kr : Hid (Blk (w9.alloc (.cells #[.slice Ar rn cr, .slice Br rm dr] 25)) w9.heap.size 25 #[.slice Ar rn cr, .slice Br rm dr]) := Lib.hid (Blk.new _ _ _)
          replace HL := Lib.hid (HL.out.alloc (.cells #[.slice Ar rn cr, .slice Br rm dr] 25))
          replace Lm := Lib.hid (Lm.out.alloc (.cells #[.slice Ar rn cr, .slice Br rm dr] 25))
          replace Lr := Lib.hid (Lr.out.alloc (.cells #[.slice Ar rn cr, .slice Br rm dr] 25))
          replace Kl := Lib.hid (Kl.out.alloc (.cells #[.slice Ar rn cr, .slice Br rm dr] 25))
          replace Km := Lib.hid (Km.out.alloc (.cells #[.slice Ar rn cr, .slice Br rm dr] 25))
          replace bb := Lib.hid (bl_alloc bb.out (.cells #[.slice Ar rn cr, .slice Br rm dr] 25))
          generalize w9.alloc (.cells #[.slice Ar rn cr, .slice Br rm dr] 25) = wz at *
          go_quiet (fail)
          have bz : Below wz.heap.size wz (wz.drewN nq) := bl_drewN (Below.refl _ _) _
          replace HL := Lib.hid (HL.out.below bz)
          replace Lm := Lib.hid (Lm.out.below bz)
          replace Kl := Lib.hid (Kl.out.below bz)
          replace Km := Lib.hid (Km.out.below bz)
          replace bb := Lib.hid (bl_trans bb.out bz)
          clear bz Lr Kr
          generalize wz.drewN nq = wu at *
          have zm0 := Km.out.cell 0 _ rfl
          have zm1 := Km.out.cell 1 _ rfl
          go_wp2_with fail
          refine (HS.out.back ml _ _ _ _ _ _ _ (l, 0) n m Lm.out (by omega) (by omega) EB.out LN.out LM.out).mono ?_
          rintro e wb ⟨Ab, cb, Bb, db, rfl, pr⟩
          have b_ := pr.ol.2
          replace HL := Lib.hid (HL.out.below b_)
          replace Lm := Lib.hid (Lm.out.below b_)
          replace Kl := Lib.hid (Kl.out.below b_)
          replace Km := Lib.hid (Km.out.below b_)
          replace bb := Lib.hid (bl_trans bb.out b_)
          have Lb := Lib.hid pr.log
          clear pr
          clear b_ zm0 zm1
          have zm0 : ∀ o, (wb.alloc o).cell? ⟨w4.heap.size, 0, none⟩ = some (.slice A5 n5 c5) := fun o => (Km.out.alloc o).cell 0 _ rfl
          have zm1 : ∀ o, (wb.alloc o).cell? ⟨w4.heap.size, 1, none⟩ = some (.slice B5 m5 d5) := fun o => (Km.out.alloc o).cell 1 _ rfl
          go_wp2_with fail
          refine (HS.out.keep ml _ _ _ _ _ _ _ (⟨ml.list, l.marks⟩, 0) n5 m (Lm.out.alloc _) (by omega) (by omega) EK.out NML.out LM.out).mono ?_
          rintro e wk ⟨Ak, ck, Bk, dk, rfl, pr⟩
          have b_ := pr.ol.2
          replace HL := Lib.hid ((HL.out.alloc _).below b_)
          replace Lm := Lib.hid ((Lm.out.alloc _).below b_)
          replace Lb := Lib.hid ((Lb.out.alloc _).below b_)
          replace Kl := Lib.hid ((Kl.out.alloc _).below b_)
          replace Km := Lib.hid ((Km.out.alloc _).below b_)
          have Kb := Lib.hid ((Blk.new wb 25 #[.slice Ab n cb, .slice Bb m db]).below b_)
          replace bb := Lib.hid (bl_trans (bl_alloc bb.out _) b_)
          have Lk := Lib.hid pr.log
          clear pr
          clear b_ zm0 zm1
          go_wp2_with fail
          have Kk : Hid (Blk (wk.alloc (.cells #[.slice Ak n5 ck, .slice Bk m dk] 25)) wk.heap.size 25 #[.slice Ak n5 ck, .slice Bk m dk]) := Lib.hid (Blk.new _ _ _)
          replace HL := Lib.hid (HL.out.alloc (.cells #[.slice Ak n5 ck, .slice Bk m dk] 25))
          replace Lm := Lib.hid (Lm.out.alloc (.cells #[.slice Ak n5 ck, .slice Bk m dk] 25))
          replace Lb := Lib.hid (Lb.out.alloc (.cells #[.slice Ak n5 ck, .slice Bk m dk] 25))
          replace Lk := Lib.hid (Lk.out.alloc (.cells #[.slice Ak n5 ck, .slice Bk m dk] 25))
          replace Kl := Lib.hid (Kl.out.alloc (.cells #[.slice Ak n5 ck, .slice Bk m dk] 25))
          replace Km := Lib.hid (Km.out.alloc (.cells #[.slice Ak n5 ck, .slice Bk m dk] 25))
          replace Kb := Lib.hid (Kb.out.alloc (.cells #[.slice Ak n5 ck, .slice Bk m dk] 25))
          replace bb := Lib.hid (bl_alloc bb.out (.cells #[.slice Ak n5 ck, .slice Bk m dk] 25))
          generalize wk.alloc (.cells #[.slice Ak n5 ck, .slice Bk m dk] 25) = wy at *
          have RK := Lib.hid Lk.out.rl
          have RM := Lib.hid Lm.out.rl
          have q7 : ((m : Int) == (m : Int)) = true := by simp
          have KEEP : Hid (∀ W, Below wy.heap.size wy W → W.cell? ⟨w.heap.size, 0, none⟩ = some (.slice A n c) ∧ W.cell? ⟨w.heap.size, 1, none⟩ = some (.slice B m d) ∧ W.cell? ⟨w4.heap.size, 0, none⟩ = some (.slice A5 n5 c5) ∧ W.cell? ⟨w4.heap.size, 1, none⟩ = some (.slice B5 m5 d5) ∧ W.cell? ⟨wb.heap.size, 0, none⟩ = some (.slice Ab n cb) ∧ W.cell? ⟨wb.heap.size, 1, none⟩ = some (.slice Bb m db) ∧ W.cell? ⟨wk.heap.size, 0, none⟩ = some (.slice Ak n5 ck) ∧ W.cell? ⟨wk.heap.size, 1, none⟩ = some (.slice Bk m dk)) := Lib.hid (fun W h => ⟨(Kl.out.below h).cell 0 _ rfl, (Kl.out.below h).cell 1 _ rfl, (Km.out.below h).cell 0 _ rfl, (Km.out.below h).cell 1 _ rfl, (Kb.out.below h).cell 0 _ rfl, (Kb.out.below h).cell 1 _ rfl, (Kk.out.below h).cell 0 _ rfl, (Kk.out.below h).cell 1 _ rfl⟩)
          have bq : Hid (Below wy.heap.size wy wy.drew) := Lib.hid (Below.refl _ _).drew
          go_wp2_with fail
          try simp only [List.append_eq, List.cons_append, List.nil_append]
          go_region_held3 (fun w' => w'.cell? ⟨w.heap.size, 0, none⟩ = some (.slice A n c) ∧ w'.cell? ⟨w.heap.size, 1, none⟩ = some (.slice B m d) ∧ w'.cell? ⟨w4.heap.size, 0, none⟩ = some (.slice A5 n5 c5) ∧ w'.cell? ⟨w4.heap.size, 1, none⟩ = some (.slice B5 m5 d5) ∧ w'.cell? ⟨wb.heap.size, 0, none⟩ = some (.slice Ab n cb) ∧ w'.cell? ⟨wb.heap.size, 1, none⟩ = some (.slice Bb m db) ∧ w'.cell? ⟨wk.heap.size, 0, none⟩ = some (.slice Ak n5 ck) ∧ w'.cell? ⟨wk.heap.size, 1, none⟩ = some (.slice Bk m dk)) (exact KEEP.out _ bq.out)
            (first
            | (go_at_call 11
               refine (ref_c _ _ _ _ _ _ _).mono ?_
               rintro e wq ⟨rfl, b_⟩
               replace bq := Lib.hid (bl_trans bq.out b_)
               clear b_)
            | (go_at_call 24
               refine (same_b l l _ _ _ _ _ _ _ _ _ _ _ _ _ true (Lb.out.below bq.out) (HL.out.below bq.out) (by omega) (by omega) (by omega) (by omega) (decide_eq_true rfl)).mono ?_
               rintro e wq ⟨rfl, b_⟩
               replace bq := Lib.hid (bl_trans bq.out b_)
               clear b_)
            | (go_at_call 25
               refine (list_b ml.list ml.list _ _ _ _ _ _ _ true (RK.out.below bq.out) (RM.out.below bq.out) (by omega) (by omega) (decide_eq_true rfl)).mono ?_
               rintro e wq ⟨rfl, b_⟩
               replace bq := Lib.hid (bl_trans bq.out b_)
               clear b_)
            | (go_at_call 10
               refine (awake_any HS.out _).mono ?_
               rintro e wq ⟨rfl, b_⟩
               replace bq := Lib.hid (bl_trans bq.out b_)
               clear b_))
          replace bb := Lib.hid (bl_trans bb.out bq.out)
          go_wp2
          go_ret
          exact ⟨rfl, bb.out⟩
end Go.Proofs.Ytjmilnfemjnhoaa.Writes
