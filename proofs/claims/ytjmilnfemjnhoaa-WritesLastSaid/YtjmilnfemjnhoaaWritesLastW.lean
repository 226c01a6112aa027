/-
  THE WALK OF THE LAW WritesLast.
-/
import Derived.Test.YtjmilnfemjnhoaaWritesAwake
import Derived.Test.YtjmilnfemjnhoaaHeapCode3
import Derived.Laws.StructEq
namespace Go.Proofs.Ytjmilnfemjnhoaa.Writes
open Go.ChangeShapes Go.WideShapes Go.ChangeAt Go.RowKit Mem
open Heap (Write wc ws ws_len vB at_write)

set_option maxRecDepth 100000 in
set_option maxHeartbeats 4000000 in
theorem last_walk (S : Said) (A : Option Addr) (n c : Nat) (B : Option Addr) (m d : Nat) (l : Log) (E : Option Addr) (hn hc : Nat) (h : List Heap.Cell) (w : World) (hl : LogAt w A n c B m d l) (mh : hn ≤ 9223372036854775807) (hh : Rd w 2 E hn (Heap.cs h)) :
    Calls Try.prog 5 #[.agg #[.slice A n c, .slice B m d], .slice E hn hc] w (RetB w true) := by
  have HS := Lib.hid S
  clear S
  have HL := Lib.hid hl
  have LN := Lib.hid hl.ln
  have LM := Lib.hid hl.lm
  clear hl
  have HH := Lib.hid hh
  clear hh
  by_cases hsm : n ≤ 40 ∧ m ≤ 20
  case neg =>
    have HSM : Hid ((decide (n ≤ 40) && decide (m ≤ 20)) = false) := Lib.hid (by rw [Bool.and_eq_false_iff]; simp; omega)
    clear hsm
    go_enter Try.func5, Try.ntmps5
    go_wp2_with fail
    refine (small_b _ _ _ _ _ _ _ false HSM.out).mono ?_
    rintro e v1 ⟨rfl, b1⟩
    go_wp2_with fail
    refine (awake_any HS.out _).mono ?_
    rintro e v2 ⟨rfl, b2⟩
    go_wp2
    go_ret
    exact ⟨rfl, bl_trans (bl_trans (bl_alloc (Below.refl _ _) _) b1) b2⟩
  obtain ⟨hn40, hm20⟩ := hsm
  have HSM : Hid ((decide (n ≤ 40) && decide (m ≤ 20)) = true) := Lib.hid (by simp [hn40, hm20])
  by_cases h64 : 64 < hn
  case pos =>
    go_enter Try.func5, Try.ntmps5
    go_wp2_with fail
    refine (small_b _ _ _ _ _ _ _ true HSM.out).mono ?_
    rintro e v1 ⟨rfl, b1⟩
    go_wp2_with fail
    refine (awake_any HS.out _).mono ?_
    rintro e v2 ⟨rfl, b2⟩
    go_wp2
    go_ret
    exact ⟨rfl, bl_trans (bl_trans (bl_alloc (Below.refl _ _) _) b1) b2⟩
  obtain ⟨br, hbr⟩ : ∃ y, rightB l = y := ⟨_, rfl⟩
  have EBR := Lib.hid hbr
  clear hbr
  go_enter Try.func5, Try.ntmps5
  go_wp2_with fail
  have bb : Hid (Below w.heap.size w (w.alloc (.cells #[.slice A n c, .slice B m d] 25))) := Lib.hid (bl_alloc (Below.refl _ _) _)
  replace HL := Lib.hid (HL.out.below bb.out)
  replace HH := Lib.hid (HH.out.below bb.out)
  have Kl : Hid (Blk (w.alloc (.cells #[.slice A n c, .slice B m d] 25)) w.heap.size 25 #[.slice A n c, .slice B m d]) := Lib.hid (Blk.new _ _ _)
  generalize w.alloc (.cells #[.slice A n c, .slice B m d] 25) = w1 at *
  refine (small_b _ _ _ _ _ _ _ true HSM.out).mono ?_
  rintro e w2 ⟨rfl, b_⟩
  replace HL := Lib.hid (HL.out.below b_)
  replace HH := Lib.hid (HH.out.below b_)
  replace Kl := Lib.hid (Kl.out.below b_)
  replace bb := Lib.hid (bl_trans bb.out b_)
  clear b_ 
  have zl0 := Kl.out.cell 0 _ rfl
  have zl1 := Kl.out.cell 1 _ rfl
  go_wp2_with fail
  refine (HS.out.right l _ _ _ _ _ _ _ br HL.out (by omega) (by omega) EBR.out).mono ?_
  rintro e w3 ⟨rfl, b_⟩
  replace HL := Lib.hid (HL.out.below b_)
  replace HH := Lib.hid (HH.out.below b_)
  replace Kl := Lib.hid (Kl.out.below b_)
  replace bb := Lib.hid (bl_trans bb.out b_)
  clear b_ zl0 zl1
  cases br with
  | false =>
    go_wp2_with fail
    refine (awake_any HS.out _).mono ?_
    rintro e w4 ⟨rfl, b_⟩
    replace HL := Lib.hid (HL.out.below b_)
    replace HH := Lib.hid (HH.out.below b_)
    replace Kl := Lib.hid (Kl.out.below b_)
    replace bb := Lib.hid (bl_trans bb.out b_)
    clear b_ 
    go_wp2
    go_ret
    exact ⟨rfl, bb.out⟩
  | true =>
    obtain ⟨la, hla⟩ : ∃ y, lastS l = y := ⟨_, rfl⟩
    obtain ⟨lq, hlq⟩ : ∃ y, la.length = y := ⟨_, rfl⟩
    have lqb : lq ≤ 40 := by have h9 := lastS_len l; rw [hla, hlq] at h9; have := LN.out; omega
    have TOLD : Hid (∀ (i : Nat) (x : Write), la[i]? = some x → getS l x.cell = (x.value, true) ∧ ∀ y, 0 < i → la[i - 1]? = some y → y.cell < x.cell) := Lib.hid (by rw [← hla]; exact last_told l EBR.out)
    have PUT : Hid (Heap.putS h la = Heap.putS h l.list) := Lib.hid (by rw [← hla]; exact last_put l EBR.out h)
    have ELA := Lib.hid hla
    have ELQ := Lib.hid hlq
    clear hla hlq
    have zl0 := Kl.out.cell 0 _ rfl
    have zl1 := Kl.out.cell 1 _ rfl
    go_wp2_with fail
    refine (HS.out.last l _ _ _ _ _ _ _ la lq HL.out (by omega) (by omega) ELA.out ELQ.out).mono ?_
    rintro e w4 ⟨A4, d4, rfl, s4, b_⟩
    replace HL := Lib.hid (HL.out.below b_)
    replace HH := Lib.hid (HH.out.below b_)
    replace Kl := Lib.hid (Kl.out.below b_)
    replace bb := Lib.hid (bl_trans bb.out b_)
    have RW := Lib.hid s4
    clear s4
    clear b_ zl0 zl1
    go_wp2
    go_loopw [33] (fun i wr => ∃ k : Nat, k ≤ lq ∧ i = .int .i64 k ∧ Hid (Below w4.heap.size w4 wr)) (fun i _ => lq - (intOf i).toNat)
    case atStart => exact ⟨0, Nat.zero_le _, rfl, Lib.hid (Below.refl _ _)⟩
    case round =>
      obtain ⟨k, hk, rfl, HB⟩ := hrel
      generalize wr = w5 at *
      by_cases hlt : k < lq
      · obtain ⟨b1, off, ⟨cx, vx⟩, rfl, hx, c0, c1⟩ := at_write (RW.out.below HB.out) k hlt
        have HT := Lib.hid (TOLD.out k _ hx)
        clear hx
        have KX : Hid (Blk (w5.alloc (.cells #[.int .i64 cx, .int .i64 vx] 27)) w5.heap.size 27 #[.int .i64 cx, .int .i64 vx]) := Lib.hid (Blk.new _ _ _)
        have zl0 : ∀ o, (w5.alloc o).cell? ⟨w.heap.size, 0, none⟩ = some (.slice A n c) := fun o => ((Kl.out.below HB.out).alloc o).cell 0 _ rfl
        have zl1 : ∀ o, (w5.alloc o).cell? ⟨w.heap.size, 1, none⟩ = some (.slice B m d) := fun o => ((Kl.out.below HB.out).alloc o).cell 1 _ rfl
        go_wp2_with fail
        refine (HS.out.get l _ _ _ _ _ _ cx _ (vx, true) ((HL.out.below HB.out).alloc _) (by omega) (by omega) HT.out.1).mono ?_
        rintro e w6 ⟨rfl, b_⟩
        have HB6 : Hid (Below w4.heap.size w4 w6) := Lib.hid (bl_trans (bl_alloc HB.out _) b_)
        have x0 : ∀ z, (w6.drewN z).cell? ⟨w5.heap.size, 0, none⟩ = some (.int .i64 cx) := fun z => (KX.out.below b_).cell 0 _ rfl
        have x1 : ∀ z, (w6.drewN z).cell? ⟨w5.heap.size, 1, none⟩ = some (.int .i64 vx) := fun z => (KX.out.below b_).cell 1 _ rfl
        have q1 : (vx != vx) = false := by simp
        clear b_ zl0 zl1 c0 c1
        cases k with
        | zero =>
          go_wp2_with fail
          go_quiet (fail)
          go_wp2
          go_roundw
          case rel => exact ⟨1, by omega, by go_num, Lib.hid (bl_drewN HB6.out _)⟩
          case measure => simp [intOf]; try omega
        | succ k =>
          obtain ⟨⟨cy, vy⟩, hy⟩ : ∃ y, la[k]? = some y := ⟨_, List.getElem?_eq_getElem (by rw [ELQ.out]; omega)⟩
          have hlt2 : cy < cx := HT.out.2 ⟨cy, vy⟩ (by omega) (by simpa using hy)
          obtain ⟨b2, off2, y2, e2, hy2, d0, d1⟩ := at_write (RW.out.below HB6.out) k (by omega)
          injection e2 with e2
          injection e2 with e2 e3
          subst e2 e3
          rw [hy] at hy2
          injection hy2 with hy2
          subst hy2
          have d0z : ∀ z, (w6.drewN z).cell? ⟨b1, off + k * 2, none⟩ = some (.int .i64 cy) := fun z => d0
          have ek : (((k + 1 : Nat) : Int) - 1) = (k : Int) := by omega
          have hk0 : (0 : Int) < ((k + 1 : Nat) : Int) := by omega
          clear hy d0 d1
          go_wp2_with fail
          go_quiet (fail)
          go_wp2
          go_roundw
          case rel => exact ⟨k + 1 + 1, by omega, by go_num, Lib.hid (bl_drewN HB6.out _)⟩
          case measure => simp [intOf]; try omega
      · clear TOLD
        replace HL := Lib.hid (HL.out.below HB.out)
        replace HH := Lib.hid (HH.out.below HB.out)
        replace RW := Lib.hid (RW.out.below HB.out)
        replace Kl := Lib.hid (Kl.out.below HB.out)
        replace bb := Lib.hid (bl_trans bb.out HB.out)
        clear HB
        obtain ⟨⟨ph, pe⟩, hp⟩ : ∃ y, Heap.putS h l.list = y := ⟨_, rfl⟩
        have EP := Lib.hid hp
        have EP2 : Hid (Heap.putS h la = (ph, pe)) := Lib.hid (by rw [PUT.out]; exact hp)
        clear hp
        have q2 : (pe != pe) = false := by simp
        have q3 : ((hn : Int) != (hn : Int)) = false := by simp
        go_wp2_with fail
        refine (Heap.put_c h la _ _ _ _ _ _ _ (ph, pe) HH.out RW.out (by omega) (by omega) EP2.out).mono ?_
        rintro e w6 ⟨A6, d6, rfl, s6, b_⟩
        clear RW
        replace HL := Lib.hid (HL.out.below b_)
        replace HH := Lib.hid (HH.out.below b_)
        replace Kl := Lib.hid (Kl.out.below b_)
        replace bb := Lib.hid (bl_trans bb.out b_)
        have RA := Lib.hid s6
        clear s6
        clear b_ 
        have zl0 := Kl.out.cell 0 _ rfl
        have zl1 := Kl.out.cell 1 _ rfl
        go_wp2_with fail
        refine (Heap.put_c h l.list _ _ _ _ _ _ _ (ph, pe) HH.out HL.out.rl (by omega) (by omega) EP.out).mono ?_
        rintro e w7 ⟨A7, d7, rfl, s7, b_⟩
        clear HH
        clear HL
        clear Kl
        replace RA := Lib.hid (RA.out.below b_)
        replace bb := Lib.hid (bl_trans bb.out b_)
        have RB := Lib.hid s7
        clear s7
        clear b_ zl0 zl1
        go_wp2
        go_loopw [94] (fun i wr => ∃ j q : Nat, j ≤ hn ∧ i = .int .i64 j ∧ wr = w7.drewN q) (fun i _ => hn - (intOf i).toNat)
        case atStart => exact ⟨0, 0, Nat.zero_le _, rfl, rfl⟩
        case round =>
          obtain ⟨j, q, hj, rfl, rfl⟩ := hrel
          by_cases hjn : j < hn
          · obtain ⟨b1, off, ⟨lv, vx⟩, rfl, gx, c0, c1⟩ := Heap.at_cell RA.out j hjn
            obtain ⟨b2, off2, y2, rfl, gy, e0, e1⟩ := Heap.at_cell RB.out j hjn
            rw [gx] at gy
            injection gy with gy
            subst gy
            clear gx
            have c0z : ∀ z, (w7.drewN z).cell? ⟨b1, off + j * 2, none⟩ = some (.bool lv) := fun z => c0
            have c1z : ∀ z, (w7.drewN z).cell? ⟨b1, off + j * 2 + 1, none⟩ = some (.int .i64 vx) := fun z => c1
            have e0z : ∀ z, (w7.drewN z).cell? ⟨b2, off2 + j * 2, none⟩ = some (.bool lv) := fun z => e0
            have e1z : ∀ z, (w7.drewN z).cell? ⟨b2, off2 + j * 2 + 1, none⟩ = some (.int .i64 vx) := fun z => e1
            go_wp2_with fail
            go_quiet (fail)
            go_wp2
            go_roundw
            case rel => exact ⟨j + 1, _, by omega, by go_num, rfl⟩
            case measure => simp [intOf]; omega
          · go_wp2_with fail
            refine (awake_any HS.out _).mono ?_
            rintro e w9 ⟨rfl, b9⟩
            go_wp2
            go_ret
            exact ⟨rfl, bl_trans (bl_drewN bb.out _) b9⟩
end Go.Proofs.Ytjmilnfemjnhoaa.Writes
