/-
  THE FIXED ANSWER awake OF LAYER 6.
-/
import Derived.Test.YtjmilnfemjnhoaaWritesLaw
namespace Go.Proofs.Ytjmilnfemjnhoaa.Writes
open Go.ChangeShapes Go.WideShapes Go.ChangeAt Go.RowKit Mem
open Heap (Write wc ws ws_len vB at_write)

set_option maxRecDepth 100000 in
set_option maxHeartbeats 4000000 in
theorem awake_any (S : Said) (w : World) : Calls Try.prog 10 #[] w (RetB w true) := by
  have HS := Lib.hid S
  clear S
  have bb : Hid (Below w.heap.size w w) := Lib.hid (Below.refl _ _)
  go_enter Try.func10, Try.ntmps10
  go_wp2_with fail
  refine (HS.out.put ⟨[], []⟩ _ _ _ _ _ _ 3 1 _ (⟨[⟨3, 1⟩], []⟩, 0) 1 0 ⟨Rd.none_, Rd.none_, Nat.le_refl _, Nat.le_refl _⟩ (by decide) (by decide) (by decide) rfl rfl).mono ?_
  rintro e w1 ⟨A1, c1, B1, d1, rfl, pr⟩
  have b_ := pr.ol.2
  replace bb := Lib.hid (bl_trans bb.out b_)
  have L1 := Lib.hid pr.log
  clear pr
  clear b_ 
  go_wp2_with fail
  refine (HS.out.mark ⟨[⟨3, 1⟩], []⟩ _ _ _ _ _ _ _ (⟨[⟨3, 1⟩], [1]⟩, 0) 1 1 (L1.out.alloc _) (by decide) (by decide) (by decide) rfl rfl).mono ?_
  rintro e w2 ⟨A2, c2, B2, d2, rfl, pr⟩
  have b_ := pr.ol.2
  clear L1
  have Kl := Lib.hid ((Blk.new w1 25 #[.slice A1 1 c1, .slice B1 0 d1]).below b_)
  replace bb := Lib.hid (bl_trans (bl_alloc bb.out _) b_)
  have L2 := Lib.hid pr.log
  clear pr
  clear b_ 
  go_wp2_with fail
  refine (HS.out.put ⟨[⟨3, 1⟩], [1]⟩ _ _ _ _ _ _ 3 2 _ (⟨[⟨3, 1⟩, ⟨3, 2⟩], [1]⟩, 0) 2 1 (L2.out.alloc _) (by decide) (by decide) (by decide) rfl rfl).mono ?_
  rintro e w3 ⟨A3, c3, B3, d3, rfl, pr⟩
  have b_ := pr.ol.2
  clear Kl L2
  have Km := Lib.hid ((Blk.new w2 25 #[.slice A2 1 c2, .slice B2 1 d2]).below b_)
  have nm := pair_old (g := w2.heap.size) pr (by simp)
  have y0 := Km.out.cell 0 _ rfl
  have y1 := Km.out.cell 1 _ rfl
  have yf := Km.out.frozen
  have Km2 := Lib.hid ((Km.out.set_ 0 (.slice A3 2 c3)).set_ 1 (.slice B3 1 d3))
  have hm2 : w.heap.size ≤ w2.heap.size := bb.out.size
  have L3 := Lib.hid ((pr.log.set_ne nm.1 nm.2 0 (.slice A3 2 c3)).set_ne nm.1 nm.2 1 (.slice B3 1 d3))
  replace bb := Lib.hid (bl_set (bl_set (bl_trans (bl_alloc bb.out _) b_) (p := ⟨w2.heap.size, 0, none⟩) hm2 (.slice A3 2 c3)) (p := ⟨w2.heap.size, 1, none⟩) hm2 (.slice B3 1 d3))
  have z0 := Km2.out.cell 0 _ rfl
  have z1 := Km2.out.cell 1 _ rfl
  clear pr b_ nm Km
  go_wp2_with fail
  clear y0 y1 yf z0 z1
  generalize (w3.setCell ⟨w2.heap.size, 0, none⟩ (.slice A3 2 c3)).setCell ⟨w2.heap.size, 1, none⟩ (.slice B3 1 d3) = w4 at *
  refine (HS.out.get ⟨[⟨3, 1⟩, ⟨3, 2⟩], [1]⟩ _ _ _ _ _ _ 3 _ (2, true) L3.out (by decide) (by decide) (by decide)).mono ?_
  rintro e w5 ⟨rfl, b_⟩
  replace L3 := Lib.hid (L3.out.below b_)
  replace Km2 := Lib.hid (Km2.out.below b_)
  replace bb := Lib.hid (bl_trans bb.out b_)
  clear b_ 
  have zm20 := Km2.out.cell 0 _ rfl
  have zm21 := Km2.out.cell 1 _ rfl
  go_wp2_with fail
  refine (HS.out.back ⟨[⟨3, 1⟩, ⟨3, 2⟩], [1]⟩ _ _ _ _ _ _ _ (⟨[⟨3, 1⟩], []⟩, 0) 1 0 L3.out (by decide) (by decide) (by decide) rfl rfl).mono ?_
  rintro e w6 ⟨A6, c6, B6, d6, rfl, pr⟩
  have b_ := pr.ol.2
  replace L3 := Lib.hid (L3.out.below b_)
  replace Km2 := Lib.hid (Km2.out.below b_)
  replace bb := Lib.hid (bl_trans bb.out b_)
  have L6 := Lib.hid pr.log
  clear pr
  clear b_ zm20 zm21
  have zm20 : ∀ o, (w6.alloc o).cell? ⟨w2.heap.size, 0, none⟩ = some (.slice A3 2 c3) := fun o => (Km2.out.alloc o).cell 0 _ rfl
  have zm21 : ∀ o, (w6.alloc o).cell? ⟨w2.heap.size, 1, none⟩ = some (.slice B3 1 d3) := fun o => (Km2.out.alloc o).cell 1 _ rfl
  go_wp2_with fail
  refine (HS.out.keep ⟨[⟨3, 1⟩, ⟨3, 2⟩], [1]⟩ _ _ _ _ _ _ _ (⟨[⟨3, 1⟩, ⟨3, 2⟩], []⟩, 0) 2 0 (L3.out.alloc _) (by decide) (by decide) (by decide) rfl rfl).mono ?_
  rintro e w7 ⟨A7, c7, B7, d7, rfl, pr⟩
  have b_ := pr.ol.2
  replace L3 := Lib.hid ((L3.out.alloc _).below b_)
  replace L6 := Lib.hid ((L6.out.alloc _).below b_)
  replace Km2 := Lib.hid ((Km2.out.alloc _).below b_)
  have Kb := Lib.hid ((Blk.new w6 25 #[.slice A6 1 c6, .slice B6 0 d6]).below b_)
  replace bb := Lib.hid (bl_trans (bl_alloc bb.out _) b_)
  have L7 := Lib.hid pr.log
  clear pr
  clear b_ zm20 zm21
  have zb0 : ∀ o, (w7.alloc o).cell? ⟨w6.heap.size, 0, none⟩ = some (.slice A6 1 c6) := fun o => (Kb.out.alloc o).cell 0 _ rfl
  have zb1 : ∀ o, (w7.alloc o).cell? ⟨w6.heap.size, 1, none⟩ = some (.slice B6 0 d6) := fun o => (Kb.out.alloc o).cell 1 _ rfl
  go_wp2_with fail
  refine (HS.out.back ⟨[⟨3, 1⟩], []⟩ _ _ _ _ _ _ _ (⟨[⟨3, 1⟩], []⟩, 3) 1 0 (L6.out.alloc _) (by decide) (by decide) (by decide) rfl rfl).mono ?_
  rintro e w8 ⟨A8, c8, B8, d8, rfl, pr⟩
  have b_ := pr.ol.2
  replace L3 := Lib.hid ((L3.out.alloc _).below b_)
  replace L6 := Lib.hid ((L6.out.alloc _).below b_)
  replace L7 := Lib.hid ((L7.out.alloc _).below b_)
  replace Km2 := Lib.hid ((Km2.out.alloc _).below b_)
  replace Kb := Lib.hid ((Kb.out.alloc _).below b_)
  have Kk := Lib.hid ((Blk.new w7 25 #[.slice A7 2 c7, .slice B7 0 d7]).below b_)
  replace bb := Lib.hid (bl_trans (bl_alloc bb.out _) b_)
  have L8 := Lib.hid pr.log
  clear pr
  clear b_ zb0 zb1
  have zk0 : ∀ o, (w8.alloc o).cell? ⟨w7.heap.size, 0, none⟩ = some (.slice A7 2 c7) := fun o => (Kk.out.alloc o).cell 0 _ rfl
  have zk1 : ∀ o, (w8.alloc o).cell? ⟨w7.heap.size, 1, none⟩ = some (.slice B7 0 d7) := fun o => (Kk.out.alloc o).cell 1 _ rfl
  go_wp2_with fail
  refine (HS.out.last ⟨[⟨3, 1⟩, ⟨3, 2⟩], []⟩ _ _ _ _ _ _ _ [⟨3, 2⟩] 1 (L7.out.alloc _) (by decide) (by decide) (by decide) rfl).mono ?_
  rintro e w9 ⟨A9, d9, rfl, s9, b_⟩
  clear L8
  clear L6
  clear L7
  replace L3 := Lib.hid ((L3.out.alloc _).below b_)
  replace Km2 := Lib.hid ((Km2.out.alloc _).below b_)
  replace Kb := Lib.hid ((Kb.out.alloc _).below b_)
  replace Kk := Lib.hid ((Kk.out.alloc _).below b_)
  have Ku := Lib.hid ((Blk.new w8 25 #[.slice A8 1 c8, .slice B8 0 d8]).below b_)
  replace bb := Lib.hid (bl_trans (bl_alloc bb.out _) b_)
  have R9 := Lib.hid s9
  clear s9
  clear b_ zk0 zk1
  obtain ⟨b9, off9, ⟨x9, v9⟩, rfl, hx9, c90, c91⟩ := at_write R9.out 0 (by decide)
  obtain ⟨rfl, rfl⟩ : x9 = 3 ∧ v9 = 2 := by simpa using hx9.symm
  clear hx9
  simp only [Nat.zero_mul, Nat.add_zero] at c90 c91
  have zm20 := Km2.out.cell 0 _ rfl
  have zm21 := Km2.out.cell 1 _ rfl
  have zb0 := Kb.out.cell 0 _ rfl
  have zb1 := Kb.out.cell 1 _ rfl
  have zk0 := Kk.out.cell 0 _ rfl
  have zk1 := Kk.out.cell 1 _ rfl
  go_wp2_with fail
  refine (HS.out.right ⟨[⟨3, 1⟩, ⟨3, 2⟩], [1]⟩ _ _ _ _ _ _ _ true L3.out (by decide) (by decide) (by decide)).mono ?_
  rintro e w10 ⟨rfl, b_⟩
  replace L3 := Lib.hid (L3.out.below b_)
  replace R9 := Lib.hid (R9.out.below b_)
  replace Km2 := Lib.hid (Km2.out.below b_)
  replace Kb := Lib.hid (Kb.out.below b_)
  replace Kk := Lib.hid (Kk.out.below b_)
  replace Ku := Lib.hid (Ku.out.below b_)
  replace bb := Lib.hid (bl_trans bb.out b_)
  clear b_ zm20 zm21 zb0 zb1 zk0 zk1
  go_wp2
  go_ret
  exact ⟨rfl, bb.out⟩
end Go.Proofs.Ytjmilnfemjnhoaa.Writes
