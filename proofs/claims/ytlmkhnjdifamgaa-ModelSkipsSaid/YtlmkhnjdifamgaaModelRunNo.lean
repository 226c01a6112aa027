/-
  WHAT Run RETURNS, AS IT IS WRITTEN, of what is no code or no heap. No conditions beyond those that the theorem states.
-/
import Derived.Test.YtlmkhnjdifamgaaModelLaw
import Derived.Test.YtlmkhnjdifamgaaCodeB
import Derived.Test.YtlmkhnjdifamgaaHeapA
namespace Go.Proofs.Ytlmkhnjdifamgaa.Model
open Go.ChangeShapes Go.WideShapes Go.ChangeAt Go.RowKit Mem Go.Proofs.Ytlmkhnjdifamgaa.Code

/-- An end that is stored. -/
theorem six_blk {w : World} {g : Nat} {t : TypeId} (h : Blk w g t #[.int .i64 0, .int .i64 0, .slice none 0 0, .slice none 0 0, .slice none 0 0, .slice none 0 0]) (a0 a1 a2 a3 a4 a5 : Value) : Blk ((((((w.setCell ⟨g, 0, none⟩ a0).setCell ⟨g, 1, none⟩ a1).setCell ⟨g, 2, none⟩ a2).setCell ⟨g, 3, none⟩ a3).setCell ⟨g, 4, none⟩ a4).setCell ⟨g, 5, none⟩ a5) g t #[a0, a1, a2, a3, a4, a5] := by
  have := (((((h.set_ 0 a0).set_ 1 a1).set_ 2 a2).set_ 3 a3).set_ 4 a4).set_ 5 a5
  simpa using this
theorem six_rd {w : World} {g k n : Nat} {B : Option Addr} {xs : List Value} (h : Rd w k B n xs) (hne : ∀ b off, B = some ⟨b, off, none⟩ → b ≠ g) (a0 a1 a2 a3 a4 a5 : Value) : Rd ((((((w.setCell ⟨g, 0, none⟩ a0).setCell ⟨g, 1, none⟩ a1).setCell ⟨g, 2, none⟩ a2).setCell ⟨g, 3, none⟩ a3).setCell ⟨g, 4, none⟩ a4).setCell ⟨g, 5, none⟩ a5) k B n xs :=
  (((((h.set_other hne 0 a0).set_other hne 1 a1).set_other hne 2 a2).set_other hne 3 a3).set_other hne 4 a4).set_other hne 5 a5
theorem six_bel {w0 w : World} {g : Nat} (h : Below w0.heap.size w0 w) (hg : w0.heap.size ≤ g) (a0 a1 a2 a3 a4 a5 : Value) : Below w0.heap.size w0 ((((((w.setCell ⟨g, 0, none⟩ a0).setCell ⟨g, 1, none⟩ a1).setCell ⟨g, 2, none⟩ a2).setCell ⟨g, 3, none⟩ a3).setCell ⟨g, 4, none⟩ a4).setCell ⟨g, 5, none⟩ a5) :=
  bl_set (bl_set (bl_set (bl_set (bl_set (bl_set h (p := ⟨g, 0, none⟩) hg a0) (p := ⟨g, 1, none⟩) hg a1) (p := ⟨g, 2, none⟩) hg a2) (p := ⟨g, 3, none⟩) hg a3) (p := ⟨g, 4, none⟩) hg a4) (p := ⟨g, 5, none⟩) hg a5
theorem out_none (w : World) (k y : Int) : OutAt w ⟨k, y, [], [], [], []⟩ none none none none 0 0 0 0 := ⟨Rd.none_, Rd.none_, Rd.none_, Rd.none_⟩
set_option maxRecDepth 100000 in
set_option maxHeartbeats 4000000 in
theorem run_no (l : List Raw) (h : List Heap.Cell) (C HA : Option Addr) (n c hn hc : Nat) (w : World) (hat : At w C n l) (hnc : n ≤ c) (hlim : Lim l) (hnm : n ≤ 1000000) (hh : Rd w 2 HA hn (Heap.cs h)) (hhm : hn ≤ 1000000) (hok : okR (ss l) h = false) :
    Calls Try.prog 10 #[.slice C n c, .slice HA hn hc] w (RetRunN w ⟨0, 0, [], [], [], []⟩ 0 0 0 0 h hn 1) := by
  have HAT := Lib.hid hat
  have HH := Lib.hid hh
  have HLM := Lib.hid hlim
  obtain ⟨v, hv⟩ : ∃ v, checkS (ss l) = v := ⟨_, rfl⟩
  obtain ⟨rb, hrb⟩ : ∃ b, Heap.rightB h = b := ⟨_, rfl⟩
  have HV := Lib.hid hv
  have HRB := Lib.hid hrb
  obtain ⟨w1, hw1⟩ : ∃ w1, w1 = w.alloc (.cells #[.int .i64 0, .int .i64 0, .slice none 0 0, .slice none 0 0, .slice none 0 0, .slice none 0 0] 30) := ⟨_, rfl⟩
  have BB : Hid (Below w.heap.size w w1) := Lib.hid (by rw [hw1]; exact bl_alloc (Below.refl _ _) _)
  have KK : Hid (Blk w1 w.heap.size 30 #[.int .i64 0, .int .i64 0, .slice none 0 0, .slice none 0 0, .slice none 0 0, .slice none 0 0]) := Lib.hid (by rw [hw1]; exact Blk.new _ _ _)
  clear hat hh hlim hv hrb
  by_cases h0 : v = 0
  · subst h0
    have hrf : rb = false := by
      have h1 := hok
      unfold okR at h1
      rw [HV.out, HRB.out] at h1
      simpa using h1
    subst hrf
    go_enter Try.func10, Try.ntmps10
    go_wp2_with fail
    rw [← hw1]
    clear hw1
    refine (Code.check_c l _ _ _ _ 0 (HAT.out.below BB.out) hnc HLM.out HV.out hnm).mono ?_
    rintro e w2a ⟨rfl, b2⟩
    have B2a := Lib.hid b2
    clear b2
    go_wp2_with fail
    refine (Heap.right_c h _ _ _ _ false (HH.out.below (bl_trans BB.out B2a.out)) hhm HRB.out).mono ?_
    rintro e w2 ⟨rfl, b2⟩
    have B2 := Lib.hid (bl_trans B2a.out b2)
    clear b2
    go_wp2_with fail
    refine (Heap.clone_any h _ _ _ _ (HH.out.below (bl_trans BB.out B2.out)) hhm).mono ?_
    rintro e w3 ⟨vv, rfl, ho⟩
    obtain ⟨B, d, rfl, hrd⟩ := ho.form
    have B3 := Lib.hid (bl_trans B2.out ho.2)
    have HRD := Lib.hid hrd
    have hne : ∀ b off, B = some ⟨b, off, none⟩ → b ≠ w.heap.size := fun b off e => by have h1 := ho.base b (by rw [e]; rfl); have h2 := (KK.out.below B2.out).lt; omega
    have HNE := Lib.hid hne
    have HNW : Hid (Nw w B) := Lib.hid (Nw.of_own ho (by have h1 := BB.out.size; have h2 := B2.out.size; omega))
    have k := KK.out.below B3.out
    have q0 := k.cell 0 _ rfl
    have q1 := k.cell 1 _ rfl
    have q2 := k.cell 2 _ rfl
    have q3 := k.cell 3 _ rfl
    have q4 := k.cell 4 _ rfl
    have q5 := k.cell 5 _ rfl
    have qz := k.frozen
    have HK6 := Lib.hid (six_blk k (.int .i64 0) (.int .i64 0) (.slice none 0 0) (.slice none 0 0) (.slice none 0 0) (.slice none 0 0))
    clear k ho hrd hne
    go_wp2
    clear q0 q1 q2 q3 q4 q5 qz
    have q0 := HK6.out.cell 0 _ rfl
    have q1 := HK6.out.cell 1 _ rfl
    have q2 := HK6.out.cell 2 _ rfl
    have q3 := HK6.out.cell 3 _ rfl
    have q4 := HK6.out.cell 4 _ rfl
    have q5 := HK6.out.cell 5 _ rfl
    (try simp only [Exit.inBlock, Exit.then])
    refine bodyPost_ret (v := .tuple #[.agg #[.int .i64 0, .int .i64 0, .slice none 0 0, .slice none 0 0, .slice none 0 0, .slice none 0 0], .slice B hn d, .int .i64 1]) (by simp [results, Try.results10, go_sem, q0, q1, q2, q3, q4, q5]) rfl ?_
    exact ⟨none, 0, none, 0, none, 0, none, 0, B, d, rfl, out_none _ _ _, six_rd HRD.out HNE.out _ _ _ _ _ _, six_bel (bl_trans BB.out B3.out) (Nat.le_refl _) _ _ _ _ _ _, Nw.none_ _, Nw.none_ _, Nw.none_ _, Nw.none_ _, HNW.out⟩
  · have q : (v != 0) = true := by simp [h0]
    go_enter Try.func10, Try.ntmps10
    go_wp2_with fail
    rw [← hw1]
    clear hw1
    refine (Code.check_c l _ _ _ _ v (HAT.out.below BB.out) hnc HLM.out HV.out hnm).mono ?_
    rintro e w2 ⟨rfl, b2⟩
    have B2 := Lib.hid b2
    clear b2
    go_wp2_with fail
    refine (Heap.clone_any h _ _ _ _ (HH.out.below (bl_trans BB.out B2.out)) hhm).mono ?_
    rintro e w3 ⟨vv, rfl, ho⟩
    obtain ⟨B, d, rfl, hrd⟩ := ho.form
    have B3 := Lib.hid (bl_trans B2.out ho.2)
    have HRD := Lib.hid hrd
    have hne : ∀ b off, B = some ⟨b, off, none⟩ → b ≠ w.heap.size := fun b off e => by have h1 := ho.base b (by rw [e]; rfl); have h2 := (KK.out.below B2.out).lt; omega
    have HNE := Lib.hid hne
    have HNW : Hid (Nw w B) := Lib.hid (Nw.of_own ho (by have h1 := BB.out.size; have h2 := B2.out.size; omega))
    have k := KK.out.below B3.out
    have q0 := k.cell 0 _ rfl
    have q1 := k.cell 1 _ rfl
    have q2 := k.cell 2 _ rfl
    have q3 := k.cell 3 _ rfl
    have q4 := k.cell 4 _ rfl
    have q5 := k.cell 5 _ rfl
    have qz := k.frozen
    have HK6 := Lib.hid (six_blk k (.int .i64 0) (.int .i64 0) (.slice none 0 0) (.slice none 0 0) (.slice none 0 0) (.slice none 0 0))
    clear k ho hrd hne
    go_wp2
    clear q0 q1 q2 q3 q4 q5 qz
    have q0 := HK6.out.cell 0 _ rfl
    have q1 := HK6.out.cell 1 _ rfl
    have q2 := HK6.out.cell 2 _ rfl
    have q3 := HK6.out.cell 3 _ rfl
    have q4 := HK6.out.cell 4 _ rfl
    have q5 := HK6.out.cell 5 _ rfl
    (try simp only [Exit.inBlock, Exit.then])
    refine bodyPost_ret (v := .tuple #[.agg #[.int .i64 0, .int .i64 0, .slice none 0 0, .slice none 0 0, .slice none 0 0, .slice none 0 0], .slice B hn d, .int .i64 1]) (by simp [results, Try.results10, go_sem, q0, q1, q2, q3, q4, q5]) rfl ?_
    exact ⟨none, 0, none, 0, none, 0, none, 0, B, d, rfl, out_none _ _ _, six_rd HRD.out HNE.out _ _ _ _ _ _, six_bel (bl_trans BB.out B3.out) (Nat.le_refl _) _ _ _ _ _ _, Nw.none_ _, Nw.none_ _, Nw.none_ _, Nw.none_ _, HNW.out⟩
end Go.Proofs.Ytlmkhnjdifamgaa.Model
