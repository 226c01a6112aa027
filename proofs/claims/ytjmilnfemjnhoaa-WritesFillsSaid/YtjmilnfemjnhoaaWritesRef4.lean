/-
  WHAT THE DOCUMENT'S ANSWER FOR LAYER 6 RETURNS: Mark, Back.
-/
import Derived.Test.YtjmilnfemjnhoaaWritesRef3
import Derived.BigQuiet
import Derived.BigRegion
namespace Go.Proofs.Ytjmilnfemjnhoaa.Writes
open Go.ChangeShapes Go.WideShapes Go.ChangeAt Go.RowKit Mem
open Heap (Write wc ws ws_len vB at_write)

set_option maxRecDepth 100000 in
set_option maxHeartbeats 4000000 in
theorem refmark (l : Log) (A B : Option Addr) (n c m d : Nat) (w : World) (a : Log × Int) (p q : Nat) (hl : LogAt w A n c B m d l) (hn : n ≤ 1000000) (hm : m ≤ 1000000)
    (ha : markS l = a) (hp : a.1.list.length = p) (hq : a.1.marks.length = q) :
    Calls Try.prog 15 #[.agg #[.slice A n c, .slice B m d]] w (RetL w p q a.1 a.2) := by
  have HA := Lib.hid ha
  have HP := Lib.hid hp
  have HQ := Lib.hid hq
  have HL := Lib.hid hl
  have LN := Lib.hid hl.ln
  have LM := Lib.hid hl.lm
  clear ha hp hq hl
  have KL : Hid (∀ o, Blk ((w.alloc (.cells #[.slice A n c, .slice B m d] 30)).alloc o) w.heap.size 30 #[.slice A n c, .slice B m d]) := Lib.hid (fun o => (Blk.new _ _ _).alloc _)
  have KR : Hid (∀ o, Blk ((w.alloc o).alloc (.cells #[.slice none 0 0, .slice none 0 0] 30)) (w.heap.size + 1) 30 #[.slice none 0 0, .slice none 0 0]) := Lib.hid (fun o => by
    have := Blk.new (w.alloc o) 30 #[.slice none 0 0, .slice none 0 0]; simpa using this)
  obtain ⟨br, h1⟩ : ∃ b, rightB l = b := ⟨_, rfl⟩
  have H1 := Lib.hid h1
  clear h1
  go_enter Try.func15, Try.ntmps15
  go_wp2_with fail
  refine (right_g l _ _ _ _ _ _ _ br ((HL.out.alloc _).alloc _) hn hm H1.out).mono ?_
  rintro e w2 ⟨rfl, g2⟩
  have HB2 : Hid (Below w.heap.size w w2) := Lib.hid (bl_trans (bl_alloc (bl_alloc (Below.refl _ _) _) _) g2.below)
  have KL2 := Lib.hid ((KL.out _).below g2.below)
  have KR2 := Lib.hid ((KR.out _).below g2.below)
  clear g2 KL KR
  have l0 := KL2.out.cell 0 _ rfl
  have l1 := KL2.out.cell 1 _ rfl
  have r0 := KR2.out.cell 0 _ rfl
  have r1 := KR2.out.cell 1 _ rfl
  have rf := KR2.out.frozen
  cases br with
  | true =>
    by_cases h6 : m = 6
    · have HF : Hid (a = (l, 5)) := Lib.hid (by rw [← HA.out]; exact mark_big _ H1.out (by rw [LM.out]; exact h6))
      have HN : Hid (p = n ∧ q = m) := Lib.hid (by rw [← HP.out, ← HQ.out, HF.out]; exact ⟨LN.out, LM.out⟩)
      obtain ⟨rfl, rfl⟩ := HN.out
      have t6 : 5 < (q : Int) := by omega
      clear h6
      go_wp2
      have hk := (KR2.out.set_ 0 (.slice A p c)).set_ 1 (.slice B q d)
      have q0 := hk.cell 0 _ rfl
      have q1 := hk.cell 1 _ rfl
      clear hk
      (try simp only [Exit.inBlock, Exit.then])
      refine bodyPost_ret (v := .tuple #[.agg #[.slice A p c, .slice B q d], .int .i64 5]) (by simp [results, Try.results15, go_sem, q0, q1]) rfl ?_
      have bb := bl_set (bl_set HB2.out (p := ⟨w.heap.size + 1, 0, none⟩) (by simp) (.slice A p c)) (p := ⟨w.heap.size + 1, 1, none⟩) (by simp) (.slice B q d)
      exact ⟨A, c, B, d, by rw [HF.out], by rw [HF.out]; exact HL.out.below bb, bb⟩
    · have HF : Hid (a = (⟨l.list, l.marks ++ [(n : Int)]⟩, 0)) := Lib.hid (by rw [← HA.out, ← LN.out]; exact mark_new _ H1.out (by rw [LM.out]; exact h6))
      have HN : Hid (p = n ∧ q = m + 1) := Lib.hid (by rw [← HP.out, ← HQ.out, HF.out]; exact ⟨LN.out, by simp [LM.out]⟩)
      obtain ⟨rfl, rfl⟩ := HN.out
      have t6 : ¬ 5 < (m : Int) := by have := ((right_parts l).1 H1.out).2.2.1; rw [LM.out] at this; omega
      clear h6
      have l1a : ∀ o, (w2.alloc o).cell? ⟨w.heap.size, 1, none⟩ = some (.slice B m d) := fun o => (KL2.out.alloc o).cell 1 _ rfl
      have KO : Hid (Blk (w2.alloc (.cells #[.slice A p c, .slice none 0 0] 30)) w2.heap.size 30 #[.slice A p c, .slice none 0 0]) := Lib.hid (Blk.new _ _ _)
      have lo : Hid (w.heap.size + 1 < w2.heap.size) := Lib.hid KR2.out.lt
      have sz : Hid (w.heap.size ≤ w2.heap.size) := Lib.hid HB2.out.size
      go_wp2_with (first
        | (at_builtin; refine append_at rfl _ _ 23 rfl tInt w (.slice none 0 0) 0 [] rfl (Own.nil_ (bl_alloc HB2.out _)) _ m d (zs l.marks) rfl ((HL.out.rm.below HB2.out).alloc _) (zs_one _) (by omega) (by omega) ?_
           intro v3 w3 o3 g3 at3
           have ko := KO.out.grown g3 (by simp [Value.ownBlock])
           have kl := (KL2.out.alloc _).grown g3 (by simp [Value.ownBlock])
           have kr := (KR2.out.alloc _).grown g3 (by simp [Value.ownBlock])
           have ne3 := grown_ne (g := w2.heap.size) at3 (by simp [Value.ownBlock]) (by simp)
           have nr3 := grown_ne (g := w.heap.size + 1) at3 (by simp [Value.ownBlock]) (by simp; have := lo.out; omega)
           have x0 := ko.cell 0 _ rfl
           have x1 := ko.cell 1 _ rfl
           have xf := ko.frozen
           have y0 : ∀ u, (w3.setCell ⟨w2.heap.size, 1, none⟩ u).cell? ⟨w.heap.size, 0, none⟩ = some (.slice A p c) := fun u => (kl.beside (by have := KL2.out.lt; omega) 1 u).cell 0 _ rfl
           rw [Nat.zero_add] at o3
           obtain ⟨B3, d3, rfl, hnd3, hrd3⟩ := own_room o3
           have O3 := Lib.hid o3
           have NE3 := Lib.hid ne3
           have NR3 := Lib.hid nr3
           have KO3 := Lib.hid ko
           have KR3 := Lib.hid kr
           clear hrd3 hnd3 o3 g3 at3 ko kl kr ne3 nr3)
        | (at_builtin; refine append_at rfl _ _ 23 rfl tInt w (.slice B3 m d3) m _ rfl ((O3.out.set_ne sz.out NE3.out _ _).alloc _) _ 1 1 (zs [(p : Int)]) rfl (Rd.builtAt _ 1 1 (zs [(p : Int)]) _ rfl (by simp)) (zs_one _) (by omega) (by omega) ?_
           intro v5 w5 o5 g5 at5
           have ko := ((KO3.out.set_ 1 _).alloc _).grown g5 NE3.out
           have kr := ((KR3.out.beside (by have := lo.out; omega) 1 _).alloc _).grown g5 NR3.out
           have ne5 := grown_ne (g := w2.heap.size) at5 NE3.out (by have := KO3.out.lt; simp; omega)
           have nr5 := grown_ne (g := w.heap.size + 1) at5 NR3.out (by have := KR3.out.lt; simp; omega)
           have x0' := ko.cell 0 _ rfl
           have x1' := ko.cell 1 _ rfl
           have xf' := ko.frozen
           obtain ⟨B5, d5, rfl, hnd5, hrd5⟩ := own_room o5
           have KO5 := Lib.hid (ko.set_ 1 (.slice B5 (m + 1) d5))
           have KR5 := Lib.hid (kr.beside (g' := w2.heap.size) (by have := lo.out; omega) 1 (.slice B5 (m + 1) d5))
           have O5 := Lib.hid (o5.set_ne sz.out ne5 1 (.slice B5 (m + 1) d5))
           have NR5 := Lib.hid nr5
           have z0 := KO5.out.cell 0 _ rfl
           have r0' := KR5.out.cell 0 _ rfl
           have r1' := KR5.out.cell 1 _ rfl
           have rf' := KR5.out.frozen
           clear hrd5 hnd5 o5 g5 at5 ko kr ne5 nr5))
      have hk := (KR5.out.set_ 0 (.slice A p c)).set_ 1 (.slice B5 (m + 1) d5)
      have q0 := hk.cell 0 _ rfl
      have q1 := hk.cell 1 _ rfl
      clear hk
      (try simp only [Exit.inBlock, Exit.then])
      refine bodyPost_ret (v := .tuple #[.agg #[.slice A p c, .slice B5 (m + 1) d5], .int .i64 0]) (by simp [results, Try.results15, go_sem, q0, q1]) rfl ?_
      have o6 := (O5.out.set_ne (g := w.heap.size + 1) (by omega) NR5.out 0 (.slice A p c)).set_ne (g := w.heap.size + 1) (by omega) NR5.out 1 (.slice B5 (m + 1) d5)
      obtain ⟨_, hc6, hr6⟩ := own_cap o6
      exact ⟨A, c, B5, d5, by rw [HF.out], by rw [HF.out]; exact ⟨HL.out.rl.below o6.2, by rw [zs_app]; simpa using hr6, HL.out.nc, hc6⟩, o6.2⟩
  | false =>
    have HF : Hid (a = (l, 1)) := Lib.hid (by rw [← HA.out]; exact mark_no _ H1.out)
    have HN : Hid (p = n ∧ q = m) := Lib.hid (by rw [← HP.out, ← HQ.out, HF.out]; exact ⟨LN.out, LM.out⟩)
    obtain ⟨rfl, rfl⟩ := HN.out
    go_wp2
    have hk := (KR2.out.set_ 0 (.slice A p c)).set_ 1 (.slice B q d)
    have q0 := hk.cell 0 _ rfl
    have q1 := hk.cell 1 _ rfl
    clear hk
    (try simp only [Exit.inBlock, Exit.then])
    refine bodyPost_ret (v := .tuple #[.agg #[.slice A p c, .slice B q d], .int .i64 1]) (by simp [results, Try.results15, go_sem, q0, q1]) rfl ?_
    have bb := bl_set (bl_set HB2.out (p := ⟨w.heap.size + 1, 0, none⟩) (by simp) (.slice A p c)) (p := ⟨w.heap.size + 1, 1, none⟩) (by simp) (.slice B q d)
    exact ⟨A, c, B, d, by rw [HF.out], by rw [HF.out]; exact HL.out.below bb, bb⟩

theorem LogAt.cut {w : World} {A B : Option Addr} {n c m d : Nat} {l : Log} (h : LogAt w A n c B m d l) (j k : Nat) (hj : j ≤ n) (hk : k ≤ m) : LogAt w A j c B k d ⟨l.list.take j, l.marks.take k⟩ :=
  ⟨rd_first wc_len (by decide) h.rl j hj, rd_first zc_len (by decide) h.rm k hk, Nat.le_trans hj h.nc, Nat.le_trans hk h.md⟩

/-- Back, or Keep: by one flag. -/
def bkS (l : Log) (keep : Bool) : Log × Int := if keep = true then keepS l else backS l

set_option maxRecDepth 100000 in
set_option maxHeartbeats 4000000 in
theorem refback (l : Log) (A B : Option Addr) (n c m d : Nat) (keep : Bool) (w : World) (a : Log × Int) (p q : Nat) (hl : LogAt w A n c B m d l) (hn : n ≤ 1000000) (hm : m ≤ 1000000)
    (ha : bkS l keep = a) (hp : a.1.list.length = p) (hq : a.1.marks.length = q) :
    Calls Try.prog 17 #[.agg #[.slice A n c, .slice B m d], .bool keep] w (RetL w p q a.1 a.2) := by
  have HA := Lib.hid ha
  have HP := Lib.hid hp
  have HQ := Lib.hid hq
  have HL := Lib.hid hl
  have LN := Lib.hid hl.ln
  have LM := Lib.hid hl.lm
  have hnc := hl.nc
  have hmd := hl.md
  clear ha hp hq hl
  have KL : Hid (∀ o, Blk ((w.alloc (.cells #[.slice A n c, .slice B m d] 30)).alloc o) w.heap.size 30 #[.slice A n c, .slice B m d]) := Lib.hid (fun o => (Blk.new _ _ _).alloc _)
  have KR : Hid (∀ o, Blk ((w.alloc o).alloc (.cells #[.slice none 0 0, .slice none 0 0] 30)) (w.heap.size + 1) 30 #[.slice none 0 0, .slice none 0 0]) := Lib.hid (fun o => by
    have := Blk.new (w.alloc o) 30 #[.slice none 0 0, .slice none 0 0]; simpa using this)
  obtain ⟨br, h1⟩ : ∃ b, rightB l = b := ⟨_, rfl⟩
  have H1 := Lib.hid h1
  clear h1
  go_enter Try.func17, Try.ntmps17
  go_wp2_with fail
  refine (right_g l _ _ _ _ _ _ _ br ((HL.out.alloc _).alloc _) hn hm H1.out).mono ?_
  rintro e w2 ⟨rfl, g2⟩
  have HB2 : Hid (Below w.heap.size w w2) := Lib.hid (bl_trans (bl_alloc (bl_alloc (Below.refl _ _) _) _) g2.below)
  have KL2 := Lib.hid ((KL.out _).below g2.below)
  have KR2 := Lib.hid ((KR.out _).below g2.below)
  clear g2 KL KR
  have l0 := KL2.out.cell 0 _ rfl
  have l1 := KL2.out.cell 1 _ rfl
  have r0 := KR2.out.cell 0 _ rfl
  have r1 := KR2.out.cell 1 _ rfl
  have rf := KR2.out.frozen
  cases br with
  | true =>
    by_cases h0 : m = 0
    · have HF : Hid (a = (l, 3)) := Lib.hid (by rw [← HA.out]; cases keep <;> first | exact keep_none _ H1.out (by rw [LM.out]; exact h0) | exact back_none _ H1.out (by rw [LM.out]; exact h0))
      have HN : Hid (p = n ∧ q = m) := Lib.hid (by rw [← HP.out, ← HQ.out, HF.out]; exact ⟨LN.out, LM.out⟩)
      obtain ⟨rfl, rfl⟩ := HN.out
      have t0 : ((q : Int) == 0) = true := by simp [h0]
      clear h0
      go_wp2
      have hk := (KR2.out.set_ 0 (.slice A p c)).set_ 1 (.slice B q d)
      have q0 := hk.cell 0 _ rfl
      have q1 := hk.cell 1 _ rfl
      clear hk
      (try simp only [Exit.inBlock, Exit.then])
      refine bodyPost_ret (v := .tuple #[.agg #[.slice A p c, .slice B q d], .int .i64 3]) (by simp [results, Try.results17, go_sem, q0, q1]) rfl ?_
      have bb := bl_set (bl_set HB2.out (p := ⟨w.heap.size + 1, 0, none⟩) (by simp) (.slice A p c)) (p := ⟨w.heap.size + 1, 1, none⟩) (by simp) (.slice B q d)
      exact ⟨A, c, B, d, by rw [HF.out], by rw [HF.out]; exact HL.out.below bb, bb⟩
    · obtain ⟨j, hj, hjn, -⟩ := right_last l H1.out (by rw [LM.out]; exact h0)
      rw [LM.out] at hj
      rw [LN.out] at hjn
      obtain ⟨k, hk⟩ : ∃ k, m - 1 = k := ⟨_, rfl⟩
      have HK : Hid (m - 1 = k ∧ m = k + 1) := Lib.hid ⟨hk, by omega⟩
      rw [hk] at hj
      have hkm : (m : Int) - 1 = (k : Int) := by omega
      have hkm2 : k ≤ d := by omega
      have hjc : j ≤ c := by omega
      have hklt : k < m := by omega
      have t0 : ((m : Int) == 0) = false := beq_eq_false_iff_ne.2 (by omega)
      obtain ⟨b1, off, zj, rfl, gz, c0⟩ := at_z (HL.out.rm.below HB2.out) k hklt
      obtain rfl : (j : Int) = zj := by rw [hj] at gz; injection gz
      have HJ := Lib.hid hj
      clear h0 hk hj gz
      cases keep with
      | true =>
        have HF : Hid (a = (⟨l.list, l.marks.take k⟩, 0)) := Lib.hid (by
          have h2 := keep_new l H1.out (by rw [LM.out]; omega)
          rw [LM.out, HK.out.1] at h2
          rw [← HA.out]; exact h2)
        have HN : Hid (p = n ∧ q = k) := Lib.hid (by rw [← HP.out, ← HQ.out, HF.out]; exact ⟨LN.out, by rw [List.length_take, LM.out]; omega⟩)
        obtain ⟨rfl, rfl⟩ := HN.out
        go_wp2_with fail
        go_big_region
        go_wp2
        have hk := KR2.out.set_ 0 (.slice A p c)
        have q0 := hk.cell 0 _ rfl
        have q1 := (hk.set_ 1 (.slice (some ⟨b1, off, none⟩) q d)).cell 1 _ rfl
        clear hk
        (try simp only [Exit.inBlock, Exit.then])
        refine bodyPost_ret (v := .tuple #[.agg #[.slice A p c, .slice (some ⟨b1, off, none⟩) q d], .int .i64 0]) (by simp [results, Try.results17, go_sem, q0, q1]) rfl ?_
        have bb := Below.drew <| bl_set (bl_set HB2.out (p := ⟨w.heap.size + 1, 0, none⟩) (by simp) (.slice A p c)) (p := ⟨w.heap.size + 1, 1, none⟩) (by simp) (.slice (some ⟨b1, off, none⟩) q d)
        exact ⟨A, c, _, d, by rw [HF.out], by rw [HF.out]; have h9 := (HL.out.below bb).cut p q (by omega) (by omega); rw [List.take_of_length_le (by rw [LN.out]; omega)] at h9; exact h9, bb⟩
      | false =>
        have HF : Hid (a = (⟨l.list.take j, l.marks.take k⟩, 0)) := Lib.hid (by
          have h2 := back_new l H1.out j (by rw [LM.out, HK.out.1]; exact HJ.out)
          rw [LM.out, HK.out.1] at h2
          rw [← HA.out]; exact h2)
        have HN : Hid (p = j ∧ q = k) := Lib.hid (by rw [← HP.out, ← HQ.out, HF.out]; exact ⟨by rw [List.length_take, LN.out]; omega, by rw [List.length_take, LM.out]; omega⟩)
        obtain ⟨rfl, rfl⟩ := HN.out
        go_wp2_with fail
        go_big_region
        go_wp2
        have hk := KR2.out.set_ 0 (.slice A p c)
        have q0 := hk.cell 0 _ rfl
        have q1 := (hk.set_ 1 (.slice (some ⟨b1, off, none⟩) q d)).cell 1 _ rfl
        clear hk
        (try simp only [Exit.inBlock, Exit.then])
        refine bodyPost_ret (v := .tuple #[.agg #[.slice A p c, .slice (some ⟨b1, off, none⟩) q d], .int .i64 0]) (by simp [results, Try.results17, go_sem, q0, q1]) rfl ?_
        have bb := Below.drew <| bl_set (bl_set HB2.out (p := ⟨w.heap.size + 1, 0, none⟩) (by simp) (.slice A p c)) (p := ⟨w.heap.size + 1, 1, none⟩) (by simp) (.slice (some ⟨b1, off, none⟩) q d)
        exact ⟨A, c, _, d, by rw [HF.out], by rw [HF.out]; exact (HL.out.below bb).cut p q (by omega) (by omega), bb⟩
  | false =>
    have HF : Hid (a = (l, 1)) := Lib.hid (by rw [← HA.out]; cases keep <;> first | exact keep_no _ H1.out | exact back_no _ H1.out)
    have HN : Hid (p = n ∧ q = m) := Lib.hid (by rw [← HP.out, ← HQ.out, HF.out]; exact ⟨LN.out, LM.out⟩)
    obtain ⟨rfl, rfl⟩ := HN.out
    go_wp2
    have hk := (KR2.out.set_ 0 (.slice A p c)).set_ 1 (.slice B q d)
    have q0 := hk.cell 0 _ rfl
    have q1 := hk.cell 1 _ rfl
    clear hk
    (try simp only [Exit.inBlock, Exit.then])
    refine bodyPost_ret (v := .tuple #[.agg #[.slice A p c, .slice B q d], .int .i64 1]) (by simp [results, Try.results17, go_sem, q0, q1]) rfl ?_
    have bb := bl_set (bl_set HB2.out (p := ⟨w.heap.size + 1, 0, none⟩) (by simp) (.slice A p c)) (p := ⟨w.heap.size + 1, 1, none⟩) (by simp) (.slice B q d)
    exact ⟨A, c, B, d, by rw [HF.out], by rw [HF.out]; exact HL.out.below bb, bb⟩
end Go.Proofs.Ytjmilnfemjnhoaa.Writes
