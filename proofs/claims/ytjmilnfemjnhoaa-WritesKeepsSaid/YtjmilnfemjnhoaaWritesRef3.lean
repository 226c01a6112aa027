/-
  WHAT THE DOCUMENT'S ANSWER FOR LAYER 6 RETURNS: Put, Mark.
-/
import Derived.Test.YtjmilnfemjnhoaaWritesRef2
import Derived.Test.YtjmilnfemjnhoaaMem3
namespace Go.Proofs.Ytjmilnfemjnhoaa.Writes
open Go.ChangeShapes Go.WideShapes Go.ChangeAt Go.RowKit Mem
open Heap (Write wc ws ws_len vB at_write)

/-- The results of a function that answers a log in a cell: the last thing of its walk. -/
theorem log_cells {w : World} {g : Nat} {A B : Option Addr} {n c m d : Nat} {t : TypeId} (h : Blk w g t #[.slice A n c, .slice B m d]) :
    w.cell? ⟨g, 0, none⟩ = some (.slice A n c) ∧ w.cell? ⟨g, 1, none⟩ = some (.slice B m d) := ⟨h.cell 0 _ rfl, h.cell 1 _ rfl⟩

set_option maxRecDepth 100000 in
set_option maxHeartbeats 4000000 in
theorem refput (l : Log) (A B : Option Addr) (n c m d : Nat) (cl vl : Int) (w : World) (a : Log × Int) (p q : Nat) (hl : LogAt w A n c B m d l) (hn : n ≤ 1000000) (hm : m ≤ 1000000)
    (ha : putS l ⟨cl, vl⟩ = a) (hp : a.1.list.length = p) (hq : a.1.marks.length = q) :
    Calls Try.prog 13 #[.agg #[.slice A n c, .slice B m d], .agg #[.int .i64 cl, .int .i64 vl]] w (RetL w p q a.1 a.2) := by
  have HA := Lib.hid ha
  have HP := Lib.hid hp
  have HQ := Lib.hid hq
  have HL := Lib.hid hl
  have LN := Lib.hid hl.ln
  have LM := Lib.hid hl.lm
  clear ha hp hq hl
  go_enter Try.func13, Try.ntmps13
  go_wp2_with fail
  have HB1 : Hid (Below w.heap.size w (((w.alloc (.cells #[.slice A n c, .slice B m d] 30)).alloc (.cells #[.int .i64 cl, .int .i64 vl] 27)).alloc (.cells #[.slice none 0 0, .slice none 0 0] 30))) := Lib.hid (bl_alloc (bl_alloc (bl_alloc (Below.refl _ _) _) _) _)
  have KL : Hid (Blk (((w.alloc (.cells #[.slice A n c, .slice B m d] 30)).alloc (.cells #[.int .i64 cl, .int .i64 vl] 27)).alloc (.cells #[.slice none 0 0, .slice none 0 0] 30)) w.heap.size 30 #[.slice A n c, .slice B m d]) := Lib.hid (((Blk.new _ _ _).alloc _).alloc _)
  have KW : Hid (Blk (((w.alloc (.cells #[.slice A n c, .slice B m d] 30)).alloc (.cells #[.int .i64 cl, .int .i64 vl] 27)).alloc (.cells #[.slice none 0 0, .slice none 0 0] 30)) (w.heap.size + 1) 27 #[.int .i64 cl, .int .i64 vl]) := Lib.hid (by
    have := (Blk.new (w.alloc (.cells #[.slice A n c, .slice B m d] 30)) 27 #[.int .i64 cl, .int .i64 vl]).alloc (.cells #[.slice none 0 0, .slice none 0 0] 30); simpa using this)
  have KR : Hid (Blk (((w.alloc (.cells #[.slice A n c, .slice B m d] 30)).alloc (.cells #[.int .i64 cl, .int .i64 vl] 27)).alloc (.cells #[.slice none 0 0, .slice none 0 0] 30)) (w.heap.size + 1 + 1) 30 #[.slice none 0 0, .slice none 0 0]) := Lib.hid (by
    have := Blk.new ((w.alloc (.cells #[.slice A n c, .slice B m d] 30)).alloc (.cells #[.int .i64 cl, .int .i64 vl] 27)) 30 #[.slice none 0 0, .slice none 0 0]; simpa using this)
  generalize ((w.alloc (.cells #[.slice A n c, .slice B m d] 30)).alloc (.cells #[.int .i64 cl, .int .i64 vl] 27)).alloc (.cells #[.slice none 0 0, .slice none 0 0] 30) = w1 at *
  have HW : Hid (∀ w2, Grew w1 w2 → Below w.heap.size w w2) := Lib.hid (fun w2 h => bl_trans HB1.out h.below)
  have hc0 : ∀ z os, (Sort.grow (w1.drewN z) os).cell? ⟨w.heap.size, 0, none⟩ = some (.slice A n c) := fun z os => (KL.out.below (Grew.below ⟨z, os, rfl⟩)).cell 0 _ rfl
  have hc1 : ∀ z os, (Sort.grow (w1.drewN z) os).cell? ⟨w.heap.size, 1, none⟩ = some (.slice B m d) := fun z os => (KL.out.below (Grew.below ⟨z, os, rfl⟩)).cell 1 _ rfl
  have hc2 : ∀ z os, (Sort.grow (w1.drewN z) os).cell? ⟨w.heap.size + 1, 0, none⟩ = some (.int .i64 cl) := fun z os => (KW.out.below (Grew.below ⟨z, os, rfl⟩)).cell 0 _ rfl
  have hc3 : ∀ z os, (Sort.grow (w1.drewN z) os).cell? ⟨w.heap.size + 1, 1, none⟩ = some (.int .i64 vl) := fun z os => (KW.out.below (Grew.below ⟨z, os, rfl⟩)).cell 1 _ rfl
  have HRR : Hid (∀ z os, LogAt (Sort.grow (w1.drewN z) os) A n c B m d l) := Lib.hid (fun z os => HL.out.below (HW.out _ ⟨z, os, rfl⟩))
  have hmix : Try.prog.follows .mixedOrders = true := by kernel_rfl
  cases h1 : rightB l
  all_goals cases h2 : oneB ⟨cl, vl⟩
  all_goals
    have H1 := Lib.hid h1
    have H2 := Lib.hid h2
    clear h1 h2
    go_quiet_grown (first
      | (go_at_call 20; refine Calls.grown_of (right_g l _ _ _ _ _ _ _ _ (HRR.out _ _) hn hm H1.out))
      | (go_at_call 30; refine Calls.grown_of (one_g _ _ _ _ H2.out)))
    have HG2 : Hid (Grew w1 (Sort.grow (w1.drewN nq) osq)) := Lib.hid ⟨nq, osq, rfl⟩
    have HR2 := Lib.hid (HRR.out nq osq)
    clear hc0 hc1 hc2 hc3 HRR
    generalize Sort.grow (w1.drewN nq) osq = w2 at *
    have HB2 : Hid (Below w.heap.size w w2) := Lib.hid (HW.out _ HG2.out)
    have KL2 := Lib.hid (KL.out.below HG2.out.below)
    have KW2 := Lib.hid (KW.out.below HG2.out.below)
    have KR2 := Lib.hid (KR.out.below HG2.out.below)
    have l0 := KL2.out.cell 0 _ rfl
    have l1 := KL2.out.cell 1 _ rfl
    have r0 := KR2.out.cell 0 _ rfl
    have r1 := KR2.out.cell 1 _ rfl
    have rf := KR2.out.frozen
    clear HG2 KL KW KR HB1 HW
  case true.true =>
    have HY : Hid ((rightB l && oneB ⟨cl, vl⟩) = true) := Lib.hid (by rw [H1.out, H2.out]; rfl)
    by_cases h24 : n = 24
    · have HF : Hid (a = (l, 5)) := Lib.hid (by rw [← HA.out]; exact put_big _ _ HY.out (by rw [LN.out]; exact h24))
      have HN : Hid (p = n ∧ q = m) := Lib.hid (by rw [← HP.out, ← HQ.out, HF.out]; exact ⟨LN.out, LM.out⟩)
      obtain ⟨rfl, rfl⟩ := HN.out
      have t24 : 23 < (p : Int) := by omega
      clear h24
      go_wp2
      have hk := (KR2.out.set_ 0 (.slice A p c)).set_ 1 (.slice B q d)
      have q0 := hk.cell 0 _ rfl
      have q1 := hk.cell 1 _ rfl
      clear hk
      (try simp only [Exit.inBlock, Exit.then])
      refine bodyPost_ret (v := .tuple #[.agg #[.slice A p c, .slice B q d], .int .i64 5]) (by simp [results, Try.results13, go_sem, q0, q1]) rfl ?_
      have bb := bl_set (bl_set HB2.out (p := ⟨w.heap.size + 1 + 1, 0, none⟩) (by simp; try omega) (.slice A p c)) (p := ⟨w.heap.size + 1 + 1, 1, none⟩) (by simp; try omega) (.slice B q d)
      exact ⟨A, c, B, d, by rw [HF.out], by rw [HF.out]; exact HL.out.below bb, bb⟩
    · have HF : Hid (a = (⟨l.list ++ [⟨cl, vl⟩], l.marks⟩, 0)) := Lib.hid (by rw [← HA.out]; exact put_new _ _ HY.out (by rw [LN.out]; exact h24))
      have HN : Hid (p = n + 1 ∧ q = m) := Lib.hid (by rw [← HP.out, ← HQ.out, HF.out]; exact ⟨by simp [LN.out], LM.out⟩)
      obtain ⟨rfl, rfl⟩ := HN.out
      have t24 : ¬ 23 < (n : Int) := by have := ((right_parts l).1 H1.out).1; rw [LN.out] at this; omega
      clear h24
      have w0 := KW2.out.cell 0 _ rfl
      have w1c := KW2.out.cell 1 _ rfl
      have l0a : ∀ o, (w2.alloc o).cell? ⟨w.heap.size, 0, none⟩ = some (.slice A n c) := fun o => (KL2.out.alloc o).cell 0 _ rfl
      have KO : Hid (Blk (w2.alloc (.cells #[.slice none 0 0, .slice B q d] 30)) w2.heap.size 30 #[.slice none 0 0, .slice B q d]) := Lib.hid (Blk.new _ _ _)
      have lo : Hid (w.heap.size + 1 + 1 < w2.heap.size) := Lib.hid KR2.out.lt
      have sz : Hid (w.heap.size ≤ w2.heap.size) := Lib.hid HB2.out.size
      go_wp2_with (first
        | (at_builtin; refine append_at rfl _ _ 22 rfl tWrite w (.slice none 0 0) 0 [] rfl (Own.nil_ (bl_alloc HB2.out _)) _ n c (ws l.list) rfl ((HL.out.rl.below HB2.out).alloc _) (ws_one _) (by omega) (by omega) ?_
           intro v3 w3 o3 g3 at3
           have ko := KO.out.grown g3 (by simp [Value.ownBlock])
           have kw := (KW2.out.alloc _).grown g3 (by simp [Value.ownBlock])
           have kr := (KR2.out.alloc _).grown g3 (by simp [Value.ownBlock])
           have ne3 := grown_ne (g := w2.heap.size) at3 (by simp [Value.ownBlock]) (by simp)
           have nr3 := grown_ne (g := w.heap.size + 1 + 1) at3 (by simp [Value.ownBlock]) (by simp; have := lo.out; omega)
           have x0 := ko.cell 0 _ rfl
           have x1 := ko.cell 1 _ rfl
           have xf := ko.frozen
           have y0 : ∀ u, (w3.setCell ⟨w2.heap.size, 0, none⟩ u).cell? ⟨w.heap.size + 1, 0, none⟩ = some (.int .i64 cl) := fun u => (kw.beside (by have := KW2.out.lt; omega) 0 u).cell 0 _ rfl
           have y1 : ∀ u, (w3.setCell ⟨w2.heap.size, 0, none⟩ u).cell? ⟨w.heap.size + 1, 1, none⟩ = some (.int .i64 vl) := fun u => (kw.beside (by have := KW2.out.lt; omega) 0 u).cell 1 _ rfl
           rw [Nat.zero_add] at o3
           obtain ⟨B3, d3, rfl, hnd3, hrd3⟩ := own_room o3
           have O3 := Lib.hid o3
           have NE3 := Lib.hid ne3
           have NR3 := Lib.hid nr3
           have KO3 := Lib.hid ko
           have KR3 := Lib.hid kr
           clear hrd3 hnd3 o3 g3 at3 ko kw kr ne3 nr3)
        | (at_builtin; refine append_at rfl _ _ 22 rfl tWrite w (.slice B3 n d3) n _ rfl ((O3.out.set_ne sz.out NE3.out _ _).alloc _) _ 1 1 (wc ⟨cl, vl⟩) rfl (Rd.builtAt _ 2 1 (wc ⟨cl, vl⟩) _ rfl (by simp)) (wc_one _) (by omega) (by omega) ?_
           intro v5 w5 o5 g5 at5
           have ko := ((KO3.out.set_ 0 _).alloc _).grown g5 NE3.out
           have kr := ((KR3.out.beside (by have := lo.out; omega) 0 _).alloc _).grown g5 NR3.out
           have ne5 := grown_ne (g := w2.heap.size) at5 NE3.out (by have := KO3.out.lt; simp; omega)
           have nr5 := grown_ne (g := w.heap.size + 1 + 1) at5 NR3.out (by have := KR3.out.lt; simp; omega)
           have x0' := ko.cell 0 _ rfl
           have x1' := ko.cell 1 _ rfl
           have xf' := ko.frozen
           obtain ⟨B5, d5, rfl, hnd5, hrd5⟩ := own_room o5
           have KO5 := Lib.hid (ko.set_ 0 (.slice B5 (n + 1) d5))
           have KR5 := Lib.hid (kr.beside (g' := w2.heap.size) (by have := lo.out; omega) 0 (.slice B5 (n + 1) d5))
           have O5 := Lib.hid (o5.set_ne sz.out ne5 0 (.slice B5 (n + 1) d5))
           have NR5 := Lib.hid nr5
           have r0' := KR5.out.cell 0 _ rfl
           have r1' := KR5.out.cell 1 _ rfl
           have rf' := KR5.out.frozen
           clear hrd5 hnd5 o5 g5 at5 ko kr ne5 nr5))
      have hk := (KR5.out.set_ 0 (.slice B5 (n + 1) d5)).set_ 1 (.slice B q d)
      have q0 := hk.cell 0 _ rfl
      have q1 := hk.cell 1 _ rfl
      clear hk
      (try simp only [Exit.inBlock, Exit.then])
      refine bodyPost_ret (v := .tuple #[.agg #[.slice B5 (n + 1) d5, .slice B q d], .int .i64 0]) (by simp [results, Try.results13, go_sem, q0, q1]) rfl ?_
      have o6 := (O5.out.set_ne (g := w.heap.size + 1 + 1) (by omega) NR5.out 0 (.slice B5 (n + 1) d5)).set_ne (g := w.heap.size + 1 + 1) (by omega) NR5.out 1 (.slice B q d)
      obtain ⟨_, hc6, hr6⟩ := own_cap o6
      exact ⟨B5, d5, B, d, by rw [HF.out], by rw [HF.out]; exact ⟨by rw [ws_app]; simpa [ws] using hr6, HL.out.rm.below o6.2, hc6, HL.out.md⟩, o6.2⟩
  all_goals
    have HF : Hid (a = (l, 1)) := Lib.hid (by rw [← HA.out]; exact put_no _ _ (by rw [H1.out, H2.out]; rfl))
    have HN : Hid (p = n ∧ q = m) := Lib.hid (by rw [← HP.out, ← HQ.out, HF.out]; exact ⟨LN.out, LM.out⟩)
    obtain ⟨rfl, rfl⟩ := HN.out
    go_wp2
    have hk := (KR2.out.set_ 0 (.slice A p c)).set_ 1 (.slice B q d)
    have q0 := hk.cell 0 _ rfl
    have q1 := hk.cell 1 _ rfl
    clear hk
    (try simp only [Exit.inBlock, Exit.then])
    refine bodyPost_ret (v := .tuple #[.agg #[.slice A p c, .slice B q d], .int .i64 1]) (by simp [results, Try.results13, go_sem, q0, q1]) rfl ?_
    have bb := bl_set (bl_set HB2.out (p := ⟨w.heap.size + 1 + 1, 0, none⟩) (by simp; try omega) (.slice A p c)) (p := ⟨w.heap.size + 1 + 1, 1, none⟩) (by simp; try omega) (.slice B q d)
    exact ⟨A, c, B, d, by rw [HF.out], by rw [HF.out]; exact HL.out.below bb, bb⟩
end Go.Proofs.Ytjmilnfemjnhoaa.Writes
