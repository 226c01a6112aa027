/-
  WHAT EACH FUNCTION OF THE LAYER writes RETURNS, AS IT IS WRITTEN: Put, Mark, Keep, Back.
-/
import Derived.Test.YtjmilnfemjnhoaaWritesCode2
import Derived.BigQuiet
import Derived.BigRegion
namespace Go.Proofs.Ytjmilnfemjnhoaa.Writes
open Go.ChangeShapes Go.WideShapes Go.ChangeAt Go.RowKit Mem
open Heap (Write wc ws ws_len vB at_write)

/-- The first ones of a slice of the call's own. -/
theorem own_cut {τ : Type} {K : Nat} {code : τ → List Value} (hcode : ∀ x, (code x).length = K) {w0 w : World} {e n d : Nat} {B : Option Addr} {l : List τ} (h : Own w0 w e K (.slice B n d) n (l.flatMap code)) (k : Nat) (hk : k ≤ n) (hK : 0 < K) :
    Own w0 w e K (.slice B k d) k ((l.take k).flatMap code) := by
  have hl : l.length = n := by have := h.1.1; rw [flat_len hcode] at this; exact Nat.eq_of_mul_eq_mul_right hK this
  refine ⟨⟨by rw [flat_len hcode, List.length_take, hl, Nat.min_eq_left hk], ?_⟩, h.2⟩
  rcases h.1.2 with ⟨hv, hn⟩ | ⟨g, cap, cur, hv, hb, hh, hnc, hcm, hsz, htk⟩
  · injection hv with e1 e2 e3
    subst e1 e3 hn
    obtain rfl : k = 0 := by omega
    exact .inl ⟨rfl, rfl⟩
  · injection hv with e1 e2 e3
    subst e1 e3
    refine .inr ⟨g, d, cur, rfl, hb, hh, by omega, hcm, hsz, ?_⟩
    have e : l.flatMap code = (l.take k).flatMap code ++ (l.drop k).flatMap code := by rw [← List.flatMap_append, List.take_append_drop]
    have h1 : cur.toList.take (k * K) = (cur.toList.take (n * K)).take (k * K) := by rw [List.take_take, Nat.min_eq_left (Nat.mul_le_mul_right K hk)]
    rw [h1, htk, e, List.take_append_of_le_length (by rw [flat_len hcode, List.length_take, hl, Nat.min_eq_left hk]; exact Nat.le_refl _), List.take_of_length_le (by rw [flat_len hcode, List.length_take, hl, Nat.min_eq_left hk]; exact Nat.le_refl _)]
theorem Pair.cut {w0 w : World} {A B : Option Addr} {n c m d : Nat} {l : Log} (h : Pair w0 w (.slice A n c) n (.slice B m d) m l) (j k : Nat) (hj : j ≤ n) (hk : k ≤ m) : Pair w0 w (.slice A j c) j (.slice B k d) k ⟨l.list.take j, l.marks.take k⟩ :=
  ⟨own_cut wc_len h.ol j hj (by decide), own_cut zc_len h.om k hk (by decide), by
    rcases h.ap with h | h | h
    · exact .inl (by cases A <;> exact h)
    · exact .inr (.inl (by cases B <;> exact h))
    · exact .inr (.inr (by cases A <;> cases B <;> exact h))⟩
set_option maxRecDepth 100000 in
set_option maxHeartbeats 4000000 in
theorem put_p (l : Log) (A B : Option Addr) (n c m d : Nat) (cl vl : Int) (w : World) (a : Log × Int) (p q : Nat) (hl : LogAt w A n c B m d l) (hn : n ≤ 1000000) (hm : m ≤ 1000000)
    (ha : putS l ⟨cl, vl⟩ = a) (hp : a.1.list.length = p) (hq : a.1.marks.length = q) :
    Calls Try.prog 12 #[.agg #[.slice A n c, .slice B m d], .agg #[.int .i64 cl, .int .i64 vl]] w (RetLP w p q a.1 a.2) := by
  have HA := Lib.hid ha
  have HP := Lib.hid hp
  have HQ := Lib.hid hq
  have HL := Lib.hid hl
  have LN := Lib.hid hl.ln
  have LM := Lib.hid hl.lm
  clear ha hp hq hl
  obtain ⟨br, h1⟩ : ∃ b, rightB l = b := ⟨_, rfl⟩
  have H1 := Lib.hid h1
  clear h1
  go_enter Try.func12, Try.ntmps12
  go_wp2_with fail
  have HB1 : Hid (Below w.heap.size w (((w.alloc (.cells #[.slice A n c, .slice B m d] 25)).alloc (.cells #[.int .i64 cl, .int .i64 vl] 27)).alloc (.cells #[.slice none 0 0, .slice none 0 0] 25))) := Lib.hid (bl_alloc (bl_alloc (bl_alloc (Below.refl _ _) _) _) _)
  have KL : Hid (Blk (((w.alloc (.cells #[.slice A n c, .slice B m d] 25)).alloc (.cells #[.int .i64 cl, .int .i64 vl] 27)).alloc (.cells #[.slice none 0 0, .slice none 0 0] 25)) w.heap.size 25 #[.slice A n c, .slice B m d]) := Lib.hid (((Blk.new _ _ _).alloc _).alloc _)
  have KX : Hid (Blk (((w.alloc (.cells #[.slice A n c, .slice B m d] 25)).alloc (.cells #[.int .i64 cl, .int .i64 vl] 27)).alloc (.cells #[.slice none 0 0, .slice none 0 0] 25)) (w.heap.size + 1) 27 #[.int .i64 cl, .int .i64 vl]) := Lib.hid (by
    have := (Blk.new (w.alloc (.cells #[.slice A n c, .slice B m d] 25)) 27 #[.int .i64 cl, .int .i64 vl]).alloc (.cells #[.slice none 0 0, .slice none 0 0] 25); simpa using this)
  have KR : Hid (Blk (((w.alloc (.cells #[.slice A n c, .slice B m d] 25)).alloc (.cells #[.int .i64 cl, .int .i64 vl] 27)).alloc (.cells #[.slice none 0 0, .slice none 0 0] 25)) (w.heap.size + 1 + 1) 25 #[.slice none 0 0, .slice none 0 0]) := Lib.hid (by
    have := Blk.new ((w.alloc (.cells #[.slice A n c, .slice B m d] 25)).alloc (.cells #[.int .i64 cl, .int .i64 vl] 27)) 25 #[.slice none 0 0, .slice none 0 0]; simpa using this)
  generalize ((w.alloc (.cells #[.slice A n c, .slice B m d] 25)).alloc (.cells #[.int .i64 cl, .int .i64 vl] 27)).alloc (.cells #[.slice none 0 0, .slice none 0 0] 25) = w1 at *
  refine (clone_c l _ _ _ _ _ _ _ (HL.out.below HB1.out) hn hm).mono ?_
  rintro e w2 ⟨A2, c2, B2, d2, rfl, pr⟩
  have b2 := pr.ol.2
  have PR3 : Hid (∀ o, Pair w1 (w2.alloc o) (.slice A2 n c2) n (.slice B2 m d2) m l) := Lib.hid (fun o => pr.alloc o)
  have KL3 : Hid (∀ o, Blk (w2.alloc o) w.heap.size 25 #[.slice A n c, .slice B m d]) := Lib.hid (fun o => (KL.out.below b2).alloc o)
  have KR3 : Hid (∀ o, Blk (w2.alloc o) (w.heap.size + 1 + 1) 25 #[.slice none 0 0, .slice none 0 0]) := Lib.hid (fun o => (KR.out.below b2).alloc o)
  have KX3 : Hid (∀ o, Blk (w2.alloc o) (w.heap.size + 1) 27 #[.int .i64 cl, .int .i64 vl]) := Lib.hid (fun o => (KX.out.below b2).alloc o)
  have KO3 : Hid (Blk (w2.alloc (.cells #[.slice A2 n c2, .slice B2 m d2] 25)) w2.heap.size 25 #[.slice A2 n c2, .slice B2 m d2]) := Lib.hid (Blk.new _ _ _)
  have HL3 : Hid (∀ o, LogAt (w2.alloc o) A n c B m d l) := Lib.hid (fun o => ((HL.out.below HB1.out).below b2).alloc o)
  have hr1 : Hid (w.heap.size + 1 + 1 < w1.heap.size) := Lib.hid KR.out.lt
  have hr2 : Hid (w1.heap.size ≤ w2.heap.size) := Lib.hid b2.size
  have n1 := Lib.hid (pair_old pr KR.out.lt)
  have no1 : Hid ((Value.slice A2 n c2).ownBlock ≠ some w2.heap.size ∧ (Value.slice B2 m d2).ownBlock ≠ some w2.heap.size) := Lib.hid ⟨fun e => by have := pr.ol.lt _ e; omega, fun e => by have := pr.om.lt _ e; omega⟩
  have l0a : ∀ o, (w2.alloc o).cell? ⟨w.heap.size, 0, none⟩ = some (.slice A n c) := fun o => (KL3.out o).cell 0 _ rfl
  have l1a : ∀ o, (w2.alloc o).cell? ⟨w.heap.size, 1, none⟩ = some (.slice B m d) := fun o => (KL3.out o).cell 1 _ rfl
  clear pr b2
  go_wp2_with fail
  refine (right_c l _ _ _ _ _ _ _ br (HL3.out _) hn hm H1.out).mono ?_
  rintro e w4 ⟨rfl, b4⟩
  have PR4 := Lib.hid ((PR3.out _).below b4)
  have KL4 := Lib.hid ((KL3.out _).below b4)
  have KR4 := Lib.hid ((KR3.out _).below b4)
  have KO4 := Lib.hid (KO3.out.below b4)
  have KX4 := Lib.hid ((KX3.out _).below b4)
  clear KX KX3
  clear b4 l0a l1a PR3 KL3 KR3 KO3 HL3 KL KR
  cases br with
  | false =>
    have HF : Hid (a = (l, 1)) := Lib.hid (by rw [← HA.out]; exact put_no _ _ (by rw [H1.out]; rfl))
    have HN : Hid (p = n ∧ q = m) := Lib.hid (by rw [← HP.out, ← HQ.out, HF.out]; exact ⟨LN.out, LM.out⟩)
    obtain ⟨rfl, rfl⟩ := HN.out
    have o0 := KO4.out.cell 0 _ rfl
    have o1 := KO4.out.cell 1 _ rfl
    have r0 := KR4.out.cell 0 _ rfl
    have r1 := KR4.out.cell 1 _ rfl
    have rf := KR4.out.frozen
    go_wp2
    have hk := (KR4.out.set_ 0 (.slice A2 p c2)).set_ 1 (.slice B2 q d2)
    have q0 := hk.cell 0 _ rfl
    have q1 := hk.cell 1 _ rfl
    clear hk
    (try simp only [Exit.inBlock, Exit.then])
    refine bodyPost_ret (v := .tuple #[.agg #[.slice A2 p c2, .slice B2 q d2], .int .i64 1]) (by simp [results, Try.results12, go_sem, q0, q1]) rfl ?_
    have pr := ((PR4.out.wide HB1.out).set_ne (g := w.heap.size + 1 + 1) (by omega) n1.out.1 n1.out.2 0 (.slice A2 p c2)).set_ne (g := w.heap.size + 1 + 1) (by omega) n1.out.1 n1.out.2 1 (.slice B2 q d2)
    exact ⟨A2, c2, B2, d2, by rw [HF.out], by rw [HF.out]; exact pr⟩
  | true =>
    obtain ⟨bo, h2⟩ : ∃ b, oneB ⟨cl, vl⟩ = b := ⟨_, rfl⟩
    have H2 := Lib.hid h2
    clear h2
    have x0 := KX4.out.cell 0 _ rfl
    have x1 := KX4.out.cell 1 _ rfl
    go_wp2_with fail
    refine (write_c _ _ _ bo H2.out).mono ?_
    rintro e w5 ⟨rfl, g5⟩
    have PR5 := Lib.hid (PR4.out.below g5.below)
    have KR5 := Lib.hid (KR4.out.below g5.below)
    have KO5 := Lib.hid (KO4.out.below g5.below)
    have KX5 := Lib.hid (KX4.out.below g5.below)
    have l0 := (KL4.out.below g5.below).cell 0 _ rfl
    clear g5 x0 x1 PR4 KR4 KO4 KX4
    cases bo with
    | false =>
      have HF : Hid (a = (l, 1)) := Lib.hid (by rw [← HA.out]; exact put_no _ _ (by rw [H1.out, H2.out]; rfl))
      have HN : Hid (p = n ∧ q = m) := Lib.hid (by rw [← HP.out, ← HQ.out, HF.out]; exact ⟨LN.out, LM.out⟩)
      obtain ⟨rfl, rfl⟩ := HN.out
      have o0 := KO5.out.cell 0 _ rfl
      have o1 := KO5.out.cell 1 _ rfl
      have r0 := KR5.out.cell 0 _ rfl
      have r1 := KR5.out.cell 1 _ rfl
      have rf := KR5.out.frozen
      go_wp2
      have hk := (KR5.out.set_ 0 (.slice A2 p c2)).set_ 1 (.slice B2 q d2)
      have q0 := hk.cell 0 _ rfl
      have q1 := hk.cell 1 _ rfl
      clear hk
      (try simp only [Exit.inBlock, Exit.then])
      refine bodyPost_ret (v := .tuple #[.agg #[.slice A2 p c2, .slice B2 q d2], .int .i64 1]) (by simp [results, Try.results12, go_sem, q0, q1]) rfl ?_
      have pr := ((PR5.out.wide HB1.out).set_ne (g := w.heap.size + 1 + 1) (by omega) n1.out.1 n1.out.2 0 (.slice A2 p c2)).set_ne (g := w.heap.size + 1 + 1) (by omega) n1.out.1 n1.out.2 1 (.slice B2 q d2)
      exact ⟨A2, c2, B2, d2, by rw [HF.out], by rw [HF.out]; exact pr⟩
    | true =>
      have HY : Hid ((rightB l && oneB ⟨cl, vl⟩) = true) := Lib.hid (by rw [H1.out, H2.out]; rfl)
      by_cases h24 : n = 24
      · have HF : Hid (a = (l, 5)) := Lib.hid (by rw [← HA.out]; exact put_big _ _ HY.out (by rw [LN.out]; exact h24))
        have HN : Hid (p = n ∧ q = m) := Lib.hid (by rw [← HP.out, ← HQ.out, HF.out]; exact ⟨LN.out, LM.out⟩)
        obtain ⟨rfl, rfl⟩ := HN.out
        have t24 : ((p : Int) == 24) = true := by simp [h24]
        clear h24
        have o0 := KO5.out.cell 0 _ rfl
        have o1 := KO5.out.cell 1 _ rfl
        have r0 := KR5.out.cell 0 _ rfl
        have r1 := KR5.out.cell 1 _ rfl
        have rf := KR5.out.frozen
        go_wp2
        have hk := (KR5.out.set_ 0 (.slice A2 p c2)).set_ 1 (.slice B2 q d2)
        have q0 := hk.cell 0 _ rfl
        have q1 := hk.cell 1 _ rfl
        clear hk
        (try simp only [Exit.inBlock, Exit.then])
        refine bodyPost_ret (v := .tuple #[.agg #[.slice A2 p c2, .slice B2 q d2], .int .i64 5]) (by simp [results, Try.results12, go_sem, q0, q1]) rfl ?_
        have pr := ((PR5.out.wide HB1.out).set_ne (g := w.heap.size + 1 + 1) (by omega) n1.out.1 n1.out.2 0 (.slice A2 p c2)).set_ne (g := w.heap.size + 1 + 1) (by omega) n1.out.1 n1.out.2 1 (.slice B2 q d2)
        exact ⟨A2, c2, B2, d2, by rw [HF.out], by rw [HF.out]; exact pr⟩
      · have HF : Hid (a = (⟨l.list ++ [⟨cl, vl⟩], l.marks⟩, 0)) := Lib.hid (by rw [← HA.out]; exact put_new _ _ HY.out (by rw [LN.out]; exact h24))
        have HN : Hid (p = n + 1 ∧ q = m) := Lib.hid (by rw [← HP.out, ← HQ.out, HF.out]; exact ⟨by simp [LN.out], LM.out⟩)
        obtain ⟨rfl, rfl⟩ := HN.out
        have t24 : ((n : Int) == 24) = false := beq_eq_false_iff_ne.2 (by omega)
        clear h24
        have x0 := KX5.out.cell 0 _ rfl
        have x1 := KX5.out.cell 1 _ rfl
        have o0 := KO5.out.cell 0 _ rfl
        have E9 : Hid (ws (l.list ++ [⟨cl, vl⟩]) = ws l.list ++ wc ⟨cl, vl⟩) := Lib.hid (by rw [ws_app]; rfl)
        go_wp2_with (at_builtin; refine append_at rfl _ _ 22 rfl tWrite w1 (.slice A2 n c2) n _ rfl (PR5.out.ol.alloc _) _ 1 1 (wc ⟨cl, vl⟩) rfl (Rd.built _ 2 1 (wc ⟨cl, vl⟩) _ rfl) (wc_one _) (by omega) (by omega) ?_
                     intro v6 w6 o6 g6 at6
                     have ko := (KO5.out.alloc _).grown g6 no1.out.1
                     have kr := (KR5.out.alloc _).grown g6 n1.out.1
                     have ne6 := grown_ne (g := w2.heap.size) at6 no1.out.1 (by have := KO5.out.lt; simp; omega)
                     have nr6 := grown_ne (g := w.heap.size + 1 + 1) at6 n1.out.1 (by have := KR5.out.lt; simp; omega)
                     obtain ⟨om6, ap6⟩ := (PR5.out.om.alloc _).beside PR5.out.ap (PR5.out.ol.alloc _) g6 at6
                     obtain ⟨A6, c6, rfl, -, -⟩ := own_room o6
                     have y0 := ko.cell 0 _ rfl
                     have yf := ko.frozen
                     have KO6 := Lib.hid (ko.set_ 0 (.slice A6 (n + 1) c6))
                     have KR6 := Lib.hid (kr.beside (g' := w2.heap.size) (by have := hr1.out; have := hr2.out; omega) 0 (.slice A6 (n + 1) c6))
                     have o7 : Own w1 w6 27 2 (.slice A6 (n + 1) c6) (n + 1) (ws (l.list ++ [⟨cl, vl⟩])) := by rw [E9.out]; exact o6
                     have pr6 : Pair w1 w6 (.slice A6 (n + 1) c6) (n + 1) (.slice B2 q d2) q ⟨l.list ++ [⟨cl, vl⟩], l.marks⟩ := ⟨o7, om6, ap6⟩
                     have PR6 := Lib.hid (pr6.set_ne hr2.out ne6 no1.out.2 0 (.slice A6 (n + 1) c6))
                     have NR6 := Lib.hid nr6
                     have z0 := KO6.out.cell 0 _ rfl
                     have z1 := KO6.out.cell 1 _ rfl
                     have r0 := KR6.out.cell 0 _ rfl
                     have r1 := KR6.out.cell 1 _ rfl
                     have rf := KR6.out.frozen
                     clear o6 g6 at6 ko kr ne6 nr6 om6 ap6 o7 pr6)
        have hk := (KR6.out.set_ 0 (.slice A6 (n + 1) c6)).set_ 1 (.slice B2 q d2)
        have q0 := hk.cell 0 _ rfl
        have q1 := hk.cell 1 _ rfl
        clear hk
        (try simp only [Exit.inBlock, Exit.then])
        refine bodyPost_ret (v := .tuple #[.agg #[.slice A6 (n + 1) c6, .slice B2 q d2], .int .i64 0]) (by simp [results, Try.results12, go_sem, q0, q1]) rfl ?_
        have pr := ((PR6.out.wide HB1.out).set_ne (g := w.heap.size + 1 + 1) (by omega) NR6.out n1.out.2 0 (.slice A6 (n + 1) c6)).set_ne (g := w.heap.size + 1 + 1) (by omega) NR6.out n1.out.2 1 (.slice B2 q d2)
        exact ⟨A6, c6, B2, d2, by rw [HF.out], by rw [HF.out]; exact pr⟩

set_option maxRecDepth 100000 in
set_option maxHeartbeats 4000000 in
theorem mark_p (l : Log) (A B : Option Addr) (n c m d : Nat) (w : World) (a : Log × Int) (p q : Nat) (hl : LogAt w A n c B m d l) (hn : n ≤ 1000000) (hm : m ≤ 1000000)
    (ha : markS l = a) (hp : a.1.list.length = p) (hq : a.1.marks.length = q) :
    Calls Try.prog 14 #[.agg #[.slice A n c, .slice B m d]] w (RetLP w p q a.1 a.2) := by
  have HA := Lib.hid ha
  have HP := Lib.hid hp
  have HQ := Lib.hid hq
  have HL := Lib.hid hl
  have LN := Lib.hid hl.ln
  have LM := Lib.hid hl.lm
  clear ha hp hq hl
  obtain ⟨br, h1⟩ : ∃ b, rightB l = b := ⟨_, rfl⟩
  have H1 := Lib.hid h1
  clear h1
  go_enter Try.func14, Try.ntmps14
  go_wp2_with fail
  have HB1 : Hid (Below w.heap.size w ((w.alloc (.cells #[.slice A n c, .slice B m d] 25)).alloc (.cells #[.slice none 0 0, .slice none 0 0] 25))) := Lib.hid (bl_alloc (bl_alloc (Below.refl _ _) _) _)
  have KL : Hid (Blk ((w.alloc (.cells #[.slice A n c, .slice B m d] 25)).alloc (.cells #[.slice none 0 0, .slice none 0 0] 25)) w.heap.size 25 #[.slice A n c, .slice B m d]) := Lib.hid ((Blk.new _ _ _).alloc _)
  have KR : Hid (Blk ((w.alloc (.cells #[.slice A n c, .slice B m d] 25)).alloc (.cells #[.slice none 0 0, .slice none 0 0] 25)) (w.heap.size + 1) 25 #[.slice none 0 0, .slice none 0 0]) := Lib.hid (by
    have := Blk.new (w.alloc (.cells #[.slice A n c, .slice B m d] 25)) 25 #[.slice none 0 0, .slice none 0 0]; simpa using this)
  generalize (w.alloc (.cells #[.slice A n c, .slice B m d] 25)).alloc (.cells #[.slice none 0 0, .slice none 0 0] 25) = w1 at *
  refine (clone_c l _ _ _ _ _ _ _ (HL.out.below HB1.out) hn hm).mono ?_
  rintro e w2 ⟨A2, c2, B2, d2, rfl, pr⟩
  have b2 := pr.ol.2
  have PR3 : Hid (∀ o, Pair w1 (w2.alloc o) (.slice A2 n c2) n (.slice B2 m d2) m l) := Lib.hid (fun o => pr.alloc o)
  have KL3 : Hid (∀ o, Blk (w2.alloc o) w.heap.size 25 #[.slice A n c, .slice B m d]) := Lib.hid (fun o => (KL.out.below b2).alloc o)
  have KR3 : Hid (∀ o, Blk (w2.alloc o) (w.heap.size + 1) 25 #[.slice none 0 0, .slice none 0 0]) := Lib.hid (fun o => (KR.out.below b2).alloc o)
  have KO3 : Hid (Blk (w2.alloc (.cells #[.slice A2 n c2, .slice B2 m d2] 25)) w2.heap.size 25 #[.slice A2 n c2, .slice B2 m d2]) := Lib.hid (Blk.new _ _ _)
  have HL3 : Hid (∀ o, LogAt (w2.alloc o) A n c B m d l) := Lib.hid (fun o => ((HL.out.below HB1.out).below b2).alloc o)
  have hr1 : Hid (w.heap.size + 1 < w1.heap.size) := Lib.hid KR.out.lt
  have hr2 : Hid (w1.heap.size ≤ w2.heap.size) := Lib.hid b2.size
  have n1 := Lib.hid (pair_old pr KR.out.lt)
  have no1 : Hid ((Value.slice A2 n c2).ownBlock ≠ some w2.heap.size ∧ (Value.slice B2 m d2).ownBlock ≠ some w2.heap.size) := Lib.hid ⟨fun e => by have := pr.ol.lt _ e; omega, fun e => by have := pr.om.lt _ e; omega⟩
  have l0a : ∀ o, (w2.alloc o).cell? ⟨w.heap.size, 0, none⟩ = some (.slice A n c) := fun o => (KL3.out o).cell 0 _ rfl
  have l1a : ∀ o, (w2.alloc o).cell? ⟨w.heap.size, 1, none⟩ = some (.slice B m d) := fun o => (KL3.out o).cell 1 _ rfl
  clear pr b2
  go_wp2_with fail
  refine (right_c l _ _ _ _ _ _ _ br (HL3.out _) hn hm H1.out).mono ?_
  rintro e w4 ⟨rfl, b4⟩
  have PR4 := Lib.hid ((PR3.out _).below b4)
  have KL4 := Lib.hid ((KL3.out _).below b4)
  have KR4 := Lib.hid ((KR3.out _).below b4)
  have KO4 := Lib.hid (KO3.out.below b4)
  clear b4 l0a l1a PR3 KL3 KR3 KO3 HL3 KL KR
  cases br with
  | false =>
    have HF : Hid (a = (l, 1)) := Lib.hid (by rw [← HA.out]; exact mark_no _ H1.out)
    have HN : Hid (p = n ∧ q = m) := Lib.hid (by rw [← HP.out, ← HQ.out, HF.out]; exact ⟨LN.out, LM.out⟩)
    obtain ⟨rfl, rfl⟩ := HN.out
    have o0 := KO4.out.cell 0 _ rfl
    have o1 := KO4.out.cell 1 _ rfl
    have r0 := KR4.out.cell 0 _ rfl
    have r1 := KR4.out.cell 1 _ rfl
    have rf := KR4.out.frozen
    go_wp2
    have hk := (KR4.out.set_ 0 (.slice A2 p c2)).set_ 1 (.slice B2 q d2)
    have q0 := hk.cell 0 _ rfl
    have q1 := hk.cell 1 _ rfl
    clear hk
    (try simp only [Exit.inBlock, Exit.then])
    refine bodyPost_ret (v := .tuple #[.agg #[.slice A2 p c2, .slice B2 q d2], .int .i64 1]) (by simp [results, Try.results14, go_sem, q0, q1]) rfl ?_
    have pr := ((PR4.out.wide HB1.out).set_ne (g := w.heap.size + 1) (by omega) n1.out.1 n1.out.2 0 (.slice A2 p c2)).set_ne (g := w.heap.size + 1) (by omega) n1.out.1 n1.out.2 1 (.slice B2 q d2)
    exact ⟨A2, c2, B2, d2, by rw [HF.out], by rw [HF.out]; exact pr⟩
  | true =>
    have l0 := KL4.out.cell 0 _ rfl
    have l1 := KL4.out.cell 1 _ rfl
    by_cases h6 : m = 6
    · have HF : Hid (a = (l, 5)) := Lib.hid (by rw [← HA.out]; exact mark_big _ H1.out (by rw [LM.out]; exact h6))
      have HN : Hid (p = n ∧ q = m) := Lib.hid (by rw [← HP.out, ← HQ.out, HF.out]; exact ⟨LN.out, LM.out⟩)
      obtain ⟨rfl, rfl⟩ := HN.out
      have t6 : ((q : Int) == 6) = true := by simp [h6]
      clear h6
      have o0 := KO4.out.cell 0 _ rfl
      have o1 := KO4.out.cell 1 _ rfl
      have r0 := KR4.out.cell 0 _ rfl
      have r1 := KR4.out.cell 1 _ rfl
      have rf := KR4.out.frozen
      go_wp2
      have hk := (KR4.out.set_ 0 (.slice A2 p c2)).set_ 1 (.slice B2 q d2)
      have q0 := hk.cell 0 _ rfl
      have q1 := hk.cell 1 _ rfl
      clear hk
      (try simp only [Exit.inBlock, Exit.then])
      refine bodyPost_ret (v := .tuple #[.agg #[.slice A2 p c2, .slice B2 q d2], .int .i64 5]) (by simp [results, Try.results14, go_sem, q0, q1]) rfl ?_
      have pr := ((PR4.out.wide HB1.out).set_ne (g := w.heap.size + 1) (by omega) n1.out.1 n1.out.2 0 (.slice A2 p c2)).set_ne (g := w.heap.size + 1) (by omega) n1.out.1 n1.out.2 1 (.slice B2 q d2)
      exact ⟨A2, c2, B2, d2, by rw [HF.out], by rw [HF.out]; exact pr⟩
    · have HF : Hid (a = (⟨l.list, l.marks ++ [(n : Int)]⟩, 0)) := Lib.hid (by rw [← HA.out, ← LN.out]; exact mark_new _ H1.out (by rw [LM.out]; exact h6))
      have HN : Hid (p = n ∧ q = m + 1) := Lib.hid (by rw [← HP.out, ← HQ.out, HF.out]; exact ⟨LN.out, by simp [LM.out]⟩)
      obtain ⟨rfl, rfl⟩ := HN.out
      have t6 : ((m : Int) == 6) = false := beq_eq_false_iff_ne.2 (by omega)
      clear h6
      have o1 := KO4.out.cell 1 _ rfl
      have E9 : Hid (zs (l.marks ++ [(p : Int)]) = zs l.marks ++ zs [(p : Int)]) := Lib.hid (zs_app _ _)
      go_wp2_with (at_builtin; refine append_at rfl _ _ 23 rfl tInt w1 (.slice B2 m d2) m _ rfl (PR4.out.om.alloc _) _ 1 1 (zs [(p : Int)]) rfl (Rd.built _ 1 1 (zs [(p : Int)]) _ rfl) (zs_one _) (by omega) (by omega) ?_
                   intro v6 w6 o6 g6 at6
                   have ko := (KO4.out.alloc _).grown g6 no1.out.2
                   have kr := (KR4.out.alloc _).grown g6 n1.out.2
                   have ne6 := grown_ne (g := w2.heap.size) at6 no1.out.2 (by have := KO4.out.lt; simp; omega)
                   have nr6 := grown_ne (g := w.heap.size + 1) at6 n1.out.2 (by have := KR4.out.lt; simp; omega)
                   obtain ⟨ol6, ap6⟩ := (PR4.out.ol.alloc _).beside PR4.out.ap.symm (PR4.out.om.alloc _) g6 at6
                   obtain ⟨B6, d6, rfl, -, -⟩ := own_room o6
                   have y1 := ko.cell 1 _ rfl
                   have yf := ko.frozen
                   have KO6 := Lib.hid (ko.set_ 1 (.slice B6 (m + 1) d6))
                   have KR6 := Lib.hid (kr.beside (g' := w2.heap.size) (by have := hr1.out; have := hr2.out; omega) 1 (.slice B6 (m + 1) d6))
                   have o7 : Own w1 w6 3 1 (.slice B6 (m + 1) d6) (m + 1) (zs (l.marks ++ [(p : Int)])) := by rw [E9.out]; exact o6
                   have pr6 : Pair w1 w6 (.slice A2 p c2) p (.slice B6 (m + 1) d6) (m + 1) ⟨l.list, l.marks ++ [(p : Int)]⟩ := ⟨ol6, o7, ap6.symm⟩
                   have PR6 := Lib.hid (pr6.set_ne hr2.out no1.out.1 ne6 1 (.slice B6 (m + 1) d6))
                   have NR6 := Lib.hid nr6
                   have z0 := KO6.out.cell 0 _ rfl
                   have z1 := KO6.out.cell 1 _ rfl
                   have r0 := KR6.out.cell 0 _ rfl
                   have r1 := KR6.out.cell 1 _ rfl
                   have rf := KR6.out.frozen
                   clear o6 g6 at6 ko kr ne6 nr6 ol6 ap6 o7 pr6)
      have hk := (KR6.out.set_ 0 (.slice A2 p c2)).set_ 1 (.slice B6 (m + 1) d6)
      have q0 := hk.cell 0 _ rfl
      have q1 := hk.cell 1 _ rfl
      clear hk
      (try simp only [Exit.inBlock, Exit.then])
      refine bodyPost_ret (v := .tuple #[.agg #[.slice A2 p c2, .slice B6 (m + 1) d6], .int .i64 0]) (by simp [results, Try.results14, go_sem, q0, q1]) rfl ?_
      have pr := ((PR6.out.wide HB1.out).set_ne (g := w.heap.size + 1) (by omega) n1.out.1 NR6.out 0 (.slice A2 p c2)).set_ne (g := w.heap.size + 1) (by omega) n1.out.1 NR6.out 1 (.slice B6 (m + 1) d6)
      exact ⟨A2, c2, B6, d6, by rw [HF.out], by rw [HF.out]; exact pr⟩

set_option maxRecDepth 100000 in
set_option maxHeartbeats 4000000 in
theorem keep_p (l : Log) (A B : Option Addr) (n c m d : Nat) (w : World) (a : Log × Int) (p q : Nat) (hl : LogAt w A n c B m d l) (hn : n ≤ 1000000) (hm : m ≤ 1000000)
    (ha : keepS l = a) (hp : a.1.list.length = p) (hq : a.1.marks.length = q) :
    Calls Try.prog 18 #[.agg #[.slice A n c, .slice B m d]] w (RetLP w p q a.1 a.2) := by
  have HA := Lib.hid ha
  have HP := Lib.hid hp
  have HQ := Lib.hid hq
  have HL := Lib.hid hl
  have LN := Lib.hid hl.ln
  have LM := Lib.hid hl.lm
  clear ha hp hq hl
  obtain ⟨br, h1⟩ : ∃ b, rightB l = b := ⟨_, rfl⟩
  have H1 := Lib.hid h1
  clear h1
  go_enter Try.func18, Try.ntmps18
  go_wp2_with fail
  have HB1 : Hid (Below w.heap.size w ((w.alloc (.cells #[.slice A n c, .slice B m d] 25)).alloc (.cells #[.slice none 0 0, .slice none 0 0] 25))) := Lib.hid (bl_alloc (bl_alloc (Below.refl _ _) _) _)
  have KL : Hid (Blk ((w.alloc (.cells #[.slice A n c, .slice B m d] 25)).alloc (.cells #[.slice none 0 0, .slice none 0 0] 25)) w.heap.size 25 #[.slice A n c, .slice B m d]) := Lib.hid ((Blk.new _ _ _).alloc _)
  have KR : Hid (Blk ((w.alloc (.cells #[.slice A n c, .slice B m d] 25)).alloc (.cells #[.slice none 0 0, .slice none 0 0] 25)) (w.heap.size + 1) 25 #[.slice none 0 0, .slice none 0 0]) := Lib.hid (by
    have := Blk.new (w.alloc (.cells #[.slice A n c, .slice B m d] 25)) 25 #[.slice none 0 0, .slice none 0 0]; simpa using this)
  generalize (w.alloc (.cells #[.slice A n c, .slice B m d] 25)).alloc (.cells #[.slice none 0 0, .slice none 0 0] 25) = w1 at *
  refine (clone_c l _ _ _ _ _ _ _ (HL.out.below HB1.out) hn hm).mono ?_
  rintro e w2 ⟨A2, c2, B2, d2, rfl, pr⟩
  have b2 := pr.ol.2
  have PR3 : Hid (∀ o, Pair w1 (w2.alloc o) (.slice A2 n c2) n (.slice B2 m d2) m l) := Lib.hid (fun o => pr.alloc o)
  have KL3 : Hid (∀ o, Blk (w2.alloc o) w.heap.size 25 #[.slice A n c, .slice B m d]) := Lib.hid (fun o => (KL.out.below b2).alloc o)
  have KR3 : Hid (∀ o, Blk (w2.alloc o) (w.heap.size + 1) 25 #[.slice none 0 0, .slice none 0 0]) := Lib.hid (fun o => (KR.out.below b2).alloc o)
  have KO3 : Hid (Blk (w2.alloc (.cells #[.slice A2 n c2, .slice B2 m d2] 25)) w2.heap.size 25 #[.slice A2 n c2, .slice B2 m d2]) := Lib.hid (Blk.new _ _ _)
  have HL3 : Hid (∀ o, LogAt (w2.alloc o) A n c B m d l) := Lib.hid (fun o => ((HL.out.below HB1.out).below b2).alloc o)
  have hr1 : Hid (w.heap.size + 1 < w1.heap.size) := Lib.hid KR.out.lt
  have hr2 : Hid (w1.heap.size ≤ w2.heap.size) := Lib.hid b2.size
  have n1 := Lib.hid (pair_old pr KR.out.lt)
  have no1 : Hid ((Value.slice A2 n c2).ownBlock ≠ some w2.heap.size ∧ (Value.slice B2 m d2).ownBlock ≠ some w2.heap.size) := Lib.hid ⟨fun e => by have := pr.ol.lt _ e; omega, fun e => by have := pr.om.lt _ e; omega⟩
  have l0a : ∀ o, (w2.alloc o).cell? ⟨w.heap.size, 0, none⟩ = some (.slice A n c) := fun o => (KL3.out o).cell 0 _ rfl
  have l1a : ∀ o, (w2.alloc o).cell? ⟨w.heap.size, 1, none⟩ = some (.slice B m d) := fun o => (KL3.out o).cell 1 _ rfl
  clear pr b2
  go_wp2_with fail
  refine (right_c l _ _ _ _ _ _ _ br (HL3.out _) hn hm H1.out).mono ?_
  rintro e w4 ⟨rfl, b4⟩
  have PR4 := Lib.hid ((PR3.out _).below b4)
  have KL4 := Lib.hid ((KL3.out _).below b4)
  have KR4 := Lib.hid ((KR3.out _).below b4)
  have KO4 := Lib.hid (KO3.out.below b4)
  clear b4 l0a l1a PR3 KL3 KR3 KO3 HL3 KL KR
  cases br with
  | false =>
    have HF : Hid (a = (l, 1)) := Lib.hid (by rw [← HA.out]; exact keep_no _ H1.out)
    have HN : Hid (p = n ∧ q = m) := Lib.hid (by rw [← HP.out, ← HQ.out, HF.out]; exact ⟨LN.out, LM.out⟩)
    obtain ⟨rfl, rfl⟩ := HN.out
    have o0 := KO4.out.cell 0 _ rfl
    have o1 := KO4.out.cell 1 _ rfl
    have r0 := KR4.out.cell 0 _ rfl
    have r1 := KR4.out.cell 1 _ rfl
    have rf := KR4.out.frozen
    go_wp2
    have hk := (KR4.out.set_ 0 (.slice A2 p c2)).set_ 1 (.slice B2 q d2)
    have q0 := hk.cell 0 _ rfl
    have q1 := hk.cell 1 _ rfl
    clear hk
    (try simp only [Exit.inBlock, Exit.then])
    refine bodyPost_ret (v := .tuple #[.agg #[.slice A2 p c2, .slice B2 q d2], .int .i64 1]) (by simp [results, Try.results18, go_sem, q0, q1]) rfl ?_
    have pr := ((PR4.out.wide HB1.out).set_ne (g := w.heap.size + 1) (by omega) n1.out.1 n1.out.2 0 (.slice A2 p c2)).set_ne (g := w.heap.size + 1) (by omega) n1.out.1 n1.out.2 1 (.slice B2 q d2)
    exact ⟨A2, c2, B2, d2, by rw [HF.out], by rw [HF.out]; exact pr⟩
  | true =>
    have l1 := KL4.out.cell 1 _ rfl
    by_cases h0 : m = 0
    · have HF : Hid (a = (l, 3)) := Lib.hid (by rw [← HA.out]; exact keep_none _ H1.out (by rw [LM.out]; exact h0))
      have HN : Hid (p = n ∧ q = m) := Lib.hid (by rw [← HP.out, ← HQ.out, HF.out]; exact ⟨LN.out, LM.out⟩)
      obtain ⟨rfl, rfl⟩ := HN.out
      have t0 : ((q : Int) == 0) = true := by simp [h0]
      clear h0
      have o0 := KO4.out.cell 0 _ rfl
      have o1 := KO4.out.cell 1 _ rfl
      have r0 := KR4.out.cell 0 _ rfl
      have r1 := KR4.out.cell 1 _ rfl
      have rf := KR4.out.frozen
      go_wp2
      have hk := (KR4.out.set_ 0 (.slice A2 p c2)).set_ 1 (.slice B2 q d2)
      have q0 := hk.cell 0 _ rfl
      have q1 := hk.cell 1 _ rfl
      clear hk
      (try simp only [Exit.inBlock, Exit.then])
      refine bodyPost_ret (v := .tuple #[.agg #[.slice A2 p c2, .slice B2 q d2], .int .i64 3]) (by simp [results, Try.results18, go_sem, q0, q1]) rfl ?_
      have pr := ((PR4.out.wide HB1.out).set_ne (g := w.heap.size + 1) (by omega) n1.out.1 n1.out.2 0 (.slice A2 p c2)).set_ne (g := w.heap.size + 1) (by omega) n1.out.1 n1.out.2 1 (.slice B2 q d2)
      exact ⟨A2, c2, B2, d2, by rw [HF.out], by rw [HF.out]; exact pr⟩
    · obtain ⟨k, hk⟩ : ∃ k, m - 1 = k := ⟨_, rfl⟩
      have HF : Hid (a = (⟨l.list, l.marks.take k⟩, 0)) := Lib.hid (by
        have h2 := keep_new l H1.out (by rw [LM.out]; exact h0)
        rw [LM.out, hk] at h2
        rw [← HA.out]; exact h2)
      have HN : Hid (p = n ∧ q = k) := Lib.hid (by rw [← HP.out, ← HQ.out, HF.out]; exact ⟨LN.out, by rw [List.length_take, LM.out]; omega⟩)
      have hkm : (m : Int) - 1 = (k : Int) := by omega
      have hmd := PR4.out.log.md
      have hkd : k ≤ d2 := by omega
      have HKM : Hid (k ≤ m) := Lib.hid (by omega)
      have t0 : ((m : Int) == 0) = false := beq_eq_false_iff_ne.2 (by omega)
      obtain ⟨rfl, rfl⟩ := HN.out
      clear h0 hk
      have o0 := KO4.out.cell 0 _ rfl
      have o1 := KO4.out.cell 1 _ rfl
      have of := KO4.out.frozen
      have KR5 := Lib.hid (KR4.out.beside (g' := w2.heap.size) (by have := hr1.out; have := hr2.out; omega) 1 (.slice B2 q d2))
      have KO5 := Lib.hid (KO4.out.set_ 1 (.slice B2 q d2))
      have z0 := KO5.out.cell 0 _ rfl
      have z1 := KO5.out.cell 1 _ rfl
      have r0 := KR5.out.cell 0 _ rfl
      have r1 := KR5.out.cell 1 _ rfl
      have rf := KR5.out.frozen
      go_wp2
      have hk := (KR5.out.set_ 0 (.slice A2 p c2)).set_ 1 (.slice B2 q d2)
      have q0 := hk.cell 0 _ rfl
      have q1 := hk.cell 1 _ rfl
      clear hk
      (try simp only [Exit.inBlock, Exit.then])
      refine bodyPost_ret (v := .tuple #[.agg #[.slice A2 p c2, .slice B2 q d2], .int .i64 0]) (by simp [results, Try.results18, go_sem, q0, q1]) rfl ?_
      have p0 := (PR4.out.wide HB1.out).cut p q (Nat.le_refl _) HKM.out
      rw [List.take_of_length_le (by rw [LN.out]; omega)] at p0
      have n2 : (Value.slice B2 q d2).ownBlock ≠ some w2.heap.size := fun e => no1.out.2 (by cases B2 <;> exact e)
      have n3 : (Value.slice B2 q d2).ownBlock ≠ some (w.heap.size + 1) := fun e => n1.out.2 (by cases B2 <;> exact e)
      have pr := ((p0.set_ne (g := w2.heap.size) (by have := hr2.out; have := HB1.out.size; omega) no1.out.1 n2 1 (.slice B2 q d2)).set_ne (g := w.heap.size + 1) (by omega) n1.out.1 n3 0 (.slice A2 p c2)).set_ne (g := w.heap.size + 1) (by omega) n1.out.1 n3 1 (.slice B2 q d2)
      exact ⟨A2, c2, B2, d2, by rw [HF.out], by rw [HF.out]; exact pr⟩

set_option maxRecDepth 100000 in
set_option maxHeartbeats 4000000 in
theorem back_p (l : Log) (A B : Option Addr) (n c m d : Nat) (w : World) (a : Log × Int) (p q : Nat) (hl : LogAt w A n c B m d l) (hn : n ≤ 1000000) (hm : m ≤ 1000000)
    (ha : backS l = a) (hp : a.1.list.length = p) (hq : a.1.marks.length = q) :
    Calls Try.prog 16 #[.agg #[.slice A n c, .slice B m d]] w (RetLP w p q a.1 a.2) := by
  have HA := Lib.hid ha
  have HP := Lib.hid hp
  have HQ := Lib.hid hq
  have HL := Lib.hid hl
  have LN := Lib.hid hl.ln
  have LM := Lib.hid hl.lm
  clear ha hp hq hl
  have KL : Hid (∀ o, Blk ((w.alloc (.cells #[.slice A n c, .slice B m d] 25)).alloc o) w.heap.size 25 #[.slice A n c, .slice B m d]) := Lib.hid (fun o => (Blk.new _ _ _).alloc _)
  have KR : Hid (∀ o, Blk ((w.alloc o).alloc (.cells #[.slice none 0 0, .slice none 0 0] 25)) (w.heap.size + 1) 25 #[.slice none 0 0, .slice none 0 0]) := Lib.hid (fun o => by
    have := Blk.new (w.alloc o) 25 #[.slice none 0 0, .slice none 0 0]; simpa using this)
  obtain ⟨⟨kl, ke⟩, hke⟩ : ∃ y, keepS l = y := ⟨_, rfl⟩
  obtain ⟨kn, hkn⟩ : ∃ y, kl.list.length = y := ⟨_, rfl⟩
  obtain ⟨km, hkm⟩ : ∃ y, kl.marks.length = y := ⟨_, rfl⟩
  have HKE := Lib.hid hke
  have HKN := Lib.hid hkn
  have HKM := Lib.hid hkm
  clear hke hkn hkm
  go_enter Try.func16, Try.ntmps16
  go_wp2_with fail
  refine (keep_p l _ _ _ _ _ _ _ (kl, ke) kn km ((HL.out.alloc _).alloc _) hn hm HKE.out HKN.out HKM.out).mono ?_
  rintro e w2 ⟨A2, c2, B2, d2, rfl, pr⟩
  have b2 := pr.ol.2
  have HB2 : Hid (Below w.heap.size w w2) := Lib.hid (bl_trans (bl_alloc (bl_alloc (Below.refl _ _) _) _) b2)
  have KL3 : Hid (∀ o, Blk (w2.alloc o) w.heap.size 25 #[.slice A n c, .slice B m d]) := Lib.hid (fun o => ((KL.out _).below b2).alloc o)
  have KR3 : Hid (∀ o, Blk (w2.alloc o) (w.heap.size + 1) 25 #[.slice none 0 0, .slice none 0 0]) := Lib.hid (fun o => ((KR.out _).below b2).alloc o)
  have KO3 : Hid (Blk (w2.alloc (.cells #[.slice A2 kn c2, .slice B2 km d2] 25)) w2.heap.size 25 #[.slice A2 kn c2, .slice B2 km d2]) := Lib.hid (Blk.new _ _ _)
  have lt2 : Hid (w.heap.size + 1 < w2.heap.size) := Lib.hid ((KR.out _).below b2).lt
  have n1 := Lib.hid (pair_old (g := w.heap.size + 1) pr (by simp))
  have no1 : Hid ((Value.slice A2 kn c2).ownBlock ≠ some w2.heap.size ∧ (Value.slice B2 km d2).ownBlock ≠ some w2.heap.size) := Lib.hid ⟨fun e => by have := pr.ol.lt _ e; omega, fun e => by have := pr.om.lt _ e; omega⟩
  have PR3 : Hid (∀ o, Pair w (w2.alloc o) (.slice A2 kn c2) kn (.slice B2 km d2) km kl) := Lib.hid (fun o => (pr.wide (bl_alloc (bl_alloc (Below.refl _ _) _) _)).alloc o)
  have BB3 : Hid (∀ o, Below w.heap.size w (w2.alloc o)) := Lib.hid (fun o => bl_alloc HB2.out o)
  clear b2 pr KL KR
  by_cases he : ke = 0
  · have hg : rightB l = true ∧ m ≠ 0 := by
      cases hr : rightB l with
      | false => have := HKE.out; rw [keep_no l hr] at this; injection this with _ h9; omega
      | true =>
        refine ⟨rfl, fun h0 => ?_⟩
        have := HKE.out
        rw [keep_none l hr (by rw [LM.out]; exact h0)] at this
        injection this with _ h9
        omega
    have H1 := Lib.hid hg.1
    obtain ⟨j, hj, hjn, -⟩ := right_last l hg.1 (by rw [LM.out]; exact hg.2)
    rw [LM.out] at hj
    rw [LN.out] at hjn
    obtain ⟨k, hk⟩ : ∃ k, m - 1 = k := ⟨_, rfl⟩
    have HK : Hid (m - 1 = k ∧ m = k + 1) := Lib.hid ⟨hk, by omega⟩
    rw [hk] at hj
    have HKL : Hid (kl = ⟨l.list, l.marks.take k⟩) := Lib.hid (by
      have h2 := keep_new l hg.1 (by rw [LM.out]; exact hg.2)
      rw [LM.out, hk, HKE.out] at h2
      injection h2)
    have HNN : Hid (kn = n ∧ km = k) := Lib.hid (by rw [← HKN.out, ← HKM.out, HKL.out]; exact ⟨LN.out, by rw [List.length_take, LM.out]; omega⟩)
    have HF : Hid (a = (⟨l.list.take j, l.marks.take k⟩, 0)) := Lib.hid (by
      have h2 := back_new l hg.1 j (by rw [LM.out, hk]; exact hj)
      rw [LM.out, hk] at h2
      rw [← HA.out]; exact h2)
    have HN : Hid (p = j ∧ q = k) := Lib.hid (by rw [← HP.out, ← HQ.out, HF.out]; exact ⟨by rw [List.length_take, LN.out]; omega, by rw [List.length_take, LM.out]; omega⟩)
    have hkm : (m : Int) - 1 = (k : Int) := by omega
    have hklt : k < m := by omega
    obtain ⟨b1, off, zj, rfl, gz, c0⟩ := at_z (HL.out.rm.below (BB3.out (.cells #[.slice A2 kn c2, .slice B2 km d2] 25))) k hklt
    obtain rfl : (j : Int) = zj := by rw [hj] at gz; injection gz
    have hnc : n ≤ c2 := by have := (PR3.out (.cells #[.slice A2 kn c2, .slice B2 km d2] 25)).log.nc; have := HNN.out.1; omega
    have hjc : j ≤ c2 := by omega
    subst he
    obtain ⟨rfl, rfl⟩ := HN.out
    obtain ⟨rfl, rfl⟩ := HNN.out
    clear gz hj hk hg
    have HKQ := Lib.hid hklt
    have HJN := Lib.hid hjn
    have l1 := (KL3.out (.cells #[.slice A2 kn c2, .slice B2 km d2] 25)).cell 1 _ rfl
    have o0 := KO3.out.cell 0 _ rfl
    have of := KO3.out.frozen
    have PC : Hid (Pair w (w2.alloc (.cells #[.slice A2 kn c2, .slice B2 km d2] 25)) (.slice A2 p c2) p (.slice B2 km d2) km ⟨l.list.take p, l.marks.take km⟩) := Lib.hid (by
      have h9 := (PR3.out (.cells #[.slice A2 kn c2, .slice B2 km d2] 25)).cut p km HJN.out (Nat.le_refl _)
      rw [HKL.out] at h9
      have e9 : (l.marks.take km).take km = l.marks.take km := by rw [List.take_take]; simp
      rw [show (Log.mk l.list (l.marks.take km)).marks.take km = l.marks.take km from e9] at h9
      exact h9)
    have KR4 : Hid (∀ u, Blk ((w2.alloc (.cells #[.slice A2 kn c2, .slice B2 km d2] 25)).setCell ⟨w2.heap.size, 0, none⟩ u) (w.heap.size + 1) 25 #[.slice none 0 0, .slice none 0 0]) := Lib.hid (fun u => (KR3.out _).beside (by have := lt2.out; omega) 0 u)
    have KO4 : Hid (∀ u, Blk ((w2.alloc (.cells #[.slice A2 kn c2, .slice B2 km d2] 25)).setCell ⟨w2.heap.size, 0, none⟩ u) w2.heap.size 25 #[u, .slice B2 km d2]) := Lib.hid (fun u => KO3.out.set_ 0 u)
    have n2 : Hid ((Value.slice A2 p c2).ownBlock ≠ some w2.heap.size ∧ (Value.slice A2 p c2).ownBlock ≠ some (w.heap.size + 1)) := Lib.hid ⟨fun e => no1.out.1 (by cases A2 <;> exact e), fun e => n1.out.1 (by cases A2 <;> exact e)⟩
    have hsz : Hid (w.heap.size ≤ w2.heap.size) := Lib.hid HB2.out.size
    clear PR3 KL3 BB3 KR3 KO3
    go_wp2_with fail
    generalize w2.alloc (.cells #[.slice A2 kn c2, .slice B2 km d2] 25) = w3 at *
    go_big_region
    have PD : Hid (Pair w ((w3.setCell ⟨w2.heap.size, 0, none⟩ (.slice A2 p c2)).drew) (.slice A2 p c2) p (.slice B2 km d2) km ⟨l.list.take p, l.marks.take km⟩) := Lib.hid (by
      have h9 := PC.out.set_ne (g := w2.heap.size) hsz.out n2.out.1 no1.out.2 0 (.slice A2 p c2)
      exact ⟨h9.ol.drew, h9.om.drew, h9.ap⟩)
    have KR5 : Hid (Blk ((w3.setCell ⟨w2.heap.size, 0, none⟩ (.slice A2 p c2)).drew) (w.heap.size + 1) 25 #[.slice none 0 0, .slice none 0 0]) := Lib.hid (KR4.out _)
    have KO5 : Hid (Blk ((w3.setCell ⟨w2.heap.size, 0, none⟩ (.slice A2 p c2)).drew) w2.heap.size 25 #[.slice A2 p c2, .slice B2 km d2]) := Lib.hid (KO4.out _)
    clear o0 of l1 c0 PC KR4 KO4
    generalize (w3.setCell ⟨w2.heap.size, 0, none⟩ (.slice A2 p c2)).drew = w5 at *
    have z0 := KO5.out.cell 0 _ rfl
    have z1 := KO5.out.cell 1 _ rfl
    have r0 := KR5.out.cell 0 _ rfl
    have r1 := KR5.out.cell 1 _ rfl
    have rf := KR5.out.frozen
    go_wp2
    have hk := (KR5.out.set_ 0 (.slice A2 p c2)).set_ 1 (.slice B2 km d2)
    have q0 := hk.cell 0 _ rfl
    have q1 := hk.cell 1 _ rfl
    clear hk
    (try simp only [Exit.inBlock, Exit.then])
    refine bodyPost_ret (v := .tuple #[.agg #[.slice A2 p c2, .slice B2 km d2], .int .i64 0]) (by simp [results, Try.results16, go_sem, q0, q1]) rfl ?_
    have pr := (PD.out.set_ne (g := w.heap.size + 1) (by omega) n2.out.2 n1.out.2 0 (.slice A2 p c2)).set_ne (g := w.heap.size + 1) (by omega) n2.out.2 n1.out.2 1 (.slice B2 km d2)
    exact ⟨A2, c2, B2, d2, by rw [HF.out], by rw [HF.out]; exact pr⟩
  · have he1 : (ke == 0) = false := beq_eq_false_iff_ne.2 he
    have HKL : Hid (kl = l ∧ a = (l, ke)) := Lib.hid (by
      have h2 := HKE.out
      rw [← HA.out]
      cases hr : rightB l with
      | false => rw [keep_no l hr] at h2; rw [back_no l hr]; injection h2 with h3 h4; rw [← h3, ← h4]; exact ⟨rfl, rfl⟩
      | true =>
        by_cases h0 : l.marks.length = 0
        · rw [keep_none l hr h0] at h2; rw [back_none l hr h0]; injection h2 with h3 h4; rw [← h3, ← h4]; exact ⟨rfl, rfl⟩
        · rw [keep_new l hr h0] at h2; injection h2 with _ h4; exact absurd h4.symm he)
    have HNN : Hid (kn = n ∧ km = m ∧ p = n ∧ q = m) := Lib.hid (by rw [← HKN.out, ← HKM.out, ← HP.out, ← HQ.out, HKL.out.1, HKL.out.2]; exact ⟨LN.out, LM.out, LN.out, LM.out⟩)
    obtain ⟨rfl, rfl, rfl, rfl⟩ := HNN.out
    clear he
    have o0 := KO3.out.cell 0 _ rfl
    have o1 := KO3.out.cell 1 _ rfl
    have r0 := (KR3.out (.cells #[.slice A2 p c2, .slice B2 q d2] 25)).cell 0 _ rfl
    have r1 := (KR3.out (.cells #[.slice A2 p c2, .slice B2 q d2] 25)).cell 1 _ rfl
    have rf := (KR3.out (.cells #[.slice A2 p c2, .slice B2 q d2] 25)).frozen
    have PD := Lib.hid (PR3.out (.cells #[.slice A2 p c2, .slice B2 q d2] 25))
    have KR5 := Lib.hid (KR3.out (.cells #[.slice A2 p c2, .slice B2 q d2] 25))
    go_wp2
    have hk := (KR5.out.set_ 0 (.slice A2 p c2)).set_ 1 (.slice B2 q d2)
    have q0 := hk.cell 0 _ rfl
    have q1 := hk.cell 1 _ rfl
    clear hk
    (try simp only [Exit.inBlock, Exit.then])
    refine bodyPost_ret (v := .tuple #[.agg #[.slice A2 p c2, .slice B2 q d2], .int .i64 ke]) (by simp [results, Try.results16, go_sem, q0, q1]) rfl ?_
    have pr := (PD.out.set_ne (g := w.heap.size + 1) (by omega) n1.out.1 n1.out.2 0 (.slice A2 p c2)).set_ne (g := w.heap.size + 1) (by omega) n1.out.1 n1.out.2 1 (.slice B2 q d2)
    rw [HKL.out.1] at pr
    exact ⟨A2, c2, B2, d2, by rw [HKL.out.2], by rw [HKL.out.2]; exact pr⟩
end Go.Proofs.Ytjmilnfemjnhoaa.Writes
