/-
  WHAT THE FUNCTION At OF THE LAYER opaque RETURNS, AS IT IS WRITTEN.
-/
import Derived.Test.YthgmjmecedhkoaaOpaqueAt
namespace Go.Proofs.Ythgmjmecedhkoaa.Opaque
open Go.ChangeShapes Go.WideShapes Go.ChangeAt Go.RowKit Go.Shelf Mem
attribute [local go_sem] Oper.semAt_some

theorem blk_kept {w w' : World} {g : Nat} {t : TypeId} {xs : Array Value} {row : Option Nat} (h : Blk w g t xs) (hg : w.grownBy w' row) (hr : ∀ r, row = some r → ∃ o : Obj, w.heap[r]? = some o ∧ o.isCells = false) : Blk w' g t xs := by
  refine h.grown hg (fun e => ?_)
  obtain ⟨o, ho, hc⟩ := hr g e
  unfold Blk at h
  rw [h] at ho; injection ho with ho; subst ho; cases hc
theorem rd_kept {w w' : World} {k n : Nat} {A : Option Addr} {xs : List Value} {row : Option Nat} (h : Rd w k A n xs) (hg : w.grownBy w' row) (hr : ∀ r, row = some r → ∃ o : Obj, w.heap[r]? = some o ∧ o.isCells = false) : Rd w' k A n xs :=
  ⟨h.1, fun hn => by
    obtain ⟨b, off, e, hc⟩ := h.2 hn
    exact ⟨b, off, e, fun j u hu => cell_kept (hc j u hu) hg hr⟩⟩
theorem from_below {B : Nat} {W W' : World} (h : Below W.heap.size W W') : KeepsFrom B W W' :=
  ⟨h.size, fun k o _ hk _ => (h.block k (Array.getElem?_eq_some_iff.1 hk).1).trans hk⟩

/-- Where a round is left: the results lie in their boxes. -/
def Left (w : World) (L : List RawS) (n : Nat) (v : Int) (p q : Nat) (pre : List { j : Nat // j < n }) (W : World) : Prop :=
  (∃ ini x B d, pre = ini ++ [x] ∧ (∀ y ∈ ini, v < (rowS L y.1).v) ∧ (rowS L x.1).v ≤ v ∧ Blk W p 29 #[.slice B (rowS L x.1).n d] ∧ Blk W q 26 #[.int .i64 0] ∧ Rd W 2 B (rowS L x.1).n (Heap.cs (rowS L x.1).h)) ∧ Below w.heap.size w W

set_option maxRecDepth 100000 in
set_option maxHeartbeats 4000000 in
theorem at_c : AtSaid := by
  intro L A n c v w r m hr hn hl hx hm
  have HR := Lib.hid hr
  have HLim := Lib.hid hl
  have HLen := Lib.hid hr.len
  have HX := Lib.hid hx
  have HM := Lib.hid hm
  clear hr hl hx hm
  cases h1 : rightB (cc L)
  · have H1 := Lib.hid h1
    have HF : Hid (r = ([], 1)) := Lib.hid (by rw [← HX.out]; unfold atS; rw [h1]; rfl)
    have HN : Hid (m = 0) := Lib.hid (by rw [← HM.out, HF.out]; rfl)
    obtain rfl := HN.out
    clear h1
    go_enter Try.func8, Try.ntmps8
    go_wp2_with fail
    refine (right_c L _ _ _ _ false (((HR.out.alloc _).alloc _).alloc _) hn HLim.out H1.out).mono ?_
    rintro e w1 ⟨rfl, b1⟩
    have k1 : Blk w1 (w.heap.size + 1) 29 #[.slice none 0 0] := by
      have := (((Blk.new (w.alloc (.cells #[.int .i64 v] 3)) 29 #[.slice none 0 0]).alloc (.cells #[.int .i64 0] 26)).below b1)
      simpa using this
    have k2 : Blk w1 (w.heap.size + 1 + 1) 26 #[.int .i64 0] := by
      have := ((Blk.new ((w.alloc (.cells #[.int .i64 v] 3)).alloc (.cells #[.slice none 0 0] 29)) 26 #[.int .i64 0]).below b1)
      simpa using this
    have c1 := k1.cell 0 _ rfl
    have c2 := k2.cell 0 _ rfl
    have f1 := k1.frozen 0
    have f2 := k2.frozen 0
    have HK1 := Lib.hid k1
    have HK2 := Lib.hid k2
    have HB1 := Lib.hid (bl_trans (bl_alloc (bl_alloc (bl_alloc (Below.refl _ _) (.cells #[.int .i64 v] 3)) (.cells #[.slice none 0 0] 29)) (.cells #[.int .i64 0] 26)) b1)
    clear k1 k2 b1
    go_wp2
    have q1 : ((w1.setCell ⟨w.heap.size + 1, 0, none⟩ (.slice none 0 0)).setCell ⟨w.heap.size + 1 + 1, 0, none⟩ (.int .i64 1)).cell? ⟨w.heap.size + 1, 0, none⟩ = some (.slice none 0 0) := ((HK1.out.set_ 0 (.slice none 0 0)).beside (by omega) 0 _).cell 0 _ rfl
    have q2 : ((w1.setCell ⟨w.heap.size + 1, 0, none⟩ (.slice none 0 0)).setCell ⟨w.heap.size + 1 + 1, 0, none⟩ (.int .i64 1)).cell? ⟨w.heap.size + 1 + 1, 0, none⟩ = some (.int .i64 1) := ((HK2.out.beside (by omega) 0 _).set_ 0 (.int .i64 1)).cell 0 _ rfl
    refine bodyPost_ret (v := .tuple #[.slice none 0 0, .int .i64 1]) (by simp [results, Try.results8, go_sem, q1, q2]) rfl ?_
    exact ⟨none, 0, by rw [HF.out], by rw [HF.out]; exact Rd.none_, bl_set (bl_set HB1.out (by simp) _) (by simp; omega) _⟩
  · have H1 := Lib.hid h1
    have h0 : 0 < n := by have := right_pos _ h1; rw [cc_len, HLen.out] at this; exact this
    clear h1
    refine (callsIn_wide (n := 9)).1 ?_
    refine callsIn_of_wp_marks Try.func8 rfl trivial ?_ rfl
    simp only [Try.ntmps8, List.size_toArray, List.length_cons, List.length_nil, Nat.reduceAdd, Nat.reduceSub, Array.replicate_succ, Array.replicate_zero, List.push_toArray, List.append_toArray, List.nil_append, List.cons_append]
    gi_wp2_with (first
      | (refine ⟨trivial, ?_⟩; gi_at_call 9; refine (callsIn_wide.2 (right_c L _ _ _ _ true (((HR.out.alloc _).alloc _).alloc _) hn HLim.out H1.out)).mono ?_; rintro e w1 ⟨rfl, b1⟩)
      | (refine ⟨trivial, ?_⟩; gi_at_call 17; refine (back_in Fence.wide _ trivial rfl _ _ _ _).mono ?_; rintro e w' ⟨rfl, rfl⟩))
    have HB1 : Hid (Below w.heap.size w w1) := Lib.hid (bl_trans (bl_alloc (bl_alloc (bl_alloc (Below.refl _ _) (.cells #[.int .i64 v] 3)) (.cells #[.slice none 0 0] 29)) (.cells #[.int .i64 0] 26)) b1)
    have k0 : Blk w1 w.heap.size 3 #[.int .i64 v] := (((Blk.new w 3 #[.int .i64 v]).alloc (.cells #[.slice none 0 0] 29)).alloc (.cells #[.int .i64 0] 26)).below b1
    have k1 : Blk w1 (w.heap.size + 1) 29 #[.slice none 0 0] := by
      have := (((Blk.new (w.alloc (.cells #[.int .i64 v] 3)) 29 #[.slice none 0 0]).alloc (.cells #[.int .i64 0] 26)).below b1)
      simpa using this
    have k2 : Blk w1 (w.heap.size + 1 + 1) 26 #[.int .i64 0] := by
      have := ((Blk.new ((w.alloc (.cells #[.int .i64 v] 3)).alloc (.cells #[.slice none 0 0] 29)) 26 #[.int .i64 0]).below b1)
      simpa using this
    have bS := Blk.new w1 22 #[.slice A n c]
    have hB0 : Below w.heap.size w (w1.alloc (.cells #[.slice A n c] 22)) := bl_alloc HB1.out _
    replace k0 := k0.alloc (.cells #[.slice A n c] 22)
    replace k1 := k1.alloc (.cells #[.slice A n c] 22)
    replace k2 := k2.alloc (.cells #[.slice A n c] 22)
    obtain ⟨W0, hW0⟩ : ∃ W0, w1.alloc (.cells #[.slice A n c] 22) = W0 := ⟨_, rfl⟩
    rw [hW0] at k0 k1 k2 bS hB0 ⊢
    have hP0 : Past W0 A n L := HR.out.below hB0
    clear hW0 b1
    have HP0 := Lib.hid hP0
    have HB0 := Lib.hid hB0
    have hsz := k2.lt
    refine wpIn_rangeFunc_ownH rfl (by decide : 1 ≤ 9) (gf := 24) (lb := #[.pointer (some ⟨w1.heap.size, 0, none⟩)]) rfl trivial (enters_of Try.func24 (by kernel_rfl) rfl)
      (back_stops Fence.wide (9 - 1) trivial rfl (by decide) w1.heap.size n c A L h0 HLen.out hn W0 (bS.cell 0 _ rfl) HP0.out.1) belowK_t (belowK_b (Nat.le_refl _)) (Below.refl _ _) (fun _ => rfl)
      (fun pre W => (∀ y ∈ pre, v < (rowS L y.1).v) ∧ Below W0.heap.size W0 W)
      (fun cj pre W => cj = .ret ∧ Left w L n v (w.heap.size + 1) (w.heap.size + 1 + 1) pre W)
      (OwnFrom.and (fun s X Y row hs _ _ => hs) (ownFrom_below (Nat.le_refl _) (Nat.le_refl _)))
      (fun cj s X Y row hs hg hr => ?ix)
      ⟨by simp, Below.refl _ _⟩
      (fun x a' W => ∃ Bx, W0.heap.size ≤ Bx ∧ Blk W Bx 39 #[.int .i64 (rowS L x.1).v, .slice (rowS L x.1).A (rowS L x.1).n (rowS L x.1).c] ∧ a' = { tmps := #[.slice A n c, .int .i64 v, undef, .pointer (some ⟨w.heap.size, 0, none⟩), .pointer (some ⟨w.heap.size + 1, 0, none⟩), .pointer (some ⟨w.heap.size + 1 + 1, 0, none⟩), undef, .pointer (some ⟨Bx, 0, none⟩), .slice A n c, .bool true, .bool false, .slice A n c, .func (.func 24) #[] #[.pointer (some ⟨w1.heap.size, 0, none⟩)], .int .i64 (x.1 : Int), .agg #[.int .i64 (rowS L x.1).v, .slice (rowS L x.1).A (rowS L x.1).n (rowS L x.1).c], undef, undef, undef, undef, undef, undef, undef], defers := [] })
      (fun x a' _ X Y row hs hg hr => by obtain ⟨Bx, h1, h2, h3⟩ := hs; exact ⟨Bx, h1, blk_kept h2 hg (fun r e => (hr r e).2), h3⟩)
      ?assign ?body ?done ?stop
    case ix =>
      obtain ⟨hc, ⟨ini, x, B, d, e1, e2, e3, e4, e5, e6⟩, e7⟩ := hs
      exact ⟨hc, ⟨ini, x, B, d, e1, e2, e3, blk_kept e4 hg (fun r e => (hr r e).2), blk_kept e5 hg (fun r e => (hr r e).2), rd_kept e6 hg (fun r e => (hr r e).2)⟩, e7.grown hg e7.size (fun k e => Nat.le_trans HB0.out.size (hr k e).1)⟩
    case assign =>
      rintro l pre x W K ⟨hp, hB⟩ hK
      unfold encB
      gi_wp2
      exact hK _ _ (from_below (bl_alloc (Below.refl _ _) _)) ((Below.refl _ W).alloc hB.size _) ⟨hp, hB.alloc hB.size _⟩ ⟨W.heap.size, hB.size, Blk.new W _ _, rfl⟩
    case body =>
      rintro l pre x a' W hl ⟨rr, hr⟩ ⟨hp, hB⟩ ⟨Bx, hBx, bX, rfl⟩ hlt
      have hxn := row_at L x.1 (by rw [HLen.out]; exact x.2)
      obtain ⟨⟨yv, yA, yn, yc, yh⟩, hy⟩ : ∃ y, rowS L x.1 = y := ⟨_, rfl⟩
      rw [hy] at hxn bX ⊢
      have HY := Lib.hid hy
      have hyn : yn ≤ 1000000 := HLim.out.at_ _ _ hxn
      have HIN : Hid (Rd W 2 yA yn (Heap.cs yh)) := Lib.hid (Rd.below (HP0.out.2 _ (List.mem_of_getElem? hxn)) hB)
      have HPP := Lib.hid hp
      have HBW := Lib.hid hB
      have hW := hB.size
      have cV := (k0.below hB).cell 0 _ rfl
      have b0 := bX.cell 0 _ rfl
      have b1 := bX.cell 1 _ rfl
      have HK1 := Lib.hid (k1.below hB)
      have HK2 := Lib.hid (k2.below hB)
      clear hxn hy bX hp hB k0 k1 k2 bS hP0 hB0
      by_cases hle : yv ≤ v
      · gi_wp2_with (refine ⟨trivial, ?_⟩; gi_at_call 18; refine (CallsIn.inRound l (callsIn_wide.2 (Heap.clone_any yh _ _ _ _ HIN.out hyn))).mono ?_; rintro e W2 ⟨v2, rfl, ho⟩; obtain ⟨B, d, rfl, hrd⟩ := ho.form; have HRD := Lib.hid hrd; have HO2 := Lib.hid ho; have d1 := (HK1.out.below ho.2).cell 0 _ rfl; have d2 := (HK2.out.below ho.2).cell 0 _ rfl; have e1 := (HK1.out.below ho.2).frozen 0; have e2 := (HK2.out.below ho.2).frozen 0; clear ho hrd)
        refine ⟨(from_below HO2.out.2).trans (((KeepsOthers.setCell _ _ _).trans (KeepsOthers.setCell _ _ _)).from _), rfl, ⟨pre, x, B, d, rfl, HPP.out, by rw [HY.out]; exact hle, ?_, ?_, ?_⟩, ?_⟩
        · rw [HY.out]
          exact ((HK1.out.below HO2.out.2).set_ 0 (.slice B yn d)).beside (by omega) 0 _
        · exact ((HK2.out.below HO2.out.2).beside (by omega) 0 _).set_ 0 (.int .i64 0)
        · rw [HY.out]
          rcases Nat.eq_zero_or_pos yn with h5 | h5
          · exact ⟨HRD.out.1, fun h6 => absurd h6 (by show ¬ 0 < yn; omega)⟩
          · have hne : ∀ b off, B = some ⟨b, off, none⟩ → W.heap.size ≤ b := fun b off e => HO2.out.base b (by rw [e]; rfl)
            exact Rd.set_other (Rd.set_other HRD.out (fun b off e => by have := hne b off e; have := HK1.out.lt; omega) _ _) (fun b off e => by have := hne b off e; have := HK2.out.lt; omega) _ _
        · exact bl_set (bl_set (bl_trans (bl_trans HB0.out HBW.out) HO2.out.2) (by simp) _) (by simp; omega) _
      · gi_wp2
        exact ⟨KeepsFrom.refl _ _, Below.refl _ _, by
          intro z hz hm
          rcases List.mem_append.1 hm with e | e
          · exact HPP.out ⟨z, hz⟩ e
          · rw [List.mem_singleton] at e
            have := HY.out
            rw [← e] at this
            rw [show rowS L z = _ from this]
            show v < yv
            omega, HBW.out⟩
    case done =>
      rintro D ys W hD rfl ⟨hp, hB⟩ hK
      have HF : Hid (r = ([], 3)) := Lib.hid (by
        rw [← HX.out]
        unfold atS
        rw [if_pos H1.out, asOf_none (cc L) v (fun j t ht => ?_)]
        obtain ⟨x, hx, rfl⟩ := cc_get L j t ht
        have hj : j < n := by have := (List.getElem?_eq_some_iff.1 hx).1; rw [HLen.out] at this; exact this
        have hm : (⟨j, hj⟩ : { j : Nat // j < n }) ∈ upto (bk n h0) n := by
          unfold upto
          rw [List.mem_map]
          exact ⟨n - 1 - j, List.mem_range.2 (by omega), Subtype.ext (by show n - 1 - (n - 1 - j) = j; omega)⟩
        have h7 := hp _ hm
        have h8 := row_at L j (by rw [HLen.out]; exact hj)
        rw [hx] at h8; injection h8 with h8
        rw [h8]
        exact h7)
      have HN : Hid (m = 0) := Lib.hid (by rw [← HM.out, HF.out]; rfl)
      have c1 := (k1.below hB).cell 0 _ rfl
      have c2 := (k2.below hB).cell 0 _ rfl
      have f1 := (k1.below hB).frozen 0
      have f2 := (k2.below hB).frozen 0
      have HK1 := Lib.hid (k1.below hB)
      have HK2 := Lib.hid (k2.below hB)
      have HBW := Lib.hid (bl_trans HB0.out hB)
      have hWs := hB.size
      clear k0 k1 k2 bS hP0 hB0 hp hB
      gi_wp2
      have hK' := ((KeepsOthers.setCell W ⟨w.heap.size + 1, 0, none⟩ (.slice none 0 0)).trans (KeepsOthers.setCell _ ⟨w.heap.size + 1 + 1, 0, none⟩ (.int .i64 3))).same D _ hK rfl
      refine ⟨by simp, .inl ⟨_, _, rfl, run_takeDeferred hK', ?_⟩⟩
      have q1 : ((W.setCell ⟨w.heap.size + 1, 0, none⟩ (.slice none 0 0)).setCell ⟨w.heap.size + 1 + 1, 0, none⟩ (.int .i64 3)).cell? ⟨w.heap.size + 1, 0, none⟩ = some (.slice none 0 0) := ((HK1.out.set_ 0 (.slice none 0 0)).beside (by omega) 0 _).cell 0 _ rfl
      have q2 : ((W.setCell ⟨w.heap.size + 1, 0, none⟩ (.slice none 0 0)).setCell ⟨w.heap.size + 1 + 1, 0, none⟩ (.int .i64 3)).cell? ⟨w.heap.size + 1 + 1, 0, none⟩ = some (.int .i64 3) := ((HK2.out.beside (by omega) 0 _).set_ 0 (.int .i64 3)).cell 0 _ rfl
      have p1 := cell_kept q1 (grownBy_putObj' _ D (.deferred none)) (fun r e => by cases e; exact ⟨_, hK', rfl⟩)
      have p2 := cell_kept q2 (grownBy_putObj' _ D (.deferred none)) (fun r e => by cases e; exact ⟨_, hK', rfl⟩)
      refine ⟨.tuple #[.slice none 0 0, .int .i64 3], by simp [results, Try.results8, go_sem, p1, p2], none, 0, by rw [HF.out, HN.out], by rw [HF.out, HN.out]; exact Rd.none_, ?_⟩
      exact (bl_set (bl_set HBW.out (by simp) _) (by simp; omega) _).trans (belowK_b (w := w) (Nat.le_refl _) _ D _ _ (by have := HB0.out.size; omega) hK' rfl rfl)
    case stop =>
      rintro D cj pre W hD ⟨k, hk, rfl⟩ ⟨rfl, ⟨ini, x, B, d, e1, e2, e3, e4, e5, e6⟩, e7⟩ hK
      obtain ⟨k', rfl⟩ : ∃ k', k = k' + 1 := by
        cases k with
        | zero => simp [upto] at e1
        | succ k' => exact ⟨k', rfl⟩
      rw [upto_snoc] at e1
      obtain ⟨rfl, e8⟩ := List.append_inj' e1 rfl
      obtain rfl : bk n h0 k' = x := by simpa using e8
      have hj : (bk n h0 k').1 < n := (bk n h0 k').2
      have hxn := row_at L (bk n h0 k').1 (by rw [HLen.out]; exact hj)
      have hlen : (rowS L (bk n h0 k').1).h.length = (rowS L (bk n h0 k').1).n := (HP0.out.2 _ (List.mem_of_getElem? hxn)).len
      have HF : Hid (r = ((rowS L (bk n h0 k').1).h, 0)) := Lib.hid (by
        rw [← HX.out]
        unfold atS
        rw [if_pos H1.out, asOf_at (cc L) v _ _ (cc_at L _ _ hxn) e3 (fun j t hlt ht => ?_)]
        · rfl
        · obtain ⟨y, hy, rfl⟩ := cc_get L j t ht
          have hjn : j < n := by have := (List.getElem?_eq_some_iff.1 hy).1; rw [HLen.out] at this; exact this
          have hm : (⟨j, hjn⟩ : { j : Nat // j < n }) ∈ upto (bk n h0) k' := by
            unfold upto
            rw [List.mem_map]
            have h9 : n - 1 - k' < j := hlt
            exact ⟨n - 1 - j, List.mem_range.2 (by omega), Subtype.ext (by show n - 1 - (n - 1 - j) = j; omega)⟩
          have h7 := e2 _ hm
          have h8 := row_at L j (by rw [HLen.out]; exact hjn)
          rw [hy] at h8; injection h8 with h8
          rw [h8]
          exact h7)
      have HN : Hid (m = (rowS L (bk n h0 k').1).n) := Lib.hid (by rw [← HM.out, HF.out]; exact hlen)
      clear hxn k0 k1 k2 bS hP0 hB0
      gi_wp2
      refine ⟨by simp, .inl ⟨_, _, rfl, run_takeDeferred hK, ?_⟩⟩
      have p1 := cell_kept (e4.cell 0 _ rfl) (grownBy_putObj' _ D (.deferred none)) (fun r e => by cases e; exact ⟨_, hK, rfl⟩)
      have p2 := cell_kept (e5.cell 0 _ rfl) (grownBy_putObj' _ D (.deferred none)) (fun r e => by cases e; exact ⟨_, hK, rfl⟩)
      refine ⟨.tuple #[.slice B (rowS L (bk n h0 k').1).n d, .int .i64 0], by simp [results, Try.results8, go_sem, p1, p2], B, d, by rw [HF.out, HN.out], ?_, ?_⟩
      · rw [HF.out, HN.out]
        exact rd_kept e6 (grownBy_putObj' _ D (.deferred none)) (fun r e => by cases e; exact ⟨_, hK, rfl⟩)
      · exact e7.trans (belowK_b (w := w) (Nat.le_refl _) _ D _ _ (by have := HB0.out.size; omega) hK rfl rfl)
end Go.Proofs.Ythgmjmecedhkoaa.Opaque
