/-
  WHAT EACH FUNCTION OF THE LAYER reads RETURNS, AS IT IS WRITTEN: Find, Add.
-/
import Derived.Test.YtemfkjcfafenjaaReadsCode2
namespace Go.Proofs.Ytemfkjcfafenjaa.Reads
open Go.ChangeShapes Go.WideShapes Go.ChangeAt Go.RowKit Mem

theorem findR_c (l : List Read) (A : Option Addr) (n c : Nat) (cl : Int) (w : World) (r : Read × Bool) (hr : Rd w 3 A n (ds l)) (hnc : n ≤ c) (hn : n ≤ 1000000) (hf : findR l cl = r) :
    Calls Try.prog 12 #[.slice A n c, .int .i64 cl] w (RetR w r) := by
  have HR := Lib.hid hr
  have HF := Lib.hid hf
  clear hr hf
  have HB0 : Hid (Blk (w.alloc (.cells #[.int .i64 0, .int .i64 0, .int .i64 0] 24)) w.heap.size 24 #[.int .i64 0, .int .i64 0, .int .i64 0]) := Lib.hid (Blk.new _ _ _)
  cases h1 : rightB l
  · have H1 := Lib.hid h1
    have HFD : Hid (r = (⟨0, 0, 0⟩, false)) := Lib.hid (by rw [← HF.out, findR_no _ _ h1]; rfl)
    clear h1
    go_enter Try.func12, Try.ntmps12
    go_wp2_with fail
    refine (right_c l _ _ _ _ false (HR.out.alloc _) hnc hn H1.out).mono ?_
    rintro e w1 ⟨rfl, b1⟩
    have HK := Lib.hid (HB0.out.below b1)
    have HB := Lib.hid (bl_trans (bl_alloc (Below.refl w.heap.size w) _) b1)
    clear b1
    have hfz := HK.out.frozen
    have hd0 := HK.out.cell 0 _ rfl
    have hd1 := HK.out.cell 1 _ rfl
    have hd2 := HK.out.cell 2 _ rfl
    go_wp2
    have hk := ((HK.out.set_ 0 (.int .i64 0)).set_ 1 (.int .i64 0)).set_ 2 (.int .i64 0)
    have q0 := hk.cell 0 _ rfl
    have q1 := hk.cell 1 _ rfl
    have q2 := hk.cell 2 _ rfl
    have bb := bl_set (bl_set (bl_set HB.out (p := ⟨w.heap.size, 0, none⟩) (Nat.le_refl _) (.int .i64 0)) (p := ⟨w.heap.size, 1, none⟩) (Nat.le_refl _) (.int .i64 0)) (p := ⟨w.heap.size, 2, none⟩) (Nat.le_refl _) (.int .i64 0)
    clear hk
    (try simp only [Exit.inBlock, Exit.then])
    refine bodyPost_ret (v := .tuple #[.agg #[.int .i64 0, .int .i64 0, .int .i64 0], .bool false]) (by simp [results, Try.results12, go_sem, q0, q1, q2]) rfl ⟨by rw [HFD.out], bb⟩
  · have H1 := Lib.hid h1
    have HFD : Hid (orNo (findS l cl) = r) := Lib.hid (by rw [← HF.out, findR_yes _ _ h1])
    clear h1
    obtain ⟨⟨cx, vx, lx⟩, bt⟩ := r
    go_enter Try.func12, Try.ntmps12
    go_wp2_with fail
    refine (right_c l _ _ _ _ true (HR.out.alloc _) hnc hn H1.out).mono ?_
    rintro e w1 ⟨rfl, b1⟩
    have HK1 := Lib.hid (HB0.out.below b1)
    have HB1 := Lib.hid (bl_trans (bl_alloc (Below.refl w.heap.size w) _) b1)
    clear b1
    go_wp2_with fail
    refine (find_c l _ _ _ _ _ _ (HR.out.below HB1.out) hn HFD.out).mono ?_
    rintro e w2 ⟨rfl, b2⟩
    have HK := Lib.hid (HK1.out.below b2)
    have HB := Lib.hid (bl_trans HB1.out b2)
    clear b2
    have hfz := HK.out.frozen
    have hd0 := HK.out.cell 0 _ rfl
    have hd1 := HK.out.cell 1 _ rfl
    have hd2 := HK.out.cell 2 _ rfl
    go_wp2
    have hk := ((HK.out.set_ 0 (.int .i64 cx)).set_ 1 (.int .i64 vx)).set_ 2 (.int .i64 lx)
    have q0 := hk.cell 0 _ rfl
    have q1 := hk.cell 1 _ rfl
    have q2 := hk.cell 2 _ rfl
    have bb := bl_set (bl_set (bl_set HB.out (p := ⟨w.heap.size, 0, none⟩) (Nat.le_refl _) (.int .i64 cx)) (p := ⟨w.heap.size, 1, none⟩) (Nat.le_refl _) (.int .i64 vx)) (p := ⟨w.heap.size, 2, none⟩) (Nat.le_refl _) (.int .i64 lx)
    clear hk
    (try simp only [Exit.inBlock, Exit.then])
    refine bodyPost_ret (v := .tuple #[.agg #[.int .i64 cx, .int .i64 vx, .int .i64 lx], .bool bt]) (by simp [results, Try.results12, go_sem, q0, q1, q2]) rfl ⟨rfl, bb⟩

theorem clone_any (l : List Read) (A : Option Addr) (n c : Nat) (w : World) (hr : Rd w 3 A n (ds l)) (hn : n ≤ 1000000) :
    Calls Try.prog 27 #[.slice A n c] w (RetO w 24 3 n (ds l)) := by
  have hnil := fun W => Lib.run_eql_slice_nil (P := Try.prog) W 22 24 A n c 0 0 Try.underlying22
  rcases A with _ | ad
  · obtain ⟨rfl, hx⟩ := rd_nil hr
    have HX := Lib.hid hx
    clear hr hx
    go_enter Try.func27, Try.ntmps27
    go_wp2
    go_ret
    exact ⟨_, rfl, by rw [HX.out]; exact Own.nil_ (Below.refl _ _)⟩
  · have HR := Lib.hid hr
    clear hr
    go_enter Try.func27, Try.ntmps27
    go_wp2_with (at_builtin; refine append_rd rfl _ _ 22 rfl tRead w _ 0 [] rfl (Own.empty w _ _) _ n c (ds l) rfl (HR.out.alloc _) (ds_one l) (by omega) (by omega) ?_; intro v' w' hown' hg; have HO := Lib.hid hown'; clear hown' hg)
    go_ret
    exact ⟨v', rfl, by have := HO.out; simpa using this⟩

theorem own_room {w0 w : World} {e size n : Nat} {v : Value} {xs : List Value} (h : Own w0 w e size v n xs) : ∃ B d, v = .slice B n d ∧ n ≤ d ∧ Rd w size B n xs := by
  obtain ⟨B, d, hv, hr⟩ := h.form
  refine ⟨B, d, hv, ?_, hr⟩
  rcases h.1.2 with ⟨h1, h2⟩ | ⟨g, cap, cur, h1, _, _, h2, _⟩
  · omega
  · rw [hv] at h1; injection h1 with _ _ h3; omega

set_option maxRecDepth 100000 in
set_option maxHeartbeats 4000000 in
theorem add_c (l : List Read) (A : Option Addr) (n c : Nat) (cl vr vl : Int) (w : World) (a : List Read × Int) (m : Nat) (hr : Rd w 3 A n (ds l)) (hnc : n ≤ c) (hn : n ≤ 1000000)
    (ha : addS l ⟨cl, vr, vl⟩ = a) (hm : a.1.length = m) :
    Calls Try.prog 10 #[.slice A n c, .agg #[.int .i64 cl, .int .i64 vr, .int .i64 vl]] w (RetSEC w 3 m (ds a.1) a.2) := by
  have HA := Lib.hid ha
  have HQ := Lib.hid hm
  have HL := Lib.hid (ds_len hr)
  have HR := Lib.hid hr
  clear hr ha hm
  have HB0 : Hid (Blk (w.alloc (.cells #[.int .i64 cl, .int .i64 vr, .int .i64 vl] 24)) w.heap.size 24 #[.int .i64 cl, .int .i64 vr, .int .i64 vl]) := Lib.hid (Blk.new _ _ _)
  go_enter Try.func10, Try.ntmps10
  go_wp2_with fail
  refine (clone_any l _ _ _ _ (HR.out.alloc _) hn).mono ?_
  rintro e w2 ⟨v, rfl, ho⟩
  have HO2 := Lib.hid (ho.wide (bl_alloc (Below.refl w.heap.size w) _))
  have HK2 := Lib.hid (HB0.out.below ho.2)
  obtain ⟨B, d, rfl, hnd, -⟩ := own_room ho
  clear ho HB0
  have HB2 := Lib.hid HO2.out.2
  cases h1 : rightB l
  · have H1 := Lib.hid h1
    have HF : Hid (a = (l, 1)) := Lib.hid (by rw [← HA.out]; exact add_no _ _ (by rw [h1]; rfl))
    have HN : Hid (m = n) := Lib.hid (by rw [← HQ.out, HF.out]; exact HL.out)
    obtain rfl := HN.out
    clear h1
    go_wp2_with fail
    refine (right_c l _ _ _ _ false (HR.out.below HB2.out) hnc hn H1.out).mono ?_
    rintro e w3 ⟨rfl, b3⟩
    have HO3 := Lib.hid (HO2.out.below b3)
    clear b3
    go_wp2
    go_ret2
    exact ⟨B, d, hnd, by rw [HF.out]; rfl, by rw [HF.out]; obtain ⟨B', d', e, _, h⟩ := own_room HO3.out; injection e with e1; rw [e1]; exact h, HO3.out.2⟩
  · have H1 := Lib.hid h1
    clear h1
    go_wp2_with fail
    refine (right_c l _ _ _ _ true (HR.out.below HB2.out) hnc hn H1.out).mono ?_
    rintro e w3 ⟨rfl, b3⟩
    have HO3 := Lib.hid (HO2.out.below b3)
    have HK3 := Lib.hid (HK2.out.below b3)
    clear b3 HK2 HO2 HB2
    have q0 := HK3.out.cell 0 _ rfl
    have q1 := HK3.out.cell 1 _ rfl
    have q2 := HK3.out.cell 2 _ rfl
    cases h2 : oneB ⟨cl, vr, vl⟩
    · have H2 := Lib.hid h2
      have HF : Hid (a = (l, 1)) := Lib.hid (by rw [← HA.out]; exact add_no _ _ (by rw [H1.out, h2]; rfl))
      have HN : Hid (m = n) := Lib.hid (by rw [← HQ.out, HF.out]; exact HL.out)
      obtain rfl := HN.out
      clear h2
      go_wp2_with fail
      refine (read_any _ _ _ _ false H2.out).mono ?_
      rintro e w4 ⟨rfl, g4⟩
      have HO4 := Lib.hid (HO3.out.below g4.below)
      clear g4 q0 q1 q2
      go_wp2
      go_ret2
      exact ⟨B, d, hnd, by rw [HF.out]; rfl, by rw [HF.out]; obtain ⟨B', d', e, _, h⟩ := own_room HO4.out; injection e with e1; rw [e1]; exact h, HO4.out.2⟩
    · have H2 := Lib.hid h2
      have HY : Hid ((rightB l && oneB ⟨cl, vr, vl⟩) = true) := Lib.hid (by rw [H1.out, h2]; rfl)
      clear h2
      go_wp2_with fail
      refine (read_any _ _ _ _ true H2.out).mono ?_
      rintro e w4 ⟨rfl, g4⟩
      have HO4 := Lib.hid (HO3.out.below g4.below)
      have HK4 := Lib.hid (HK3.out.below g4.below)
      clear g4 q0 q1 q2 HK3 HO3
      have q0 := HK4.out.cell 0 _ rfl
      cases hf : findS l cl with
      | some x =>
        obtain ⟨cx, vx, lx⟩ := x
        have HFD := Lib.hid hf
        have HX : Hid (orNo (findS l cl) = (⟨cx, vx, lx⟩, true)) := Lib.hid (by rw [hf]; rfl)
        clear hf
        go_wp2_with fail
        refine (find_c l _ _ _ _ _ _ (HR.out.below HO4.out.2) hn HX.out).mono ?_
        rintro e w5 ⟨rfl, b5⟩
        have HO5 := Lib.hid (HO4.out.below b5)
        have HK5 := Lib.hid (HK4.out.below b5)
        clear b5 q0 HK4 HO4
        have p0 : ∀ o, (w5.alloc o).cell? ⟨w.heap.size, 0, none⟩ = some (.int .i64 cl) := fun o => (HK5.out.alloc o).cell 0 _ rfl
        have p1 : ∀ o, (w5.alloc o).cell? ⟨w.heap.size, 1, none⟩ = some (.int .i64 vr) := fun o => (HK5.out.alloc o).cell 1 _ rfl
        have p2 : ∀ o, (w5.alloc o).cell? ⟨w.heap.size, 2, none⟩ = some (.int .i64 vl) := fun o => (HK5.out.alloc o).cell 2 _ rfl
        obtain ⟨-, hcx⟩ := find_some l cl _ HFD.out
        have hcx' : cx = cl := hcx
        clear hcx
        subst hcx'
        by_cases hv : vx = vr
        · subst hv
          by_cases hw : lx = vl
          · subst hw
            have HF : Hid (a = (l, 0)) := Lib.hid (by rw [← HA.out]; exact add_had _ _ HY.out HFD.out)
            have HN : Hid (m = n) := Lib.hid (by rw [← HQ.out, HF.out]; exact HL.out)
            obtain rfl := HN.out
            go_wp2
            go_ret2
            exact ⟨B, d, hnd, by rw [HF.out]; rfl, by rw [HF.out]; obtain ⟨B', d', e, _, h⟩ := own_room (HO5.out.alloc _); injection e with e1; rw [e1]; exact h, (HO5.out.alloc _).2⟩
          · have HF : Hid (a = (l, 8)) := Lib.hid (by rw [← HA.out]; exact add_stale _ _ _ HY.out HFD.out (by intro e; injection e with _ _ e; exact hw e))
            have HN : Hid (m = n) := Lib.hid (by rw [← HQ.out, HF.out]; exact HL.out)
            obtain rfl := HN.out
            go_wp2
            go_ret2
            exact ⟨B, d, hnd, by rw [HF.out]; rfl, by rw [HF.out]; obtain ⟨B', d', e, _, h⟩ := own_room (HO5.out.alloc _); injection e with e1; rw [e1]; exact h, (HO5.out.alloc _).2⟩
        · have HF : Hid (a = (l, 8)) := Lib.hid (by rw [← HA.out]; exact add_stale _ _ _ HY.out HFD.out (by intro e; injection e with _ e _; exact hv e))
          have HN : Hid (m = n) := Lib.hid (by rw [← HQ.out, HF.out]; exact HL.out)
          obtain rfl := HN.out
          go_wp2
          go_ret2
          exact ⟨B, d, hnd, by rw [HF.out]; rfl, by rw [HF.out]; obtain ⟨B', d', e, _, h⟩ := own_room (HO5.out.alloc _); injection e with e1; rw [e1]; exact h, (HO5.out.alloc _).2⟩
      | none =>
        have HFD := Lib.hid hf
        have HX : Hid (orNo (findS l cl) = (⟨0, 0, 0⟩, false)) := Lib.hid (by rw [hf]; rfl)
        clear hf
        go_wp2_with fail
        refine (find_c l _ _ _ _ _ _ (HR.out.below HO4.out.2) hn HX.out).mono ?_
        rintro e w5 ⟨rfl, b5⟩
        have HO5 := Lib.hid (HO4.out.below b5)
        have HK5 := Lib.hid (HK4.out.below b5)
        clear b5 q0 HK4 HO4
        have p0 : ∀ o, (w5.alloc o).cell? ⟨w.heap.size, 0, none⟩ = some (.int .i64 cl) := fun o => (HK5.out.alloc o).cell 0 _ rfl
        have p1 : ∀ o, (w5.alloc o).cell? ⟨w.heap.size, 1, none⟩ = some (.int .i64 vr) := fun o => (HK5.out.alloc o).cell 1 _ rfl
        have p2 : ∀ o, (w5.alloc o).cell? ⟨w.heap.size, 2, none⟩ = some (.int .i64 vl) := fun o => (HK5.out.alloc o).cell 2 _ rfl
        by_cases h24 : n = 24
        · subst h24
          have HF : Hid (a = (l, 5)) := Lib.hid (by rw [← HA.out]; exact add_big _ _ HY.out HFD.out HL.out)
          have HN : Hid (m = 24) := Lib.hid (by rw [← HQ.out, HF.out]; exact HL.out)
          obtain rfl := HN.out
          go_wp2
          go_ret2
          exact ⟨B, d, hnd, by rw [HF.out]; rfl, by rw [HF.out]; obtain ⟨B', d', e, _, h⟩ := own_room (HO5.out.alloc _); injection e with e1; rw [e1]; exact h, (HO5.out.alloc _).2⟩
        · have HF : Hid (a = (l ++ [⟨cl, vr, vl⟩], 0)) := Lib.hid (by rw [← HA.out]; exact add_new _ _ HY.out HFD.out (by rw [HL.out]; exact h24))
          have HN : Hid (m = n + 1) := Lib.hid (by rw [← HQ.out, HF.out]; simp [HL.out])
          obtain rfl := HN.out
          have t24 : ((n : Int) == 24) = false := beq_eq_false_iff_ne.2 (by omega)
          clear h24
          go_wp2_with (at_builtin; refine append_rd rfl _ _ 22 rfl tRead w _ _ _ rfl ((HO5.out.alloc _).alloc _) _ 1 1 (dc ⟨cl, vr, vl⟩) rfl (Rd.builtAt _ 3 1 (dc ⟨cl, vr, vl⟩) _ rfl (by simp)) (dc_one _) (by omega) (by omega) ?_; intro v2 w6 hown2 hg2; clear hg2)
          obtain ⟨B2, d2, rfl, hnd2, hrd⟩ := own_room hown2
          go_ret2
          exact ⟨B2, d2, hnd2, by rw [HF.out]; rfl, by rw [HF.out, ds_app]; simpa [ds] using hrd, hown2.2⟩
end Go.Proofs.Ytemfkjcfafenjaa.Reads
