/-
  THE LIBRARY'S slices.Delete (OF ONE) AT []sleep.Sleeper, IN A SLICE OF THE CALL'S OWN. No conditions beyond those that each theorem states.
-/
import Derived.Test.YtddgdhaioomnnaaSleepClone
import Derived.LoopTactic
import Derived.Deep.QuietTactic
import Derived.BigQuiet
import Derived.BigRegion
import Derived.RegionTactic
import Derived.Deep.RegionLaw
namespace Go.Proofs.Ytddgdhaioomnnaa.Sleep
open Go.ChangeShapes Go.WideShapes Go.ChangeAt Go.RowKit Mem

theorem setc_ind {g : Nat} (Q : World → Prop) (h : ∀ w i u, Q w → Q (w.setCell ⟨g, i, none⟩ u)) : ∀ (vs : List Value) (o : Nat) (w : World), Q w → Q (w.setCells g o vs) := by
  intro vs
  induction vs with
  | nil => intro o w hq; exact hq
  | cons v vs ih => intro o w hq; exact ih (o + 1) _ (h _ _ _ hq)
theorem setc_blk {g : Nat} {t : TypeId} (post : List Value) : ∀ (vs mid pre : List Value) (o : Nat) (w : World), Blk w g t (pre ++ (mid ++ post)).toArray → pre.length = o → mid.length = vs.length → Blk (w.setCells g o vs) g t (pre ++ (vs ++ post)).toArray := by
  intro vs
  induction vs with
  | nil =>
    intro mid pre o w hb hp hm
    have : mid = [] := List.eq_nil_of_length_eq_zero (by simpa using hm)
    subst this
    exact hb
  | cons v vs ih =>
    intro mid pre o w hb hp hm
    cases mid with
    | nil => simp at hm
    | cons m mid =>
      have h1 := hb.set_ o v
      have e1 : (pre ++ (m :: mid ++ post)).toArray.setIfInBounds o v = ((pre ++ [v]) ++ (mid ++ post)).toArray := by
        rw [List.setIfInBounds_toArray]; congr 1
        subst hp
        rw [List.set_append_right _ _ (Nat.le_refl _), Nat.sub_self]
        simp
      rw [e1] at h1
      have h2 := ih mid (pre ++ [v]) (o + 1) _ h1 (by simp [hp]) (by simpa using hm)
      have e2 : (pre ++ [v]) ++ (vs ++ post) = pre ++ (v :: vs ++ post) := by simp
      rw [e2] at h2
      exact h2
theorem setc_size (g : Nat) (vs : List Value) (o : Nat) (w : World) : (w.setCells g o vs).heap.size = w.heap.size :=
  setc_ind (g := g) (fun w' => w'.heap.size = w.heap.size) (fun w' i u h => by rw [World.size_setCell]; exact h) vs o w rfl
theorem setc_grown (g : Nat) (vs : List Value) (o : Nat) (w : World) : w.grownBy (w.setCells g o vs) (some g) :=
  setc_ind (g := g) (fun w' => w.grownBy w' (some g)) (fun w' i u h => ⟨h.os, h.tape, h.output, by rw [World.size_setCell]; exact h.size, fun k hk hne => by
    rw [Below.heap_setCell _ _ _ _ (by intro e; exact hne (by rw [e]))]; exact h.block k hk hne⟩) vs o w ⟨rfl, rfl, rfl, Nat.le_refl _, fun _ _ _ => rfl⟩
theorem run_clear_one {P : Program} (w : World) (t e ty : TypeId) (z : Value) (zc : List Value) (ht : P.underlying t = some (.slice e)) (hv : ∀ w, (zeroValue e).run P w = .ok z w) (hz : (Builtin.zeroCells z.cells 1).toList = zc) (h1 : ∀ u ∈ zc, u.oneCell' = true) (b o c : Nat)
    (hc : ∀ j, j < zc.length → (w.cell? ⟨b, o + j, none⟩).isSome = true) (hf : ∀ j, j < zc.length → w.frozen? ⟨b, o + j, none⟩ = false) :
    (Builtin.clear_ #[t] ty #[.slice (some ⟨b, o, none⟩) 1 c]).run P w = .ok (.tuple #[]) (w.setCells b o zc) := by
  have hst := run_storeCells_cells (P := P) b o zc 0 w (by simpa using hc) (by simpa using hf) h1
  simp only [Nat.add_zero] at hst
  simp [Builtin.clear_, run_underlying ht, hv, hz, hst]
def zq : List Value := [.int .i64 0, .int .i64 0, .int .i64 0, .slice none 0 0, .slice none 0 0]
set_option maxRecDepth 100000 in
theorem zero_sleeper (w : World) : (zeroValue 36).run Try.prog w = .ok (.agg #[.int .i64 0, .int .i64 0, .int .i64 0, .slice none 0 0, .slice none 0 0]) w := by
  exact Try.zeroValue36 w

set_option maxRecDepth 100000 in
set_option maxHeartbeats 4000000 in
/-- One is left out. -/
theorem delete_c (w0 w : World) (g n cap p : Nat) (L : List RawS) (i j : Int) (ho : Own w0 w 36 5 (.slice (some ⟨g, 0, none⟩) n cap) n (ss L)) (hn : n ≤ 1000000) (hp : p < n) (hi : i = (p : Int)) (hj : j = (p : Int) + 1) :
    Calls Try.prog 37 #[.slice (some ⟨g, 0, none⟩) n cap, .int .i64 i, .int .i64 j] w fun e w' =>
      e = .returned (.slice (some ⟨g, 0, none⟩) (n - 1) cap) ∧ Own w0 w' 36 5 (.slice (some ⟨g, 0, none⟩) (n - 1) cap) (n - 1) (ss (L.take p ++ L.drop (p + 1))) ∧ w.grownBy w' (some g) := by
  subst hi hj
  have hl : L.length = n := by have := ho.1.1; rw [ss_len] at this; omega
  obtain ⟨R, hb, hR, hcap, hmax, hg⟩ : ∃ R : List Value, Blk w g 36 (ss L ++ R).toArray ∧ R.length = (cap - n) * 5 ∧ n ≤ cap ∧ cap ≤ 9223372036854775807 ∧ w0.heap.size ≤ g := by
    rcases ho.1.2 with ⟨h, _⟩ | ⟨g', c', cur, h, hg, hb, h2, h3, hs, ht⟩
    · cases h
    · injection h with h _ h5
      injection h with h
      injection h with h
      subst h h5
      refine ⟨cur.toList.drop (n * 5), ?_, by rw [List.length_drop, Array.length_toList, hs]; omega, h2, h3, hg⟩
      rw [← ht, List.take_append_drop]; exact hb
  obtain ⟨D, hD⟩ : ∃ D, ss (L.drop (p + 1)) = D := ⟨_, rfl⟩
  obtain ⟨P, hP⟩ : ∃ P, ss (L.take p) = P := ⟨_, rfl⟩
  obtain ⟨x, hx⟩ : ∃ x, L[p]? = some x := ⟨_, List.getElem?_eq_getElem (by omega)⟩
  have hDl : D.length = (n - (p + 1)) * 5 := by rw [← hD, ss_len, List.length_drop, hl]
  have hPl : P.length = p * 5 := by rw [← hP, ss_len, List.length_take, hl]; omega
  have hLL : ss L = P ++ (sc x ++ D) := by
    have e : L = L.take p ++ (x :: L.drop (p + 1)) := by
      obtain ⟨h1, h2⟩ := List.getElem?_eq_some_iff.1 hx
      conv => lhs; rw [← List.take_append_drop p L, List.drop_eq_getElem_cons h1, h2]
    conv => lhs; rw [e]
    rw [ss_app, hP, ← hD]; rfl
  obtain ⟨M, hM⟩ : ∃ M, (sc x ++ D).take D.length = M := ⟨_, rfl⟩
  obtain ⟨E, hE⟩ : ∃ E, (sc x ++ D).drop D.length = E := ⟨_, rfl⟩
  have hMl : M.length = D.length := by rw [← hM, List.length_take, List.length_append, sc_len]; omega
  have hEl : E.length = 5 := by rw [← hE, List.length_drop, List.length_append, sc_len]; omega
  have hb1 : Blk w g 36 (P ++ (M ++ (E ++ R))).toArray := by
    have e0 : M ++ E = sc x ++ D := by rw [← hM, ← hE, List.take_append_drop]
    have e : P ++ (M ++ (E ++ R)) = ss L ++ R := by rw [← List.append_assoc M E R, e0, hLL]; simp
    rw [e]; exact hb
  obtain ⟨Wd, hWd⟩ : ∃ Wd, w.drew.setCells g (p * 5) D = Wd := ⟨_, rfl⟩
  have hk1 : Blk Wd g 36 (P ++ (D ++ (E ++ R))).toArray := by rw [← hWd]; exact setc_blk (E ++ R) D M P (p * 5) w.drew hb1 hPl hMl
  have hg1 : w.drew.grownBy Wd (some g) := by rw [← hWd]; exact setc_grown g D (p * 5) w.drew
  have hT : Try.prog.underlying 22 = some (.slice 36) := Try.underlying22
  have hPD : (P ++ D).length = (n - 1) * 5 := by rw [List.length_append, hPl, hDl]; omega
  have hk2 : Blk Wd g 36 ((P ++ D) ++ (E ++ R)).toArray := by rw [List.append_assoc]; exact hk1
  have hcl : ∀ (c : Nat) (ty : TypeId), (Builtin.clear_ #[22] ty #[.slice (some ⟨g, (n - 1) * 5, none⟩) 1 c]).run Try.prog Wd = .ok (.tuple #[]) (Wd.setCells g ((n - 1) * 5) zq) := fun c ty =>
    run_clear_one Wd _ _ ty _ zq hT zero_sleeper (by simp [zq, Builtin.zeroCells]; rfl) (by intro u hu; simp [zq] at hu; rcases hu with rfl | rfl <;> rfl) g ((n - 1) * 5) c
      (fun j hj => by
        have hj5 : j < 5 := hj
        have hlt : (n - 1) * 5 + j < ((P ++ D) ++ (E ++ R)).length := by rw [List.length_append, hPD, List.length_append, hEl]; omega
        rw [hk2.cell _ _ (by rw [List.getElem?_toArray]; exact List.getElem?_eq_getElem hlt)]; rfl) (fun j hj => hk2.frozen _)
  obtain ⟨Wf, hWf⟩ : ∃ Wf, Wd.setCells g ((n - 1) * 5) zq = Wf := ⟨_, rfl⟩
  rw [hWf] at hcl
  have HFIN : Hid (Own w0 Wf 36 5 (.slice (some ⟨g, 0, none⟩) (n - 1) cap) (n - 1) (ss (L.take p ++ L.drop (p + 1))) ∧ w.grownBy Wf (some g)) := Lib.hid (by
    have hk3 : Blk Wf g 36 ((P ++ D) ++ (zq ++ R)).toArray := by rw [← hWf]; exact setc_blk R zq E (P ++ D) ((n - 1) * 5) Wd hk2 hPD hEl
    have hg2 : Wd.grownBy Wf (some g) := by rw [← hWf]; exact setc_grown g zq _ Wd
    have hgw : w.grownBy Wf (some g) := ⟨hg2.os.trans hg1.os, hg2.tape.trans hg1.tape, hg2.output.trans hg1.output, Nat.le_trans hg1.size hg2.size, fun k hk hne => (hg2.block k (Nat.lt_of_lt_of_le hk hg1.size) hne).trans (hg1.block k hk hne)⟩
    have e : ss (L.take p ++ L.drop (p + 1)) = P ++ D := by rw [ss_app, hP, hD]
    refine ⟨⟨⟨by rw [e, hPD], .inr ⟨g, cap, _, rfl, hg, hk3, by omega, hmax, ?_, ?_⟩⟩, ?_⟩, hgw⟩
    · rw [List.size_toArray, List.length_append, hPD, List.length_append, hR]; show (n - 1) * 5 + (5 + _) = _; omega
    · rw [e]; exact List.take_left' hPD
    · exact ho.2.grown hgw ho.2.size (fun k hk => by injection hk with hk; omega))
  have HCL := Lib.hid hcl
  have HSRC : Hid (∀ j u, D[j]? = some u → w.cell? ⟨g, (p + 1) * 5 + j, none⟩ = some u) := Lib.hid (fun j u hj => by
    refine hb.cell _ u ?_
    have h1 := (List.getElem?_eq_some_iff.1 hj).1
    rw [List.getElem?_toArray, hLL, List.append_assoc, List.append_assoc, List.getElem?_append_right (by omega), List.getElem?_append_right (by rw [sc_len]; omega), hPl, sc_len, show (p + 1) * 5 + j - p * 5 - 5 = j by omega, List.getElem?_append_left h1]
    exact hj)
  have HONE : Hid (∀ u ∈ D, u.oneCell' = true) := Lib.hid (by rw [← hD]; exact ss_one _)
  have HDL := Lib.hid hDl
  have HSP : Hid (∀ j, j < D.length → (w.cell? ⟨g, 0 + p * 5 + j, none⟩).isSome = true ∧ w.frozen? ⟨g, 0 + p * 5 + j, none⟩ = false) := Lib.hid (fun j hj => by
    have hlt : 0 + p * 5 + j < (P ++ (M ++ (E ++ R))).length := by rw [List.length_append, List.length_append, hPl, hMl]; omega
    exact ⟨by rw [hb1.cell _ _ (by rw [List.getElem?_toArray]; exact List.getElem?_eq_getElem hlt)]; rfl, hb1.frozen _⟩)
  have HWD := Lib.hid hWd
  obtain ⟨i0, z0, hT1, hi0, hz0, hsz, hby, hzs, hsz2⟩ := tSleeper
  have S1 := Lib.hid hi0
  have S2 := Lib.hid hsz
  clear hT1 hi0 hz0 hsz hby hzs hsz2 ho hb hb1 hk1 hk2 hg1 hWd hWf hcl hDl hPl hLL hMl hEl hPD hD hP hM hE hx hR hT hg hl
  obtain ⟨m, hm⟩ : ∃ m, n = p + 1 + m := ⟨n - (p + 1), by omega⟩
  have HNM := Lib.hid hm
  have mixed : Try.prog.follows .mixedOrders = true := by kernel_rfl
  have h1 : ¬ (n = p) := by omega
  have h2 : p + 1 ≤ n := hp
  have h3 : p ≤ n := by omega
  have h4 : n - 1 ≤ cap := by omega
  have h5 : ¬ (cap = n - 1) := by omega
  have h6 : (0 : Int) ≤ (p : Int) + 1 := by omega
  have h7 : p ≤ cap := by omega
  have h8 : (p : Int) + 1 ≤ (n : Int) := by omega
  have htn : ((p : Int) + 1).toNat = p + 1 := by omega
  have h9 : ¬ ((p : Int) = (p : Int) + 1) := by omega
  have h10 : n - (n - 1) = 1 := by omega
  have h11 : p + (n - (p + 1)) = n - 1 := by omega
  obtain ⟨A, hA, hAc⟩ : ∃ A : Addr, (if cap = p + 1 then (some ⟨g, 0, none⟩ : Option Addr) else some ⟨g, (p + 1) * 5, none⟩) = some A ∧ ∀ j u, D[j]? = some u → w.cell? (A.add j) = some u := by
    by_cases h : cap = p + 1
    · exact ⟨_, if_pos h, fun j u hu => by have := (List.getElem?_eq_some_iff.1 hu).1; rw [HDL.out] at this; omega⟩
    · exact ⟨_, if_neg h, fun j u hu => by rw [Mem.add_plain]; exact HSRC.out j u hu⟩
  have HAC := Lib.hid hAc
  clear hm hAc
  go_enter Try.func37, Try.ntmps37
  go_wp2_with fail
  go_region_law_o (refine step_append_room rfl (.tmp 22) (.tmp 25) 22 rfl 36 i0 5 Try.underlying22 S1.out S2.out g 0 p cap (by simp [Act.eval, Act.put]) A (n - (p + 1)) (cap - (p + 1)) D (by simp [Act.eval, Act.put]) HDL.out HAC.out HONE.out (by omega) HSP.out ?_)
  rw [HWD.out]
  go_wp2_with (simp only [HCL.out])
  go_ret
  exact ⟨rfl, HFIN.out.1, HFIN.out.2⟩
end Go.Proofs.Ytddgdhaioomnnaa.Sleep
