/-
  THE PROGRAM'S RUN IN MEMORY: a struct of registers, a path, a log, a heap, what was seen; what stays where it goes on. No conditions beyond those that each theorem states. Of the program only its types are named.
-/
import Derived.Test.YtlmkhnjdifamgaaModelA
import Derived.Test.YtlmkhnjdifamgaaMemA
import Derived.Test.YtlmkhnjdifamgaaWritesA
import Derived.Deep.MidRow
namespace Go.Proofs.Ytlmkhnjdifamgaa.Model
open Go.ChangeShapes Go.WideShapes Go.ChangeAt Go.RowKit Mem Go.Proofs.Ytlmkhnjdifamgaa.Code

/-- Where a run's lists lie. -/
structure RL where
  P : Option Addr
  pn : Nat
  pc : Nat
  L : Option Addr
  ln : Nat
  lc : Nat
  M : Option Addr
  mc : Nat
  S : Option Addr
  sn : Nat
  sc : Nat
def RL.pv (x : RL) : Value := .slice x.P x.pn x.pc
def RL.lv (x : RL) : Value := .slice x.L x.ln x.lc
def RL.sv (x : RL) : Value := .slice x.S x.sn x.sc
def rcells (H : Value) (m : CS) (x : RL) : List Value := m.regs.map (Value.int .i64) ++ [x.pv, x.lv, .slice x.M 0 x.mc, H, x.sv, .int .i64 m.why]
section
variable {H : Value} {m : CS} {x : RL}
theorem rc_len8 (h : m.regs.length = 8) : (rcells H m x).length = 14 := by unfold rcells; simp [h]
theorem rc_all (hH : H.oneCell' = true) : ∀ u ∈ rcells H m x, u.oneCell' = true := by
  intro u hu
  unfold rcells at hu
  rcases List.mem_append.1 hu with hu | hu
  · obtain ⟨z, _, rfl⟩ := List.mem_map.1 hu; rfl
  · simp only [List.mem_cons, List.not_mem_nil, or_false] at hu
    rcases hu with rfl | rfl | rfl | rfl | rfl | rfl
    · rfl
    · rfl
    · rfl
    · exact hH
    · rfl
    · rfl
theorem rc_reg (k : Nat) (z : Int) (hz : m.regs[k]? = some z) : (rcells H m x)[k]? = some (.int .i64 z) := by
  unfold rcells
  rw [List.getElem?_append_left (by rw [List.length_map]; exact (List.getElem?_eq_some_iff.1 hz).1), List.getElem?_map, hz]; rfl
theorem rc_tail (h : m.regs.length = 8) (k : Nat) : (rcells H m x)[8 + k]? = [x.pv, x.lv, .slice x.M 0 x.mc, H, x.sv, .int .i64 m.why][k]? := by
  unfold rcells
  rw [List.getElem?_append_right (by rw [List.length_map]; omega), List.length_map, h, show 8 + k - 8 = k by omega]
theorem rc_set_reg (k : Nat) (hk : k < m.regs.length) (z : Int) : (rcells H m x).set k (.int .i64 z) = rcells H { m with regs := m.regs.set k z } x := by
  unfold rcells
  rw [List.set_append_left _ _ (by rw [List.length_map]; exact hk)]
  show _ = List.map _ (m.regs.set k z) ++ _
  rw [List.map_set]
theorem rc_set_tail (h : m.regs.length = 8) (k : Nat) (u : Value) : (rcells H m x).set (8 + k) u = m.regs.map (Value.int .i64) ++ [x.pv, x.lv, .slice x.M 0 x.mc, H, x.sv, .int .i64 m.why].set k u := by
  unfold rcells
  rw [List.set_append_right _ _ (by rw [List.length_map]; omega), List.length_map, h, show 8 + k - 8 = k by omega]
end
/-- A run lies in block g. -/
structure RunAt (w0 w : World) (g : Nat) (H : Value) (m : CS) (x : RL) : Prop where
  base : w0.heap.size ≤ g
  r8 : m.regs.length = 8
  blk : Blk w g 61 (rcells H m x).toArray
  path : Own w0 w 3 1 x.pv x.pn (zs m.path)
  log : Own w0 w 67 2 x.lv x.ln (Heap.ws m.log)
  seen : Own w0 w 3 1 x.sv x.sn (zs m.seen)
  gp : x.pv.ownBlock ≠ some g
  gl : x.lv.ownBlock ≠ some g
  gs : x.sv.ownBlock ≠ some g
  ps : Apart x.pv x.sv
  pl : Apart x.pv x.lv
  ls : Apart x.lv x.sv
  pz : x.pn = 0 → x.pv.ownBlock = none
/-- What K tells of is not what such a run writes. -/
def KOK (K : Nat → Nat → Prop) (w : World) (g : Nat) (x : RL) : Prop := ∀ b i, K b i → b < w.heap.size ∧ b ≠ g ∧ x.sv.ownBlock ≠ some b ∧ (x.pv.ownBlock = some b → i < x.pn)
section
variable {w0 w w' : World} {g : Nat} {H : Value} {m : CS} {x : RL} {K : Nat → Nat → Prop}
theorem RunAt.bel (h : RunAt w0 w g H m x) : Below w0.heap.size w0 w := h.path.2
theorem RunAt.below (h : RunAt w0 w g H m x) (hb : Below w.heap.size w w') : RunAt w0 w' g H m x :=
  ⟨h.base, h.r8, h.blk.below hb, h.path.below hb, h.log.below hb, h.seen.below hb, h.gp, h.gl, h.gs, h.ps, h.pl, h.ls, h.pz⟩
theorem KOK.size (h : KOK K w g x) (hs : w.heap.size ≤ w'.heap.size) : KOK K w' g x := fun b i hk => by
  obtain ⟨h1, h2, h3, h4⟩ := h b i hk
  exact ⟨by omega, h2, h3, h4⟩
theorem KOK.fr (h : KOK K w g x) (hb : Below w.heap.size w w') : Fr K w w' := Fr.of_below hb (fun b i hk => (h b i hk).1)
theorem KOK.set (h : KOK K w g x) (i : Nat) (u : Value) : Fr K w (w.setCell ⟨g, i, none⟩ u) := Fr.of_set g i u (fun i hk => (h g i hk).2.1 rfl)
theorem set_size (w : World) (g i : Nat) (u : Value) : (w.setCell ⟨g, i, none⟩ u).heap.size = w.heap.size := by simp [World.setCell]
theorem RunAt.reg (h : RunAt w0 w g H m x) (k : Nat) (z : Int) (hz : m.regs[k]? = some z) : w.cell? ⟨g, k, none⟩ = some (.int .i64 z) := h.blk.cell k _ (by rw [List.getElem?_toArray]; exact rc_reg k z hz)
theorem RunAt.at8 (h : RunAt w0 w g H m x) : w.cell? ⟨g, 8, none⟩ = some x.pv ∧ w.cell? ⟨g, 9, none⟩ = some x.lv ∧ w.cell? ⟨g, 10, none⟩ = some (.slice x.M 0 x.mc) ∧ w.cell? ⟨g, 11, none⟩ = some H ∧ w.cell? ⟨g, 12, none⟩ = some x.sv ∧ w.cell? ⟨g, 13, none⟩ = some (.int .i64 m.why) :=
  ⟨h.blk.cell 8 _ (by rw [List.getElem?_toArray]; exact rc_tail h.r8 0), h.blk.cell 9 _ (by rw [List.getElem?_toArray]; exact rc_tail h.r8 1), h.blk.cell 10 _ (by rw [List.getElem?_toArray]; exact rc_tail h.r8 2),
   h.blk.cell 11 _ (by rw [List.getElem?_toArray]; exact rc_tail h.r8 3), h.blk.cell 12 _ (by rw [List.getElem?_toArray]; exact rc_tail h.r8 4), h.blk.cell 13 _ (by rw [List.getElem?_toArray]; exact rc_tail h.r8 5)⟩
/-- One cell of the run's own block is written. -/
theorem RunAt.put (h : RunAt w0 w g H m x) (i : Nat) (u : Value) (m' : CS) (e : (rcells H m x).set i u = rcells H m' x) (h8 : m'.regs.length = 8) (e1 : m'.path = m.path) (e2 : m'.log = m.log) (e3 : m'.seen = m.seen) :
    RunAt w0 (w.setCell ⟨g, i, none⟩ u) g H m' x := by
  refine ⟨h.base, h8, ?_, ?_, ?_, ?_, h.gp, h.gl, h.gs, h.ps, h.pl, h.ls, h.pz⟩
  · have := h.blk.set_ i u
    rw [List.setIfInBounds_toArray, e] at this
    exact this
  · rw [e1]; exact h.path.set_ne h.base h.gp i u
  · rw [e2]; exact h.log.set_ne h.base h.gl i u
  · rw [e3]; exact h.seen.set_ne h.base h.gs i u
theorem RunAt.put_reg (h : RunAt w0 w g H m x) (k : Nat) (hk : k < 8) (z : Int) : RunAt w0 (w.setCell ⟨g, k, none⟩ (.int .i64 z)) g H { m with regs := m.regs.set k z } x :=
  h.put k _ _ (rc_set_reg k (by rw [h.r8]; exact hk) z) (by show (m.regs.set k z).length = 8; rw [List.length_set, h.r8]) rfl rfl rfl
theorem RunAt.put_why (h : RunAt w0 w g H m x) (z : Int) : RunAt w0 (w.setCell ⟨g, 13, none⟩ (.int .i64 z)) g H { m with why := z } x :=
  h.put 13 _ _ (rc_set_tail h.r8 5 _) h.r8 rfl rfl rfl
theorem own_none {v : Value} {g : Nat} (h : Apart v v) (hg : v.ownBlock = some g) : False := by
  rcases h with h | h | h
  · rw [h] at hg; cases hg
  · rw [h] at hg; cases hg
  · exact h rfl
/-- What was seen has grown. -/
theorem RunAt.see {w1 w2 : World} {S' : Option Addr} {sc' : Nat} (h : RunAt w0 w1 g H m x) (hk : KOK K w1 g x) (z : Int) (ho : Own w0 w2 3 1 (.slice S' (x.sn + 1) sc') (x.sn + 1) (zs m.seen ++ [.int .i64 z])) (hm : Moved w1 w2 x.sv (.slice S' (x.sn + 1) sc') x.sn (x.sn + 1)) :
    RunAt w0 (w2.setCell ⟨g, 12, none⟩ (.slice S' (x.sn + 1) sc')) g H { m with seen := m.seen ++ [z] } { x with S := S', sn := x.sn + 1, sc := sc' } ∧ KOK K (w2.setCell ⟨g, 12, none⟩ (.slice S' (x.sn + 1) sc')) g { x with S := S', sn := x.sn + 1, sc := sc' } ∧ Fr K w1 (w2.setCell ⟨g, 12, none⟩ (.slice S' (x.sn + 1) sc')) := by
  have hgw := h.blk.lt
  have hnew : (Value.slice S' (x.sn + 1) sc').ownBlock ≠ some g := hm.ne hgw h.gs
  have hb2 := ho.2
  have hfr : Fr K w1 w2 := hm.fr h.seen ho (fun b i hkb => by
    obtain ⟨h1, h2, h3, h4⟩ := hk b i hkb
    exact ⟨h1, fun e => absurd e h3⟩)
  have hkg : ∀ i, ¬ K g i := fun i hkb => (hk g i hkb).2.1 rfl
  have ap : ∀ v : Value, ∀ n e size ys, Own w0 w1 e size v n ys → Apart v x.sv → Apart v (.slice S' (x.sn + 1) sc') := by
    intro v n e size ys hv hap
    cases hvb : v.ownBlock with
    | none => exact .inl hvb
    | some q =>
      refine .inr (.inr ?_)
      rw [hvb]
      intro e2
      refine hm.ne (hv.lt q hvb) (fun e3 => ?_) e2.symm
      rcases hap with hap | hap | hap
      · rw [hap] at hvb; cases hvb
      · rw [hap] at e3; cases e3
      · exact hap (hvb.trans e3.symm)
  refine ⟨⟨h.base, h.r8, ?_, ?_, ?_, ?_, h.gp, h.gl, hnew, ap _ _ _ _ _ h.path h.ps, h.pl, ap _ _ _ _ _ h.log h.ls, h.pz⟩, ?_, hfr.trans (Fr.of_set g 12 _ hkg)⟩
  · have := (hm.blk h.blk h.gs).set_ 12 (.slice S' (x.sn + 1) sc')
    rw [List.setIfInBounds_toArray, rc_set_tail h.r8 4] at this
    exact this
  · exact (hm.own h.path h.ps hb2).set_ne h.base h.gp _ _
  · exact (hm.own h.log h.ls hb2).set_ne h.base h.gl _ _
  · have : zs (m.seen ++ [z]) = zs m.seen ++ [.int .i64 z] := by unfold zs; rw [List.flatMap_append]; rfl
    show Own _ _ _ _ _ _ (zs (m.seen ++ [z]))
    rw [this]
    exact ho.set_ne h.base hnew _ _
  · intro b i hkb
    obtain ⟨h1, h2, h3, h4⟩ := hk b i hkb
    exact ⟨by rw [set_size]; have := hfr.size; omega, h2, hm.ne h1 h3, h4⟩
/-- The path has grown. -/
theorem RunAt.go {w1 w2 : World} {S' : Option Addr} {sc' : Nat} (h : RunAt w0 w1 g H m x) (hk : KOK K w1 g x) (z : Int) (ho : Own w0 w2 3 1 (.slice S' (x.pn + 1) sc') (x.pn + 1) (zs m.path ++ [.int .i64 z])) (hm : Moved w1 w2 x.pv (.slice S' (x.pn + 1) sc') x.pn (x.pn + 1)) :
    RunAt w0 (w2.setCell ⟨g, 8, none⟩ (.slice S' (x.pn + 1) sc')) g H { m with path := m.path ++ [z] } { x with P := S', pn := x.pn + 1, pc := sc' } ∧ KOK K (w2.setCell ⟨g, 8, none⟩ (.slice S' (x.pn + 1) sc')) g { x with P := S', pn := x.pn + 1, pc := sc' } ∧ Fr K w1 (w2.setCell ⟨g, 8, none⟩ (.slice S' (x.pn + 1) sc')) := by
  have hgw := h.blk.lt
  have hnew : (Value.slice S' (x.pn + 1) sc').ownBlock ≠ some g := hm.ne hgw h.gp
  have hb2 := ho.2
  have hfr : Fr K w1 w2 := hm.fr h.path ho (fun b i hkb => by
    obtain ⟨h1, h2, h3, h4⟩ := hk b i hkb
    exact ⟨h1, fun e => by have := h4 e; omega⟩)
  have hkg : ∀ i, ¬ K g i := fun i hkb => (hk g i hkb).2.1 rfl
  have ap : ∀ v : Value, ∀ n e size ys, Own w0 w1 e size v n ys → Apart x.pv v → Apart (.slice S' (x.pn + 1) sc') v := by
    intro v n e size ys hv hap
    cases hvb : v.ownBlock with
    | none => exact .inr (.inl hvb)
    | some q =>
      refine .inr (.inr ?_)
      rw [hvb]
      intro e2
      refine hm.ne (hv.lt q hvb) (fun e3 => ?_) e2
      rcases hap with hap | hap | hap
      · rw [hap] at e3; cases e3
      · rw [hap] at hvb; cases hvb
      · exact hap (e3.trans hvb.symm)
  refine ⟨⟨h.base, h.r8, ?_, ?_, ?_, ?_, hnew, h.gl, h.gs, ap _ _ _ _ _ h.seen h.ps, ap _ _ _ _ _ h.log h.pl, h.ls, fun e => absurd e (by show x.pn + 1 ≠ 0; omega)⟩, ?_, hfr.trans (Fr.of_set g 8 _ hkg)⟩
  · have := (hm.blk h.blk h.gp).set_ 8 (.slice S' (x.pn + 1) sc')
    rw [List.setIfInBounds_toArray, rc_set_tail h.r8 0] at this
    exact this
  · have : zs (m.path ++ [z]) = zs m.path ++ [.int .i64 z] := by unfold zs; rw [List.flatMap_append]; rfl
    show Own _ _ _ _ _ _ (zs (m.path ++ [z]))
    rw [this]
    exact ho.set_ne h.base hnew _ _
  · exact (hm.own h.log h.pl.symm hb2).set_ne h.base h.gl _ _
  · exact (hm.own h.seen h.ps.symm hb2).set_ne h.base h.gs _ _
  · intro b i hkb
    obtain ⟨h1, h2, h3, h4⟩ := hk b i hkb
    refine ⟨by rw [set_size]; have := hfr.size; omega, h2, h3, fun e => ?_⟩
    by_cases e2 : x.pv.ownBlock = some b
    · have := h4 e2
      show i < x.pn + 1
      omega
    · exact absurd e (hm.ne h1 e2)
/-- A new log. -/
theorem RunAt.note {w1 w2 : World} {L' M' : Option Addr} {ln' lc' mc' : Nat} {l' : List Heap.Write} (h : RunAt w0 w1 g H m x) (hk : KOK K w1 g x) (ho : Own w1 w2 67 2 (.slice L' ln' lc') ln' (Heap.ws l')) :
    RunAt w0 ((w2.setCell ⟨g, 9, none⟩ (.slice L' ln' lc')).setCell ⟨g, 10, none⟩ (.slice M' 0 mc')) g H { m with log := l' } { x with L := L', ln := ln', lc := lc', M := M', mc := mc' } ∧
      KOK K ((w2.setCell ⟨g, 9, none⟩ (.slice L' ln' lc')).setCell ⟨g, 10, none⟩ (.slice M' 0 mc')) g { x with L := L', ln := ln', lc := lc', M := M', mc := mc' } ∧ Fr K w1 ((w2.setCell ⟨g, 9, none⟩ (.slice L' ln' lc')).setCell ⟨g, 10, none⟩ (.slice M' 0 mc')) := by
  have hb := ho.2
  have h2 := h.below hb
  have hkg : ∀ i, ¬ K g i := fun i hkb => (hk g i hkb).2.1 rfl
  have hnew : (Value.slice L' ln' lc').ownBlock ≠ some g := ho.ne_old h.blk.lt
  have ap : ∀ v : Value, ∀ n e size ys, Own w0 w1 e size v n ys → Apart v (.slice L' ln' lc') := by
    intro v n e size ys hv
    cases hvb : v.ownBlock with
    | none => exact .inl hvb
    | some q =>
      refine .inr (.inr ?_)
      rw [hvb]
      exact fun e2 => ho.ne_old (hv.lt q hvb) e2.symm
  refine ⟨⟨h.base, h.r8, ?_, ?_, ?_, ?_, h.gp, hnew, h.gs, h.ps, ap _ _ _ _ _ h.path, (ap _ _ _ _ _ h.seen).symm, h.pz⟩, ?_, (Fr.of_below hb (fun b i hkb => (hk b i hkb).1)).trans ((Fr.of_set g 9 _ hkg).trans (Fr.of_set g 10 _ hkg))⟩
  · have := (h2.blk.set_ 9 (.slice L' ln' lc')).set_ 10 (.slice M' 0 mc')
    rw [List.setIfInBounds_toArray, List.setIfInBounds_toArray, rc_set_tail h.r8 1, show (10 : Nat) = 8 + 2 by rfl, List.set_append_right _ _ (by rw [List.length_map, h.r8]; omega), List.length_map, h.r8] at this
    exact this
  · exact (h2.path.set_ne h.base h.gp _ _).set_ne h.base h.gp _ _
  · exact ((ho.wide h.bel).set_ne h.base hnew _ _).set_ne h.base hnew _ _
  · exact (h2.seen.set_ne h.base h.gs _ _).set_ne h.base h.gs _ _
  · intro b i hkb
    obtain ⟨h1, h2, h3, h4⟩ := hk b i hkb
    exact ⟨by rw [set_size, set_size]; have := hb.size; omega, h2, h3, h4⟩
/-- All that such a run does not write. -/
def KMax (w : World) (g : Nat) (x : RL) : Nat → Nat → Prop := fun b i => b < w.heap.size ∧ b ≠ g ∧ x.sv.ownBlock ≠ some b ∧ (x.pv.ownBlock = some b → i < x.pn)
theorem kmax_ok (w : World) (g : Nat) (x : RL) : KOK (KMax w g x) w g x := fun _ _ h => h
theorem KOK.sub {K2 : Nat → Nat → Prop} (h : KOK K2 w g x) (hs : ∀ b i, K b i → K2 b i) : KOK K w g x := fun b i hk => h b i (hs b i hk)
end
theorem setc_ind {g : Nat} (Q : World → Prop) (h : ∀ w i u, Q w → Q (w.setCell ⟨g, i, none⟩ u)) : ∀ (vs : List Value) (o : Nat) (w : World), Q w → Q (w.setCells g o vs) := by
  intro vs
  induction vs with
  | nil => intro o w hw; exact hw
  | cons v vs ih => intro o w hw; rw [World.setCells]; exact ih _ _ (h _ _ _ hw)
theorem setc_blk {g : Nat} {t : TypeId} (post : List Value) : ∀ (vs mid pre : List Value) (o : Nat) (w : World), Blk w g t (pre ++ (mid ++ post)).toArray → pre.length = o → mid.length = vs.length → Blk (w.setCells g o vs) g t (pre ++ (vs ++ post)).toArray := by
  intro vs
  induction vs with
  | nil =>
    intro mid pre o w hb _ hm
    obtain rfl : mid = [] := List.eq_nil_of_length_eq_zero hm
    exact hb
  | cons v vs ih =>
    intro mid pre o w hb hp hm
    cases mid with
    | nil => simp at hm
    | cons y mid =>
      rw [World.setCells]
      have h1 := hb.set_ o v
      rw [List.setIfInBounds_toArray, List.set_append_right _ _ (by omega), show o - pre.length = 0 by omega] at h1
      have h2 := ih mid (pre ++ [v]) (o + 1) (w.setCell ⟨g, o, none⟩ v) (by simpa using h1) (by simp; omega) (by simpa using hm)
      simpa using h2
theorem setc_size (g : Nat) (vs : List Value) (o : Nat) (w : World) : (w.setCells g o vs).heap.size = w.heap.size :=
  setc_ind (g := g) (fun w' => w'.heap.size = w.heap.size) (fun w' i u h => by rw [set_size]; exact h) vs o w rfl
/-- The cells of a state. -/
def scells (m : CS) (x : RL) : List Value := m.regs.map (Value.int .i64) ++ [x.pv, x.lv, .slice x.M 0 x.mc]
theorem rc_state (H : Value) (m : CS) (x : RL) : rcells H m x = scells m x ++ [H, x.sv, .int .i64 m.why] := by unfold rcells scells; simp
theorem scells_len {m : CS} {x : RL} (h : m.regs.length = 8) : (scells m x).length = 11 := by unfold scells; simp [h]
theorem scells_one (m : CS) (x : RL) : ∀ u ∈ scells m x, u.oneCell' = true := by
  intro u hu
  unfold scells at hu
  rcases List.mem_append.1 hu with hu | hu
  · obtain ⟨z, _, rfl⟩ := List.mem_map.1 hu; rfl
  · simp only [List.mem_cons, List.not_mem_nil, or_false] at hu
    rcases hu with rfl | rfl | rfl <;> rfl
section
variable {w0 w w1 : World} {g : Nat} {H : Value} {m m1 : CS} {x x1 : RL} {K : Nat → Nat → Prop}
theorem RunAt.range (h : RunAt w0 w g H m x) : w.rangeAt g 0 (scells m x) := fun j v hv => by
  rw [Nat.zero_add]
  refine h.blk.cell j v ?_
  rw [List.getElem?_toArray, rc_state, List.getElem?_append_left (List.getElem?_eq_some_iff.1 hv).1]; exact hv
theorem RunAt.has (h : RunAt w0 w g H m x) : w.there g 0 11 := fun j hj => by
  have hl := rc_len8 (H := H) (x := x) h.r8
  rw [Nat.zero_add]
  refine ⟨?_, h.blk.frozen j⟩
  rw [h.blk.cell j ((rcells H m x)[j]'(by omega)) (by rw [List.getElem?_toArray]; exact List.getElem?_eq_getElem (by omega))]; rfl
/-- The state is as it was: registers, path and log; what was seen is not undone. -/
theorem RunAt.back (h : RunAt w0 w g H m x) (h1 : RunAt w0 w1 g H m1 x1) (hf : Fr (KMax w g x) w w1) (hk : KOK (KMax w g x) w1 g x1) :
    RunAt w0 (w1.setCells g 0 (scells m x)) g H { regs := m.regs, path := m.path, log := m.log, seen := m1.seen, why := m1.why } { x with S := x1.S, sn := x1.sn, sc := x1.sc } ∧
      KOK (KMax w g x) (w1.setCells g 0 (scells m x)) g { x with S := x1.S, sn := x1.sn, sc := x1.sc } ∧ Fr (KMax w g x) w1 (w1.setCells g 0 (scells m x)) := by
  have hp : Own w0 w1 3 1 x.pv x.pn (zs m.path) := h.path.fr_any hf (fun q hq i hi => ⟨h.path.lt q hq, fun e => h.gp (by rw [hq, e]), fun e => by
    rcases h.ps with h2 | h2 | h2
    · rw [h2] at hq; cases hq
    · rw [h2] at e; cases e
    · exact h2 (hq.trans e.symm), fun _ => by omega⟩) h1.bel
  have hlk : ∀ q, x.lv.ownBlock = some q → ∀ i, KMax w g x q i := fun q hq i => ⟨h.log.lt q hq, fun e => h.gl (by rw [hq, e]), fun e => by
    rcases h.ls with h2 | h2 | h2
    · rw [h2] at hq; cases hq
    · rw [h2] at e; cases e
    · exact h2 (hq.trans e.symm), fun e => by
    rcases h.pl with h2 | h2 | h2
    · rw [h2] at e; cases e
    · rw [h2] at hq; cases hq
    · exact absurd (e.trans hq.symm) h2⟩
  have hl : Own w0 w1 67 2 x.lv x.ln (Heap.ws m.log) := h.log.fr_any hf (fun q hq i _ => hlk q hq i) h1.bel
  have apl : Apart x.lv x1.sv := by
    cases hq : x.lv.ownBlock with
    | none => exact .inl hq
    | some q =>
      refine .inr (.inr ?_)
      rw [hq]
      exact fun e => (hk q 0 (hlk q hq 0)).2.2.1 e.symm
  have app : Apart x.pv x1.sv := by
    cases hq : x.pv.ownBlock with
    | none => exact .inl hq
    | some q =>
      refine .inr (.inr ?_)
      rw [hq]
      have hn : 0 < x.pn := by
        rcases Nat.eq_zero_or_pos x.pn with h0 | h0
        · rw [h.pz h0] at hq; cases hq
        · exact h0
      exact fun e => (hk q 0 ⟨h.path.lt q hq, fun e => h.gp (by rw [hq, e]), fun e => by
        rcases h.ps with h2 | h2 | h2
        · rw [h2] at hq; cases hq
        · rw [h2] at e; cases e
        · exact h2 (hq.trans e.symm), fun _ => hn⟩).2.2.1 e.symm
  have hkg : ∀ i, ¬ KMax w g x g i := fun i hkb => hkb.2.1 rfl
  have hfr : Fr (KMax w g x) w1 (w1.setCells g 0 (scells m x)) := setc_ind (g := g) (fun w' => Fr (KMax w g x) w1 w') (fun w' i u hh => hh.trans (Fr.of_set g i u hkg)) _ 0 w1 (Fr.refl _ _)
  refine ⟨⟨h.base, h.r8, ?_, ?_, ?_, ?_, h.gp, h.gl, h1.gs, app, h.pl, apl, h.pz⟩, ?_, hfr⟩
  · have hb := h1.blk
    rw [rc_state] at hb
    have := setc_blk [H, x1.sv, .int .i64 m1.why] (scells m x) (scells m1 x1) [] 0 w1 hb rfl (by rw [scells_len h.r8, scells_len h1.r8])
    rw [rc_state]
    exact this
  · exact setc_ind (g := g) (fun w' => Own w0 w' _ 1 x.pv x.pn (zs m.path)) (fun w' i u hh => hh.set_ne h.base h.gp i u) _ 0 w1 hp
  · exact setc_ind (g := g) (fun w' => Own w0 w' _ 2 x.lv x.ln (Heap.ws m.log)) (fun w' i u hh => hh.set_ne h.base h.gl i u) _ 0 w1 hl
  · exact setc_ind (g := g) (fun w' => Own w0 w' _ 1 x1.sv x1.sn (zs m1.seen)) (fun w' i u hh => hh.set_ne h.base h1.gs i u) _ 0 w1 h1.seen
  · intro b i hkb
    have h2 := hk b i hkb
    exact ⟨by rw [setc_size]; exact h2.1, h2.2.1, h2.2.2.1, hkb.2.2.2⟩
theorem Fr.blk {b : Nat} {t : TypeId} {cs : Array Value} (hf : Fr K w w1) (hb : Blk w b t cs) (hk : ∀ i, K b i) : Blk w1 b t cs := by
  obtain ⟨cur, h1, h2⟩ := hf.shape b cs t (0, 0) hb
  have : cur = cs := by
    refine Array.ext_getElem? fun i => ?_
    have hc := hf.cells b i (hk i)
    unfold World.cell? at hc
    unfold Blk at hb
    simp only [h1, hb] at hc
    simpa using hc
  rw [← this]; exact h1
end
end Go.Proofs.Ytlmkhnjdifamgaa.Model
