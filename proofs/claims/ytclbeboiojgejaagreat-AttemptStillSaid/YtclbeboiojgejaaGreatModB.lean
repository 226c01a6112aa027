/-
 WHAT THE LAYER model DOES, AS IT IS WRITTEN: Store. No conditions beyond those that each theorem states.
-/
import Derived.Test.YtclbeboiojgejaaGreatAttF
import Derived.Test.YtclbeboiojgejaaGreatModelA
import Derived.Test.YtclbeboiojgejaaGreatCodeA
import Derived.Test.YtclbeboiojgejaaGreatHeapA
import Derived.Test.YtclbeboiojgejaaGreatCodeB
import Derived.Test.YtclbeboiojgejaaGreatMemA
import Derived.Maps.OwnOps
import Derived.Test.YtclbeboiojgejaaGreatWritesA
import Derived.Deep.MidRow
import Derived.Test.YtclbeboiojgejaaGreatAttA
import Derived.Test.YtclbeboiojgejaaGreatTermB
namespace Go.Proofs.YtclbeboiojgejaaGreat.Model
open Go.ChangeShapes Go.WideShapes Go.ChangeAt Go.RowKit Mem Go.Proofs.YtclbeboiojgejaaGreat.Code

/-- What is returned: an end, a heap, and whether it was refused. -/
def RetRun (w : World) (o : Out) (n1 n2 n3 n4 : Nat) (g : List Heap.Cell) (gn : Nat) (f : Int) (e : Ending) (w' : World) : Prop :=
 ∃ A1 c1 A2 c2 A3 c3 A4 c4 G gc, e = .returned (.tuple #[.agg #[.int .i64 o.kind, .int .i64 o.why, .slice A1 n1 c1, .slice A2 n2 c2, .slice A3 n3 c3, .slice A4 n4 c4], .slice G gn gc, .int .i64 f]) ∧ OutAt w' o A1 A2 A3 A4 n1 n2 n3 n4 ∧ Rd w' 2 G gn (Heap.cs g) ∧ Below w.heap.size w w'
/-- An error's number. -/
def errOf (ok : Bool) : Int := if ok = true then 0 else 1
/-- A slice that lies in no block that is older. -/
def Nw (w : World) (A : Option Addr) : Prop := ∀ b off, A = some ⟨b, off, none⟩ → w.heap.size ≤ b
theorem Nw.none_ (w : World) : Nw w none := fun _ _ h => by cases h
theorem Nw.of_own {w w0 w' : World} {e size n d m : Nat} {B : Option Addr} {xs : List Value} (h : Own w0 w' e size (.slice B n d) m xs) (hw : w.heap.size ≤ w0.heap.size) : Nw w B := fun b off hb => by
 have := h.base b (by rw [hb]; rfl); omega
/-- What is returned, in new blocks: an end, a heap, and whether it was refused. -/
def RetRunN (w : World) (o : Out) (n1 n2 n3 n4 : Nat) (g : List Heap.Cell) (gn : Nat) (f : Int) (e : Ending) (w' : World) : Prop :=
 ∃ A1 c1 A2 c2 A3 c3 A4 c4 G gc, e = .returned (.tuple #[.agg #[.int .i64 o.kind, .int .i64 o.why, .slice A1 n1 c1, .slice A2 n2 c2, .slice A3 n3 c3, .slice A4 n4 c4], .slice G gn gc, .int .i64 f]) ∧ OutAt w' o A1 A2 A3 A4 n1 n2 n3 n4 ∧ Rd w' 2 G gn (Heap.cs g) ∧ Below w.heap.size w w' ∧ (Nw w A1 ∧ Nw w A2 ∧ Nw w A3 ∧ Nw w A4 ∧ Nw w G)
theorem RetRunN.plain {w : World} {o : Out} {n1 n2 n3 n4 : Nat} {g : List Heap.Cell} {gn : Nat} {f : Int} {e : Ending} {w' : World} (h : RetRunN w o n1 n2 n3 n4 g gn f e w') : RetRun w o n1 n2 n3 n4 g gn f e w' := by
 obtain ⟨A1, c1, A2, c2, A3, c3, A4, c4, G, gc, h1, h2, h3, h4, _⟩ := h
 exact ⟨A1, c1, A2, c2, A3, c3, A4, c4, G, gc, h1, h2, h3, h4⟩
/-- The layer's function does what the chapter asks. -/
structure Said : Prop where
 runN : ∀ (l : List Raw) (h : List Heap.Cell) (C HA : Option Addr) (n c hn hc : Nat) (w : World) (o : Out) (g : List Heap.Cell) (ok : Bool) (n1 n2 n3 n4 gn : Nat) (f : Int), At w C n l → n ≤ c → c ≤ 9223372036854775807 → Lim l → n ≤ 1000000 → Rd w 2 HA hn (Heap.cs h) → hn ≤ 1000000 →
  runS (ss l) h = (o, g, ok) → o.regs.length = n1 → o.path.length = n2 → o.seen.length = n3 → o.writes.length = n4 → g.length = gn → errOf ok = f →
  Calls Tryz.prog 24 #[.slice C n c, .slice HA hn hc] w (RetRunN w o n1 n2 n3 n4 g gn f)
theorem Said.run (S : Said) (l : List Raw) (h : List Heap.Cell) (C HA : Option Addr) (n c hn hc : Nat) (w : World) (o : Out) (g : List Heap.Cell) (ok : Bool) (n1 n2 n3 n4 gn : Nat) (f : Int) (h1 : At w C n l) (h2 : n ≤ c) (h3 : c ≤ 9223372036854775807) (h4 : Lim l) (h5 : n ≤ 1000000) (h6 : Rd w 2 HA hn (Heap.cs h)) (h7 : hn ≤ 1000000)
  (h8 : runS (ss l) h = (o, g, ok)) (h9 : o.regs.length = n1) (k1 : o.path.length = n2) (k2 : o.seen.length = n3) (k3 : o.writes.length = n4) (k4 : g.length = gn) (k5 : errOf ok = f) :
  Calls Tryz.prog 24 #[.slice C n c, .slice HA hn hc] w (RetRun w o n1 n2 n3 n4 g gn f) :=
 (S.runN l h C HA n c hn hc w o g ok n1 n2 n3 n4 gn f h1 h2 h3 h4 h5 h6 h7 h8 h9 k1 k2 k3 k4 k5).mono (fun _ _ h => h.plain)
end Go.Proofs.YtclbeboiojgejaaGreat.Model

namespace Go.Proofs.YtclbeboiojgejaaGreat.Model
open Go.ChangeShapes Go.WideShapes Go.ChangeAt Go.RowKit Mem Go.Proofs.YtclbeboiojgejaaGreat.Code

end Go.Proofs.YtclbeboiojgejaaGreat.Model

namespace Go.Proofs.YtclbeboiojgejaaGreat.Model
open Go.ChangeShapes Go.WideShapes Go.ChangeAt Go.RowKit Mem Go.Proofs.YtclbeboiojgejaaGreat.Code

/-- An end that is stored. -/
theorem six_blk {w : World} {g : Nat} {t : TypeId} (h : Blk w g t #[.int .i64 0, .int .i64 0, .slice none 0 0, .slice none 0 0, .slice none 0 0, .slice none 0 0]) (a0 a1 a2 a3 a4 a5 : Value) : Blk ((((((w.setCell ⟨g, 0, none⟩ a0).setCell ⟨g, 1, none⟩ a1).setCell ⟨g, 2, none⟩ a2).setCell ⟨g, 3, none⟩ a3).setCell ⟨g, 4, none⟩ a4).setCell ⟨g, 5, none⟩ a5) g t #[a0, a1, a2, a3, a4, a5] := by
 have := (((((h.set_ 0 a0).set_ 1 a1).set_ 2 a2).set_ 3 a3).set_ 4 a4).set_ 5 a5
 simpa using this
theorem six_rd {w : World} {g k n : Nat} {B : Option Addr} {xs : List Value} (h : Rd w k B n xs) (hne : ∀ b off, B = some ⟨b, off, none⟩ → b ≠ g) (a0 a1 a2 a3 a4 a5 : Value) : Rd ((((((w.setCell ⟨g, 0, none⟩ a0).setCell ⟨g, 1, none⟩ a1).setCell ⟨g, 2, none⟩ a2).setCell ⟨g, 3, none⟩ a3).setCell ⟨g, 4, none⟩ a4).setCell ⟨g, 5, none⟩ a5) k B n xs :=
 (((((h.set_other hne 0 a0).set_other hne 1 a1).set_other hne 2 a2).set_other hne 3 a3).set_other hne 4 a4).set_other hne 5 a5
theorem six_bel {w0 w : World} {g : Nat} (h : Below w0.heap.size w0 w) (hg : w0.heap.size ≤ g) (a0 a1 a2 a3 a4 a5 : Value) : Below w0.heap.size w0 ((((((w.setCell ⟨g, 0, none⟩ a0).setCell ⟨g, 1, none⟩ a1).setCell ⟨g, 2, none⟩ a2).setCell ⟨g, 3, none⟩ a3).setCell ⟨g, 4, none⟩ a4).setCell ⟨g, 5, none⟩ a5) :=
 bl_set (bl_set (bl_set (bl_set (bl_set (bl_set h (p := ⟨g, 0, none⟩) hg a0) (p := ⟨g, 1, none⟩) hg a1) (p := ⟨g, 2, none⟩) hg a2) (p := ⟨g, 3, none⟩) hg a3) (p := ⟨g, 4, none⟩) hg a4) (p := ⟨g, 5, none⟩) hg a5
theorem out_none (w : World) (k y : Int) : OutAt w ⟨k, y, [], [], [], []⟩ none none none none 0 0 0 0 := ⟨Rd.none_, Rd.none_, Rd.none_, Rd.none_⟩
set_option maxRecDepth 100000 in
set_option maxHeartbeats 4000000 in
theorem run_no (l : List Raw) (h : List Heap.Cell) (C HA : Option Addr) (n c hn hc : Nat) (w : World) (hat : At w C n l) (hnc : n ≤ c) (hlim : Lim l) (hnm : n ≤ 1000000) (hh : Rd w 2 HA hn (Heap.cs h)) (hhm : hn ≤ 1000000) (hok : okR (ss l) h = false) :
  Calls Tryz.prog 24 #[.slice C n c, .slice HA hn hc] w (RetRunN w ⟨0, 0, [], [], [], []⟩ 0 0 0 0 h hn 1) := by
 have HAT := Lib.hid hat
 have HH := Lib.hid hh
 have HLM := Lib.hid hlim
 obtain ⟨v, hv⟩ : ∃ v, checkS (ss l) = v := ⟨_, rfl⟩
 obtain ⟨rb, hrb⟩ : ∃ b, Heap.rightB h = b := ⟨_, rfl⟩
 have HV := Lib.hid hv
 have HRB := Lib.hid hrb
 obtain ⟨w1, hw1⟩ : ∃ w1, w1 = w.alloc (.cells #[.int .i64 0, .int .i64 0, .slice none 0 0, .slice none 0 0, .slice none 0 0, .slice none 0 0] 58) := ⟨_, rfl⟩
 have BB : Hid (Below w.heap.size w w1) := Lib.hid (by rw [hw1]; exact bl_alloc (Below.refl _ _) _)
 have KK : Hid (Blk w1 w.heap.size 58 #[.int .i64 0, .int .i64 0, .slice none 0 0, .slice none 0 0, .slice none 0 0, .slice none 0 0]) := Lib.hid (by rw [hw1]; exact Blk.new _ _ _)
 clear hat hh hlim hv hrb
 by_cases h0 : v = 0
 · subst h0
  have hrf : rb = false := by
   have h1 := hok
   unfold okR at h1
   rw [HV.out, HRB.out] at h1
   simpa using h1
  subst hrf
  go_enter Tryz.func24, Tryz.ntmps24
  go_wp2_with fail
  rw [← hw1]
  clear hw1
  refine (Code.check_c l _ _ _ _ 0 (HAT.out.below BB.out) hnc HLM.out HV.out hnm).mono ?_
  rintro e w2a ⟨rfl, b2⟩
  have B2a := Lib.hid b2
  clear b2
  go_wp2_with fail
  refine (Heap.right_c h _ _ _ _ false (HH.out.below (bl_trans BB.out B2a.out)) hhm HRB.out).mono ?_
  rintro e w2 ⟨rfl, b2⟩
  have B2 := Lib.hid (bl_trans B2a.out b2)
  clear b2
  go_wp2_with fail
  refine (Heap.clone_any h _ _ _ _ (HH.out.below (bl_trans BB.out B2.out)) hhm).mono ?_
  rintro e w3 ⟨vv, rfl, ho⟩
  obtain ⟨B, d, rfl, hrd⟩ := ho.form
  have B3 := Lib.hid (bl_trans B2.out ho.2)
  have HRD := Lib.hid hrd
  have hne : ∀ b off, B = some ⟨b, off, none⟩ → b ≠ w.heap.size := fun b off e => by have h1 := ho.base b (by rw [e]; rfl); have h2 := (KK.out.below B2.out).lt; omega
  have HNE := Lib.hid hne
  have HNW : Hid (Nw w B) := Lib.hid (Nw.of_own ho (by have h1 := BB.out.size; have h2 := B2.out.size; omega))
  have k := KK.out.below B3.out
  have q0 := k.cell 0 _ rfl
  have q1 := k.cell 1 _ rfl
  have q2 := k.cell 2 _ rfl
  have q3 := k.cell 3 _ rfl
  have q4 := k.cell 4 _ rfl
  have q5 := k.cell 5 _ rfl
  have qz := k.frozen
  have HK6 := Lib.hid (six_blk k (.int .i64 0) (.int .i64 0) (.slice none 0 0) (.slice none 0 0) (.slice none 0 0) (.slice none 0 0))
  clear k ho hrd hne
  go_wp2
  clear q0 q1 q2 q3 q4 q5 qz
  have q0 := HK6.out.cell 0 _ rfl
  have q1 := HK6.out.cell 1 _ rfl
  have q2 := HK6.out.cell 2 _ rfl
  have q3 := HK6.out.cell 3 _ rfl
  have q4 := HK6.out.cell 4 _ rfl
  have q5 := HK6.out.cell 5 _ rfl
  (try simp only [Exit.inBlock, Exit.then])
  refine bodyPost_ret (v := .tuple #[.agg #[.int .i64 0, .int .i64 0, .slice none 0 0, .slice none 0 0, .slice none 0 0, .slice none 0 0], .slice B hn d, .int .i64 1]) (by simp [results, Tryz.results24, go_sem, q0, q1, q2, q3, q4, q5]) rfl ?_
  exact ⟨none, 0, none, 0, none, 0, none, 0, B, d, rfl, out_none _ _ _, six_rd HRD.out HNE.out _ _ _ _ _ _, six_bel (bl_trans BB.out B3.out) (Nat.le_refl _) _ _ _ _ _ _, Nw.none_ _, Nw.none_ _, Nw.none_ _, Nw.none_ _, HNW.out⟩
 · have q : (v != 0) = true := by simp [h0]
  go_enter Tryz.func24, Tryz.ntmps24
  go_wp2_with fail
  rw [← hw1]
  clear hw1
  refine (Code.check_c l _ _ _ _ v (HAT.out.below BB.out) hnc HLM.out HV.out hnm).mono ?_
  rintro e w2 ⟨rfl, b2⟩
  have B2 := Lib.hid b2
  clear b2
  go_wp2_with fail
  refine (Heap.clone_any h _ _ _ _ (HH.out.below (bl_trans BB.out B2.out)) hhm).mono ?_
  rintro e w3 ⟨vv, rfl, ho⟩
  obtain ⟨B, d, rfl, hrd⟩ := ho.form
  have B3 := Lib.hid (bl_trans B2.out ho.2)
  have HRD := Lib.hid hrd
  have hne : ∀ b off, B = some ⟨b, off, none⟩ → b ≠ w.heap.size := fun b off e => by have h1 := ho.base b (by rw [e]; rfl); have h2 := (KK.out.below B2.out).lt; omega
  have HNE := Lib.hid hne
  have HNW : Hid (Nw w B) := Lib.hid (Nw.of_own ho (by have h1 := BB.out.size; have h2 := B2.out.size; omega))
  have k := KK.out.below B3.out
  have q0 := k.cell 0 _ rfl
  have q1 := k.cell 1 _ rfl
  have q2 := k.cell 2 _ rfl
  have q3 := k.cell 3 _ rfl
  have q4 := k.cell 4 _ rfl
  have q5 := k.cell 5 _ rfl
  have qz := k.frozen
  have HK6 := Lib.hid (six_blk k (.int .i64 0) (.int .i64 0) (.slice none 0 0) (.slice none 0 0) (.slice none 0 0) (.slice none 0 0))
  clear k ho hrd hne
  go_wp2
  clear q0 q1 q2 q3 q4 q5 qz
  have q0 := HK6.out.cell 0 _ rfl
  have q1 := HK6.out.cell 1 _ rfl
  have q2 := HK6.out.cell 2 _ rfl
  have q3 := HK6.out.cell 3 _ rfl
  have q4 := HK6.out.cell 4 _ rfl
  have q5 := HK6.out.cell 5 _ rfl
  (try simp only [Exit.inBlock, Exit.then])
  refine bodyPost_ret (v := .tuple #[.agg #[.int .i64 0, .int .i64 0, .slice none 0 0, .slice none 0 0, .slice none 0 0, .slice none 0 0], .slice B hn d, .int .i64 1]) (by simp [results, Tryz.results24, go_sem, q0, q1, q2, q3, q4, q5]) rfl ?_
  exact ⟨none, 0, none, 0, none, 0, none, 0, B, d, rfl, out_none _ _ _, six_rd HRD.out HNE.out _ _ _ _ _ _, six_bel (bl_trans BB.out B3.out) (Nat.le_refl _) _ _ _ _ _ _, Nw.none_ _, Nw.none_ _, Nw.none_ _, Nw.none_ _, HNW.out⟩
end Go.Proofs.YtclbeboiojgejaaGreat.Model

namespace Go.Proofs.YtclbeboiojgejaaGreat.Heap
open Go.ChangeShapes Go.WideShapes Go.ChangeAt Go.RowKit Mem

end Go.Proofs.YtclbeboiojgejaaGreat.Heap

namespace Go.Proofs.YtclbeboiojgejaaGreat.Mem
open Go.ChangeShapes Go.WideShapes Go.ChangeAt Go.RowKit

theorem own_grown_ {w0 w w' : World} {e size n : Nat} {u : Value} {xs : List Value} {o : Option Nat} (h : Own w0 w e size u n xs) (hg : w.grownBy w' o) (hne : u.ownBlock = none ∨ u.ownBlock ≠ o) (hb : Below w0.heap.size w0 w') : Own w0 w' e size u n xs := ⟨h.1.kept hg hne, hb⟩
end Go.Proofs.YtclbeboiojgejaaGreat.Mem

namespace Go.Proofs.YtclbeboiojgejaaGreat.Mem
open Go.ChangeShapes Go.WideShapes Go.ChangeAt Go.RowKit

/-- Block b is a map of just these entries. -/
def MapAt (w : World) (b : Nat) (es : Array MapEntry) (clock : Nat) : Prop := w.heap[b]? = some (.map es clock)
section
variable {P : Program} {w : World} {t K E : TypeId} {b : Nat} {es : Array MapEntry} {clock : Nat}
theorem MapAt.new (w : World) : MapAt (w.alloc (.map #[] 0)) w.heap.size #[] 0 := (MapKept.heap_alloc w _).1
theorem MapAt.below {w' : World} (h : MapAt w b es clock) (hb : Below w.heap.size w w') : MapAt w' b es clock := (hb.block b (Array.getElem?_eq_some_iff.1 h).1).trans h
end
end Go.Proofs.YtclbeboiojgejaaGreat.Mem

namespace Go.Proofs.YtclbeboiojgejaaGreat.Model
open Go.ChangeShapes Go.WideShapes Go.ChangeAt Go.RowKit Mem Go.Proofs.YtclbeboiojgejaaGreat.Code

/-- Where a run's lists lie. -/
structure RL where
 P : Option Addr
 pn : Nat
 pc : Nat
 L : Option Addr
 ln : Nat
 lc : Nat
 M : Option Addr
 mc : Nat
 S : Option Addr
 sn : Nat
 sc : Nat
def RL.pv (x : RL) : Value := .slice x.P x.pn x.pc
def RL.lv (x : RL) : Value := .slice x.L x.ln x.lc
def RL.sv (x : RL) : Value := .slice x.S x.sn x.sc
def rcells (H : Value) (m : CS) (x : RL) : List Value := m.regs.map (Value.int .i64) ++ [x.pv, x.lv, .slice x.M 0 x.mc, H, x.sv, .int .i64 m.why]
section
variable {H : Value} {m : CS} {x : RL}
theorem rc_len8 (h : m.regs.length = 8) : (rcells H m x).length = 14 := by unfold rcells; simp [h]
theorem rc_reg (k : Nat) (z : Int) (hz : m.regs[k]? = some z) : (rcells H m x)[k]? = some (.int .i64 z) := by
 unfold rcells
 rw [List.getElem?_append_left (by rw [List.length_map]; exact (List.getElem?_eq_some_iff.1 hz).1), List.getElem?_map, hz]; rfl
theorem rc_tail (h : m.regs.length = 8) (k : Nat) : (rcells H m x)[8 + k]? = [x.pv, x.lv, .slice x.M 0 x.mc, H, x.sv, .int .i64 m.why][k]? := by
 unfold rcells
 rw [List.getElem?_append_right (by rw [List.length_map]; omega), List.length_map, h, show 8 + k - 8 = k by omega]
theorem rc_set_reg (k : Nat) (hk : k < m.regs.length) (z : Int) : (rcells H m x).set k (.int .i64 z) = rcells H { m with regs := m.regs.set k z } x := by
 unfold rcells
 rw [List.set_append_left _ _ (by rw [List.length_map]; exact hk)]
 show _ = List.map _ (m.regs.set k z) ++ _
 rw [List.map_set]
theorem rc_set_tail (h : m.regs.length = 8) (k : Nat) (u : Value) : (rcells H m x).set (8 + k) u = m.regs.map (Value.int .i64) ++ [x.pv, x.lv, .slice x.M 0 x.mc, H, x.sv, .int .i64 m.why].set k u := by
 unfold rcells
 rw [List.set_append_right _ _ (by rw [List.length_map]; omega), List.length_map, h, show 8 + k - 8 = k by omega]
end
/-- A run lies in block g. -/
structure RunAt (w0 w : World) (g : Nat) (H : Value) (m : CS) (x : RL) : Prop where
 base : w0.heap.size ≤ g
 r8 : m.regs.length = 8
 blk : Blk w g 132 (rcells H m x).toArray
 path : Own w0 w 3 1 x.pv x.pn (zs m.path)
 log : Own w0 w 119 2 x.lv x.ln (Heap.ws m.log)
 seen : Own w0 w 3 1 x.sv x.sn (zs m.seen)
 gp : x.pv.ownBlock ≠ some g
 gl : x.lv.ownBlock ≠ some g
 gs : x.sv.ownBlock ≠ some g
 ps : Apart x.pv x.sv
 pl : Apart x.pv x.lv
 ls : Apart x.lv x.sv
 pz : x.pn = 0 → x.pv.ownBlock = none
/-- What K tells of is not what such a run writes. -/
def KOK (K : Nat → Nat → Prop) (w : World) (g : Nat) (x : RL) : Prop := ∀ b i, K b i → b < w.heap.size ∧ b ≠ g ∧ x.sv.ownBlock ≠ some b ∧ (x.pv.ownBlock = some b → i < x.pn)
section
variable {w0 w w' : World} {g : Nat} {H : Value} {m : CS} {x : RL} {K : Nat → Nat → Prop}
theorem RunAt.bel (h : RunAt w0 w g H m x) : Below w0.heap.size w0 w := h.path.2
theorem RunAt.below (h : RunAt w0 w g H m x) (hb : Below w.heap.size w w') : RunAt w0 w' g H m x :=
 ⟨h.base, h.r8, h.blk.below hb, h.path.below hb, h.log.below hb, h.seen.below hb, h.gp, h.gl, h.gs, h.ps, h.pl, h.ls, h.pz⟩
theorem KOK.size (h : KOK K w g x) (hs : w.heap.size ≤ w'.heap.size) : KOK K w' g x := fun b i hk => by
 obtain ⟨h1, h2, h3, h4⟩ := h b i hk
 exact ⟨by omega, h2, h3, h4⟩
theorem KOK.fr (h : KOK K w g x) (hb : Below w.heap.size w w') : Fr K w w' := Fr.of_below hb (fun b i hk => (h b i hk).1)
theorem KOK.set (h : KOK K w g x) (i : Nat) (u : Value) : Fr K w (w.setCell ⟨g, i, none⟩ u) := Fr.of_set g i u (fun i hk => (h g i hk).2.1 rfl)
theorem set_size (w : World) (g i : Nat) (u : Value) : (w.setCell ⟨g, i, none⟩ u).heap.size = w.heap.size := by simp [World.setCell]
theorem RunAt.reg (h : RunAt w0 w g H m x) (k : Nat) (z : Int) (hz : m.regs[k]? = some z) : w.cell? ⟨g, k, none⟩ = some (.int .i64 z) := h.blk.cell k _ (by rw [List.getElem?_toArray]; exact rc_reg k z hz)
theorem RunAt.at8 (h : RunAt w0 w g H m x) : w.cell? ⟨g, 8, none⟩ = some x.pv ∧ w.cell? ⟨g, 9, none⟩ = some x.lv ∧ w.cell? ⟨g, 10, none⟩ = some (.slice x.M 0 x.mc) ∧ w.cell? ⟨g, 11, none⟩ = some H ∧ w.cell? ⟨g, 12, none⟩ = some x.sv ∧ w.cell? ⟨g, 13, none⟩ = some (.int .i64 m.why) :=
  ⟨h.blk.cell 8 _ (by rw [List.getElem?_toArray]; exact rc_tail h.r8 0), h.blk.cell 9 _ (by rw [List.getElem?_toArray]; exact rc_tail h.r8 1), h.blk.cell 10 _ (by rw [List.getElem?_toArray]; exact rc_tail h.r8 2),
   h.blk.cell 11 _ (by rw [List.getElem?_toArray]; exact rc_tail h.r8 3), h.blk.cell 12 _ (by rw [List.getElem?_toArray]; exact rc_tail h.r8 4), h.blk.cell 13 _ (by rw [List.getElem?_toArray]; exact rc_tail h.r8 5)⟩
/-- One cell of the run's own block is written. -/
theorem RunAt.put (h : RunAt w0 w g H m x) (i : Nat) (u : Value) (m' : CS) (e : (rcells H m x).set i u = rcells H m' x) (h8 : m'.regs.length = 8) (e1 : m'.path = m.path) (e2 : m'.log = m.log) (e3 : m'.seen = m.seen) :
  RunAt w0 (w.setCell ⟨g, i, none⟩ u) g H m' x := by
 refine ⟨h.base, h8, ?_, ?_, ?_, ?_, h.gp, h.gl, h.gs, h.ps, h.pl, h.ls, h.pz⟩
 · have := h.blk.set_ i u
  rw [List.setIfInBounds_toArray, e] at this
  exact this
 · rw [e1]; exact h.path.set_ne h.base h.gp i u
 · rw [e2]; exact h.log.set_ne h.base h.gl i u
 · rw [e3]; exact h.seen.set_ne h.base h.gs i u
theorem RunAt.put_reg (h : RunAt w0 w g H m x) (k : Nat) (hk : k < 8) (z : Int) : RunAt w0 (w.setCell ⟨g, k, none⟩ (.int .i64 z)) g H { m with regs := m.regs.set k z } x :=
 h.put k _ _ (rc_set_reg k (by rw [h.r8]; exact hk) z) (by show (m.regs.set k z).length = 8; rw [List.length_set, h.r8]) rfl rfl rfl
theorem RunAt.put_why (h : RunAt w0 w g H m x) (z : Int) : RunAt w0 (w.setCell ⟨g, 13, none⟩ (.int .i64 z)) g H { m with why := z } x :=
 h.put 13 _ _ (rc_set_tail h.r8 5 _) h.r8 rfl rfl rfl
/-- What was seen has grown. -/
theorem RunAt.see {w1 w2 : World} {S' : Option Addr} {sc' : Nat} (h : RunAt w0 w1 g H m x) (hk : KOK K w1 g x) (z : Int) (ho : Own w0 w2 3 1 (.slice S' (x.sn + 1) sc') (x.sn + 1) (zs m.seen ++ [.int .i64 z])) (hm : Moved w1 w2 x.sv (.slice S' (x.sn + 1) sc') x.sn (x.sn + 1)) :
  RunAt w0 (w2.setCell ⟨g, 12, none⟩ (.slice S' (x.sn + 1) sc')) g H { m with seen := m.seen ++ [z] } { x with S := S', sn := x.sn + 1, sc := sc' } ∧ KOK K (w2.setCell ⟨g, 12, none⟩ (.slice S' (x.sn + 1) sc')) g { x with S := S', sn := x.sn + 1, sc := sc' } ∧ Fr K w1 (w2.setCell ⟨g, 12, none⟩ (.slice S' (x.sn + 1) sc')) := by
 have hgw := h.blk.lt
 have hnew : (Value.slice S' (x.sn + 1) sc').ownBlock ≠ some g := hm.ne hgw h.gs
 have hb2 := ho.2
 have hfr : Fr K w1 w2 := hm.fr h.seen ho (fun b i hkb => by
  obtain ⟨h1, h2, h3, h4⟩ := hk b i hkb
  exact ⟨h1, fun e => absurd e h3⟩)
 have hkg : ∀ i, ¬ K g i := fun i hkb => (hk g i hkb).2.1 rfl
 have ap : ∀ v : Value, ∀ n e size ys, Own w0 w1 e size v n ys → Apart v x.sv → Apart v (.slice S' (x.sn + 1) sc') := by
  intro v n e size ys hv hap
  cases hvb : v.ownBlock with
  | none => exact .inl hvb
  | some q =>
   refine .inr (.inr ?_)
   rw [hvb]
   intro e2
   refine hm.ne (hv.lt q hvb) (fun e3 => ?_) e2.symm
   rcases hap with hap | hap | hap
   · rw [hap] at hvb; cases hvb
   · rw [hap] at e3; cases e3
   · exact hap (hvb.trans e3.symm)
 refine ⟨⟨h.base, h.r8, ?_, ?_, ?_, ?_, h.gp, h.gl, hnew, ap _ _ _ _ _ h.path h.ps, h.pl, ap _ _ _ _ _ h.log h.ls, h.pz⟩, ?_, hfr.trans (Fr.of_set g 12 _ hkg)⟩
 · have := (hm.blk h.blk h.gs).set_ 12 (.slice S' (x.sn + 1) sc')
  rw [List.setIfInBounds_toArray, rc_set_tail h.r8 4] at this
  exact this
 · exact (hm.own h.path h.ps hb2).set_ne h.base h.gp _ _
 · exact (hm.own h.log h.ls hb2).set_ne h.base h.gl _ _
 · have : zs (m.seen ++ [z]) = zs m.seen ++ [.int .i64 z] := by unfold zs; rw [List.flatMap_append]; rfl
  show Own _ _ _ _ _ _ (zs (m.seen ++ [z]))
  rw [this]
  exact ho.set_ne h.base hnew _ _
 · intro b i hkb
  obtain ⟨h1, h2, h3, h4⟩ := hk b i hkb
  exact ⟨by rw [set_size]; have := hfr.size; omega, h2, hm.ne h1 h3, h4⟩
/-- The path has grown. -/
theorem RunAt.go {w1 w2 : World} {S' : Option Addr} {sc' : Nat} (h : RunAt w0 w1 g H m x) (hk : KOK K w1 g x) (z : Int) (ho : Own w0 w2 3 1 (.slice S' (x.pn + 1) sc') (x.pn + 1) (zs m.path ++ [.int .i64 z])) (hm : Moved w1 w2 x.pv (.slice S' (x.pn + 1) sc') x.pn (x.pn + 1)) :
  RunAt w0 (w2.setCell ⟨g, 8, none⟩ (.slice S' (x.pn + 1) sc')) g H { m with path := m.path ++ [z] } { x with P := S', pn := x.pn + 1, pc := sc' } ∧ KOK K (w2.setCell ⟨g, 8, none⟩ (.slice S' (x.pn + 1) sc')) g { x with P := S', pn := x.pn + 1, pc := sc' } ∧ Fr K w1 (w2.setCell ⟨g, 8, none⟩ (.slice S' (x.pn + 1) sc')) := by
 have hgw := h.blk.lt
 have hnew : (Value.slice S' (x.pn + 1) sc').ownBlock ≠ some g := hm.ne hgw h.gp
 have hb2 := ho.2
 have hfr : Fr K w1 w2 := hm.fr h.path ho (fun b i hkb => by
  obtain ⟨h1, h2, h3, h4⟩ := hk b i hkb
  exact ⟨h1, fun e => by have := h4 e; omega⟩)
 have hkg : ∀ i, ¬ K g i := fun i hkb => (hk g i hkb).2.1 rfl
 have ap : ∀ v : Value, ∀ n e size ys, Own w0 w1 e size v n ys → Apart x.pv v → Apart (.slice S' (x.pn + 1) sc') v := by
  intro v n e size ys hv hap
  cases hvb : v.ownBlock with
  | none => exact .inr (.inl hvb)
  | some q =>
   refine .inr (.inr ?_)
   rw [hvb]
   intro e2
   refine hm.ne (hv.lt q hvb) (fun e3 => ?_) e2
   rcases hap with hap | hap | hap
   · rw [hap] at e3; cases e3
   · rw [hap] at hvb; cases hvb
   · exact hap (e3.trans hvb.symm)
 refine ⟨⟨h.base, h.r8, ?_, ?_, ?_, ?_, hnew, h.gl, h.gs, ap _ _ _ _ _ h.seen h.ps, ap _ _ _ _ _ h.log h.pl, h.ls, fun e => absurd e (by show x.pn + 1 ≠ 0; omega)⟩, ?_, hfr.trans (Fr.of_set g 8 _ hkg)⟩
 · have := (hm.blk h.blk h.gp).set_ 8 (.slice S' (x.pn + 1) sc')
  rw [List.setIfInBounds_toArray, rc_set_tail h.r8 0] at this
  exact this
 · have : zs (m.path ++ [z]) = zs m.path ++ [.int .i64 z] := by unfold zs; rw [List.flatMap_append]; rfl
  show Own _ _ _ _ _ _ (zs (m.path ++ [z]))
  rw [this]
  exact ho.set_ne h.base hnew _ _
 · exact (hm.own h.log h.pl.symm hb2).set_ne h.base h.gl _ _
 · exact (hm.own h.seen h.ps.symm hb2).set_ne h.base h.gs _ _
 · intro b i hkb
  obtain ⟨h1, h2, h3, h4⟩ := hk b i hkb
  refine ⟨by rw [set_size]; have := hfr.size; omega, h2, h3, fun e => ?_⟩
  by_cases e2 : x.pv.ownBlock = some b
  · have := h4 e2
   show i < x.pn + 1
   omega
  · exact absurd e (hm.ne h1 e2)
/-- A new log. -/
theorem RunAt.note {w1 w2 : World} {L' M' : Option Addr} {ln' lc' mc' : Nat} {l' : List Heap.Write} (h : RunAt w0 w1 g H m x) (hk : KOK K w1 g x) (ho : Own w1 w2 119 2 (.slice L' ln' lc') ln' (Heap.ws l')) :
  RunAt w0 ((w2.setCell ⟨g, 9, none⟩ (.slice L' ln' lc')).setCell ⟨g, 10, none⟩ (.slice M' 0 mc')) g H { m with log := l' } { x with L := L', ln := ln', lc := lc', M := M', mc := mc' } ∧
   KOK K ((w2.setCell ⟨g, 9, none⟩ (.slice L' ln' lc')).setCell ⟨g, 10, none⟩ (.slice M' 0 mc')) g { x with L := L', ln := ln', lc := lc', M := M', mc := mc' } ∧ Fr K w1 ((w2.setCell ⟨g, 9, none⟩ (.slice L' ln' lc')).setCell ⟨g, 10, none⟩ (.slice M' 0 mc')) := by
 have hb := ho.2
 have h2 := h.below hb
 have hkg : ∀ i, ¬ K g i := fun i hkb => (hk g i hkb).2.1 rfl
 have hnew : (Value.slice L' ln' lc').ownBlock ≠ some g := ho.ne_old h.blk.lt
 have ap : ∀ v : Value, ∀ n e size ys, Own w0 w1 e size v n ys → Apart v (.slice L' ln' lc') := by
  intro v n e size ys hv
  cases hvb : v.ownBlock with
  | none => exact .inl hvb
  | some q =>
   refine .inr (.inr ?_)
   rw [hvb]
   exact fun e2 => ho.ne_old (hv.lt q hvb) e2.symm
 refine ⟨⟨h.base, h.r8, ?_, ?_, ?_, ?_, h.gp, hnew, h.gs, h.ps, ap _ _ _ _ _ h.path, (ap _ _ _ _ _ h.seen).symm, h.pz⟩, ?_, (Fr.of_below hb (fun b i hkb => (hk b i hkb).1)).trans ((Fr.of_set g 9 _ hkg).trans (Fr.of_set g 10 _ hkg))⟩
 · have := (h2.blk.set_ 9 (.slice L' ln' lc')).set_ 10 (.slice M' 0 mc')
  rw [List.setIfInBounds_toArray, List.setIfInBounds_toArray, rc_set_tail h.r8 1, show (10 : Nat) = 8 + 2 by rfl, List.set_append_right _ _ (by rw [List.length_map, h.r8]; omega), List.length_map, h.r8] at this
  exact this
 · exact (h2.path.set_ne h.base h.gp _ _).set_ne h.base h.gp _ _
 · exact ((ho.wide h.bel).set_ne h.base hnew _ _).set_ne h.base hnew _ _
 · exact (h2.seen.set_ne h.base h.gs _ _).set_ne h.base h.gs _ _
 · intro b i hkb
  obtain ⟨h1, h2, h3, h4⟩ := hk b i hkb
  exact ⟨by rw [set_size, set_size]; have := hb.size; omega, h2, h3, h4⟩
/-- All that such a run does not write. -/
def KMax (w : World) (g : Nat) (x : RL) : Nat → Nat → Prop := fun b i => b < w.heap.size ∧ b ≠ g ∧ x.sv.ownBlock ≠ some b ∧ (x.pv.ownBlock = some b → i < x.pn)
theorem kmax_ok (w : World) (g : Nat) (x : RL) : KOK (KMax w g x) w g x := fun _ _ h => h
theorem KOK.sub {K2 : Nat → Nat → Prop} (h : KOK K2 w g x) (hs : ∀ b i, K b i → K2 b i) : KOK K w g x := fun b i hk => h b i (hs b i hk)
end
theorem setc_ind {g : Nat} (Q : World → Prop) (h : ∀ w i u, Q w → Q (w.setCell ⟨g, i, none⟩ u)) : ∀ (vs : List Value) (o : Nat) (w : World), Q w → Q (w.setCells g o vs) := by
 intro vs
 induction vs with
 | nil => intro o w hw; exact hw
 | cons v vs ih => intro o w hw; rw [World.setCells]; exact ih _ _ (h _ _ _ hw)
theorem setc_blk {g : Nat} {t : TypeId} (post : List Value) : ∀ (vs mid pre : List Value) (o : Nat) (w : World), Blk w g t (pre ++ (mid ++ post)).toArray → pre.length = o → mid.length = vs.length → Blk (w.setCells g o vs) g t (pre ++ (vs ++ post)).toArray := by
 intro vs
 induction vs with
 | nil =>
  intro mid pre o w hb _ hm
  obtain rfl : mid = [] := List.eq_nil_of_length_eq_zero hm
  exact hb
 | cons v vs ih =>
  intro mid pre o w hb hp hm
  cases mid with
  | nil => simp at hm
  | cons y mid =>
   rw [World.setCells]
   have h1 := hb.set_ o v
   rw [List.setIfInBounds_toArray, List.set_append_right _ _ (by omega), show o - pre.length = 0 by omega] at h1
   have h2 := ih mid (pre ++ [v]) (o + 1) (w.setCell ⟨g, o, none⟩ v) (by simpa using h1) (by simp; omega) (by simpa using hm)
   simpa using h2
theorem setc_size (g : Nat) (vs : List Value) (o : Nat) (w : World) : (w.setCells g o vs).heap.size = w.heap.size :=
 setc_ind (g := g) (fun w' => w'.heap.size = w.heap.size) (fun w' i u h => by rw [set_size]; exact h) vs o w rfl
/-- The cells of a state. -/
def scells (m : CS) (x : RL) : List Value := m.regs.map (Value.int .i64) ++ [x.pv, x.lv, .slice x.M 0 x.mc]
theorem rc_state (H : Value) (m : CS) (x : RL) : rcells H m x = scells m x ++ [H, x.sv, .int .i64 m.why] := by unfold rcells scells; simp
theorem scells_len {m : CS} {x : RL} (h : m.regs.length = 8) : (scells m x).length = 11 := by unfold scells; simp [h]
theorem scells_one (m : CS) (x : RL) : ∀ u ∈ scells m x, u.oneCell' = true := by
 intro u hu
 unfold scells at hu
 rcases List.mem_append.1 hu with hu | hu
 · obtain ⟨z, _, rfl⟩ := List.mem_map.1 hu; rfl
 · simp only [List.mem_cons, List.not_mem_nil, or_false] at hu
  rcases hu with rfl | rfl | rfl <;> rfl
section
variable {w0 w w1 : World} {g : Nat} {H : Value} {m m1 : CS} {x x1 : RL} {K : Nat → Nat → Prop}
theorem RunAt.range (h : RunAt w0 w g H m x) : w.rangeAt g 0 (scells m x) := fun j v hv => by
 rw [Nat.zero_add]
 refine h.blk.cell j v ?_
 rw [List.getElem?_toArray, rc_state, List.getElem?_append_left (List.getElem?_eq_some_iff.1 hv).1]; exact hv
theorem RunAt.has (h : RunAt w0 w g H m x) : w.there g 0 11 := fun j hj => by
 have hl := rc_len8 (H := H) (x := x) h.r8
 rw [Nat.zero_add]
 refine ⟨?_, h.blk.frozen j⟩
 rw [h.blk.cell j ((rcells H m x)[j]'(by omega)) (by rw [List.getElem?_toArray]; exact List.getElem?_eq_getElem (by omega))]; rfl
/-- The state is as it was: registers, path and log; what was seen is not undone. -/
theorem RunAt.back (h : RunAt w0 w g H m x) (h1 : RunAt w0 w1 g H m1 x1) (hf : Fr (KMax w g x) w w1) (hk : KOK (KMax w g x) w1 g x1) :
  RunAt w0 (w1.setCells g 0 (scells m x)) g H { regs := m.regs, path := m.path, log := m.log, seen := m1.seen, why := m1.why } { x with S := x1.S, sn := x1.sn, sc := x1.sc } ∧
   KOK (KMax w g x) (w1.setCells g 0 (scells m x)) g { x with S := x1.S, sn := x1.sn, sc := x1.sc } ∧ Fr (KMax w g x) w1 (w1.setCells g 0 (scells m x)) := by
 have hp : Own w0 w1 3 1 x.pv x.pn (zs m.path) := h.path.fr_any hf (fun q hq i hi => ⟨h.path.lt q hq, fun e => h.gp (by rw [hq, e]), fun e => by
  rcases h.ps with h2 | h2 | h2
  · rw [h2] at hq; cases hq
  · rw [h2] at e; cases e
  · exact h2 (hq.trans e.symm), fun _ => by omega⟩) h1.bel
 have hlk : ∀ q, x.lv.ownBlock = some q → ∀ i, KMax w g x q i := fun q hq i => ⟨h.log.lt q hq, fun e => h.gl (by rw [hq, e]), fun e => by
  rcases h.ls with h2 | h2 | h2
  · rw [h2] at hq; cases hq
  · rw [h2] at e; cases e
  · exact h2 (hq.trans e.symm), fun e => by
  rcases h.pl with h2 | h2 | h2
  · rw [h2] at e; cases e
  · rw [h2] at hq; cases hq
  · exact absurd (e.trans hq.symm) h2⟩
 have hl : Own w0 w1 119 2 x.lv x.ln (Heap.ws m.log) := h.log.fr_any hf (fun q hq i _ => hlk q hq i) h1.bel
 have apl : Apart x.lv x1.sv := by
  cases hq : x.lv.ownBlock with
  | none => exact .inl hq
  | some q =>
   refine .inr (.inr ?_)
   rw [hq]
   exact fun e => (hk q 0 (hlk q hq 0)).2.2.1 e.symm
 have app : Apart x.pv x1.sv := by
  cases hq : x.pv.ownBlock with
  | none => exact .inl hq
  | some q =>
   refine .inr (.inr ?_)
   rw [hq]
   have hn : 0 < x.pn := by
    rcases Nat.eq_zero_or_pos x.pn with h0 | h0
    · rw [h.pz h0] at hq; cases hq
    · exact h0
   exact fun e => (hk q 0 ⟨h.path.lt q hq, fun e => h.gp (by rw [hq, e]), fun e => by
    rcases h.ps with h2 | h2 | h2
    · rw [h2] at hq; cases hq
    · rw [h2] at e; cases e
    · exact h2 (hq.trans e.symm), fun _ => hn⟩).2.2.1 e.symm
 have hkg : ∀ i, ¬ KMax w g x g i := fun i hkb => hkb.2.1 rfl
 have hfr : Fr (KMax w g x) w1 (w1.setCells g 0 (scells m x)) := setc_ind (g := g) (fun w' => Fr (KMax w g x) w1 w') (fun w' i u hh => hh.trans (Fr.of_set g i u hkg)) _ 0 w1 (Fr.refl _ _)
 refine ⟨⟨h.base, h.r8, ?_, ?_, ?_, ?_, h.gp, h.gl, h1.gs, app, h.pl, apl, h.pz⟩, ?_, hfr⟩
 · have hb := h1.blk
  rw [rc_state] at hb
  have := setc_blk [H, x1.sv, .int .i64 m1.why] (scells m x) (scells m1 x1) [] 0 w1 hb rfl (by rw [scells_len h.r8, scells_len h1.r8])
  rw [rc_state]
  exact this
 · exact setc_ind (g := g) (fun w' => Own w0 w' _ 1 x.pv x.pn (zs m.path)) (fun w' i u hh => hh.set_ne h.base h.gp i u) _ 0 w1 hp
 · exact setc_ind (g := g) (fun w' => Own w0 w' _ 2 x.lv x.ln (Heap.ws m.log)) (fun w' i u hh => hh.set_ne h.base h.gl i u) _ 0 w1 hl
 · exact setc_ind (g := g) (fun w' => Own w0 w' _ 1 x1.sv x1.sn (zs m1.seen)) (fun w' i u hh => hh.set_ne h.base h1.gs i u) _ 0 w1 h1.seen
 · intro b i hkb
  have h2 := hk b i hkb
  exact ⟨by rw [setc_size]; exact h2.1, h2.2.1, h2.2.2.1, hkb.2.2.2⟩
theorem Fr.blk {b : Nat} {t : TypeId} {cs : Array Value} (hf : Fr K w w1) (hb : Blk w b t cs) (hk : ∀ i, K b i) : Blk w1 b t cs := by
 obtain ⟨cur, h1, h2⟩ := hf.shape b cs t (0, 0) hb
 have : cur = cs := by
  refine Array.ext_getElem? fun i => ?_
  have hc := hf.cells b i (hk i)
  unfold World.cell? at hc
  unfold Blk at hb
  simp only [h1, hb] at hc
  simpa using hc
 rw [← this]; exact h1
end
end Go.Proofs.YtclbeboiojgejaaGreat.Model

namespace Go.Proofs.YtclbeboiojgejaaGreat.Model
open Go.ChangeShapes Go.WideShapes Go.ChangeAt Go.RowKit Mem Go.Proofs.YtclbeboiojgejaaGreat.Code

/-- The method at each Do. -/
def doing (d : Int) : FuncId :=
 if d = 1 then 133 else if d = 2 then 134 else if d = 3 then 135 else if d = 4 then 136
 else if d = 5 then 137 else if d = 6 then 138 else 139
def Look (es : Array MapEntry) : Prop := ∀ d : Int, 1 ≤ d → d ≤ 7 → ∃ i, Instr.findNow (.int .i64) (.int .i64 d) es.toList 0 = some (some (i, .func (.func (doing d)) #[] #[]))
/-- What is returned: the table. -/
def RetT (w : World) (e : Ending) (w' : World) : Prop := ∃ b es c, e = .returned (.map (some b)) ∧ MapAt w' b es c ∧ Look es ∧ Below w.heap.size w w'
/-- The registers, as a slice. -/
theorem RunAt.rdregs {w0 w : World} {g : Nat} {H : Value} {m : CS} {x : RL} (h : RunAt w0 w g H m x) : Rd w 1 (some ⟨g, 0, none⟩) 8 (zs m.regs) := by
 refine ⟨by rw [zs_map, List.length_map, h.r8], fun _ => ⟨g, 0, rfl, fun j u hu => ?_⟩⟩
 rw [zs_map, List.getElem?_map] at hu
 cases hz : m.regs[j]? with
 | none => rw [hz] at hu; cases hu
 | some z =>
  rw [hz] at hu
  injection hu with hu
  rw [← hu, Nat.zero_add]
  exact h.reg j z hz
set_option maxRecDepth 100000 in
theorem told_c (t : List Term.Op) (T : Option Addr) (tn tc : Nat) (d a b : Int) (h : List Heap.Cell) (HA : Option Addr) (hn hc g : Nat) (w0 w : World) (m : CS) (x : RL) (v : Int × Int) (hr : RunAt w0 w g (.slice HA hn hc) m x) (hh : Rd w 2 HA hn (Heap.cs h)) (ht : Rd w 2 T tn (Term.ops t))
  (htn : tn ≤ 1000000) (hhn : hn ≤ 1000000) (hv : Term.evalS t h m.regs = v) :
  Calls Tryz.prog 164 #[.pointer (some ⟨g, 0, none⟩), .agg #[.int .i64 d, .int .i64 a, .int .i64 b, .slice T tn tc]] w fun e w' => e = .returned (.int .i64 v.1) ∧ Below w.heap.size w w' := by
 obtain ⟨w1, hw1⟩ : ∃ w1, w1 = w.alloc (.cells #[.int .i64 d, .int .i64 a, .int .i64 b, .slice T tn tc] 82) := ⟨_, rfl⟩
 have HB : Hid (Below w.heap.size w w1) := Lib.hid (by rw [hw1]; exact bl_alloc (Below.refl _ _) _)
 have HK : Hid (Blk w1 w.heap.size 82 #[.int .i64 d, .int .i64 a, .int .i64 b, .slice T tn tc]) := Lib.hid (by rw [hw1]; exact Blk.new _ _ _)
 have HR := Lib.hid (hr.below HB.out)
 have HC : Hid (∀ W, Below w1.heap.size w1 W → Calls Tryz.prog 158 #[.slice T tn tc, .slice HA hn hc, .slice (some ⟨g, 0, none⟩) 8 8] W fun e w' => e = .returned (.tuple #[.int .i64 v.1, .int .i64 v.2]) ∧ Below w1.heap.size w1 w') :=
  Lib.hid (fun W hW => (Term.eval_c t h m.regs T HA (some ⟨g, 0, none⟩) tn tc hn hc 8 8 W v ((ht.below HB.out).below hW) ((hh.below HB.out).below hW) ((HR.out.below hW).rdregs) htn hhn hv).mono (fun e w' hp => ⟨hp.1, bl_trans hW hp.2⟩))
 have q3 := HK.out.cell 3 _ rfl
 have q11 := HR.out.at8.2.2.2.1
 have BD : Hid (Below w1.heap.size w1 w1.drew) := Lib.hid (Below.refl _ _).drew
 clear hr hh ht hv
 go_enter Tryz.func164, Tryz.ntmps164
 go_wp2_with fail
 rw [← hw1]
 clear hw1
 have i0 : w1.drew.cell? ⟨w.heap.size, 3, none⟩ = some (.slice T tn tc) := q3
 have i1 : w1.drew.cell? ⟨g, 11, none⟩ = some (.slice HA hn hc) := q11
 go_region_held3 (fun w' => w'.cell? ⟨w.heap.size, 3, none⟩ = some (.slice T tn tc) ∧ w'.cell? ⟨g, 11, none⟩ = some (.slice HA hn hc)) (first | exact ⟨a0, a1⟩ | exact ⟨i0, i1⟩ | go_keep)
  ((go_at_call 158
   refine (HC.out _ BD.out).mono ?_
   rintro e w5 ⟨rfl, o5⟩
   have BA := Lib.hid o5
   have a0 := (HK.out.below BA.out).cell 3 _ rfl
   have a1 := (HR.out.below BA.out).at8.2.2.2.1
   clear o5))
 go_wp2
 go_ret
 exact ⟨rfl, bl_trans HB.out BA.out⟩
end Go.Proofs.YtclbeboiojgejaaGreat.Model

namespace Go.Proofs.YtclbeboiojgejaaGreat.Model
open Go.ChangeShapes Go.WideShapes Go.ChangeAt Go.RowKit Mem Go.Proofs.YtclbeboiojgejaaGreat.Code

/-- A run that has gone on. -/
def Kept (K : Nat → Nat → Prop) (w0 w w' : World) (g : Nat) (H : Value) (m' : CS) : Prop := ∃ x', RunAt w0 w' g H m' x' ∧ KOK K w' g x' ∧ Fr K w w'
/-- A step that is run, and the rest of its part. -/
structure Pre (K : Nat → Nat → Prop) (w0 w : World) (g : Nat) (HA : Option Addr) (hn hc : Nat) (h : List Heap.Cell) (m : CS) (x : RL) (r : Raw) (rest : List Raw) (B : Option Addr) (rn rc e : Nat) : Prop where
 run : RunAt w0 w g (.slice HA hn hc) m x
 ok : KOK K w g x
 heap : Rd w0 2 HA hn (Heap.cs h)
 hn : hn ≤ 64
 term : Rd w0 2 r.T r.n (Term.ops r.s.t)
 one : oneB r.s = true
 more : At w0 B rn rest
 cap : rn ≤ rc
 rn : rn ≤ 24
 rcc : rc ≤ 9223372036854775807
 all : (ss rest).all oneB = true
 well : (wellP (r.s :: ss rest)).2 = true
 good : Good h m (rest.length + e + 1)
 why : m.why = 0
/-- What a step of a part answers: what of the part is left, and how it has ended. -/
def DoPost (K : Nat → Nat → Prop) (w0 w : World) (g : Nat) (H : Value) (h : List Heap.Cell) (m : CS) (r : Raw) (rest : List Raw) (e : Nat) (en : Ending) (w' : World) : Prop :=
  ∃ (k : Int) (left : List Raw) (LB : Option Addr) (ln lc : Nat) (m' : CS), en = .returned (.tuple #[.slice LB ln lc, .int .i64 k]) ∧ Kept K w0 w w' g H m' ∧
    ((k = 1 ∧ At w0 LB ln left ∧ ln ≤ lc ∧ lc ≤ 9223372036854775807 ∧ (ss left).all oneB = true ∧ (wellP (ss left)).2 = true ∧ left.length ≤ rest.length ∧ Good h m' (left.length + e) ∧ m'.why = 0 ∧ part (r.s :: ss rest) (abs h m 0) = part (ss left) (abs h m' 0)) ∨
     (k ≠ 1 ∧ Good h m' e ∧ part (r.s :: ss rest) (abs h m 0) = abs h m' k))
theorem check_len (t : List Term.Op) (h : reckonsB t = true) : t.length ≤ 12 := by
 have h2 := (reck_kind t h).1
 obtain ⟨_, h3, _⟩ := Term.check_ok t h2
 omega
section
variable {K : Nat → Nat → Prop} {w0 w : World} {g : Nat} {HA : Option Addr} {hn hc : Nat} {h : List Heap.Cell} {m : CS} {x : RL} {rest : List Raw} {B : Option Addr} {rn rc e : Nat}
theorem Pre.tn {r : Raw} (p : Pre K w0 w g HA hn hc h m x r rest B rn rc e) (hd : r.s.d = 2 ∨ r.s.d = 3 ∨ r.s.d = 4) : r.n ≤ 1000000 := by
 have h1 := check_len _ (one_reck r.s p.one hd)
 have := Term.ops_len p.term
 omega
theorem one_set (s : Step) (h : oneB s = true) (hd : s.d = 2) : 0 ≤ s.a ∧ s.a ≤ 7 := by
 unfold oneB at h
 rw [if_neg (by omega), if_pos hd] at h
 simp at h; omega
theorem Pre.tail {r : Raw} (p : Pre K w0 w g HA hn hc h m x r rest B rn rc e) : (wellP (ss rest)).2 = true :=
 well_tail r.s (ss rest) (by rw [List.all_cons, p.one, p.all]; rfl) p.well
set_option maxRecDepth 100000 in
theorem bad_c (c : Int) (hr : RunAt w0 w g (.slice HA hn hc) m x) (hk : KOK K w g x) :
  Calls Tryz.prog 163 #[.pointer (some ⟨g, 0, none⟩), .int .i64 c] w fun en w' => en = .returned (.tuple #[.slice none 0 0, .int .i64 4]) ∧ Kept K w0 w w' g (.slice HA hn hc) (whyC m c) := by
 have HP : Hid (Kept K w0 w (w.setCell ⟨g, 13, none⟩ (.int .i64 c)) g (.slice HA hn hc) (whyC m c)) := Lib.hid ⟨x, hr.put_why c, hk.size (by rw [set_size]; exact Nat.le_refl _), hk.set 13 _⟩
 have q := hr.at8.2.2.2.2.2
 have z := hr.blk.frozen 13
 clear hr hk
 go_enter Tryz.func163, Tryz.ntmps163
 go_wp2
 go_ret2
 exact ⟨rfl, HP.out⟩
set_option maxRecDepth 100000 in
theorem retry_c {r : Raw} (hd : r.s.d = 5) (p : Pre K w0 w g HA hn hc h m x r rest B rn rc e) :
  Calls Tryz.prog 137 #[.pointer (some ⟨g, 0, none⟩), .agg #[.int .i64 r.s.d, .int .i64 r.s.a, .int .i64 r.s.b, .slice r.T r.n r.c], .slice B rn rc] w (DoPost K w0 w g (.slice HA hn hc) h m r rest e) := by
 have HP : Hid (∀ w', Below w.heap.size w w' → DoPost K w0 w g (.slice HA hn hc) h m r rest e (.returned (.tuple #[.slice none 0 0, .int .i64 2])) w') := Lib.hid (fun w' hb => by
  refine ⟨2, [], none, 0, 0, m, rfl, ⟨x, p.run.below hb, p.ok.size hb.size, p.ok.fr hb⟩, .inr ⟨by decide, p.good.weak e (by omega), ?_⟩⟩
  rw [part_retry _ _ _ hd]
  unfold ended abs
  rw [p.why])
 have HB : Hid (Below w.heap.size w (w.alloc (.cells #[.int .i64 r.s.d, .int .i64 r.s.a, .int .i64 r.s.b, .slice r.T r.n r.c] 82))) := Lib.hid (bl_alloc (Below.refl _ _) _)
 clear p hd
 go_enter Tryz.func137, Tryz.ntmps137
 go_wp2
 go_ret2
 exact HP.out _ HB.out
set_option maxRecDepth 100000 in
theorem fail_c {r : Raw} (hd : r.s.d = 6) (p : Pre K w0 w g HA hn hc h m x r rest B rn rc e) :
  Calls Tryz.prog 138 #[.pointer (some ⟨g, 0, none⟩), .agg #[.int .i64 r.s.d, .int .i64 r.s.a, .int .i64 r.s.b, .slice r.T r.n r.c], .slice B rn rc] w (DoPost K w0 w g (.slice HA hn hc) h m r rest e) := by
 obtain ⟨w1, hw1⟩ : ∃ w1, w1 = w.alloc (.cells #[.int .i64 r.s.d, .int .i64 r.s.a, .int .i64 r.s.b, .slice r.T r.n r.c] 82) := ⟨_, rfl⟩
 have hb : Below w.heap.size w w1 := by rw [hw1]; exact bl_alloc (Below.refl _ _) _
 have HK : Hid (Blk w1 w.heap.size 82 #[.int .i64 r.s.d, .int .i64 r.s.a, .int .i64 r.s.b, .slice r.T r.n r.c]) := Lib.hid (by rw [hw1]; exact Blk.new _ _ _)
 have hr := p.run.below hb
 have hk := p.ok.size hb.size
 have HP : Hid (DoPost K w0 w g (.slice HA hn hc) h m r rest e (.returned (.tuple #[.slice none 0 0, .int .i64 3])) (w1.setCell ⟨g, 13, none⟩ (.int .i64 r.s.a))) := Lib.hid (by
  refine ⟨3, [], none, 0, 0, whyC m r.s.a, rfl, ⟨x, hr.put_why _, hk.size (by rw [set_size]; exact Nat.le_refl _), (p.ok.fr hb).trans (hk.set 13 _)⟩, .inr ⟨by decide, (p.good.weak e (by omega)).why_ _, ?_⟩⟩
  rw [part_fail _ _ _ hd]; rfl)
 have q := hr.at8.2.2.2.2.2
 have z := hr.blk.frozen 13
 have q1 := HK.out.cell 1 _ rfl
 clear p hd hr hk hb
 subst hw1
 go_enter Tryz.func138, Tryz.ntmps138
 go_wp2
 go_ret2
 exact HP.out
set_option maxRecDepth 100000 in
theorem set_c {r : Raw} (hd : r.s.d = 2) (p : Pre K w0 w g HA hn hc h m x r rest B rn rc e) :
  Calls Tryz.prog 134 #[.pointer (some ⟨g, 0, none⟩), .agg #[.int .i64 r.s.d, .int .i64 r.s.a, .int .i64 r.s.b, .slice r.T r.n r.c], .slice B rn rc] w (DoPost K w0 w g (.slice HA hn hc) h m r rest e) := by
 obtain ⟨a0, a7⟩ := one_set r.s p.one hd
 obtain ⟨ra, hra⟩ : ∃ ra : Nat, r.s.a = (ra : Int) := ⟨r.s.a.toNat, by omega⟩
 obtain ⟨v, hv⟩ : ∃ v, Term.evalS r.s.t h m.regs = v := ⟨_, rfl⟩
 have htn := p.tn (.inl hd)
 obtain ⟨w1, hw1⟩ : ∃ w1, w1 = w.alloc (.cells #[.int .i64 r.s.d, .int .i64 (ra : Int), .int .i64 r.s.b, .slice r.T r.n r.c] 82) := ⟨_, rfl⟩
 have hb : Below w.heap.size w w1 := by rw [hw1]; exact bl_alloc (Below.refl _ _) _
 have HK : Hid (Blk w1 w.heap.size 82 #[.int .i64 r.s.d, .int .i64 (ra : Int), .int .i64 r.s.b, .slice r.T r.n r.c]) := Lib.hid (by rw [hw1]; exact Blk.new _ _ _)
 have hr := p.run.below hb
 have HR := Lib.hid hr
 have hk := p.ok.size hb.size
 have HP : Hid (∀ w', Below w1.heap.size w1 w' → DoPost K w0 w g (.slice HA hn hc) h m r rest e (.returned (.tuple #[.slice B rn rc, .int .i64 1])) (w'.setCell ⟨g, ra, none⟩ (.int .i64 v.1))) := Lib.hid (fun w' hb' => by
  have hk' := hk.size hb'.size
  refine ⟨1, rest, B, rn, rc, setC m r.s.a v.1, rfl, ⟨x, ?_, hk'.size (by rw [set_size]; exact Nat.le_refl _), ((p.ok.fr hb).trans (hk.fr hb')).trans (hk'.set ra _)⟩, .inl ⟨rfl, p.more, p.cap, p.rcc, p.all, p.tail, Nat.le_refl _, p.good.set_ _ _, p.why, ?_⟩⟩
  · have := (hr.below hb').put_reg ra (by omega) v.1
   unfold setC
   rw [hra, Int.toNat_natCast]
   exact this
  · rw [part_set _ _ _ hd, p.good.tell r.s.t (one_reck r.s p.one (.inl hd)) 0, hv]; rfl)
 have HC : Hid (∀ W, Below w1.heap.size w1 W → Calls Tryz.prog 164 #[.pointer (some ⟨g, 0, none⟩), .agg #[.int .i64 r.s.d, .int .i64 (ra : Int), .int .i64 r.s.b, .slice r.T r.n r.c]] W fun e w' => e = .returned (.int .i64 v.1) ∧ Below w1.heap.size w1 w') :=
  Lib.hid (fun W hW => by
   have hr2 := hr.below hW
   refine (told_c r.s.t r.T r.n r.c r.s.d (ra : Int) r.s.b h HA hn hc g w0 W m x v hr2 (p.heap.below hr2.bel) (p.term.below hr2.bel) htn (by have := p.hn; omega) hv).mono ?_
   rintro e w' ⟨h1, h2⟩
   exact ⟨h1, bl_trans hW h2⟩)
 obtain ⟨y, hy⟩ : ∃ y, m.regs[ra]? = some y := ⟨_, List.getElem?_eq_getElem (by have := p.run.r8; omega)⟩
 have HY : Hid (∀ W, Below w1.heap.size w1 W → W.cell? ⟨g, ra, none⟩ = some (.int .i64 y) ∧ W.frozen? ⟨g, ra, none⟩ = false) := Lib.hid (fun W hW => ⟨(hr.below hW).reg ra y hy, (hr.below hW).blk.frozen ra⟩)
 have q0 := HK.out.cell 0 _ rfl
 have q1 := HK.out.cell 1 _ rfl
 have q2 := HK.out.cell 2 _ rfl
 have q3 := HK.out.cell 3 _ rfl
 have BD : Hid (Below w1.heap.size w1 w1.drew) := Lib.hid (Below.refl _ _).drew
 have hr8 : ¬ ((8 : Int) ≤ (ra : Int)) := by omega
 rw [hra]
 clear hd hr hk hb hv hy htn p a0 a7 hra
 go_enter Tryz.func134, Tryz.ntmps134
 go_wp2_with fail
 rw [← hw1]
 clear hw1
 have i0 : w1.drew.cell? ⟨w.heap.size, 0, none⟩ = some (.int .i64 r.s.d) := q0
 have i1 : w1.drew.cell? ⟨w.heap.size, 1, none⟩ = some (.int .i64 (ra : Int)) := q1
 have i2 : w1.drew.cell? ⟨w.heap.size, 2, none⟩ = some (.int .i64 r.s.b) := q2
 have i3 : w1.drew.cell? ⟨w.heap.size, 3, none⟩ = some (.slice r.T r.n r.c) := q3
 have hbg : w.heap.size ≠ g := by have := HR.out.blk.lt; have h2 := HK.out.lt; intro e; rw [← e] at this; have h3 := HR.out.blk; rw [← e] at h3; have h4 := HK.out; unfold Blk at h3 h4; rw [h3] at h4; injection h4 with h4; injection h4 with _ h4; revert h4; decide
 go_region_held3 (fun w' => w'.cell? ⟨w.heap.size, 0, none⟩ = some (.int .i64 r.s.d) ∧ w'.cell? ⟨w.heap.size, 1, none⟩ = some (.int .i64 (ra : Int)) ∧ w'.cell? ⟨w.heap.size, 2, none⟩ = some (.int .i64 r.s.b) ∧ w'.cell? ⟨w.heap.size, 3, none⟩ = some (.slice r.T r.n r.c))
  (first | exact ⟨a0, a1, a2, a3⟩ | exact ⟨i0, i1, i2, i3⟩ | (refine ⟨?_, ?_, ?_, ?_⟩ <;> (rw [cell_set_ne (Ne.symm hbg)]; assumption)) | go_keep)
  ((go_at_call 164
   refine (HC.out _ BD.out).mono ?_
   rintro e w5 ⟨rfl, o5⟩
   have BA := Lib.hid o5
   have a0 := (HK.out.below BA.out).cell 0 _ rfl
   have a1 := (HK.out.below BA.out).cell 1 _ rfl
   have a2 := (HK.out.below BA.out).cell 2 _ rfl
   have a3 := (HK.out.below BA.out).cell 3 _ rfl
   obtain ⟨ay, az⟩ := HY.out _ BA.out
   clear o5))
 go_wp2
 go_ret2
 exact HP.out _ BA.out
end
end Go.Proofs.YtclbeboiojgejaaGreat.Model

namespace Go.Proofs.YtclbeboiojgejaaGreat.Model
open Go.ChangeShapes Go.WideShapes Go.ChangeAt Go.RowKit Mem Go.Proofs.YtclbeboiojgejaaGreat.Code

theorem ss_drop (l : List Raw) (k : Nat) : ss (l.drop k) = (ss l).drop k := by unfold ss; rw [List.map_drop]
section
variable {K : Nat → Nat → Prop} {w0 w : World} {g : Nat} {HA : Option Addr} {hn hc : Nat} {h : List Heap.Cell} {m : CS} {x : RL} {rest : List Raw} {B : Option Addr} {rn rc e : Nat}
set_option maxRecDepth 100000 in
theorem skip_c {r : Raw} (hd : r.s.d = 4) (p : Pre K w0 w g HA hn hc h m x r rest B rn rc e) :
    Calls Tryz.prog 136 #[.pointer (some ⟨g, 0, none⟩), .agg #[.int .i64 r.s.d, .int .i64 r.s.a, .int .i64 r.s.b, .slice r.T r.n r.c], .slice B rn rc] w (DoPost K w0 w g (.slice HA hn hc) h m r rest e) := by
  obtain ⟨a1, a24⟩ := one_skip r.s p.one hd
  obtain ⟨k, hk⟩ : ∃ k : Nat, r.s.a = (k : Int) := ⟨r.s.a.toNat, by omega⟩
  have hlen : rest.length = rn := p.more.len
  have hle : k ≤ rn := by
    have hw := p.well
    by_cases hlt : ((ss rest).length : Int) < r.s.a
    · rw [well_skip r.s (ss rest) hd hlt] at hw; cases hw
    · rw [ss_len] at hlt; omega
  obtain ⟨v, hv⟩ : ∃ v, Term.evalS r.s.t h m.regs = v := ⟨_, rfl⟩
  have htn := p.tn (.inr (.inr hd))
  have ht : tellM (abs h m 0) r.s.t = v.1 := by rw [p.good.tell r.s.t (one_reck r.s p.one (.inr (.inr hd))) 0, hv]
  have hps := part_skip r.s (ss rest) (abs h m 0) hd
  rw [ht] at hps
  have hcap := p.cap
  have HP1 : Hid (∀ w', Below w.heap.size w w' → v.1 ≠ 0 → DoPost K w0 w g (.slice HA hn hc) h m r rest e (.returned (.tuple #[.slice B rn rc, .int .i64 1])) w') := Lib.hid (fun w' hb hne => by
    refine ⟨1, rest, B, rn, rc, m, rfl, ⟨x, p.run.below hb, p.ok.size hb.size, p.ok.fr hb⟩, .inl ⟨rfl, p.more, p.cap, p.rcc, p.all, p.tail, Nat.le_refl _, p.good.weak _ (by omega), p.why, ?_⟩⟩
    rw [hps, if_neg hne])
  have HP2 : Hid (∀ w', Below w.heap.size w w' → v.1 = 0 → DoPost K w0 w g (.slice HA hn hc) h m r rest e (.returned (.tuple #[.slice (if rc = k then B else B.map (·.add (k * 4))) (rn - k) (rc - k), .int .i64 1])) w') := Lib.hid (fun w' hb he => by
    refine ⟨1, rest.drop k, _, _, _, m, rfl, ⟨x, p.run.below hb, p.ok.size hb.size, p.ok.fr hb⟩, .inl ⟨rfl, p.more.behind k rc hle hcap, by omega, by have := p.rcc; omega, ?_, ?_, by rw [List.length_drop]; omega, p.good.weak _ (by rw [List.length_drop]; omega), p.why, ?_⟩⟩
    · rw [ss_drop]; exact all_drop _ p.all
    · rw [ss_drop]; exact well_drop _ _ p.all p.tail
    · rw [hps, if_pos he, ss_drop, hk, Int.toNat_natCast])
  have hr := p.run.below (bl_alloc (Below.refl w.heap.size w) (.cells #[.int .i64 r.s.d, .int .i64 r.s.a, .int .i64 r.s.b, .slice r.T r.n r.c] 82))
  have HC : Hid (Calls Tryz.prog 164 #[.pointer (some ⟨g, 0, none⟩), .agg #[.int .i64 r.s.d, .int .i64 r.s.a, .int .i64 r.s.b, .slice r.T r.n r.c]] (w.alloc (.cells #[.int .i64 r.s.d, .int .i64 r.s.a, .int .i64 r.s.b, .slice r.T r.n r.c] 82)) fun e w' => e = .returned (.int .i64 v.1) ∧ Below (w.alloc (.cells #[.int .i64 r.s.d, .int .i64 r.s.a, .int .i64 r.s.b, .slice r.T r.n r.c] 82)).heap.size (w.alloc (.cells #[.int .i64 r.s.d, .int .i64 r.s.a, .int .i64 r.s.b, .slice r.T r.n r.c] 82)) w') :=
    Lib.hid (told_c r.s.t r.T r.n r.c r.s.d r.s.a r.s.b h HA hn hc g w0 _ m x v hr (p.heap.below hr.bel) (p.term.below hr.bel) htn (by have := p.hn; omega) hv)
  have HK : Hid (Blk (w.alloc (.cells #[.int .i64 r.s.d, .int .i64 r.s.a, .int .i64 r.s.b, .slice r.T r.n r.c] 82)) w.heap.size 82 #[.int .i64 r.s.d, .int .i64 r.s.a, .int .i64 r.s.b, .slice r.T r.n r.c]) := Lib.hid (Blk.new _ _ _)
  have HB : Hid (Below w.heap.size w (w.alloc (.cells #[.int .i64 r.s.d, .int .i64 r.s.a, .int .i64 r.s.b, .slice r.T r.n r.c] 82))) := Lib.hid (bl_alloc (Below.refl _ _) _)
  obtain ⟨v1, v2⟩ := v
  simp only at HP1 HP2 HC
  generalize r.s.d = sd at *
  rw [hk] at *
  clear hr hv ht hps p hd a1 a24 hk hlen htn
  by_cases h0 : v1 = 0
  · subst h0
    go_enter Tryz.func136, Tryz.ntmps136
    go_wp2_with fail
    refine HC.out.mono ?_
    rintro e w2 ⟨rfl, b2⟩
    have HB2 := Lib.hid (bl_trans HB.out b2)
    have q1 := (HK.out.below b2).cell 1 _ rfl
    clear b2
    go_wp2
    all_goals
      go_ret2
      have h9 := HP2.out _ HB2.out trivial
      first
        | (rw [if_neg (by assumption)] at h9; exact h9)
        | (have e9 : rc = k := by assumption
           rw [if_pos e9, show rc - k = 0 by omega] at h9
           exact h9)
  · have q : (v1 == 0) = false := beq_eq_false_iff_ne.2 h0
    go_enter Tryz.func136, Tryz.ntmps136
    go_wp2_with fail
    refine HC.out.mono ?_
    rintro e w2 ⟨rfl, b2⟩
    have HB2 := Lib.hid (bl_trans HB.out b2)
    clear b2
    go_wp2
    go_ret2
    exact HP1.out _ HB2.out h0
end
end Go.Proofs.YtclbeboiojgejaaGreat.Model

namespace Go.Proofs.YtclbeboiojgejaaGreat.Model
open Go.ChangeShapes Go.WideShapes Go.ChangeAt Go.RowKit Mem Go.Proofs.YtclbeboiojgejaaGreat.Code

theorem RunAt.logat {w0 w : World} {g : Nat} {H : Value} {m : CS} {x : RL} (h : RunAt w0 w g H m x) : Writes.LogAt w x.L x.ln x.lc x.M 0 x.mc ⟨m.log, []⟩ := by
 obtain ⟨_, h1, h2⟩ := own_cap h.log
 exact ⟨h2, ⟨rfl, fun h0 => absurd h0 (by omega)⟩, h1, Nat.zero_le _⟩
theorem RunAt.lens {w0 w : World} {g : Nat} {H : Value} {m : CS} {x : RL} (h : RunAt w0 w g H m x) : m.log.length = x.ln ∧ m.path.length = x.pn ∧ m.seen.length = x.sn := by
 refine ⟨h.logat.ln, ?_, ?_⟩
 · have := h.path.1.1; rw [zs_map, List.length_map] at this; omega
 · have := h.seen.1.1; rw [zs_map, List.length_map] at this; omega
theorem one_load (s : Step) (h : oneB s = true) (hd : s.d = 1) : 0 ≤ s.a ∧ s.a ≤ 7 ∧ 0 ≤ s.b ∧ s.b ≤ 63 := by
 unfold oneB at h
 rw [if_pos hd] at h
 simp at h; omega
section
variable {K : Nat → Nat → Prop} {w0 w : World} {g : Nat} {HA : Option Addr} {hn hc : Nat} {h : List Heap.Cell} {m : CS} {x : RL} {rest : List Raw} {B : Option Addr} {rn rc e : Nat}
theorem blk_ne {w : World} {a b : Nat} {t u : TypeId} {xs ys : Array Value} (h : Blk w a t xs) (k : Blk w b u ys) (ht : t ≠ u) : a ≠ b := by
 intro e
 subst e
 unfold Blk at h k
 rw [h] at k
 injection k with k
 injection k with _ k
 exact ht k
set_option maxRecDepth 100000 in
theorem load_bad {r : Raw} (hd : r.s.d = 1) (hl : Heap.liveAt h r.s.b = false) (p : Pre K w0 w g HA hn hc h m x r rest B rn rc e) :
  Calls Tryz.prog 133 #[.pointer (some ⟨g, 0, none⟩), .agg #[.int .i64 r.s.d, .int .i64 r.s.a, .int .i64 r.s.b, .slice r.T r.n r.c], .slice B rn rc] w (DoPost K w0 w g (.slice HA hn hc) h m r rest e) := by
 obtain ⟨w1, hw1⟩ : ∃ w1, w1 = w.alloc (.cells #[.int .i64 r.s.d, .int .i64 r.s.a, .int .i64 r.s.b, .slice r.T r.n r.c] 82) := ⟨_, rfl⟩
 have hb : Below w.heap.size w w1 := by rw [hw1]; exact bl_alloc (Below.refl _ _) _
 have HK : Hid (Blk w1 w.heap.size 82 #[.int .i64 r.s.d, .int .i64 r.s.a, .int .i64 r.s.b, .slice r.T r.n r.c]) := Lib.hid (by rw [hw1]; exact Blk.new _ _ _)
 have hr := p.run.below hb
 have HR := Lib.hid hr
 have hk := p.ok.size hb.size
 have hg : Heap.getS h r.s.b = (0, 3) := by rw [p.good.get, hl]; rfl
 have HP : Hid (∀ w' w2, Below w1.heap.size w1 w2 → Kept K w0 w2 w' g (.slice HA hn hc) (whyC m r.s.b) → DoPost K w0 w g (.slice HA hn hc) h m r rest e (.returned (.tuple #[.slice none 0 0, .int .i64 4])) w') := Lib.hid (fun w' w2 hb2 hkp => by
  obtain ⟨x', k1, k2, k3⟩ := hkp
  refine ⟨4, [], none, 0, 0, whyC m r.s.b, rfl, ⟨x', k1, k2, ((p.ok.fr hb).trans (hk.fr hb2)).trans k3⟩, .inr ⟨by decide, (p.good.weak e (by omega)).why_ _, ?_⟩⟩
  rw [part_load _ _ _ hd, p.good.liveAll r.s.b 0, hl]; rfl)
 have HC : Hid (∀ W, Below w1.heap.size w1 W → Calls Tryz.prog 66 #[.slice HA hn hc, .int .i64 r.s.b] W fun e w' => e = .returned (.tuple #[.int .i64 0, .int .i64 3]) ∧ Below w1.heap.size w1 w') :=
  Lib.hid (fun W hW => by
   have hr2 := hr.below hW
   refine (Heap.get_c h HA hn hc r.s.b W (0, 3) (p.heap.below hr2.bel) (by have := p.hn; omega) hg).mono ?_
   rintro e w' ⟨h1, h2⟩
   exact ⟨h1, bl_trans hW h2⟩)
 have HD : Hid (∀ W, Below w1.heap.size w1 W → Calls Tryz.prog 163 #[.pointer (some ⟨g, 0, none⟩), .int .i64 r.s.b] W fun en w' => en = .returned (.tuple #[.slice none 0 0, .int .i64 4]) ∧ Kept K w0 W w' g (.slice HA hn hc) (whyC m r.s.b)) :=
  Lib.hid (fun W hW => bad_c r.s.b (hr.below hW) (hk.size hW.size))
 have q2 := HK.out.cell 2 _ rfl
 have q11 := hr.at8.2.2.2.1
 have BD : Hid (Below w1.heap.size w1 w1.drew) := Lib.hid (Below.refl _ _).drew
 clear hd hr hk hb p hl hg
 go_enter Tryz.func133, Tryz.ntmps133
 go_wp2_with fail
 rw [← hw1]
 clear hw1
 have i0 : w1.drew.cell? ⟨w.heap.size, 2, none⟩ = some (.int .i64 r.s.b) := q2
 have i1 : w1.drew.cell? ⟨g, 11, none⟩ = some (.slice HA hn hc) := q11
 go_region_held3 (fun w' => w'.cell? ⟨w.heap.size, 2, none⟩ = some (.int .i64 r.s.b) ∧ w'.cell? ⟨g, 11, none⟩ = some (.slice HA hn hc))
  (first | exact ⟨a0, a1⟩ | exact ⟨i0, i1⟩ | go_keep)
  ((go_at_call 66
   refine (HC.out _ BD.out).mono ?_
   rintro e w5 ⟨rfl, o5⟩
   have BA := Lib.hid o5
   have a0 := (HK.out.below BA.out).cell 2 _ rfl
   have a1 := (HR.out.below BA.out).at8.2.2.2.1
   clear o5))
 go_wp2_with fail
 refine (HD.out _ BA.out).mono ?_
 rintro e w6 ⟨rfl, o6⟩
 go_wp2
 go_ret2
 exact HP.out _ _ BA.out o6
set_option maxRecDepth 100000 in
set_option maxHeartbeats 1000000 in
theorem load_old {r : Raw} (v : Int) (hd : r.s.d = 1) (hl : Heap.liveAt h r.s.b = true) (hv : Writes.getL m.log r.s.b = some v) (p : Pre K w0 w g HA hn hc h m x r rest B rn rc e) :
  Calls Tryz.prog 133 #[.pointer (some ⟨g, 0, none⟩), .agg #[.int .i64 r.s.d, .int .i64 r.s.a, .int .i64 r.s.b, .slice r.T r.n r.c], .slice B rn rc] w (DoPost K w0 w g (.slice HA hn hc) h m r rest e) := by
 obtain ⟨a0, a7, b0, b63⟩ := one_load r.s p.one hd
 obtain ⟨ra, hra⟩ : ∃ ra : Nat, r.s.a = (ra : Int) := ⟨r.s.a.toNat, by omega⟩
 obtain ⟨w1, hw1⟩ : ∃ w1, w1 = w.alloc (.cells #[.int .i64 r.s.d, .int .i64 (ra : Int), .int .i64 r.s.b, .slice r.T r.n r.c] 82) := ⟨_, rfl⟩
 have hb : Below w.heap.size w w1 := by rw [hw1]; exact bl_alloc (Below.refl _ _) _
 have HK : Hid (Blk w1 w.heap.size 82 #[.int .i64 r.s.d, .int .i64 (ra : Int), .int .i64 r.s.b, .slice r.T r.n r.c]) := Lib.hid (by rw [hw1]; exact Blk.new _ _ _)
 have hr := p.run.below hb
 have HR := Lib.hid hr
 have hk := p.ok.size hb.size
 obtain ⟨u, hu⟩ : ∃ u, Heap.valAt h r.s.b = u := ⟨_, rfl⟩
 have hg : Heap.getS h r.s.b = (u, 0) := by rw [p.good.get, hl, if_pos rfl, hu]
 have hgl : Writes.getS ⟨m.log, []⟩ r.s.b = (v, true) := by rw [p.good.logget, hv]; rfl
 have HP : Hid (∀ w', Below w1.heap.size w1 w' → DoPost K w0 w g (.slice HA hn hc) h m r rest e (.returned (.tuple #[.slice B rn rc, .int .i64 1])) (w'.setCell ⟨g, ra, none⟩ (.int .i64 v))) := Lib.hid (fun w' hb' => by
  have hk' := hk.size hb'.size
  have hlc : loadC h m r.s.a r.s.b = { m with regs := m.regs.set ra v } := by unfold loadC; rw [hv, hra, Int.toNat_natCast]
  refine ⟨1, rest, B, rn, rc, loadC h m r.s.a r.s.b, rfl, ⟨x, ?_, hk'.size (by rw [set_size]; exact Nat.le_refl _), ((p.ok.fr hb).trans (hk.fr hb')).trans (hk'.set ra _)⟩, .inl ⟨rfl, p.more, p.cap, p.rcc, p.all, p.tail, Nat.le_refl _, p.good.load_ _ _ ⟨b0, by omega⟩, by rw [hlc]; exact p.why, ?_⟩⟩
  · rw [hlc]
   exact (hr.below hb').put_reg ra (by omega) v
  · rw [part_load _ _ _ hd, p.good.liveAll r.s.b 0, hl, if_pos rfl, load_abs p.good _ _ hl])
 have HC : Hid (∀ W, Below w1.heap.size w1 W → Calls Tryz.prog 66 #[.slice HA hn hc, .int .i64 r.s.b] W fun e w' => e = .returned (.tuple #[.int .i64 u, .int .i64 0]) ∧ Below w1.heap.size w1 w') :=
  Lib.hid (fun W hW => by
   have hr2 := hr.below hW
   refine (Heap.get_c h HA hn hc r.s.b W (u, 0) (p.heap.below hr2.bel) (by have := p.hn; omega) hg).mono ?_
   rintro e w' ⟨h1, h2⟩
   exact ⟨h1, bl_trans hW h2⟩)
 have HD : Hid (∀ W, Below w1.heap.size w1 W → Calls Tryz.prog 154 #[.agg #[.slice x.L x.ln x.lc, .slice x.M 0 x.mc], .int .i64 r.s.b] W fun en w' => en = .returned (.tuple #[.int .i64 v, .bool true]) ∧ Below w1.heap.size w1 w') :=
  Lib.hid (fun W hW => by
   refine (Writes.get_c ⟨m.log, []⟩ x.L x.M x.ln x.lc 0 x.mc r.s.b W (v, true) (hr.below hW).logat (by have := p.good.cnt; have := hr.lens.1; omega) (by omega) hgl).mono ?_
   rintro e w' ⟨h1, h2⟩
   exact ⟨h1, bl_trans hW h2⟩)
 obtain ⟨y, hy⟩ : ∃ y, m.regs[ra]? = some y := ⟨_, List.getElem?_eq_getElem (by have := p.run.r8; omega)⟩
 have HY : Hid (∀ W, Below w1.heap.size w1 W → W.cell? ⟨g, ra, none⟩ = some (.int .i64 y) ∧ W.frozen? ⟨g, ra, none⟩ = false) := Lib.hid (fun W hW => ⟨(hr.below hW).reg ra y hy, (hr.below hW).blk.frozen ra⟩)
 have HQ : Hid (∀ W, Below w1.heap.size w1 W → W.cell? ⟨g, 9, none⟩ = some (.slice x.L x.ln x.lc) ∧ W.cell? ⟨g, 10, none⟩ = some (.slice x.M 0 x.mc)) := Lib.hid (fun W hW => ⟨(hr.below hW).at8.2.1, (hr.below hW).at8.2.2.1⟩)
 have q2 := HK.out.cell 2 _ rfl
 have q11 := hr.at8.2.2.2.1
 have BD : Hid (Below w1.heap.size w1 w1.drew) := Lib.hid (Below.refl _ _).drew
 have hr8 : ¬ ((8 : Int) ≤ (ra : Int)) := by omega
 have hne : w.heap.size ≠ g := blk_ne HK.out hr.blk (by decide)
 rw [hra]
 clear hd hr hk hb p hl hg hgl hv hy a0 a7 b0 b63 hra hu
 go_enter Tryz.func133, Tryz.ntmps133
 go_wp2_with fail
 rw [← hw1]
 clear hw1
 have i0 : w1.drew.cell? ⟨w.heap.size, 2, none⟩ = some (.int .i64 r.s.b) := q2
 have i1 : w1.drew.cell? ⟨g, 11, none⟩ = some (.slice HA hn hc) := q11
 go_region_held3 (fun w' => w'.cell? ⟨w.heap.size, 2, none⟩ = some (.int .i64 r.s.b) ∧ w'.cell? ⟨g, 11, none⟩ = some (.slice HA hn hc))
  (first | exact ⟨a0, a1⟩ | exact ⟨i0, i1⟩ | go_keep)
  ((go_at_call 66
   refine (HC.out _ BD.out).mono ?_
   rintro e w5 ⟨rfl, o5⟩
   have BA := Lib.hid o5
   have a0 := (HK.out.below BA.out).cell 2 _ rfl
   have a1 := (HR.out.below BA.out).at8.2.2.2.1
   clear o5))
 have BE : Hid (Below w1.heap.size w1 w5.drew) := Lib.hid BA.out.drew
 have j0 : w5.drew.cell? ⟨w.heap.size, 2, none⟩ = some (.int .i64 r.s.b) := a0
 obtain ⟨j1, j2⟩ := HQ.out _ BE.out
 clear i0 i1 a0 a1
 go_wp2_with fail
 go_region_held3 (fun w' => w'.cell? ⟨w.heap.size, 2, none⟩ = some (.int .i64 r.s.b) ∧ w'.cell? ⟨g, 9, none⟩ = some (.slice x.L x.ln x.lc) ∧ w'.cell? ⟨g, 10, none⟩ = some (.slice x.M 0 x.mc))
  (first | exact ⟨c0, c1, c2⟩ | exact ⟨j0, j1, j2⟩ | go_keep)
  ((go_at_call 154
   refine (HD.out _ BE.out).mono ?_
   rintro e w6 ⟨rfl, o6⟩
   have BF := Lib.hid o6
   have c0 := (HK.out.below BF.out).cell 2 _ rfl
   obtain ⟨c1, c2⟩ := HQ.out _ BF.out
   clear o6))
 have BG : Hid (Below w1.heap.size w1 w6.drew) := Lib.hid BF.out.drew
 have d1 : w6.drew.cell? ⟨w.heap.size, 1, none⟩ = some (.int .i64 (ra : Int)) := (HK.out.below BF.out).cell 1 _ rfl
 obtain ⟨dy, dz⟩ := HY.out _ BG.out
 clear j0 j1 j2 c0 c1 c2
 go_wp2_with fail
 go_still_tail 8, (by kernel_rfl)
 go_wp2
 go_ret2
 exact HP.out _ BG.out
end
end Go.Proofs.YtclbeboiojgejaaGreat.Model

namespace Go.Proofs.YtclbeboiojgejaaGreat.Model
open Go.ChangeShapes Go.WideShapes Go.ChangeAt Go.RowKit Mem Go.Proofs.YtclbeboiojgejaaGreat.Code

section
variable {K : Nat → Nat → Prop} {w0 w : World} {g : Nat} {HA : Option Addr} {hn hc : Nat} {h : List Heap.Cell} {m : CS} {x : RL} {rest : List Raw} {B : Option Addr} {rn rc e : Nat}
set_option maxRecDepth 100000 in
set_option maxHeartbeats 1000000 in
theorem load_new {r : Raw} (hd : r.s.d = 1) (hl : Heap.liveAt h r.s.b = true) (hv : Writes.getL m.log r.s.b = none) (p : Pre K w0 w g HA hn hc h m x r rest B rn rc e) :
  Calls Tryz.prog 133 #[.pointer (some ⟨g, 0, none⟩), .agg #[.int .i64 r.s.d, .int .i64 r.s.a, .int .i64 r.s.b, .slice r.T r.n r.c], .slice B rn rc] w (DoPost K w0 w g (.slice HA hn hc) h m r rest e) := by
 obtain ⟨a0, a7, b0, b63⟩ := one_load r.s p.one hd
 obtain ⟨ra, hra⟩ : ∃ ra : Nat, r.s.a = (ra : Int) := ⟨r.s.a.toNat, by omega⟩
 obtain ⟨w1, hw1⟩ : ∃ w1, w1 = w.alloc (.cells #[.int .i64 r.s.d, .int .i64 (ra : Int), .int .i64 r.s.b, .slice r.T r.n r.c] 82) := ⟨_, rfl⟩
 have hb : Below w.heap.size w w1 := by rw [hw1]; exact bl_alloc (Below.refl _ _) _
 have HK : Hid (Blk w1 w.heap.size 82 #[.int .i64 r.s.d, .int .i64 (ra : Int), .int .i64 r.s.b, .slice r.T r.n r.c]) := Lib.hid (by rw [hw1]; exact Blk.new _ _ _)
 have hr := p.run.below hb
 have HR := Lib.hid hr
 have hk := p.ok.size hb.size
 obtain ⟨u, hu⟩ : ∃ u, Heap.valAt h r.s.b = u := ⟨_, rfl⟩
 have hg : Heap.getS h r.s.b = (u, 0) := by rw [p.good.get, hl, if_pos rfl, hu]
 have hgl : Writes.getS ⟨m.log, []⟩ r.s.b = (0, false) := by rw [p.good.logget, hv]; rfl
 have hlc : loadC h m r.s.a r.s.b = { { m with seen := m.seen ++ [r.s.b] } with regs := m.regs.set ra u } := by unfold loadC; rw [hv, hra, Int.toNat_natCast, hu]
 have HP : Hid (∀ W w8 x8, Below w1.heap.size w1 W → RunAt w0 w8 g (.slice HA hn hc) { m with seen := m.seen ++ [r.s.b] } x8 → KOK K w8 g x8 → Fr K W w8 → DoPost K w0 w g (.slice HA hn hc) h m r rest e (.returned (.tuple #[.slice B rn rc, .int .i64 1])) (w8.setCell ⟨g, ra, none⟩ (.int .i64 u))) := Lib.hid (fun W w8 x8 hb' hr8 hk8 hf8 => by
  refine ⟨1, rest, B, rn, rc, loadC h m r.s.a r.s.b, rfl, ⟨x8, ?_, hk8.size (by rw [set_size]; exact Nat.le_refl _), (((p.ok.fr hb).trans (hk.fr hb')).trans hf8).trans (hk8.set ra _)⟩, .inl ⟨rfl, p.more, p.cap, p.rcc, p.all, p.tail, Nat.le_refl _, p.good.load_ _ _ ⟨b0, by omega⟩, by rw [hlc]; exact p.why, ?_⟩⟩
  · rw [hlc]
   exact hr8.put_reg ra (by omega) u
  · rw [part_load _ _ _ hd, p.good.liveAll r.s.b 0, hl, if_pos rfl, load_abs p.good _ _ hl])
 have HOK := Lib.hid hk
 have hsv : x.sv.ownBlock ≠ some w.heap.size := fun e => by have := p.run.seen.lt _ e; omega
 have hsn : x.sn ≤ 24 := by have := p.good.seen; have := p.run.lens.2.2; omega
 have HC : Hid (∀ W, Below w1.heap.size w1 W → Calls Tryz.prog 66 #[.slice HA hn hc, .int .i64 r.s.b] W fun e w' => e = .returned (.tuple #[.int .i64 u, .int .i64 0]) ∧ Below w1.heap.size w1 w') :=
  Lib.hid (fun W hW => by
   have hr2 := hr.below hW
   refine (Heap.get_c h HA hn hc r.s.b W (u, 0) (p.heap.below hr2.bel) (by have := p.hn; omega) hg).mono ?_
   rintro e w' ⟨h1, h2⟩
   exact ⟨h1, bl_trans hW h2⟩)
 have HD : Hid (∀ W, Below w1.heap.size w1 W → Calls Tryz.prog 154 #[.agg #[.slice x.L x.ln x.lc, .slice x.M 0 x.mc], .int .i64 r.s.b] W fun en w' => en = .returned (.tuple #[.int .i64 0, .bool false]) ∧ Below w1.heap.size w1 w') :=
  Lib.hid (fun W hW => by
   refine (Writes.get_c ⟨m.log, []⟩ x.L x.M x.ln x.lc 0 x.mc r.s.b W (0, false) (hr.below hW).logat (by have := p.good.cnt; have := hr.lens.1; omega) (by omega) hgl).mono ?_
   rintro e w' ⟨h1, h2⟩
   exact ⟨h1, bl_trans hW h2⟩)
 obtain ⟨y, hy⟩ : ∃ y, m.regs[ra]? = some y := ⟨_, List.getElem?_eq_getElem (by have := p.run.r8; omega)⟩
 have HY := Lib.hid hy
 have HQ : Hid (∀ W, Below w1.heap.size w1 W → W.cell? ⟨g, 9, none⟩ = some (.slice x.L x.ln x.lc) ∧ W.cell? ⟨g, 10, none⟩ = some (.slice x.M 0 x.mc)) := Lib.hid (fun W hW => ⟨(hr.below hW).at8.2.1, (hr.below hW).at8.2.2.1⟩)
 have q2 := HK.out.cell 2 _ rfl
 have q11 := hr.at8.2.2.2.1
 have BD : Hid (Below w1.heap.size w1 w1.drew) := Lib.hid (Below.refl _ _).drew
 have hr8 : ¬ ((8 : Int) ≤ (ra : Int)) := by omega
 have hne : w.heap.size ≠ g := blk_ne HK.out hr.blk (by decide)
 rw [hra]
 clear hd hr hk hb p hl hg hgl hv hy a0 a7 b0 b63 hra hu hlc
 go_enter Tryz.func133, Tryz.ntmps133
 go_wp2_with fail
 rw [← hw1]
 clear hw1
 have i0 : w1.drew.cell? ⟨w.heap.size, 2, none⟩ = some (.int .i64 r.s.b) := q2
 have i1 : w1.drew.cell? ⟨g, 11, none⟩ = some (.slice HA hn hc) := q11
 go_region_held3 (fun w' => w'.cell? ⟨w.heap.size, 2, none⟩ = some (.int .i64 r.s.b) ∧ w'.cell? ⟨g, 11, none⟩ = some (.slice HA hn hc))
  (first | exact ⟨a0, a1⟩ | exact ⟨i0, i1⟩ | go_keep)
  ((go_at_call 66
   refine (HC.out _ BD.out).mono ?_
   rintro e w5 ⟨rfl, o5⟩
   have BA := Lib.hid o5
   have a0 := (HK.out.below BA.out).cell 2 _ rfl
   have a1 := (HR.out.below BA.out).at8.2.2.2.1
   clear o5))
 have BE : Hid (Below w1.heap.size w1 w5.drew) := Lib.hid BA.out.drew
 have j0 : w5.drew.cell? ⟨w.heap.size, 2, none⟩ = some (.int .i64 r.s.b) := a0
 obtain ⟨j1, j2⟩ := HQ.out _ BE.out
 clear i0 i1 a0 a1
 go_wp2_with fail
 go_region_held3 (fun w' => w'.cell? ⟨w.heap.size, 2, none⟩ = some (.int .i64 r.s.b) ∧ w'.cell? ⟨g, 9, none⟩ = some (.slice x.L x.ln x.lc) ∧ w'.cell? ⟨g, 10, none⟩ = some (.slice x.M 0 x.mc))
  (first | exact ⟨c0, c1, c2⟩ | exact ⟨j0, j1, j2⟩ | go_keep)
  ((go_at_call 154
   refine (HD.out _ BE.out).mono ?_
   rintro e w6 ⟨rfl, o6⟩
   have BF := Lib.hid o6
   have c0 := (HK.out.below BF.out).cell 2 _ rfl
   obtain ⟨c1, c2⟩ := HQ.out _ BF.out
   clear o6))
 have BG : Hid (Below w1.heap.size w1 w6.drew) := Lib.hid BF.out.drew
 obtain ⟨W, hW⟩ : ∃ W, W = (w6.alloc (.cells #[.int .i64 r.s.b] 3)).drew := ⟨_, rfl⟩
 have BW : Hid (Below w1.heap.size w1 W) := Lib.hid (by rw [hW]; exact (bl_alloc BF.out _).drew)
 have HRW : Hid (Rd W 1 (some ⟨w6.heap.size, 0, none⟩) 1 [.int .i64 r.s.b]) := Lib.hid (by rw [hW]; exact (Rd.built _ 1 1 [.int .i64 r.s.b] _ rfl).drew)
 have d2 : w6.drew.cell? ⟨w.heap.size, 2, none⟩ = some (.int .i64 r.s.b) := (HK.out.below BF.out).cell 2 _ rfl
 have d12 : w6.drew.cell? ⟨g, 12, none⟩ = some (.slice x.S x.sn x.sc) := (HR.out.below BG.out).at8.2.2.2.2.1
 have e2 : W.cell? ⟨w.heap.size, 2, none⟩ = some (.int .i64 r.s.b) := (HK.out.below BW.out).cell 2 _ rfl
 have e12 : W.cell? ⟨g, 12, none⟩ = some (.slice x.S x.sn x.sc) := (HR.out.below BW.out).at8.2.2.2.2.1
 have e12' := e12
 rw [hW] at e12'
 have e2' := e2
 rw [hW] at e2'
 clear j0 j1 j2 c0 c1 c2
 go_wp2_with fail
 refine wp_region_held_drew (S := fun (W : World) => W.cell? ⟨w.heap.size, 2, none⟩ = some (.int .i64 r.s.b)) (by kernel_rfl) d2 (fun hHeld => ?_)
 refine wpAnyH_take (i := 0) (v := .pointer (some ⟨g, 0, none⟩)) rfl (by kernel_rfl) (by kernel_rfl) (by kernel_rfl) (fun _ _ _ h => h) (Or.inl ⟨by rfl, fun W hS => by go_simp⟩) hHeld ?_
 try simp only [Act.put]
 try simp only [List.setIfInBounds_toArray]
 try simp only [List.set_cons_succ]
 try simp only [List.set_cons_zero]
 refine wpAnyH_take (i := 1) (v := .pointer (some ⟨g, 0, none⟩)) rfl (by kernel_rfl) (by kernel_rfl) (by kernel_rfl) (fun _ _ _ h => h) (Or.inl ⟨by rfl, fun W hS => by go_simp⟩) hHeld ?_
 try simp only [Act.put]
 try simp only [List.setIfInBounds_toArray]
 try simp only [List.set_cons_succ]
 try simp only [List.set_cons_zero]
 refine wpAnyH_take (i := 2) (v := .pointer (some ⟨g, 0, none⟩)) rfl (by kernel_rfl) (by kernel_rfl) (by kernel_rfl) (fun _ _ _ h => h) (Or.inl ⟨by rfl, fun W hS => by go_simp⟩) hHeld ?_
 try simp only [Act.put]
 try simp only [List.setIfInBounds_toArray]
 try simp only [List.set_cons_succ]
 try simp only [List.set_cons_zero]
 refine wpAnyH_take (i := 3) (v := .pointer (some ⟨g, 12, none⟩)) rfl (by kernel_rfl) (by kernel_rfl) (by kernel_rfl) (fun _ _ _ h => h) (Or.inl ⟨by rfl, fun W hS => by go_simp⟩) hHeld ?_
 try simp only [Act.put]
 try simp only [List.setIfInBounds_toArray]
 try simp only [List.set_cons_succ]
 try simp only [List.set_cons_zero]
 refine wpAnyH_take (i := 5) (v := .pointer (some ⟨w.heap.size, 2, none⟩)) rfl (by kernel_rfl) (by kernel_rfl) (by kernel_rfl) (fun _ _ _ h => h) (Or.inl ⟨by rfl, fun W hS => by go_simp⟩) hHeld ?_
 try simp only [Act.put]
 try simp only [List.setIfInBounds_toArray]
 try simp only [List.set_cons_succ]
 try simp only [List.set_cons_zero]
 refine wpAnyH_take (i := 6) (v := .int .i64 r.s.b) rfl (by kernel_rfl) (by kernel_rfl) (by kernel_rfl) (fun _ _ _ h => h) (Or.inl ⟨by rfl, fun W hS => by have k2 := hS; go_simp⟩) hHeld ?_
 try simp only [Act.put]
 try simp only [List.setIfInBounds_toArray]
 try simp only [List.set_cons_succ]
 try simp only [List.set_cons_zero]
 refine wpAnyH_ready (rs := [4, 7]) (by kernel_rfl) (by simp) ?_
 refine AllReadyH.cons rfl (fun KK hK => ?_) (AllReadyH.cons rfl (fun KK hK => ?_) AllReadyH.nil)
 rotate_left
 · go_simp
  refine hK.out _ _ e2' (fun hHeldN => ?_)
  try simp only [Act.put]
  try simp only [List.setIfInBounds_toArray]
  try simp only [List.set_cons_succ]
  try simp only [List.set_cons_zero]
  clear hK KK
  refine wpAnyH_ready (rs := [4]) (by kernel_rfl) (by simp) ?_
  refine AllReadyH.cons rfl (fun KK hK => ?_) AllReadyH.nil
  go_simp
  refine hK.out _ _ e2' (fun hHeldM => ?_)
  try simp only [Act.put]
  try simp only [List.setIfInBounds_toArray]
  try simp only [List.set_cons_succ]
  try simp only [List.set_cons_zero]
  clear hK KK
  refine wpAnyH_ready (rs := [8]) (by kernel_rfl) (by simp) ?_
  refine AllReadyH.cons rfl (fun KK hK => ?_) AllReadyH.nil
  refine append_moved_step (by rfl) _ _ 27 (by rfl) Mem.tInt w0 x.sv x.sn (zs m.seen) (by rfl) (by rw [← hW]; exact (HR.out.below BW.out).seen) _ 1 1 [.int .i64 r.s.b] (by rfl) (by rw [← hW]; exact HRW.out) (one_cons rfl one_nil) (by omega) (by omega) (by decide) ?_
  rw [← hW]
  intro v7 w7 ho7 hm7
  obtain ⟨S7, c7, rfl, -⟩ := ho7.form
  have HO7 := Lib.hid ho7
  have HM7 := Lib.hid hm7
  have f2 : w7.cell? ⟨w.heap.size, 2, none⟩ = some (.int .i64 r.s.b) := (hm7.blk (HK.out.below BW.out) hsv).cell 2 _ rfl
  have k7 := hm7.blk (HR.out.below BW.out).blk HR.out.gs
  have g12 := k7.cell 12 x.sv (by rw [List.getElem?_toArray]; exact rc_tail HR.out.r8 4)
  have z12 := k7.frozen 12
  clear ho7 hm7 k7
  refine hK.out _ _ f2 (fun hHeld7 => ?_)
  try simp only [Act.put]
  try simp only [List.setIfInBounds_toArray]
  try simp only [List.set_cons_succ]
  try simp only [List.set_cons_zero]
  clear hK KK
  refine wpAnyH_take (i := 9) (v := .pointer (some ⟨g, 0, none⟩)) rfl (by kernel_rfl) (by kernel_rfl) (by kernel_rfl) (fun _ _ _ h => h) (Or.inl ⟨by rfl, fun W hS => by go_simp⟩) hHeld7 ?_
  try simp only [Act.put]
  try simp only [List.setIfInBounds_toArray]
  try simp only [List.set_cons_succ]
  try simp only [List.set_cons_zero]
  refine wpAnyH_take (i := 10) (v := .pointer (some ⟨g, 12, none⟩)) rfl (by kernel_rfl) (by kernel_rfl) (by kernel_rfl) (fun _ _ _ h => h) (Or.inl ⟨by rfl, fun W hS => by go_simp⟩) hHeld7 ?_
  try simp only [Act.put]
  try simp only [List.setIfInBounds_toArray]
  try simp only [List.set_cons_succ]
  try simp only [List.set_cons_zero]
  refine wpAnyH_ready (rs := [11]) (by kernel_rfl) (by simp) ?_
  refine AllReadyH.cons rfl (fun KK hK => ?_) AllReadyH.nil
  go_simp
  refine hK.out _ _ (by rw [cell_set_ne (Ne.symm hne)]; exact f2) (fun _ => ?_)
  clear hK KK
  refine wpAnyH_done (by kernel_rfl) ?_ _
  obtain ⟨r8, k8, f8⟩ := RunAt.see (HR.out.below BW.out) (HOK.out.size BW.out.size) r.s.b HO7.out HM7.out
  have l0 : (w7.setCell ⟨g, 12, none⟩ (.slice S7 (x.sn + 1) c7)).cell? ⟨w.heap.size, 1, none⟩ = some (.int .i64 (ra : Int)) := ((HM7.out.blk (HK.out.below BW.out) hsv).beside (Ne.symm hne) 12 _).cell 1 _ rfl
  clear d2 d12 e2 e12 e12' e2' f2 g12 z12
  generalize w7.setCell ⟨g, 12, none⟩ (.slice S7 (x.sn + 1) c7) = w8 at *
  have R8 := Lib.hid (r8.below (Below.refl _ _).drew)
  have K8 := Lib.hid (k8.size (w' := w8.drew) (Nat.le_refl _))
  have F8 := Lib.hid (f8.trans (k8.fr (Below.refl _ _).drew))
  have l1 : w8.drew.cell? ⟨w.heap.size, 1, none⟩ = some (.int .i64 (ra : Int)) := l0
  have ly := R8.out.reg ra y HY.out
  have lz := R8.out.blk.frozen ra
  clear r8 k8 f8 l0
  go_wp2_with fail
  go_still_tail 8, (by kernel_rfl)
  go_wp2
  go_ret2
  exact HP.out _ _ _ BW.out R8.out K8.out F8.out
 · go_simp
  refine hK.out _ _ d2 (fun hHeldN => ?_)
  try simp only [Act.put]
  try simp only [List.setIfInBounds_toArray]
  try simp only [List.set_cons_succ]
  try simp only [List.set_cons_zero]
  clear hK KK
  refine wpAnyH_ready (rs := [7]) (by kernel_rfl) (by simp) ?_
  refine AllReadyH.cons rfl (fun KK hK => ?_) AllReadyH.nil
  go_simp
  refine hK.out _ _ e2' (fun hHeldM => ?_)
  try simp only [Act.put]
  try simp only [List.setIfInBounds_toArray]
  try simp only [List.set_cons_succ]
  try simp only [List.set_cons_zero]
  clear hK KK
  refine wpAnyH_ready (rs := [8]) (by kernel_rfl) (by simp) ?_
  refine AllReadyH.cons rfl (fun KK hK => ?_) AllReadyH.nil
  refine append_moved_step (by rfl) _ _ 27 (by rfl) Mem.tInt w0 x.sv x.sn (zs m.seen) (by rfl) (by rw [← hW]; exact (HR.out.below BW.out).seen) _ 1 1 [.int .i64 r.s.b] (by rfl) (by rw [← hW]; exact HRW.out) (one_cons rfl one_nil) (by omega) (by omega) (by decide) ?_
  rw [← hW]
  intro v7 w7 ho7 hm7
  obtain ⟨S7, c7, rfl, -⟩ := ho7.form
  have HO7 := Lib.hid ho7
  have HM7 := Lib.hid hm7
  have f2 : w7.cell? ⟨w.heap.size, 2, none⟩ = some (.int .i64 r.s.b) := (hm7.blk (HK.out.below BW.out) hsv).cell 2 _ rfl
  have k7 := hm7.blk (HR.out.below BW.out).blk HR.out.gs
  have g12 := k7.cell 12 x.sv (by rw [List.getElem?_toArray]; exact rc_tail HR.out.r8 4)
  have z12 := k7.frozen 12
  clear ho7 hm7 k7
  refine hK.out _ _ f2 (fun hHeld7 => ?_)
  try simp only [Act.put]
  try simp only [List.setIfInBounds_toArray]
  try simp only [List.set_cons_succ]
  try simp only [List.set_cons_zero]
  clear hK KK
  refine wpAnyH_take (i := 9) (v := .pointer (some ⟨g, 0, none⟩)) rfl (by kernel_rfl) (by kernel_rfl) (by kernel_rfl) (fun _ _ _ h => h) (Or.inl ⟨by rfl, fun W hS => by go_simp⟩) hHeld7 ?_
  try simp only [Act.put]
  try simp only [List.setIfInBounds_toArray]
  try simp only [List.set_cons_succ]
  try simp only [List.set_cons_zero]
  refine wpAnyH_take (i := 10) (v := .pointer (some ⟨g, 12, none⟩)) rfl (by kernel_rfl) (by kernel_rfl) (by kernel_rfl) (fun _ _ _ h => h) (Or.inl ⟨by rfl, fun W hS => by go_simp⟩) hHeld7 ?_
  try simp only [Act.put]
  try simp only [List.setIfInBounds_toArray]
  try simp only [List.set_cons_succ]
  try simp only [List.set_cons_zero]
  refine wpAnyH_ready (rs := [11]) (by kernel_rfl) (by simp) ?_
  refine AllReadyH.cons rfl (fun KK hK => ?_) AllReadyH.nil
  go_simp
  refine hK.out _ _ (by rw [cell_set_ne (Ne.symm hne)]; exact f2) (fun _ => ?_)
  clear hK KK
  refine wpAnyH_done (by kernel_rfl) ?_ _
  obtain ⟨r8, k8, f8⟩ := RunAt.see (HR.out.below BW.out) (HOK.out.size BW.out.size) r.s.b HO7.out HM7.out
  have l0 : (w7.setCell ⟨g, 12, none⟩ (.slice S7 (x.sn + 1) c7)).cell? ⟨w.heap.size, 1, none⟩ = some (.int .i64 (ra : Int)) := ((HM7.out.blk (HK.out.below BW.out) hsv).beside (Ne.symm hne) 12 _).cell 1 _ rfl
  clear d2 d12 e2 e12 e12' e2' f2 g12 z12
  generalize w7.setCell ⟨g, 12, none⟩ (.slice S7 (x.sn + 1) c7) = w8 at *
  have R8 := Lib.hid (r8.below (Below.refl _ _).drew)
  have K8 := Lib.hid (k8.size (w' := w8.drew) (Nat.le_refl _))
  have F8 := Lib.hid (f8.trans (k8.fr (Below.refl _ _).drew))
  have l1 : w8.drew.cell? ⟨w.heap.size, 1, none⟩ = some (.int .i64 (ra : Int)) := l0
  have ly := R8.out.reg ra y HY.out
  have lz := R8.out.blk.frozen ra
  clear r8 k8 f8 l0
  go_wp2_with fail
  go_still_tail 8, (by kernel_rfl)
  go_wp2
  go_ret2
  exact HP.out _ _ _ BW.out R8.out K8.out F8.out
end
end Go.Proofs.YtclbeboiojgejaaGreat.Model

namespace Go.Proofs.YtclbeboiojgejaaGreat.Model
open Go.ChangeShapes Go.WideShapes Go.ChangeAt Go.RowKit Mem Go.Proofs.YtclbeboiojgejaaGreat.Code

section
variable {K : Nat → Nat → Prop} {w0 w : World} {g : Nat} {HA : Option Addr} {hn hc : Nat} {h : List Heap.Cell} {m : CS} {x : RL} {rest : List Raw} {B : Option Addr} {rn rc e : Nat}
set_option maxRecDepth 100000 in
theorem store_bad {r : Raw} (hd : r.s.d = 3) (hl : Heap.liveAt h r.s.a = false) (p : Pre K w0 w g HA hn hc h m x r rest B rn rc e) :
  Calls Tryz.prog 135 #[.pointer (some ⟨g, 0, none⟩), .agg #[.int .i64 r.s.d, .int .i64 r.s.a, .int .i64 r.s.b, .slice r.T r.n r.c], .slice B rn rc] w (DoPost K w0 w g (.slice HA hn hc) h m r rest e) := by
 obtain ⟨w1, hw1⟩ : ∃ w1, w1 = w.alloc (.cells #[.int .i64 r.s.d, .int .i64 r.s.a, .int .i64 r.s.b, .slice r.T r.n r.c] 82) := ⟨_, rfl⟩
 have hb : Below w.heap.size w w1 := by rw [hw1]; exact bl_alloc (Below.refl _ _) _
 have HK : Hid (Blk w1 w.heap.size 82 #[.int .i64 r.s.d, .int .i64 r.s.a, .int .i64 r.s.b, .slice r.T r.n r.c]) := Lib.hid (by rw [hw1]; exact Blk.new _ _ _)
 have hr := p.run.below hb
 have HR := Lib.hid hr
 have hk := p.ok.size hb.size
 have hg : Heap.getS h r.s.a = (0, 3) := by rw [p.good.get, hl]; rfl
 have HP : Hid (∀ w' w2, Below w1.heap.size w1 w2 → Kept K w0 w2 w' g (.slice HA hn hc) (whyC m r.s.a) → DoPost K w0 w g (.slice HA hn hc) h m r rest e (.returned (.tuple #[.slice none 0 0, .int .i64 4])) w') := Lib.hid (fun w' w2 hb2 hkp => by
  obtain ⟨x', k1, k2, k3⟩ := hkp
  refine ⟨4, [], none, 0, 0, whyC m r.s.a, rfl, ⟨x', k1, k2, ((p.ok.fr hb).trans (hk.fr hb2)).trans k3⟩, .inr ⟨by decide, (p.good.weak e (by omega)).why_ _, ?_⟩⟩
  rw [part_store _ _ _ hd, p.good.liveAll r.s.a 0, hl]; rfl)
 have HC : Hid (∀ W, Below w1.heap.size w1 W → Calls Tryz.prog 66 #[.slice HA hn hc, .int .i64 r.s.a] W fun e w' => e = .returned (.tuple #[.int .i64 0, .int .i64 3]) ∧ Below w1.heap.size w1 w') :=
  Lib.hid (fun W hW => by
   have hr2 := hr.below hW
   refine (Heap.get_c h HA hn hc r.s.a W (0, 3) (p.heap.below hr2.bel) (by have := p.hn; omega) hg).mono ?_
   rintro e w' ⟨h1, h2⟩
   exact ⟨h1, bl_trans hW h2⟩)
 have HD : Hid (∀ W, Below w1.heap.size w1 W → Calls Tryz.prog 163 #[.pointer (some ⟨g, 0, none⟩), .int .i64 r.s.a] W fun en w' => en = .returned (.tuple #[.slice none 0 0, .int .i64 4]) ∧ Kept K w0 W w' g (.slice HA hn hc) (whyC m r.s.a)) :=
  Lib.hid (fun W hW => bad_c r.s.a (hr.below hW) (hk.size hW.size))
 have q2 := HK.out.cell 1 _ rfl
 have q11 := hr.at8.2.2.2.1
 have BD : Hid (Below w1.heap.size w1 w1.drew) := Lib.hid (Below.refl _ _).drew
 clear hd hr hk hb p hl hg
 go_enter Tryz.func135, Tryz.ntmps135
 go_wp2_with fail
 rw [← hw1]
 clear hw1
 have i0 : w1.drew.cell? ⟨w.heap.size, 1, none⟩ = some (.int .i64 r.s.a) := q2
 have i1 : w1.drew.cell? ⟨g, 11, none⟩ = some (.slice HA hn hc) := q11
 go_region_held3 (fun w' => w'.cell? ⟨w.heap.size, 1, none⟩ = some (.int .i64 r.s.a) ∧ w'.cell? ⟨g, 11, none⟩ = some (.slice HA hn hc))
  (first | exact ⟨a0, a1⟩ | exact ⟨i0, i1⟩ | go_keep)
  ((go_at_call 66
   refine (HC.out _ BD.out).mono ?_
   rintro e w5 ⟨rfl, o5⟩
   have BA := Lib.hid o5
   have a0 := (HK.out.below BA.out).cell 1 _ rfl
   have a1 := (HR.out.below BA.out).at8.2.2.2.1
   clear o5))
 go_wp2_with fail
 refine (HD.out _ BA.out).mono ?_
 rintro e w6 ⟨rfl, o6⟩
 go_wp2
 go_ret2
 exact HP.out _ _ BA.out o6
theorem one_store (s : Step) (h : oneB s = true) (hd : s.d = 3) : 0 ≤ s.a ∧ s.a ≤ 63 := by
 unfold oneB at h
 rw [if_neg (by omega), if_neg (by omega), if_pos hd] at h
 simp at h; omega
set_option maxRecDepth 100000 in
set_option maxHeartbeats 2000000 in
theorem store_c {r : Raw} (hd : r.s.d = 3) (hl : Heap.liveAt h r.s.a = true) (p : Pre K w0 w g HA hn hc h m x r rest B rn rc e) :
  Calls Tryz.prog 135 #[.pointer (some ⟨g, 0, none⟩), .agg #[.int .i64 r.s.d, .int .i64 r.s.a, .int .i64 r.s.b, .slice r.T r.n r.c], .slice B rn rc] w (DoPost K w0 w g (.slice HA hn hc) h m r rest e) := by
 obtain ⟨a0, a63⟩ := one_store r.s p.one hd
 obtain ⟨w1, hw1⟩ : ∃ w1, w1 = w.alloc (.cells #[.int .i64 r.s.d, .int .i64 r.s.a, .int .i64 r.s.b, .slice r.T r.n r.c] 82) := ⟨_, rfl⟩
 have hb : Below w.heap.size w w1 := by rw [hw1]; exact bl_alloc (Below.refl _ _) _
 have HK : Hid (Blk w1 w.heap.size 82 #[.int .i64 r.s.d, .int .i64 r.s.a, .int .i64 r.s.b, .slice r.T r.n r.c]) := Lib.hid (by rw [hw1]; exact Blk.new _ _ _)
 have hr := p.run.below hb
 have HR := Lib.hid hr
 have hk := p.ok.size hb.size
 have HOK := Lib.hid hk
 obtain ⟨u, hu⟩ : ∃ u, Heap.valAt h r.s.a = u := ⟨_, rfl⟩
 have hg : Heap.getS h r.s.a = (u, 0) := by rw [p.good.get, hl, if_pos rfl, hu]
 obtain ⟨v, hv⟩ : ∃ v, Term.evalS r.s.t h m.regs = v := ⟨_, rfl⟩
 have htell : tellM (abs h m 0) r.s.t = v.1 := by rw [p.good.tell r.s.t (one_reck r.s p.one (.inr (.inl hd))) 0, hv]
 have hvb : Heap.vB v.1 = true := by rw [← htell]; exact tell_v _ _
 have hput : Writes.putS ⟨m.log, []⟩ ⟨r.s.a, v.1⟩ = (⟨m.log ++ [⟨r.s.a, v.1⟩], []⟩, 0) := by
  refine Writes.put_new _ _ ?_ (by show m.log.length ≠ 24; have := p.good.cnt; omega)
  rw [p.good.log, Bool.true_and]
  unfold Writes.oneB
  rw [decide_eq_true a0, hvb]; rfl
 have htn := p.tn (.inr (.inl hd))
 have HP : Hid (∀ W w8 x8, Below w1.heap.size w1 W → RunAt w0 w8 g (.slice HA hn hc) { m with log := m.log ++ [⟨r.s.a, v.1⟩] } x8 → KOK K w8 g x8 → Fr K W w8 → DoPost K w0 w g (.slice HA hn hc) h m r rest e (.returned (.tuple #[.slice B rn rc, .int .i64 1])) w8) := Lib.hid (fun W w8 x8 hb' hr8 hk8 hf8 => by
  refine ⟨1, rest, B, rn, rc, storeC m r.s.a v.1, rfl, ⟨x8, hr8, hk8, ((p.ok.fr hb).trans (hk.fr hb')).trans hf8⟩, .inl ⟨rfl, p.more, p.cap, p.rcc, p.all, p.tail, Nat.le_refl _, p.good.store_ _ _ hl hvb, p.why, ?_⟩⟩
  rw [part_store _ _ _ hd, p.good.liveAll r.s.a 0, hl, if_pos rfl, htell, store_abs _ _ _ a0])
 have HC : Hid (∀ W, Below w1.heap.size w1 W → Calls Tryz.prog 66 #[.slice HA hn hc, .int .i64 r.s.a] W fun e w' => e = .returned (.tuple #[.int .i64 u, .int .i64 0]) ∧ Below w1.heap.size w1 w') :=
  Lib.hid (fun W hW => by
   have hr2 := hr.below hW
   refine (Heap.get_c h HA hn hc r.s.a W (u, 0) (p.heap.below hr2.bel) (by have := p.hn; omega) hg).mono ?_
   rintro e w' ⟨h1, h2⟩
   exact ⟨h1, bl_trans hW h2⟩)
 have HT : Hid (∀ W, Below w1.heap.size w1 W → Calls Tryz.prog 164 #[.pointer (some ⟨g, 0, none⟩), .agg #[.int .i64 r.s.d, .int .i64 r.s.a, .int .i64 r.s.b, .slice r.T r.n r.c]] W fun e w' => e = .returned (.int .i64 v.1) ∧ Below w1.heap.size w1 w') :=
  Lib.hid (fun W hW => by
   have hr2 := hr.below hW
   refine (told_c r.s.t r.T r.n r.c r.s.d r.s.a r.s.b h HA hn hc g w0 W m x v hr2 (p.heap.below hr2.bel) (p.term.below hr2.bel) htn (by have := p.hn; omega) hv).mono ?_
   rintro e w' ⟨h1, h2⟩
   exact ⟨h1, bl_trans hW h2⟩)
 have HD : Hid (∀ W, Below w1.heap.size w1 W → Calls Tryz.prog 120 #[.agg #[.slice x.L x.ln x.lc, .slice x.M 0 x.mc], .agg #[.int .i64 r.s.a, .int .i64 v.1]] W (Writes.RetLP W (x.ln + 1) 0 ⟨m.log ++ [⟨r.s.a, v.1⟩], []⟩ 0)) :=
  Lib.hid (fun W hW => by
   exact Writes.put_p ⟨m.log, []⟩ x.L x.M x.ln x.lc 0 x.mc r.s.a v.1 W (⟨m.log ++ [⟨r.s.a, v.1⟩], []⟩, 0) (x.ln + 1) 0 (hr.below hW).logat (by have := p.good.cnt; have := hr.lens.1; omega) (by omega) hput (by show (m.log ++ [_]).length = _; rw [List.length_append, List.length_singleton, hr.lens.1]) rfl)
 have HQ : Hid (∀ W, Below w1.heap.size w1 W → W.cell? ⟨g, 9, none⟩ = some (.slice x.L x.ln x.lc) ∧ W.cell? ⟨g, 10, none⟩ = some (.slice x.M 0 x.mc)) := Lib.hid (fun W hW => ⟨(hr.below hW).at8.2.1, (hr.below hW).at8.2.2.1⟩)
 have q1 := HK.out.cell 1 _ rfl
 have q11 := hr.at8.2.2.2.1
 have BD : Hid (Below w1.heap.size w1 w1.drew) := Lib.hid (Below.refl _ _).drew
 have hne : w.heap.size ≠ g := blk_ne HK.out hr.blk (by decide)
 clear hd hr hk hb p hl hg hv a0 a63 hu htell hvb hput htn
 go_enter Tryz.func135, Tryz.ntmps135
 go_wp2_with fail
 rw [← hw1]
 clear hw1
 have i0 : w1.drew.cell? ⟨w.heap.size, 1, none⟩ = some (.int .i64 r.s.a) := q1
 have i1 : w1.drew.cell? ⟨g, 11, none⟩ = some (.slice HA hn hc) := q11
 go_region_held3 (fun w' => w'.cell? ⟨w.heap.size, 1, none⟩ = some (.int .i64 r.s.a) ∧ w'.cell? ⟨g, 11, none⟩ = some (.slice HA hn hc))
  (first | exact ⟨a0, a1⟩ | exact ⟨i0, i1⟩ | go_keep)
  ((go_at_call 66
   refine (HC.out _ BD.out).mono ?_
   rintro e w5 ⟨rfl, o5⟩
   have BA := Lib.hid o5
   have a0 := (HK.out.below BA.out).cell 1 _ rfl
   have a1 := (HR.out.below BA.out).at8.2.2.2.1
   clear o5))
 have BE : Hid (Below w1.heap.size w1 w5.drew) := Lib.hid BA.out.drew
 have b0 : w5.drew.cell? ⟨w.heap.size, 0, none⟩ = some (.int .i64 r.s.d) := (HK.out.below BE.out).cell 0 _ rfl
 have b1 : w5.drew.cell? ⟨w.heap.size, 1, none⟩ = some (.int .i64 r.s.a) := (HK.out.below BE.out).cell 1 _ rfl
 have b2 : w5.drew.cell? ⟨w.heap.size, 2, none⟩ = some (.int .i64 r.s.b) := (HK.out.below BE.out).cell 2 _ rfl
 have b3 : w5.drew.cell? ⟨w.heap.size, 3, none⟩ = some (.slice r.T r.n r.c) := (HK.out.below BE.out).cell 3 _ rfl
 obtain ⟨j1, j2⟩ := HQ.out _ BE.out
 clear i0 i1 a0 a1
 go_wp2_with fail
 refine wp_region_held_drew (S := fun (W : World) => W.cell? ⟨w.heap.size, 0, none⟩ = some (.int .i64 r.s.d) ∧ W.cell? ⟨w.heap.size, 1, none⟩ = some (.int .i64 r.s.a) ∧ W.cell? ⟨w.heap.size, 2, none⟩ = some (.int .i64 r.s.b) ∧ W.cell? ⟨w.heap.size, 3, none⟩ = some (.slice r.T r.n r.c)) (by kernel_rfl) ⟨b0, b1, b2, b3⟩ (fun hHeld => ?_)
 refine wpAnyH_take (i := 0) (v := .pointer (some ⟨g, 0, none⟩)) rfl (by kernel_rfl) (by kernel_rfl) (by kernel_rfl) (fun _ _ _ h => h) (Or.inl ⟨by rfl, fun W hS => by go_simp⟩) hHeld ?_
 try simp only [Act.put]
 try simp only [List.setIfInBounds_toArray]
 try simp only [List.set_cons_succ]
 try simp only [List.set_cons_zero]
 refine wpAnyH_take (i := 1) (v := .pointer (some ⟨g, 0, none⟩)) rfl (by kernel_rfl) (by kernel_rfl) (by kernel_rfl) (fun _ _ _ h => h) (Or.inl ⟨by rfl, fun W hS => by go_simp⟩) hHeld ?_
 try simp only [Act.put]
 try simp only [List.setIfInBounds_toArray]
 try simp only [List.set_cons_succ]
 try simp only [List.set_cons_zero]
 refine wpAnyH_take (i := 2) (v := .pointer (some ⟨g, 0, none⟩)) rfl (by kernel_rfl) (by kernel_rfl) (by kernel_rfl) (fun _ _ _ h => h) (Or.inl ⟨by rfl, fun W hS => by go_simp⟩) hHeld ?_
 try simp only [Act.put]
 try simp only [List.setIfInBounds_toArray]
 try simp only [List.set_cons_succ]
 try simp only [List.set_cons_zero]
 refine wpAnyH_take (i := 3) (v := .pointer (some ⟨g, 0, none⟩)) rfl (by kernel_rfl) (by kernel_rfl) (by kernel_rfl) (fun _ _ _ h => h) (Or.inl ⟨by rfl, fun W hS => by go_simp⟩) hHeld ?_
 try simp only [Act.put]
 try simp only [List.setIfInBounds_toArray]
 try simp only [List.set_cons_succ]
 try simp only [List.set_cons_zero]
 refine wpAnyH_take (i := 4) (v := .pointer (some ⟨g, 9, none⟩)) rfl (by kernel_rfl) (by kernel_rfl) (by kernel_rfl) (fun _ _ _ h => h) (Or.inl ⟨by rfl, fun W hS => by go_simp⟩) hHeld ?_
 try simp only [Act.put]
 try simp only [List.setIfInBounds_toArray]
 try simp only [List.set_cons_succ]
 try simp only [List.set_cons_zero]
 refine wpAnyH_take (i := 6) (v := .pointer (some ⟨w.heap.size, 1, none⟩)) rfl (by kernel_rfl) (by kernel_rfl) (by kernel_rfl) (fun _ _ _ h => h) (Or.inl ⟨by rfl, fun W hS => by go_simp⟩) hHeld ?_
 try simp only [Act.put]
 try simp only [List.setIfInBounds_toArray]
 try simp only [List.set_cons_succ]
 try simp only [List.set_cons_zero]
 refine wpAnyH_take (i := 7) (v := .int .i64 r.s.a) rfl (by kernel_rfl) (by kernel_rfl) (by kernel_rfl) (fun _ _ _ h => h) (Or.inl ⟨by rfl, fun W hS => by have k1 := hS.2.1; go_simp⟩) hHeld ?_
 try simp only [Act.put]
 try simp only [List.setIfInBounds_toArray]
 try simp only [List.set_cons_succ]
 try simp only [List.set_cons_zero]
 refine wpAnyH_take (i := 8) (v := .pointer (some ⟨g, 0, none⟩)) rfl (by kernel_rfl) (by kernel_rfl) (by kernel_rfl) (fun _ _ _ h => h) (Or.inl ⟨by rfl, fun W hS => by go_simp⟩) hHeld ?_
 try simp only [Act.put]
 try simp only [List.setIfInBounds_toArray]
 try simp only [List.set_cons_succ]
 try simp only [List.set_cons_zero]
 refine wpAnyH_take (i := 9) (v := .agg #[.int .i64 r.s.d, .int .i64 r.s.a, .int .i64 r.s.b, .slice r.T r.n r.c]) rfl (by kernel_rfl) (by kernel_rfl) (by kernel_rfl) (fun _ _ _ h => h) (Or.inl ⟨by rfl, fun W hS => by obtain ⟨k0, k1, k2, k3⟩ := hS; go_simp⟩) hHeld ?_
 try simp only [Act.put]
 try simp only [List.setIfInBounds_toArray]
 try simp only [List.set_cons_succ]
 try simp only [List.set_cons_zero]
 refine wpAnyH_ready (rs := [5, 10]) (by kernel_rfl) (by simp) ?_
 refine AllReadyH.cons rfl (fun KK hK => ?_) (AllReadyH.cons rfl (fun KK hK => ?_) AllReadyH.nil)
 · go_simp
  refine hK.out _ _ ⟨b0, b1, b2, b3⟩ (fun hHeld5 => ?_)
  try simp only [Act.put]
  try simp only [List.setIfInBounds_toArray]
  try simp only [List.set_cons_succ]
  try simp only [List.set_cons_zero]
  clear hK KK
  refine wpAnyH_ready (rs := [10]) (by kernel_rfl) (by simp) ?_
  refine AllReadyH.cons rfl (fun KK hK => ?_) AllReadyH.nil
  refine calls_step (by rfl) 164 #[.pointer (some ⟨g, 0, none⟩), .agg #[.int .i64 r.s.d, .int .i64 r.s.a, .int .i64 r.s.b, .slice r.T r.n r.c]] (.int .i64 v.1) (fun w' => Below w1.heap.size w1 w') (HT.out _ BE.out) ?_ ?_
  · focus (go_simp; done)
  intro w6 o6
  have BF := Lib.hid o6
  have c0 := (HK.out.below BF.out).cell 0 _ rfl
  have c1 := (HK.out.below BF.out).cell 1 _ rfl
  have c2 := (HK.out.below BF.out).cell 2 _ rfl
  have c3 := (HK.out.below BF.out).cell 3 _ rfl
  obtain ⟨k1, k2⟩ := HQ.out _ BF.out
  clear o6
  refine hK.out _ _ ⟨c0, c1, c2, c3⟩ (fun hHeld6 => ?_)
  try simp only [Act.put]
  try simp only [List.setIfInBounds_toArray]
  try simp only [List.set_cons_succ]
  try simp only [List.set_cons_zero]
  clear hK KK
  refine wpAnyH_take (i := 11) (v := .agg #[.int .i64 r.s.a, .int .i64 v.1]) rfl (by kernel_rfl) (by kernel_rfl) (by kernel_rfl) (fun _ _ _ h => h) (Or.inl ⟨by rfl, fun W hS => by go_simp⟩) hHeld6 ?_
  try simp only [Act.put]
  try simp only [List.setIfInBounds_toArray]
  try simp only [List.set_cons_succ]
  try simp only [List.set_cons_zero]
  refine wpAnyH_ready (rs := [12]) (by kernel_rfl) (by simp) ?_
  refine AllReadyH.cons rfl (fun KK hK => ?_) AllReadyH.nil
  refine calls_step2 (by rfl) 120 #[.agg #[.slice x.L x.ln x.lc, .slice x.M 0 x.mc], .agg #[.int .i64 r.s.a, .int .i64 v.1]] _ (HD.out _ BF.out) ?_ ?_
  · focus (go_simp; done)
  rintro e w7 ⟨A7, c7, B7, d7, rfl, o7⟩
  refine ⟨_, rfl, ?_⟩
  have O7 := Lib.hid o7
  have e0 := (HK.out.below (bl_trans BF.out o7.ol.2)).cell 0 _ rfl
  have e1 := (HK.out.below (bl_trans BF.out o7.ol.2)).cell 1 _ rfl
  have e2 := (HK.out.below (bl_trans BF.out o7.ol.2)).cell 2 _ rfl
  have e3 := (HK.out.below (bl_trans BF.out o7.ol.2)).cell 3 _ rfl
  obtain ⟨l1, l2⟩ := HQ.out _ (bl_trans BF.out o7.ol.2)
  have lz := (HR.out.below (bl_trans BF.out o7.ol.2)).blk.frozen
  clear o7
  refine hK.out _ _ ⟨e0, e1, e2, e3⟩ (fun hHeld7 => ?_)
  try simp only [Act.put]
  try simp only [List.setIfInBounds_toArray]
  try simp only [List.set_cons_succ]
  try simp only [List.set_cons_zero]
  clear hK KK
  refine wpAnyH_take (i := 13) (v := .tuple #[.agg #[.slice A7 (x.ln + 1) c7, .slice B7 0 d7], .int .i64 0]) rfl (by kernel_rfl) (by kernel_rfl) (by kernel_rfl) (fun _ _ _ h => h) (Or.inl ⟨by rfl, fun W hS => by go_simp⟩) hHeld7 ?_
  try simp only [Act.put]
  try simp only [List.setIfInBounds_toArray]
  try simp only [List.set_cons_succ]
  try simp only [List.set_cons_zero]
  refine wpAnyH_take (i := 14) (v := .agg #[.slice A7 (x.ln + 1) c7, .slice B7 0 d7]) rfl (by kernel_rfl) (by kernel_rfl) (by kernel_rfl) (fun _ _ _ h => h) (Or.inl ⟨by rfl, fun W hS => by go_simp⟩) hHeld7 ?_
  try simp only [Act.put]
  try simp only [List.setIfInBounds_toArray]
  try simp only [List.set_cons_succ]
  try simp only [List.set_cons_zero]
  refine wpAnyH_take (i := 15) (v := .int .i64 0) rfl (by kernel_rfl) (by kernel_rfl) (by kernel_rfl) (fun _ _ _ h => h) (Or.inl ⟨by rfl, fun W hS => by go_simp⟩) hHeld7 ?_
  try simp only [Act.put]
  try simp only [List.setIfInBounds_toArray]
  try simp only [List.set_cons_succ]
  try simp only [List.set_cons_zero]
  refine wpAnyH_take (i := 16) (v := .pointer (some ⟨g, 0, none⟩)) rfl (by kernel_rfl) (by kernel_rfl) (by kernel_rfl) (fun _ _ _ h => h) (Or.inl ⟨by rfl, fun W hS => by go_simp⟩) hHeld7 ?_
  try simp only [Act.put]
  try simp only [List.setIfInBounds_toArray]
  try simp only [List.set_cons_succ]
  try simp only [List.set_cons_zero]
  refine wpAnyH_take (i := 17) (v := .pointer (some ⟨g, 0, none⟩)) rfl (by kernel_rfl) (by kernel_rfl) (by kernel_rfl) (fun _ _ _ h => h) (Or.inl ⟨by rfl, fun W hS => by go_simp⟩) hHeld7 ?_
  try simp only [Act.put]
  try simp only [List.setIfInBounds_toArray]
  try simp only [List.set_cons_succ]
  try simp only [List.set_cons_zero]
  refine wpAnyH_take (i := 18) (v := .pointer (some ⟨g, 9, none⟩)) rfl (by kernel_rfl) (by kernel_rfl) (by kernel_rfl) (fun _ _ _ h => h) (Or.inl ⟨by rfl, fun W hS => by go_simp⟩) hHeld7 ?_
  try simp only [Act.put]
  try simp only [List.setIfInBounds_toArray]
  try simp only [List.set_cons_succ]
  try simp only [List.set_cons_zero]
  refine wpAnyH_ready (rs := [19]) (by kernel_rfl) (by simp) ?_
  refine AllReadyH.cons rfl (fun KK hK => ?_) AllReadyH.nil
  go_simp
  refine hK.out _ _ ⟨?_, ?_, ?_, ?_⟩ (fun _ => ?_)
  iterate 4 (rotate_left)
  · clear hK KK
   refine wpAnyH_done (by kernel_rfl) ?_ _
   obtain ⟨r8, k8, f8⟩ := RunAt.note (L' := A7) (M' := B7) (ln' := x.ln + 1) (lc' := c7) (mc' := d7) (HR.out.below BF.out) (HOK.out.size BF.out.size) O7.out.ol
   go_wp2
   go_ret2
   exact HP.out _ _ _ BF.out r8 k8 f8
  all_goals (rw [cell_set_ne (Ne.symm hne), cell_set_ne (Ne.symm hne)]; assumption)
 · refine calls_step (by rfl) 164 #[.pointer (some ⟨g, 0, none⟩), .agg #[.int .i64 r.s.d, .int .i64 r.s.a, .int .i64 r.s.b, .slice r.T r.n r.c]] (.int .i64 v.1) (fun w' => Below w1.heap.size w1 w') (HT.out _ BE.out) ?_ ?_
  · focus (go_simp; done)
  intro w6 o6
  have BF := Lib.hid o6
  have c0 := (HK.out.below BF.out).cell 0 _ rfl
  have c1 := (HK.out.below BF.out).cell 1 _ rfl
  have c2 := (HK.out.below BF.out).cell 2 _ rfl
  have c3 := (HK.out.below BF.out).cell 3 _ rfl
  obtain ⟨k1, k2⟩ := HQ.out _ BF.out
  clear o6
  refine hK.out _ _ ⟨c0, c1, c2, c3⟩ (fun hHeld6 => ?_)
  try simp only [Act.put]
  try simp only [List.setIfInBounds_toArray]
  try simp only [List.set_cons_succ]
  try simp only [List.set_cons_zero]
  clear hK KK
  refine wpAnyH_take (i := 11) (v := .agg #[.int .i64 r.s.a, .int .i64 v.1]) rfl (by kernel_rfl) (by kernel_rfl) (by kernel_rfl) (fun _ _ _ h => h) (Or.inl ⟨by rfl, fun W hS => by go_simp⟩) hHeld6 ?_
  try simp only [Act.put]
  try simp only [List.setIfInBounds_toArray]
  try simp only [List.set_cons_succ]
  try simp only [List.set_cons_zero]
  refine wpAnyH_ready (rs := [5]) (by kernel_rfl) (by simp) ?_
  refine AllReadyH.cons rfl (fun KK hK => ?_) AllReadyH.nil
  go_simp
  refine hK.out _ _ ⟨c0, c1, c2, c3⟩ (fun hHeld8 => ?_)
  try simp only [Act.put]
  try simp only [List.setIfInBounds_toArray]
  try simp only [List.set_cons_succ]
  try simp only [List.set_cons_zero]
  clear hK KK
  refine wpAnyH_ready (rs := [12]) (by kernel_rfl) (by simp) ?_
  refine AllReadyH.cons rfl (fun KK hK => ?_) AllReadyH.nil
  refine calls_step2 (by rfl) 120 #[.agg #[.slice x.L x.ln x.lc, .slice x.M 0 x.mc], .agg #[.int .i64 r.s.a, .int .i64 v.1]] _ (HD.out _ BF.out) ?_ ?_
  · focus (go_simp; done)
  rintro e w7 ⟨A7, c7, B7, d7, rfl, o7⟩
  refine ⟨_, rfl, ?_⟩
  have O7 := Lib.hid o7
  have e0 := (HK.out.below (bl_trans BF.out o7.ol.2)).cell 0 _ rfl
  have e1 := (HK.out.below (bl_trans BF.out o7.ol.2)).cell 1 _ rfl
  have e2 := (HK.out.below (bl_trans BF.out o7.ol.2)).cell 2 _ rfl
  have e3 := (HK.out.below (bl_trans BF.out o7.ol.2)).cell 3 _ rfl
  obtain ⟨l1, l2⟩ := HQ.out _ (bl_trans BF.out o7.ol.2)
  have lz := (HR.out.below (bl_trans BF.out o7.ol.2)).blk.frozen
  clear o7
  refine hK.out _ _ ⟨e0, e1, e2, e3⟩ (fun hHeld7 => ?_)
  try simp only [Act.put]
  try simp only [List.setIfInBounds_toArray]
  try simp only [List.set_cons_succ]
  try simp only [List.set_cons_zero]
  clear hK KK
  refine wpAnyH_take (i := 13) (v := .tuple #[.agg #[.slice A7 (x.ln + 1) c7, .slice B7 0 d7], .int .i64 0]) rfl (by kernel_rfl) (by kernel_rfl) (by kernel_rfl) (fun _ _ _ h => h) (Or.inl ⟨by rfl, fun W hS => by go_simp⟩) hHeld7 ?_
  try simp only [Act.put]
  try simp only [List.setIfInBounds_toArray]
  try simp only [List.set_cons_succ]
  try simp only [List.set_cons_zero]
  refine wpAnyH_take (i := 14) (v := .agg #[.slice A7 (x.ln + 1) c7, .slice B7 0 d7]) rfl (by kernel_rfl) (by kernel_rfl) (by kernel_rfl) (fun _ _ _ h => h) (Or.inl ⟨by rfl, fun W hS => by go_simp⟩) hHeld7 ?_
  try simp only [Act.put]
  try simp only [List.setIfInBounds_toArray]
  try simp only [List.set_cons_succ]
  try simp only [List.set_cons_zero]
  refine wpAnyH_take (i := 15) (v := .int .i64 0) rfl (by kernel_rfl) (by kernel_rfl) (by kernel_rfl) (fun _ _ _ h => h) (Or.inl ⟨by rfl, fun W hS => by go_simp⟩) hHeld7 ?_
  try simp only [Act.put]
  try simp only [List.setIfInBounds_toArray]
  try simp only [List.set_cons_succ]
  try simp only [List.set_cons_zero]
  refine wpAnyH_take (i := 16) (v := .pointer (some ⟨g, 0, none⟩)) rfl (by kernel_rfl) (by kernel_rfl) (by kernel_rfl) (fun _ _ _ h => h) (Or.inl ⟨by rfl, fun W hS => by go_simp⟩) hHeld7 ?_
  try simp only [Act.put]
  try simp only [List.setIfInBounds_toArray]
  try simp only [List.set_cons_succ]
  try simp only [List.set_cons_zero]
  refine wpAnyH_take (i := 17) (v := .pointer (some ⟨g, 0, none⟩)) rfl (by kernel_rfl) (by kernel_rfl) (by kernel_rfl) (fun _ _ _ h => h) (Or.inl ⟨by rfl, fun W hS => by go_simp⟩) hHeld7 ?_
  try simp only [Act.put]
  try simp only [List.setIfInBounds_toArray]
  try simp only [List.set_cons_succ]
  try simp only [List.set_cons_zero]
  refine wpAnyH_take (i := 18) (v := .pointer (some ⟨g, 9, none⟩)) rfl (by kernel_rfl) (by kernel_rfl) (by kernel_rfl) (fun _ _ _ h => h) (Or.inl ⟨by rfl, fun W hS => by go_simp⟩) hHeld7 ?_
  try simp only [Act.put]
  try simp only [List.setIfInBounds_toArray]
  try simp only [List.set_cons_succ]
  try simp only [List.set_cons_zero]
  refine wpAnyH_ready (rs := [19]) (by kernel_rfl) (by simp) ?_
  refine AllReadyH.cons rfl (fun KK hK => ?_) AllReadyH.nil
  go_simp
  refine hK.out _ _ ⟨?_, ?_, ?_, ?_⟩ (fun _ => ?_)
  iterate 4 (rotate_left)
  · clear hK KK
   refine wpAnyH_done (by kernel_rfl) ?_ _
   obtain ⟨r8, k8, f8⟩ := RunAt.note (L' := A7) (M' := B7) (ln' := x.ln + 1) (lc' := c7) (mc' := d7) (HR.out.below BF.out) (HOK.out.size BF.out.size) O7.out.ol
   go_wp2
   go_ret2
   exact HP.out _ _ _ BF.out r8 k8 f8
  all_goals (rw [cell_set_ne (Ne.symm hne), cell_set_ne (Ne.symm hne)]; assumption)
end
end Go.Proofs.YtclbeboiojgejaaGreat.Model
