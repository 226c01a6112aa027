/-
  WHAT THE LAYER model DOES, AS IT IS WRITTEN: Set, Skip, Retry, Fail, and how a run ends as Bad. No conditions beyond those that each theorem states.
-/
import Derived.Test.YtlmkhnjdifamgaaModelDo
namespace Go.Proofs.Ytlmkhnjdifamgaa.Model
open Go.ChangeShapes Go.WideShapes Go.ChangeAt Go.RowKit Mem Go.Proofs.Ytlmkhnjdifamgaa.Code

/-- A run that has gone on. -/
def Kept (K : Nat → Nat → Prop) (w0 w w' : World) (g : Nat) (H : Value) (m' : CS) : Prop := ∃ x', RunAt w0 w' g H m' x' ∧ KOK K w' g x' ∧ Fr K w w'
/-- A step that is run, and the rest of its part. -/
structure Pre (K : Nat → Nat → Prop) (w0 w : World) (g : Nat) (HA : Option Addr) (hn hc : Nat) (h : List Heap.Cell) (m : CS) (x : RL) (r : Raw) (rest : List Raw) (B : Option Addr) (rn rc e : Nat) : Prop where
  run : RunAt w0 w g (.slice HA hn hc) m x
  ok : KOK K w g x
  heap : Rd w0 2 HA hn (Heap.cs h)
  hn : hn ≤ 64
  term : Rd w0 2 r.T r.n (Term.ops r.s.t)
  one : oneB r.s = true
  more : At w0 B rn rest
  cap : rn ≤ rc
  rn : rn ≤ 24
  rcc : rc ≤ 9223372036854775807
  all : (ss rest).all oneB = true
  well : (wellP (r.s :: ss rest)).2 = true
  good : Good h m (rest.length + e + 1)
  why : m.why = 0
/-- What a step of a part answers: what of the part is left, and how it has ended. -/
def DoPost (K : Nat → Nat → Prop) (w0 w : World) (g : Nat) (H : Value) (h : List Heap.Cell) (m : CS) (r : Raw) (rest : List Raw) (e : Nat) (en : Ending) (w' : World) : Prop :=
  ∃ (k : Int) (left : List Raw) (LB : Option Addr) (ln lc : Nat) (m' : CS), en = .returned (.tuple #[.slice LB ln lc, .int .i64 k]) ∧ Kept K w0 w w' g H m' ∧
    ((k = 1 ∧ At w0 LB ln left ∧ ln ≤ lc ∧ lc ≤ 9223372036854775807 ∧ (ss left).all oneB = true ∧ (wellP (ss left)).2 = true ∧ left.length ≤ rest.length ∧ Good h m' (left.length + e) ∧ m'.why = 0 ∧ part (r.s :: ss rest) (abs h m 0) = part (ss left) (abs h m' 0)) ∨
     (k ≠ 1 ∧ Good h m' e ∧ part (r.s :: ss rest) (abs h m 0) = abs h m' k))
theorem check_len (t : List Term.Op) (h : reckonsB t = true) : t.length ≤ 12 := by
  have h2 := (reck_kind t h).1
  obtain ⟨_, h3, _⟩ := Term.check_ok t h2
  omega
section
variable {K : Nat → Nat → Prop} {w0 w : World} {g : Nat} {HA : Option Addr} {hn hc : Nat} {h : List Heap.Cell} {m : CS} {x : RL} {rest : List Raw} {B : Option Addr} {rn rc e : Nat}
theorem Pre.tn {r : Raw} (p : Pre K w0 w g HA hn hc h m x r rest B rn rc e) (hd : r.s.d = 2 ∨ r.s.d = 3 ∨ r.s.d = 4) : r.n ≤ 1000000 := by
  have h1 := check_len _ (one_reck r.s p.one hd)
  have := Term.ops_len p.term
  omega
theorem one_set (s : Step) (h : oneB s = true) (hd : s.d = 2) : 0 ≤ s.a ∧ s.a ≤ 7 := by
  unfold oneB at h
  rw [if_neg (by omega), if_pos hd] at h
  simp at h; omega
theorem Pre.tail {r : Raw} (p : Pre K w0 w g HA hn hc h m x r rest B rn rc e) : (wellP (ss rest)).2 = true :=
  well_tail r.s (ss rest) (by rw [List.all_cons, p.one, p.all]; rfl) p.well
theorem bad_c (c : Int) (hr : RunAt w0 w g (.slice HA hn hc) m x) (hk : KOK K w g x) :
    Calls Try.prog 68 #[.pointer (some ⟨g, 0, none⟩), .int .i64 c] w fun en w' => en = .returned (.tuple #[.slice none 0 0, .int .i64 4]) ∧ Kept K w0 w w' g (.slice HA hn hc) (whyC m c) := by
  have HP : Hid (Kept K w0 w (w.setCell ⟨g, 13, none⟩ (.int .i64 c)) g (.slice HA hn hc) (whyC m c)) := Lib.hid ⟨x, hr.put_why c, hk.size (by rw [set_size]; exact Nat.le_refl _), hk.set 13 _⟩
  have q := hr.at8.2.2.2.2.2
  have z := hr.blk.frozen 13
  clear hr hk
  go_enter Try.func68, Try.ntmps68
  go_wp2
  go_ret2
  exact ⟨rfl, HP.out⟩
theorem retry_c {r : Raw} (hd : r.s.d = 5) (p : Pre K w0 w g HA hn hc h m x r rest B rn rc e) :
    Calls Try.prog 46 #[.pointer (some ⟨g, 0, none⟩), .agg #[.int .i64 r.s.d, .int .i64 r.s.a, .int .i64 r.s.b, .slice r.T r.n r.c], .slice B rn rc] w (DoPost K w0 w g (.slice HA hn hc) h m r rest e) := by
  have HP : Hid (∀ w', Below w.heap.size w w' → DoPost K w0 w g (.slice HA hn hc) h m r rest e (.returned (.tuple #[.slice none 0 0, .int .i64 2])) w') := Lib.hid (fun w' hb => by
    refine ⟨2, [], none, 0, 0, m, rfl, ⟨x, p.run.below hb, p.ok.size hb.size, p.ok.fr hb⟩, .inr ⟨by decide, p.good.weak e (by omega), ?_⟩⟩
    rw [part_retry _ _ _ hd]
    unfold ended abs
    rw [p.why])
  have HB : Hid (Below w.heap.size w (w.alloc (.cells #[.int .i64 r.s.d, .int .i64 r.s.a, .int .i64 r.s.b, .slice r.T r.n r.c] 46))) := Lib.hid (bl_alloc (Below.refl _ _) _)
  clear p hd
  go_enter Try.func46, Try.ntmps46
  go_wp2
  go_ret2
  exact HP.out _ HB.out
set_option maxRecDepth 100000 in
theorem fail_c {r : Raw} (hd : r.s.d = 6) (p : Pre K w0 w g HA hn hc h m x r rest B rn rc e) :
    Calls Try.prog 47 #[.pointer (some ⟨g, 0, none⟩), .agg #[.int .i64 r.s.d, .int .i64 r.s.a, .int .i64 r.s.b, .slice r.T r.n r.c], .slice B rn rc] w (DoPost K w0 w g (.slice HA hn hc) h m r rest e) := by
  obtain ⟨w1, hw1⟩ : ∃ w1, w1 = w.alloc (.cells #[.int .i64 r.s.d, .int .i64 r.s.a, .int .i64 r.s.b, .slice r.T r.n r.c] 46) := ⟨_, rfl⟩
  have hb : Below w.heap.size w w1 := by rw [hw1]; exact bl_alloc (Below.refl _ _) _
  have HK : Hid (Blk w1 w.heap.size 46 #[.int .i64 r.s.d, .int .i64 r.s.a, .int .i64 r.s.b, .slice r.T r.n r.c]) := Lib.hid (by rw [hw1]; exact Blk.new _ _ _)
  have hr := p.run.below hb
  have hk := p.ok.size hb.size
  have HP : Hid (DoPost K w0 w g (.slice HA hn hc) h m r rest e (.returned (.tuple #[.slice none 0 0, .int .i64 3])) (w1.setCell ⟨g, 13, none⟩ (.int .i64 r.s.a))) := Lib.hid (by
    refine ⟨3, [], none, 0, 0, whyC m r.s.a, rfl, ⟨x, hr.put_why _, hk.size (by rw [set_size]; exact Nat.le_refl _), (p.ok.fr hb).trans (hk.set 13 _)⟩, .inr ⟨by decide, (p.good.weak e (by omega)).why_ _, ?_⟩⟩
    rw [part_fail _ _ _ hd]; rfl)
  have q := hr.at8.2.2.2.2.2
  have z := hr.blk.frozen 13
  have q1 := HK.out.cell 1 _ rfl
  clear p hd hr hk hb
  subst hw1
  go_enter Try.func47, Try.ntmps47
  go_wp2
  go_ret2
  exact HP.out
set_option maxRecDepth 100000 in
theorem set_c {r : Raw} (hd : r.s.d = 2) (p : Pre K w0 w g HA hn hc h m x r rest B rn rc e) :
    Calls Try.prog 43 #[.pointer (some ⟨g, 0, none⟩), .agg #[.int .i64 r.s.d, .int .i64 r.s.a, .int .i64 r.s.b, .slice r.T r.n r.c], .slice B rn rc] w (DoPost K w0 w g (.slice HA hn hc) h m r rest e) := by
  obtain ⟨a0, a7⟩ := one_set r.s p.one hd
  obtain ⟨ra, hra⟩ : ∃ ra : Nat, r.s.a = (ra : Int) := ⟨r.s.a.toNat, by omega⟩
  obtain ⟨v, hv⟩ : ∃ v, Term.evalS r.s.t h m.regs = v := ⟨_, rfl⟩
  have htn := p.tn (.inl hd)
  obtain ⟨w1, hw1⟩ : ∃ w1, w1 = w.alloc (.cells #[.int .i64 r.s.d, .int .i64 (ra : Int), .int .i64 r.s.b, .slice r.T r.n r.c] 46) := ⟨_, rfl⟩
  have hb : Below w.heap.size w w1 := by rw [hw1]; exact bl_alloc (Below.refl _ _) _
  have HK : Hid (Blk w1 w.heap.size 46 #[.int .i64 r.s.d, .int .i64 (ra : Int), .int .i64 r.s.b, .slice r.T r.n r.c]) := Lib.hid (by rw [hw1]; exact Blk.new _ _ _)
  have hr := p.run.below hb
  have HR := Lib.hid hr
  have hk := p.ok.size hb.size
  have HP : Hid (∀ w', Below w1.heap.size w1 w' → DoPost K w0 w g (.slice HA hn hc) h m r rest e (.returned (.tuple #[.slice B rn rc, .int .i64 1])) (w'.setCell ⟨g, ra, none⟩ (.int .i64 v.1))) := Lib.hid (fun w' hb' => by
    have hk' := hk.size hb'.size
    refine ⟨1, rest, B, rn, rc, setC m r.s.a v.1, rfl, ⟨x, ?_, hk'.size (by rw [set_size]; exact Nat.le_refl _), ((p.ok.fr hb).trans (hk.fr hb')).trans (hk'.set ra _)⟩, .inl ⟨rfl, p.more, p.cap, p.rcc, p.all, p.tail, Nat.le_refl _, p.good.set_ _ _, p.why, ?_⟩⟩
    · have := (hr.below hb').put_reg ra (by omega) v.1
      unfold setC
      rw [hra, Int.toNat_natCast]
      exact this
    · rw [part_set _ _ _ hd, p.good.tell r.s.t (one_reck r.s p.one (.inl hd)) 0, hv]; rfl)
  have HC : Hid (∀ W, Below w1.heap.size w1 W → Calls Try.prog 70 #[.pointer (some ⟨g, 0, none⟩), .agg #[.int .i64 r.s.d, .int .i64 (ra : Int), .int .i64 r.s.b, .slice r.T r.n r.c]] W fun e w' => e = .returned (.int .i64 v.1) ∧ Below w1.heap.size w1 w') :=
    Lib.hid (fun W hW => by
      have hr2 := hr.below hW
      refine (told_c r.s.t r.T r.n r.c r.s.d (ra : Int) r.s.b h HA hn hc g w0 W m x v hr2 (p.heap.below hr2.bel) (p.term.below hr2.bel) htn (by have := p.hn; omega) hv).mono ?_
      rintro e w' ⟨h1, h2⟩
      exact ⟨h1, bl_trans hW h2⟩)
  obtain ⟨y, hy⟩ : ∃ y, m.regs[ra]? = some y := ⟨_, List.getElem?_eq_getElem (by have := p.run.r8; omega)⟩
  have HY : Hid (∀ W, Below w1.heap.size w1 W → W.cell? ⟨g, ra, none⟩ = some (.int .i64 y) ∧ W.frozen? ⟨g, ra, none⟩ = false) := Lib.hid (fun W hW => ⟨(hr.below hW).reg ra y hy, (hr.below hW).blk.frozen ra⟩)
  have q0 := HK.out.cell 0 _ rfl
  have q1 := HK.out.cell 1 _ rfl
  have q2 := HK.out.cell 2 _ rfl
  have q3 := HK.out.cell 3 _ rfl
  have BD : Hid (Below w1.heap.size w1 w1.drew) := Lib.hid (Below.refl _ _).drew
  have hr8 : ¬ ((8 : Int) ≤ (ra : Int)) := by omega
  rw [hra]
  clear hd hr hk hb hv hy htn p a0 a7 hra
  go_enter Try.func43, Try.ntmps43
  go_wp2_with fail
  rw [← hw1]
  clear hw1
  have i0 : w1.drew.cell? ⟨w.heap.size, 0, none⟩ = some (.int .i64 r.s.d) := q0
  have i1 : w1.drew.cell? ⟨w.heap.size, 1, none⟩ = some (.int .i64 (ra : Int)) := q1
  have i2 : w1.drew.cell? ⟨w.heap.size, 2, none⟩ = some (.int .i64 r.s.b) := q2
  have i3 : w1.drew.cell? ⟨w.heap.size, 3, none⟩ = some (.slice r.T r.n r.c) := q3
  have hbg : w.heap.size ≠ g := by have := HR.out.blk.lt; have h2 := HK.out.lt; intro e; rw [← e] at this; have h3 := HR.out.blk; rw [← e] at h3; have h4 := HK.out; unfold Blk at h3 h4; rw [h3] at h4; injection h4 with h4; injection h4 with _ h4; revert h4; decide
  go_region_held3 (fun w' => w'.cell? ⟨w.heap.size, 0, none⟩ = some (.int .i64 r.s.d) ∧ w'.cell? ⟨w.heap.size, 1, none⟩ = some (.int .i64 (ra : Int)) ∧ w'.cell? ⟨w.heap.size, 2, none⟩ = some (.int .i64 r.s.b) ∧ w'.cell? ⟨w.heap.size, 3, none⟩ = some (.slice r.T r.n r.c))
    (first | exact ⟨a0, a1, a2, a3⟩ | exact ⟨i0, i1, i2, i3⟩ | (refine ⟨?_, ?_, ?_, ?_⟩ <;> (rw [cell_set_ne (Ne.symm hbg)]; assumption)) | go_keep)
    ((go_at_call 70
      refine (HC.out _ BD.out).mono ?_
      rintro e w5 ⟨rfl, o5⟩
      have BA := Lib.hid o5
      have a0 := (HK.out.below BA.out).cell 0 _ rfl
      have a1 := (HK.out.below BA.out).cell 1 _ rfl
      have a2 := (HK.out.below BA.out).cell 2 _ rfl
      have a3 := (HK.out.below BA.out).cell 3 _ rfl
      obtain ⟨ay, az⟩ := HY.out _ BA.out
      clear o5))
  go_wp2
  go_ret2
  exact HP.out _ BA.out
end
end Go.Proofs.Ytlmkhnjdifamgaa.Model
