/-
  WHAT THE DOCUMENT'S ANSWER FOR LAYER 10 RETURNS: Run. Of what is refused; what lies in memory behind its part. No conditions beyond those that each theorem states.
-/
import Derived.Test.YtbeeojccadeboaaGreatModelRunNo
import Derived.Test.YtbeeojccadeboaaGreatModelPRz
import Derived.Test.YtbeeojccadeboaaGreatCodeA
import Derived.Test.YtbeeojccadeboaaGreatHeapA
namespace Go.Proofs.YtbeeojccadeboaaGreat.Model
open Go.ChangeShapes Go.WideShapes Go.ChangeAt Go.RowKit Mem Go.Proofs.YtbeeojccadeboaaGreat.Code

/-- What is returned: an end, a heap, and whether it is an answer. -/
def RetRef (w : World) (o : Out) (n1 n2 n3 n4 : Nat) (g : List Heap.Cell) (gn : Nat) (ok : Bool) (e : Ending) (w' : World) : Prop :=
  ∃ A1 c1 A2 c2 A3 c3 A4 c4 G gc, e = .returned (.tuple #[.agg #[.int .i64 o.kind, .int .i64 o.why, .slice A1 n1 c1, .slice A2 n2 c2, .slice A3 n3 c3, .slice A4 n4 c4], .slice G gn gc, .bool ok]) ∧ OutAt w' o A1 A2 A3 A4 n1 n2 n3 n4 ∧ Rd w' 2 G gn (Heap.cs g) ∧ Below w.heap.size w w'
section
variable {P : Program} {ops : Array Oper} {rest : List Oper} {o : Oper} {a : Act} {w : World} {Q : Exit → Act → World → Prop}
theorem build_row (hg : o.guard = none) (t : TypeId) (parts : Array (Nat × Operand)) (ho : o.op = .build t parts) (ps : List (Nat × Value)) (cs : Array Value)
    (hps : (parts.map fun (i, x) => (i, a.eval x)).toList = ps) (hb : P.built t ps = some cs)
    (h : wpList P ops Q rest (a.put o.dst (.agg cs)) w) : wpList P ops Q (o :: rest) a w := by
  subst hps
  exact wpList_build hg t parts ho (by rw [hb]; rfl) (by rw [hb]; exact h)
end
theorem apart_moved {w0 w w' : World} {u v v' : Value} {e size m n n' : Nat} {ys : List Value} (hu : Own w0 w e size u m ys) (ha : Apart u v) (hm : Moved w w' v v' n n') : Apart u v' := by
  cases hub : u.ownBlock with
  | none => exact .inl hub
  | some q =>
    refine .inr (.inr ?_)
    rw [hub]
    intro e2
    refine hm.ne (hu.lt q hub) (fun e3 => ?_) e2.symm
    rcases ha with h | h | h
    · rw [h] at hub; cases hub
    · rw [h] at e3; cases e3
    · exact h (hub.trans e3.symm)
theorem zs_take (l : List Int) (j : Nat) (x : Int) (hx : l[j]? = some x) : zs (l.take (j + 1)) = zs (l.take j) ++ [.int .i64 x] := by
  rw [List.take_add_one, hx]; unfold zs; rw [List.flatMap_append]; rfl
/-- What was written in the first cells. -/
def wl (h : List Heap.Cell) (p : Nat → Bool) (n : Nat) : List Heap.Write := (pick p n).map fun i => ⟨i, Heap.valAt h i⟩
theorem wl_no (h : List Heap.Cell) (p : Nat → Bool) (n : Nat) (hp : p n = false) : wl h p (n + 1) = wl h p n := by unfold wl; rw [pick_no _ _ hp]
theorem writes_yes (h : List Heap.Cell) (p : Nat → Bool) (n : Nat) (hp : p n = true) (x : Heap.Cell) (hx : h[n]? = some x) : Heap.ws (wl h p (n + 1)) = Heap.ws (wl h p n) ++ [.int .i64 (n : Int), .int .i64 x.value] := by
  unfold wl Heap.ws
  rw [pick_yes _ _ hp, List.map_append, List.flatMap_append]
  simp only [List.map_cons, List.map_nil, List.flatMap_cons, List.flatMap_nil, List.append_nil, Heap.val_at h n x hx]
  rfl
theorem wl_len (h : List Heap.Cell) (p : Nat → Bool) (n : Nat) : (wl h p n).length ≤ n := by unfold wl; rw [List.length_map]; exact pick_len p n
theorem tWr : SliceT Tryz.prog 27 108 2 16 := SliceT.mk_ (z := .agg #[.int .i64 0, .int .i64 0]) Tryz.underlying27 (by kernel_rfl) rfl (by decide)
theorem six_rd0 {w : World} {g k n : Nat} {B : Option Addr} {xs : List Value} (h : Rd w k B n xs) (hne : ∀ b off, B = some ⟨b, off, none⟩ → 0 < n → b ≠ g) (a0 a1 a2 a3 a4 a5 : Value) : Rd ((((((w.setCell ⟨g, 0, none⟩ a0).setCell ⟨g, 1, none⟩ a1).setCell ⟨g, 2, none⟩ a2).setCell ⟨g, 3, none⟩ a3).setCell ⟨g, 4, none⟩ a4).setCell ⟨g, 5, none⟩ a5) k B n xs := by
  rcases Nat.eq_zero_or_pos n with h0 | h0
  · exact ⟨h.1, fun hn => absurd hn (by omega)⟩
  · exact six_rd h (fun b off e => hne b off e h0) _ _ _ _ _ _
/-- What is returned of a run. -/
def RetYes (w : World) (S : St) (h : List Heap.Cell) (e : Ending) (w' : World) : Prop := ∃ n1 n2 n3 n4 gn, RetRef w (outS S) n1 n2 n3 n4 (if S.kind = 1 then S.h else h) gn true e w'
/-- The state that a run begins with. -/
def r0 (A : Option Addr) (n c : Nat) (h : List Heap.Cell) : RS := ⟨s0 h, A, n, c, none, 0, 0⟩
theorem built_st (A : Option Addr) (n c : Nat) (h : List Heap.Cell) : Tryz.prog.built 105 [(0, .slice A n c)] = some (sc (r0 A n c h)).toArray := by kernel_rfl
theorem seg_full (c : List Step) (n : Nat) (hn : c.length = n) : seg c 0 n = c := by
  subst hn; unfold seg; rw [List.drop_zero, Nat.sub_zero, List.take_length]
set_option maxRecDepth 100000 in
set_option maxHeartbeats 4000000 in
theorem runr_no (l : List Raw) (h : List Heap.Cell) (C HA : Option Addr) (n c hn hc : Nat) (w : World) (hat : At w C n l) (hlim : Lim l) (hnm : n ≤ 1000000) (hh : Rd w 2 HA hn (Heap.cs h)) (hhm : hn ≤ 1000000) (hok : okR (ss l) h = false) :
    Calls Tryz.prog 13 #[.slice C n c, .slice HA hn hc] w (RetRef w ⟨0, 0, [], [], [], []⟩ 0 0 0 0 h hn false) := by
  have HAT := Lib.hid hat
  have HH := Lib.hid hh
  have HLM := Lib.hid hlim
  obtain ⟨v, hv⟩ : ∃ v, checkS (ss l) = v := ⟨_, rfl⟩
  obtain ⟨rb, hrb⟩ : ∃ b, Heap.rightB h = b := ⟨_, rfl⟩
  have HV := Lib.hid hv
  obtain ⟨w1, hw1⟩ : ∃ w1, w1 = w.alloc (.cells #[.int .i64 0, .int .i64 0, .slice none 0 0, .slice none 0 0, .slice none 0 0, .slice none 0 0] 33) := ⟨_, rfl⟩
  have BB : Hid (Below w.heap.size w w1) := Lib.hid (by rw [hw1]; exact bl_alloc (Below.refl _ _) _)
  have KK : Hid (Blk w1 w.heap.size 33 #[.int .i64 0, .int .i64 0, .slice none 0 0, .slice none 0 0, .slice none 0 0, .slice none 0 0]) := Lib.hid (by rw [hw1]; exact Blk.new _ _ _)
  have HRC : Hid (Calls Tryz.prog 40 #[.slice HA hn hc] w1 fun e w' => e = .returned (.bool rb) ∧ w1 = w') := Lib.hid (by rw [← hrb]; exact Heap.right_any h HA hn hc w1 (hh.below BB.out) hhm)
  have HOLD : Hid (∀ b off, HA = some ⟨b, off, none⟩ → 0 < hn → b ≠ w.heap.size) := Lib.hid ((rd_old hh (by decide)).ne (Nat.le_refl _))
  have HRB := Lib.hid hrb
  clear hat hh hlim hv hrb
  by_cases h0 : rb = true
  · subst h0
    have hv0 : v ≠ 0 := by
      intro e
      subst e
      have h1 := hok
      unfold okR at h1
      rw [HV.out, HRB.out] at h1
      simp at h1
    have q : (v != 0) = true := by simp [hv0]
    go_enter Tryz.func13, Tryz.ntmps13
    go_wp2_with fail
    rw [← hw1]
    clear hw1
    refine HRC.out.mono ?_
    rintro e w1' ⟨rfl, rfl⟩
    go_wp2_with fail
    refine (Code.refcheck l C n c w1 v (HAT.out.below BB.out) HLM.out hnm HV.out).mono ?_
    rintro e w2 ⟨rfl, b2⟩
    have B2 := Lib.hid (bl_trans BB.out b2)
    have k := KK.out.below b2
    have q0 := k.cell 0 _ rfl
    have q1 := k.cell 1 _ rfl
    have q2 := k.cell 2 _ rfl
    have q3 := k.cell 3 _ rfl
    have q4 := k.cell 4 _ rfl
    have q5 := k.cell 5 _ rfl
    have qz := k.frozen
    have HK6 := Lib.hid (six_blk k (.int .i64 0) (.int .i64 0) (.slice none 0 0) (.slice none 0 0) (.slice none 0 0) (.slice none 0 0))
    clear k b2
    go_wp2
    clear q0 q1 q2 q3 q4 q5 qz
    have q0 := HK6.out.cell 0 _ rfl
    have q1 := HK6.out.cell 1 _ rfl
    have q2 := HK6.out.cell 2 _ rfl
    have q3 := HK6.out.cell 3 _ rfl
    have q4 := HK6.out.cell 4 _ rfl
    have q5 := HK6.out.cell 5 _ rfl
    (try simp only [Exit.inBlock, Exit.then])
    refine bodyPost_ret (v := .tuple #[.agg #[.int .i64 0, .int .i64 0, .slice none 0 0, .slice none 0 0, .slice none 0 0, .slice none 0 0], .slice HA hn hc, .bool false]) (by simp [results, Tryz.results13, go_sem, q0, q1, q2, q3, q4, q5]) rfl ?_
    have hb := six_bel B2.out (Nat.le_refl w.heap.size) (.int .i64 0) (.int .i64 0) (.slice none 0 0) (.slice none 0 0) (.slice none 0 0) (.slice none 0 0)
    exact ⟨none, 0, none, 0, none, 0, none, 0, HA, hc, rfl, out_none _ _ _, HH.out.below hb, hb⟩
  · obtain rfl : rb = false := by simpa using h0
    go_enter Tryz.func13, Tryz.ntmps13
    go_wp2_with fail
    rw [← hw1]
    clear hw1
    refine HRC.out.mono ?_
    rintro e w1' ⟨rfl, rfl⟩
    have k := KK.out
    have q0 := k.cell 0 _ rfl
    have q1 := k.cell 1 _ rfl
    have q2 := k.cell 2 _ rfl
    have q3 := k.cell 3 _ rfl
    have q4 := k.cell 4 _ rfl
    have q5 := k.cell 5 _ rfl
    have qz := k.frozen
    have HK6 := Lib.hid (six_blk k (.int .i64 0) (.int .i64 0) (.slice none 0 0) (.slice none 0 0) (.slice none 0 0) (.slice none 0 0))
    clear k
    go_wp2
    clear q0 q1 q2 q3 q4 q5 qz
    have q0 := HK6.out.cell 0 _ rfl
    have q1 := HK6.out.cell 1 _ rfl
    have q2 := HK6.out.cell 2 _ rfl
    have q3 := HK6.out.cell 3 _ rfl
    have q4 := HK6.out.cell 4 _ rfl
    have q5 := HK6.out.cell 5 _ rfl
    (try simp only [Exit.inBlock, Exit.then])
    refine bodyPost_ret (v := .tuple #[.agg #[.int .i64 0, .int .i64 0, .slice none 0 0, .slice none 0 0, .slice none 0 0, .slice none 0 0], .slice HA hn hc, .bool false]) (by simp [results, Tryz.results13, go_sem, q0, q1, q2, q3, q4, q5]) rfl ?_
    have hb := six_bel BB.out (Nat.le_refl w.heap.size) (.int .i64 0) (.int .i64 0) (.slice none 0 0) (.slice none 0 0) (.slice none 0 0) (.slice none 0 0)
    exact ⟨none, 0, none, 0, none, 0, none, 0, HA, hc, rfl, out_none _ _ _, HH.out.below hb, hb⟩
end Go.Proofs.YtbeeojccadeboaaGreat.Model
