/-
  WHAT Run RETURNS, AS IT IS WRITTEN, of a code and a heap. No conditions beyond those that each theorem states.
-/
import Derived.Test.YtadofonlkjkcmaaGreatModB
import Derived.Laws.Tables
import Derived.Laws.CopyOwn
import Derived.Test.YtadofonlkjkcmaaGreatAttF
namespace Go.Proofs.YtadofonlkjkcmaaGreat.Model
open Go.ChangeShapes Go.WideShapes Go.ChangeAt Go.RowKit Mem Go.Proofs.YtadofonlkjkcmaaGreat.Code

theorem small_val (l : List Raw) (n : Nat) (hl : l.length = n) (h : smallB l = true) : smallI l = (n : Int) := by unfold smallI; rw [if_pos h, hl]
theorem small_neg (l : List Raw) (h : smallB l = false) : smallI l = -1 := by unfold smallI; rw [h]; rfl
/-- What a run comes to. -/
theorem run_cases (c : List Step) (h : List Heap.Cell) :
    (runS c h = (⟨0, 0, [], [], [], []⟩, h, false)) ∨
    (∃ k y sn, k ≠ 1 ∧ sn.length ≤ 64 ∧ checkS c = 0 ∧ Heap.rightB h = true ∧ runS c h = (⟨k, y, [], [], sn, []⟩, h, true)) ∨
    (∃ y rg p sn ws g, rg.length = 8 ∧ p.length ≤ 24 ∧ sn.length ≤ 64 ∧ ws.length ≤ 64 ∧ g.length = h.length ∧ checkS c = 0 ∧ Heap.rightB h = true ∧ Heap.putS h ws = (g, 0) ∧ runS c h = (⟨1, y, rg, p, sn, ws⟩, g, true)) := by
  unfold runS
  cases ho : okR c h with
  | false => exact .inl rfl
  | true =>
    rw [if_pos rfl]
    unfold okR at ho
    rw [Bool.and_eq_true, decide_eq_true_eq] at ho
    have hsn : (pick (part c (s0 h)).seen 64).length ≤ 64 := pick_len _ _
    by_cases hk : (part c (s0 h)).kind = 1
    · refine .inr (.inr ?_)
      have K := keeps c (s0 h)
      have hp := part_path c (s0 h)
      obtain ⟨hc, _⟩ := check_ok _ ho.1
      have hw : (writesS (part c (s0 h))).length ≤ 64 := by
        unfold writesS
        rw [List.length_map]
        have h1 := pick_len (part c (s0 h)).wrote (part c (s0 h)).h.length
        have h2 := K.len
        have h3 := Heap.right_len h ho.2
        have h4 : (s0 h).h.length = h.length := rfl
        omega
      refine ⟨(part c (s0 h)).why, (part c (s0 h)).regs, (part c (s0 h)).path, pick (part c (s0 h)).seen 64, writesS (part c (s0 h)), (part c (s0 h)).h, K.regs, ?_, hsn, hw, K.len, ho.1, ho.2, done_put c h ho.2, ?_⟩
      · have h0 : (s0 h).path.length = 0 := rfl
        omega
      · rw [if_pos hk]
        unfold outS
        rw [if_pos hk, hk]
    · refine .inr (.inl ⟨(part c (s0 h)).kind, (part c (s0 h)).why, pick (part c (s0 h)).seen 64, hk, hsn, ho.1, ho.2, ?_⟩)
      rw [if_neg hk]
      unfold outS
      rw [if_neg hk]
end Go.Proofs.YtadofonlkjkcmaaGreat.Model

namespace Go.Proofs.YtadofonlkjkcmaaGreat.Model
open Go.ChangeShapes Go.WideShapes Go.ChangeAt Go.RowKit Mem Go.Proofs.YtadofonlkjkcmaaGreat.Code

section
variable {P : Program} {w : World} {ops : Array Oper} {o : Oper} {a : Act} {K : Act → World → Prop} {Q : Exit → Act → World → Prop} {E : Prop}
end
section
variable {P : Program} {w : World} {o : Oper} {a : Act} {K : Act → World → Prop} {Q : Exit → Act → World → Prop}
theorem calls_wp (f : FuncId) (vs : Array Value) (R : Ending → World → Prop)
    (hc : Calls P f vs w R) (hrun : (execOp a.eval o).run P w = .ok (.enter f vs) w) (h : ∀ e w', R e w' → ∃ v, e = .returned v ∧ K (a.put o.dst v) w') : Oper.wp P o a w K Q := by
  unfold Oper.wp
  rw [hrun, Oper.upon_enter]
  refine hc.mono ?_
  intro e w' hr
  obtain ⟨v, rfl, hk⟩ := h e w' hr
  exact hk
end
theorem enter_run {P : Program} {F : FuncId} {fn : Func} (hf : P.funcs[F]? = some fn) (hn : (fn.name == "runtime.NumGoroutine") = false) (hb : fn.body.isNone = false) (args : Array Value) (W : World) : (callFunc F args).run P W = .ok (.enter F args) W := by
  have hn' : ¬ fn.name = "runtime.NumGoroutine" := by simpa using hn
  have hb' : ¬ fn.body = none := fun e => by rw [e] at hb; cases hb
  unfold callFunc
  simp [program, Sem.run, hf, hn', hb']
/-- A call of a function by its name. -/
theorem run_call {P : Program} {ρ : Operand → Value} {o : Oper} {w : World} (F : FuncId) (args : Array Operand) (tys : Array TypeId) (ho : o.op = .call { callee := .value (.func F), args := args, argTypes := tys }) (hρ : ρ (.func F) = .func (.func F) #[] #[]) {fn : Func} (hf : P.funcs[F]? = some fn)
    (hn : (fn.name == "runtime.NumGoroutine") = false) (hb : fn.body.isNone = false) (vs : Array Value) (hvs : args.map ρ = vs) : (execOp ρ o).run P w = .ok (.enter F vs) w := by
  unfold execOp
  simp only [ho, resolve, Deferred.ofValue, hρ, invoke, Sem.run_bind, Sem.run_pure, Result.andThen_ok, hvs, Array.append_empty, Array.empty_append]
  exact enter_run hf hn hb vs w
/-- A slice that lies below a block. -/
def Lw (g : Nat) (A : Option Addr) (n : Nat) : Prop := ∀ b off, A = some ⟨b, off, none⟩ → 0 < n → b < g
/-- An end whose lists lie below a block, and one whose lists are new. -/
structure OLw (g : Nat) (A1 A2 A3 A4 : Option Addr) (n1 n2 n3 n4 : Nat) : Prop where
  a1 : Lw g A1 n1
  a2 : Lw g A2 n2
  a3 : Lw g A3 n3
  a4 : Lw g A4 n4
/-- Of whatever run the lists are short. -/
structure Short (o : Out) (g h : List Heap.Cell) : Prop where
  regs : o.regs.length ≤ 8
  path : o.path.length ≤ 24
  seen : o.seen.length ≤ 64
  writes : o.writes.length ≤ 64
  heap : g.length = h.length
theorem run_short (c : List Step) (h : List Heap.Cell) : Short (runS c h).1 (runS c h).2.1 h := by
  rcases run_cases c h with hr | ⟨k, y, sn, _, hsn, _, _, hr⟩ | ⟨y, rg, p, sn, ws, g, h1, h2, h3, h4, h5, _, _, _, hr⟩
  · rw [hr]; exact ⟨Nat.zero_le _, Nat.zero_le _, Nat.zero_le _, Nat.zero_le _, rfl⟩
  · rw [hr]; exact ⟨Nat.zero_le _, Nat.zero_le _, hsn, Nat.zero_le _, rfl⟩
  · rw [hr]; exact ⟨by show rg.length ≤ 8; omega, h2, h3, h4, h5⟩
/-- What a run comes to, in names. -/
theorem run_names (c : List Step) (h : List Heap.Cell) : ∃ (o : Out) (g : List Heap.Cell) (ok : Bool) (n1 n2 n3 n4 gn : Nat), runS c h = (o, g, ok) ∧ o.regs.length = n1 ∧ o.path.length = n2 ∧ o.seen.length = n3 ∧ o.writes.length = n4 ∧ g.length = gn ∧ n1 ≤ 8 ∧ n2 ≤ 24 ∧ n3 ≤ 64 ∧ n4 ≤ 64 ∧ gn = h.length := by
  have hs := run_short c h
  exact ⟨(runS c h).1, (runS c h).2.1, (runS c h).2.2, _, _, _, _, _, rfl, rfl, rfl, rfl, rfl, rfl, hs.regs, hs.path, hs.seen, hs.writes, hs.heap⟩
end Go.Proofs.YtadofonlkjkcmaaGreat.Model

namespace Go.Proofs.YtadofonlkjkcmaaGreat.Model
open Go.ChangeShapes Go.WideShapes Go.ChangeAt Go.RowKit Mem Go.Proofs.YtadofonlkjkcmaaGreat.Code

/-- A part that is run. -/
structure PPre (K : Nat → Nat → Prop) (w0 w : World) (g : Nat) (HA : Option Addr) (hn hc : Nat) (h : List Heap.Cell) (m : CS) (x : RL) (c : List Raw) (C : Option Addr) (cn cc e : Nat) : Prop where
  run : RunAt w0 w g (.slice HA hn hc) m x
  ok : KOK K w g x
  heap : Rd w0 2 HA hn (Heap.cs h)
  hn : hn ≤ 64
  part : At w0 C cn c
  cap : cn ≤ cc
  cn : cn ≤ 24
  ccc : cc ≤ 9223372036854775807
  all : (ss c).all oneB = true
  well : (wellP (ss c)).2 = true
  good : Good h m (c.length + e)
  why : m.why = 0
/-- How a part has ended. -/
def PPost (K : Nat → Nat → Prop) (w0 w : World) (g : Nat) (H : Value) (h : List Heap.Cell) (m : CS) (c : List Raw) (e : Nat) (en : Ending) (w' : World) : Prop :=
  ∃ (k : Int) (m' : CS), en = .returned (.int .i64 k) ∧ Kept K w0 w w' g H m' ∧ Good h m' e ∧ part (ss c) (abs h m 0) = abs h m' k
def PartC (f : Nat) : Prop := ∀ (K : Nat → Nat → Prop) (w0 w : World) (g : Nat) (HA : Option Addr) (hn hc : Nat) (h : List Heap.Cell) (m : CS) (x : RL) (c : List Raw) (C : Option Addr) (cn cc e : Nat), c.length ≤ f →
  PPre K w0 w g HA hn hc h m x c C cn cc e → Calls Tryz.prog 62 #[.pointer (some ⟨g, 0, none⟩), .slice C cn cc] w (PPost K w0 w g (.slice HA hn hc) h m c e)
set_option maxRecDepth 100000 in
theorem zero_state : (Tryz.prog.info? 130).bind (·.zero) = some (.agg #[.int .i64 0, .int .i64 0, .int .i64 0, .int .i64 0, .int .i64 0, .int .i64 0, .int .i64 0, .int .i64 0, .slice none 0 0, .slice none 0 0, .slice none 0 0]) := by kernel_rfl
set_option maxRecDepth 100000 in
theorem size_state : (Tryz.prog.info? 130).map (·.size) = some 11 := by kernel_rfl
/-- The parts of an Either. -/
theorem parts_of (x : Step) (c : List Raw) (ho : oneB x = true) (hd : x.d = 7) (hall : (ss c).all oneB = true) (hw : (wellP (x :: ss c)).2 = true) :
    ∃ a b : Nat, x.a = (a : Int) ∧ x.b = (b : Int) ∧ a + b ≤ c.length ∧ (wellP (ss (c.take a))).2 = true ∧ (wellP (ss ((c.drop a).take b))).2 = true ∧ (wellP (ss (c.drop (a + b)))).2 = true ∧
      ((ss (c.take a)).all oneB = true ∧ (ss ((c.drop a).take b)).all oneB = true ∧ (ss (c.drop (a + b))).all oneB = true) ∧
      ∀ s : St, part (x :: ss c) s = if (eitherS (ss (c.take a)) (ss ((c.drop a).take b)) s).kind = 1 then part (ss (c.drop (a + b))) (eitherS (ss (c.take a)) (ss ((c.drop a).take b)) s) else eitherS (ss (c.take a)) (ss ((c.drop a).take b)) s := by
  have h1 := one_either x ho hd
  refine ⟨x.a.toNat, x.b.toNat, by omega, by omega, ?_⟩
  by_cases hlt : ((ss c).length : Int) < x.a + x.b
  · rw [well_out x (ss c) hd hlt] at hw; cases hw
  have hle : x.a.toNat + x.b.toNat ≤ c.length := by rw [ss_len] at hlt; omega
  have hla : (ss (c.take x.a.toNat)).length = x.a.toNat := by rw [ss_len, List.length_take]; omega
  have hlb : (ss ((c.drop x.a.toNat).take x.b.toNat)).length = x.b.toNat := by rw [ss_len, List.length_take, List.length_drop]; omega
  have e : ss c = ss (c.take x.a.toNat) ++ (ss ((c.drop x.a.toNat).take x.b.toNat) ++ ss (c.drop (x.a.toNat + x.b.toNat))) := by
    rw [← ss_app, ← ss_app, ← List.drop_drop, List.take_append_drop, List.take_append_drop]
  have hw2 := hw
  rw [e, well_either x _ _ _ hd (by rw [hla]; omega) (by rw [hlb]; omega), Bool.and_eq_true, Bool.and_eq_true] at hw2
  have ha := hall
  rw [e, List.all_append, List.all_append, Bool.and_eq_true, Bool.and_eq_true] at ha
  refine ⟨hle, hw2.1.1, hw2.1.2, hw2.2, ⟨ha.1, ha.2.1, ha.2.2⟩, fun s => ?_⟩
  conv => lhs; rw [e]
  exact part_either x s _ _ _ hd (by rw [hla]; omega) (by rw [hlb]; omega)
theorem abs_end (c : List Step) (h : List Heap.Cell) (m : CS) (k j : Int) : part c (abs h m k) = part c (abs h m j) := by
  have : abs h m k = ended (abs h m j) k m.why := rfl
  rw [this, part_end]
section
variable {K : Nat → Nat → Prop} {w0 w : World} {g : Nat} {HA : Option Addr} {hn hc : Nat} {h : List Heap.Cell} {m : CS} {x : RL} {rest : List Raw} {B : Option Addr} {rn rc e : Nat}
/-- A slice's piece. -/
theorem At.piece {l : List Raw} (hat : At w B rn l) (a b : Nat) (hab : a + b ≤ rn) (hc : rn ≤ rc) : At w (if rc = a then B else B.map (·.add (a * 4))) b ((l.drop a).take b) := by
  have h1 := hat.behind a rc (by omega) hc
  exact h1.fst b (by omega)
/-- What comes of a first part. -/
theorem either_one (U V : List Step) (m4 : CS) (k : Int) (h4 : part U (abs h (pathC m 1) 0) = abs h m4 k) (hk : k ≠ 2) : eitherS U V (abs h m 0) = abs h m4 k := by
  unfold eitherS
  have e : onPath (abs h m 0) 1 = abs h (pathC m 1) 0 := rfl
  rw [e, h4, if_neg (show ¬ (abs h m4 k).kind = 2 from hk)]
theorem either_two (U V : List Step) (m4 m7 : CS) (k : Int) (hw : m.why = 0) (h4 : part U (abs h (pathC m 1) 0) = abs h m4 2) (h7 : part V (abs h (pathC ⟨m.regs, m.path, m.log, m4.seen, m4.why⟩ 2) 0) = abs h m7 k) :
    m4.why = 0 ∧ eitherS U V (abs h m 0) = abs h m7 k := by
  have h0 : m4.why = 0 := by
    have h1 := part_again U.length U (abs h (pathC m 1) 0)
    have h2 : partF U.length U (abs h (pathC m 1) 0) = abs h m4 2 := h4
    rw [h2] at h1
    exact h1 rfl
  refine ⟨h0, ?_⟩
  unfold eitherS
  have e : onPath (abs h m 0) 1 = abs h (pathC m 1) 0 := rfl
  rw [e, h4, if_pos (show (abs h m4 2).kind = 2 from rfl)]
  have e2 : saw (onPath (abs h m 0) 2) (abs h m4 2).seen = abs h (pathC ⟨m.regs, m.path, m.log, m4.seen, m4.why⟩ 2) 0 := by
    unfold saw onPath abs pathC
    simp only [h0, hw]
  rw [e2, h7]
theorem either_fin {r : Raw} {w' : World} {R : List Raw} {RB : Option Addr} {ln lc : Nat} (U V : List Step) (m7 : CS) (k : Int) (hat : At w0 RB ln R) (h1 : ln ≤ lc) (h2 : lc ≤ 9223372036854775807) (hall : (ss R).all oneB = true) (hwell : (wellP (ss R)).2 = true) (hl : R.length ≤ rest.length)
    (hspec : part (r.s :: ss rest) (abs h m 0) = if (eitherS U V (abs h m 0)).kind = 1 then part (ss R) (eitherS U V (abs h m 0)) else eitherS U V (abs h m 0)) (h7 : eitherS U V (abs h m 0) = abs h m7 k) (hkept : Kept K w0 w w' g (.slice HA hn hc) m7) (hg : Good h m7 (R.length + e))
    (hw : k = 1 → m7.why = 0) : DoPost K w0 w g (.slice HA hn hc) h m r rest e (.returned (.tuple #[.slice RB ln lc, .int .i64 k])) w' := by
  refine ⟨k, R, RB, ln, lc, m7, rfl, hkept, ?_⟩
  rw [h7] at hspec
  by_cases hk : k = 1
  · refine .inl ⟨hk, hat, h1, h2, hall, hwell, hl, hg, hw hk, ?_⟩
    rw [hspec, if_pos (show (abs h m7 k).kind = 1 from hk)]
    exact abs_end _ h m7 k 0
  · refine .inr ⟨hk, hg.weak _ (by omega), ?_⟩
    rw [hspec, if_neg (show ¬ (abs h m7 k).kind = 1 from hk)]
theorem part_zero (c : List Step) (s : St) (m7 : CS) (k : Int) (h7 : part c s = abs h m7 k) (hk : k = 1) : m7.why = 0 := by
  have := part_no c s (by rw [h7]; exact hk)
  rw [h7] at this
  exact this
end
end Go.Proofs.YtadofonlkjkcmaaGreat.Model

namespace Go.Proofs.YtadofonlkjkcmaaGreat.Model
open Go.ChangeShapes Go.WideShapes Go.ChangeAt Go.RowKit Mem Go.Proofs.YtadofonlkjkcmaaGreat.Code

section
variable {K : Nat → Nat → Prop} {w0 w : World} {g : Nat} {HA : Option Addr} {hn hc : Nat} {h : List Heap.Cell} {m : CS} {x : RL} {rest : List Raw} {B : Option Addr} {rn rc e : Nat}
theorem setRow_blk' {w : World} {g : Nat} {old cs : Array Value} {t : TypeId} (h : Blk w g t old) : Blk (w.setRow g cs) g t cs := setRow_heap w g old cs t (0, 0) h
set_option maxRecDepth 100000 in
set_option maxHeartbeats 4000000 in
theorem either_c (f : Nat) (hf : PartC f) {r : Raw} (hlen : rest.length ≤ f) (hd : r.s.d = 7) (p : Pre K w0 w g HA hn hc h m x r rest B rn rc e) :
    Calls Tryz.prog 139 #[.pointer (some ⟨g, 0, none⟩), .agg #[.int .i64 r.s.d, .int .i64 r.s.a, .int .i64 r.s.b, .slice r.T r.n r.c], .slice B rn rc] w (DoPost K w0 w g (.slice HA hn hc) h m r rest e) := by
  obtain ⟨a, b, ha, hb, hab, wu, wv, wr, ⟨au, av, ar⟩, hspec⟩ := parts_of r.s rest p.one hd p.all p.well
  have hrl : rest.length = rn := p.more.len
  have hrn := p.rn
  have hcap := p.cap
  have hrcc := p.rcc
  obtain ⟨N, hN⟩ : ∃ N, a + b = N := ⟨_, rfl⟩
  obtain ⟨w1, hw1⟩ : ∃ w1, w1 = w.alloc (.cells #[.int .i64 r.s.d, .int .i64 (a : Int), .int .i64 (b : Int), .slice r.T r.n r.c] 82) := ⟨_, rfl⟩
  have hb1 : Below w.heap.size w w1 := by rw [hw1]; exact bl_alloc (Below.refl _ _) _
  have hs1 : w1.heap.size = w.heap.size + 1 := by rw [hw1]; simp
  have HK : Hid (Blk w1 w.heap.size 82 #[.int .i64 r.s.d, .int .i64 (a : Int), .int .i64 (b : Int), .slice r.T r.n r.c]) := Lib.hid (by rw [hw1]; exact Blk.new _ _ _)
  have hr1 := p.run.below hb1
  obtain ⟨sl, hsl⟩ : ∃ sl, scells m x = sl := ⟨_, rfl⟩
  obtain ⟨Z, hZ⟩ : ∃ Z, (#[.int .i64 0, .int .i64 0, .int .i64 0, .int .i64 0, .int .i64 0, .int .i64 0, .int .i64 0, .int .i64 0, .slice none 0 0, .slice none 0 0, .slice none 0 0] : Array Value) = Z := ⟨_, rfl⟩
  have HZ := Lib.hid zero_state
  rw [hZ] at HZ
  have hsll : sl.length = 11 := by rw [← hsl]; exact scells_len p.run.r8
  have HSL : Hid (sl.length = 11) := Lib.hid hsll
  have HSE : Hid (scells m x = sl) := Lib.hid hsl
  have HRG : Hid (w1.rangeAt g 0 sl) := Lib.hid (by rw [← hsl]; exact hr1.range)
  have HIS : Hid ((Tryz.prog.info? 130).map (·.size) = some sl.length) := Lib.hid (by rw [size_state, hsll])
  have HIA : Hid ((Tryz.prog.info? 130).map (·.size) = some sl.toArray.size) := Lib.hid (by rw [size_state, List.size_toArray, hsll])
  have h11 : sl.toArray.size = 11 := by rw [List.size_toArray, hsll]
  have HSZ : Hid (Z.size = sl.toArray.size) := Lib.hid (by rw [h11, ← hZ]; rfl)
  have HON : Hid (sl.toArray.all (·.oneCell') = true) := Lib.hid (by
    rw [Array.all_eq_true_iff_forall_mem]
    intro u hu
    rw [← hsl] at hu
    exact scells_one m x u (by simpa using hu))
  obtain ⟨w2, hw2⟩ : ∃ w2, w2 = w1.alloc (.cells Z 130) := ⟨_, rfl⟩
  have HB2 : Hid (Blk w2 w1.heap.size 130 Z) := Lib.hid (by rw [hw2]; exact Blk.new _ _ _)
  have hb2 : Below w1.heap.size w1 w2 := by rw [hw2]; exact bl_alloc (Below.refl _ _) _
  obtain ⟨w3, hw3⟩ : ∃ w3, w3 = w2.setRow w1.heap.size sl.toArray := ⟨_, rfl⟩
  have hb3' : Below w1.heap.size w1 (w2.setRow w1.heap.size sl.toArray) := below_setRow hb2 (Nat.le_refl _) _
  have HB3 : Hid (Blk w3 w1.heap.size 130 sl.toArray) := Lib.hid (by rw [hw3]; exact setRow_blk' HB2.out)
  have hb3 : Below w1.heap.size w1 w3 := by rw [hw3]; exact below_setRow hb2 (Nat.le_refl _) _
  obtain ⟨W, hW⟩ : ∃ W, W = w3.alloc (.cells #[.int .i64 1] 3) := ⟨_, rfl⟩
  have hbW3 : Below w3.heap.size w3 W := by rw [hW]; exact bl_alloc (Below.refl _ _) _
  have hbW : Below w1.heap.size w1 W := bl_trans hb3 hbW3
  have RW := Lib.hid (hr1.below hbW)
  have HW3 := Lib.hid hbW3
  have R3 := Lib.hid (hr1.below hb3)
  have HRd1 : Hid (Rd W 1 (some ⟨w3.heap.size, 0, none⟩) 1 [.int .i64 1]) := Lib.hid (by rw [hW]; exact Rd.built _ 1 1 [.int .i64 1] _ rfl)
  have hK2 : ∀ bb i, K bb i → KMax W g x bb i := fun bb i hk => by
    obtain ⟨h1, h2, h3, h4⟩ := p.ok bb i hk
    exact ⟨by have := hb1.size; have := hbW.size; omega, h2, h3, h4⟩
  have HK2 := Lib.hid hK2
  have hgw := p.run.blk.lt
  have hpw : x.pv.ownBlock ≠ some w.heap.size := fun e => by have := p.run.path.lt _ e; omega
  have hbXX : Below w1.heap.size w1 W := hbW
  have hWs : w.heap.size + 1 < W.heap.size := by have := (HB3.out.below hbW3).lt; omega
  have hbox : ∀ i, KMax W g x w.heap.size i := fun i => ⟨by omega, by omega, fun e => by have := p.run.seen.lt _ e; omega, fun e => by have := p.run.path.lt _ e; omega⟩
  have hbef : ∀ i, KMax W g x w1.heap.size i := fun i => ⟨by omega, by omega, fun e => by have := p.run.seen.lt _ e; omega, fun e => by have := p.run.path.lt _ e; omega⟩
  have HBX := Lib.hid hbox
  have HBF := Lib.hid hbef
  have hpn : x.pn + 1 ≤ 24 := by have h1 := p.good.path; have h2 : m.path.length = x.pn := by { have := p.run.path.1.1; rw [zs_map, List.length_map] at this; omega }; omega
  have HFW : Hid (Fr K w W) := Lib.hid (p.ok.fr (bl_trans hb1 hbW))
  -- the first part
  have HC1 : Hid (∀ (W1 : World) (x3 : RL), RunAt w0 W1 g (.slice HA hn hc) (pathC m 1) x3 → KOK (KMax W g x) W1 g x3 → Calls Tryz.prog 62 #[.pointer (some ⟨g, 0, none⟩), .slice B a rc] W1 (PPost (KMax W g x) w0 W1 g (.slice HA hn hc) h (pathC m 1) (rest.take a) (rest.length - a + e))) :=
    Lib.hid (fun W1 x3 h1 h2 => hf _ _ _ _ _ _ _ _ _ x3 (rest.take a) B a rc _ (by rw [List.length_take]; omega) ⟨h1, h2, p.heap, p.hn, p.more.fst a (by omega), by omega, by omega, hrcc, au, wu, p.good.path_ 1 |>.weak _ (by rw [List.length_take]; omega), p.why⟩)
  obtain ⟨B2, hB2⟩ : ∃ B2, (if rc = a then B else Option.map (fun q : Addr => q.add (a * 4)) B) = B2 := ⟨_, rfl⟩
  obtain ⟨B3, hB3⟩ : ∃ B3, (if rc = N then B else Option.map (fun q : Addr => q.add (N * 4)) B) = B3 := ⟨_, rfl⟩
  have HC2 : Hid (∀ (m4 : CS) (W1 : World) (x6 : RL), Good h m4 (rest.length - a + e) → m4.why = 0 → RunAt w0 W1 g (.slice HA hn hc) (pathC ⟨m.regs, m.path, m.log, m4.seen, m4.why⟩ 2) x6 → KOK (KMax W g x) W1 g x6 →
      Calls Tryz.prog 62 #[.pointer (some ⟨g, 0, none⟩), .slice B2 b (rc - a)] W1 (PPost (KMax W g x) w0 W1 g (.slice HA hn hc) h (pathC ⟨m.regs, m.path, m.log, m4.seen, m4.why⟩ 2) ((rest.drop a).take b) (rest.length - N + e))) :=
    Lib.hid (fun m4 W1 x6 hg4 hw4 h1 h2 => hf _ _ _ _ _ _ _ _ _ x6 ((rest.drop a).take b) B2 b (rc - a) _ (by rw [List.length_take, List.length_drop]; omega) ⟨h1, h2, p.heap, p.hn, by rw [← hB2]; exact At.piece p.more a b (by omega) hcap, by omega, by omega, by omega, av, wv, by
      have h3 := hg4.seen
      have h4 := p.good.cnt
      have h5 := p.good.path
      have hlv : ((rest.drop a).take b).length = b := by rw [List.length_take, List.length_drop]; omega
      exact ⟨p.good.right, p.good.live, p.good.vals, by show m.log.length + _ ≤ 24; omega, p.good.regs, by show (m.path ++ [2]).length + _ ≤ 24; rw [List.length_append, List.length_singleton]; omega, by show m4.seen.length + _ ≤ 24; omega, hg4.cells⟩, hw4⟩)
  have HFIN : Hid (∀ (w' : World) (m7 : CS) (k : Int), eitherS (ss (rest.take a)) (ss ((rest.drop a).take b)) (abs h m 0) = abs h m7 k → Kept K w0 w w' g (.slice HA hn hc) m7 → Good h m7 (rest.length - N + e) → (k = 1 → m7.why = 0) →
      DoPost K w0 w g (.slice HA hn hc) h m r rest e (.returned (.tuple #[.slice B3 (rn - N) (rc - N), .int .i64 k])) w') := Lib.hid (fun w' m7 k h7 hkept hg hw => by
    refine either_fin (R := rest.drop (a + b)) (RB := B3) (ss (rest.take a)) (ss ((rest.drop a).take b)) m7 k ?_ (by omega) (by omega) ar wr (by rw [List.length_drop]; omega) (hspec _) h7 hkept (by rw [List.length_drop, hN]; exact hg) hw
    have h1 := p.more.behind N rc (by omega) hcap
    rw [hN, ← hB3]; exact h1)
  have hwhy := p.why
  have hwrap : IntKind.i64.wrap ((a : Int) + (b : Int)) = ((N : Nat) : Int) := by rw [IntKind.wrap_i64]; omega
  rw [ha, hb]
  have HE1 : Hid (∀ (m4 : CS) (k : Int), part (ss (rest.take a)) (abs h (pathC m 1) 0) = abs h m4 k → k ≠ 2 → eitherS (ss (rest.take a)) (ss ((rest.drop a).take b)) (abs h m 0) = abs h m4 k ∧ (k = 1 → m4.why = 0)) :=
    Lib.hid (fun m4 k h1 h2 => ⟨either_one _ _ m4 k h1 h2, fun hk => part_zero _ _ m4 k h1 hk⟩)
  have HE2 : Hid (∀ (m4 : CS), part (ss (rest.take a)) (abs h (pathC m 1) 0) = abs h m4 2 → m4.why = 0 ∧ ∀ (m7 : CS) (k : Int), part (ss ((rest.drop a).take b)) (abs h (pathC ⟨m.regs, m.path, m.log, m4.seen, m4.why⟩ 2) 0) = abs h m7 k →
      eitherS (ss (rest.take a)) (ss ((rest.drop a).take b)) (abs h m 0) = abs h m7 k ∧ (k = 1 → m7.why = 0)) := Lib.hid (fun m4 h1 => by
    have h0 : m4.why = 0 := by
      have e1 := part_again (ss (rest.take a)).length (ss (rest.take a)) (abs h (pathC m 1) 0)
      have e2 : partF (ss (rest.take a)).length (ss (rest.take a)) (abs h (pathC m 1) 0) = abs h m4 2 := h1
      rw [e2] at e1
      exact e1 rfl
    exact ⟨h0, fun m7 k h7 => ⟨(either_two _ _ m4 m7 k hwhy h1 h7).2, fun hk => part_zero _ _ m7 k h7 hk⟩⟩)
  have hN1 : N ≤ rn := by omega
  have hN2 : a ≤ N := by omega
  have hNb : N - a = b := by omega
  have ha1 : a ≤ rn := by omega
  have HLA : Hid (rest.length - a + e ≥ rest.length - N + e) := Lib.hid (by omega)
  clear p hd hspec wu wv wr au av ar hr1 hlen hf ha hb hrl hWs hbox hbef hK2 hsll hsl hb1 hbW hs1
  have hne : w.heap.size ≠ g := by omega
  clear hgw
  have hne' : g ≠ w.heap.size := Ne.symm hne
  have q1 := HK.out.cell 1 _ rfl
  have q2 := HK.out.cell 2 _ rfl
  have g8 : w3.cell? ⟨g, 8, none⟩ = some (.slice x.P x.pn x.pc) := R3.out.at8.1
  have g8W : W.cell? ⟨g, 8, none⟩ = some (.slice x.P x.pn x.pc) := RW.out.at8.1
  have HNS := Lib.hid hpw
  have hbX := Lib.hid hbXX
  clear hpw hbXX
  have HUS := Lib.hid Tryz.underlying130
  go_enter Tryz.func139, Tryz.ntmps139
  go_wp2_with (first
    | (refine box_row rfl 82 _ rfl #[.int .i64 r.s.d, .int .i64 (a : Int), .int .i64 (b : Int), .slice r.T r.n r.c] rfl ?_; rw [← hw1]; clear hw1)
    | (refine wpList_load_mid rfl 130 _ rfl g 0 rfl sl _ HRG.out HUS.out rfl HIS.out ?_)
    | (refine alloc_row rfl 130 rfl Z HZ.out ?_; rw [← hw2]; clear hw2)
    | (refine wpList_store_row rfl 130 _ _ rfl w1.heap.size sl.toArray rfl rfl 130 Z HB2.out HIA.out HSZ.out HON.out ?_; rw [← hw3]; clear hw3)
    | (at_builtin; refine append_moved rfl _ _ 27 rfl Mem.tInt w0 x.pv x.pn (zs m.path) rfl (by rw [← hW]; exact RW.out.path) _ 1 1 [.int .i64 1] rfl (by rw [← hW]; exact HRd1.out) (one_cons rfl one_nil) (by omega) (by omega) (by decide) ?_; rw [← hW]; intro v4 w4 ho4 hm4; obtain ⟨S4, c4, rfl, -⟩ := ho4.form; have HO4 := Lib.hid ho4; have HM4 := Lib.hid hm4; have k4 := hm4.blk RW.out.blk RW.out.gp; have g84 := k4.cell 8 x.pv (by rw [List.getElem?_toArray]; exact rc_tail RW.out.r8 0); have z84 := k4.frozen 8; have xb := hm4.blk ((HK.out.below hbX.out)) (fun e => HNS.out e); have x1 := xb.cell 1 _ rfl; have x1' := (xb.beside hne' 8 (.slice S4 (x.pn + 1) c4)).cell 1 _ rfl; clear ho4 hm4 k4 xb))
  obtain ⟨r5, k5, f5⟩ := RunAt.go RW.out (kmax_ok W g x) 1 HO4.out HM4.out
  refine (HC1.out _ _ r5 k5).mono ?_
  rintro e w5 ⟨k, m4, rfl, ⟨x4, r6, k6, f6⟩, hg4, hp4⟩
  have F6 := Lib.hid (f5.trans f6)
  have R6 := Lib.hid r6
  have K6 := Lib.hid k6
  have G4 := Lib.hid hg4
  have P4 := Lib.hid hp4
  have HK5 := Lib.hid (Fr.blk F6.out (HK.out.below hbX.out) HBX.out)
  have HB5 := Lib.hid (Fr.blk F6.out (HB3.out.below HW3.out) HBF.out)
  have y1 := HK5.out.cell 1 _ rfl
  clear r5 k5 f5 r6 k6 f6 hg4 hp4 g84 z84 x1 x1' q1 q2 g8 g8W
  by_cases h2 : k = 2
  · subst h2
    obtain ⟨hw4, hfin⟩ := HE2.out m4 P4.out
    have HF2 := Lib.hid hfin
    obtain ⟨r7, k7, f7⟩ := RunAt.back RW.out R6.out F6.out K6.out
    rw [HSE.out] at r7 k7 f7
    have HTH : Hid (w5.there g 0 sl.toArray.size) := Lib.hid (by rw [List.size_toArray, HSL.out]; exact R6.out.has)
    obtain ⟨w6, hw6⟩ : ∃ w6, w6 = w5.setCells g 0 sl := ⟨_, rfl⟩
    rw [← hw6] at r7 k7 f7
    obtain ⟨V, hV⟩ : ∃ V, V = w6.alloc (.cells #[.int .i64 2] 3) := ⟨_, rfl⟩
    have hbV : Below w6.heap.size w6 V := by rw [hV]; exact bl_alloc (Below.refl _ _) _
    have RV := Lib.hid (r7.below hbV)
    have KV := Lib.hid (k7.size hbV.size)
    have FV := Lib.hid (f7.trans (k7.fr hbV))
    have HRd2 : Hid (Rd V 1 (some ⟨w6.heap.size, 0, none⟩) 1 [.int .i64 2]) := Lib.hid (by rw [hV]; exact Rd.built _ 1 1 [.int .i64 2] _ rfl)
    have HB6 := Lib.hid (Fr.blk f7 HB5.out HBF.out)
    have HK6 := Lib.hid (Fr.blk f7 HK5.out HBX.out)
    have HKV := Lib.hid (HK6.out.below hbV)
    have g86 : w6.cell? ⟨g, 8, none⟩ = some (.slice x.P x.pn x.pc) := r7.at8.1
    have g8V : V.cell? ⟨g, 8, none⟩ = some (.slice x.P x.pn x.pc) := RV.out.at8.1
    clear r7 k7 f7 hfin hbV
    go_wp2_with (first
      | (refine wpList_load_row rfl 130 _ rfl w1.heap.size rfl 130 sl.toArray (0, 0) _ HB5.out HUS.out rfl HIA.out ?_)
      | (refine wpList_store_mid rfl 130 _ _ rfl g 0 sl.toArray rfl rfl HTH.out HIA.out HON.out ?_; rw [List.toList_toArray, ← hw6]; clear hw6)
      | (at_builtin; refine append_moved rfl _ _ 27 rfl Mem.tInt w0 x.pv x.pn (zs m.path) rfl (by rw [← hV]; exact RV.out.path) _ 1 1 [.int .i64 2] rfl (by rw [← hV]; exact HRd2.out) (one_cons rfl one_nil) (by omega) (by omega) (by decide) ?_; rw [← hV]; intro v7 w7 ho7 hm7; obtain ⟨S7, c7, rfl, -⟩ := ho7.form; have HO7 := Lib.hid ho7; have HM7 := Lib.hid hm7; have k7 := hm7.blk RV.out.blk RV.out.gp; have g87 := k7.cell 8 x.pv (by rw [List.getElem?_toArray]; exact rc_tail RV.out.r8 0); have z87 := k7.frozen 8; have xb := hm7.blk HKV.out (fun e => HNS.out e); have x7 := xb.cell 1 _ rfl; have x7' := (xb.beside hne' 8 (.slice S7 (x.pn + 1) c7)).cell 1 _ rfl; clear ho7 hm7 k7 xb))
    obtain ⟨r8, k8, f8⟩ := RunAt.go RV.out KV.out 2 HO7.out HM7.out
    refine (HC2.out m4 _ _ G4.out hw4 r8 k8).mono ?_
    rintro e w9 ⟨k9, m7, rfl, ⟨x7, r9, k9', f9⟩, hg7, hp7⟩
    obtain ⟨e1, e2⟩ := HF2.out m7 k9 hp7
    have HF1 := Lib.hid (HFIN.out w9 m7 k9 e1 ⟨x7, r9, k9'.sub HK2.out, HFW.out.trans ((F6.out.trans (FV.out.trans (f8.trans f9))).sub HK2.out)⟩ hg7 e2)
    clear e1 e2 r8 k8 f8 r9 k9' f9 hg7 hp7
    go_wp2
    go_ret2
    exact HF1.out
  · have q : (k == 2) = false := beq_eq_false_iff_ne.2 h2
    obtain ⟨e1, e2⟩ := HE1.out m4 k P4.out h2
    have HF1 := Lib.hid (HFIN.out w5 m4 k e1 ⟨x4, R6.out, K6.out.sub HK2.out, HFW.out.trans (F6.out.sub HK2.out)⟩ (G4.out.weak _ HLA.out) e2)
    clear e1 e2
    go_wp2
    go_ret2
    exact HF1.out
end
end Go.Proofs.YtadofonlkjkcmaaGreat.Model

namespace Go.Proofs.YtadofonlkjkcmaaGreat.Model
open Go.ChangeShapes Go.WideShapes Go.ChangeAt Go.RowKit Mem Go.Proofs.YtadofonlkjkcmaaGreat.Code

section
variable {K : Nat → Nat → Prop} {w0 w : World} {g : Nat} {HA : Option Addr} {hn hc : Nat} {h : List Heap.Cell} {m : CS} {x : RL} {rest : List Raw} {B : Option Addr} {rn rc e : Nat}
theorem do_c (f : Nat) (hf : PartC f) {r : Raw} (hlen : rest.length ≤ f) (p : Pre K w0 w g HA hn hc h m x r rest B rn rc e) :
    Calls Tryz.prog (doing r.s.d) #[.pointer (some ⟨g, 0, none⟩), .agg #[.int .i64 r.s.d, .int .i64 r.s.a, .int .i64 r.s.b, .slice r.T r.n r.c], .slice B rn rc] w (DoPost K w0 w g (.slice HA hn hc) h m r rest e) := by
  have h1 := one_d r.s p.one
  rcases (by omega : r.s.d = 1 ∨ r.s.d = 2 ∨ r.s.d = 3 ∨ r.s.d = 4 ∨ r.s.d = 5 ∨ r.s.d = 6 ∨ r.s.d = 7) with hd | hd | hd | hd | hd | hd | hd
  · have e : doing r.s.d = 133 := by rw [hd]; rfl
    rw [e]
    cases hl : Heap.liveAt h r.s.b with
    | false => exact load_bad hd hl p
    | true =>
      cases hv : Writes.getL m.log r.s.b with
      | none => exact load_new hd hl hv p
      | some v => exact load_old v hd hl hv p
  · have e : doing r.s.d = 134 := by rw [hd]; rfl
    rw [e]; exact set_c hd p
  · have e : doing r.s.d = 135 := by rw [hd]; rfl
    rw [e]
    cases hl : Heap.liveAt h r.s.a with
    | false => exact store_bad hd hl p
    | true => exact store_c hd hl p
  · have e : doing r.s.d = 136 := by rw [hd]; rfl
    rw [e]; exact skip_c hd p
  · have e : doing r.s.d = 137 := by rw [hd]; rfl
    rw [e]; exact retry_c hd p
  · have e : doing r.s.d = 138 := by rw [hd]; rfl
    rw [e]; exact fail_c hd p
  · have e : doing r.s.d = 139 := by rw [hd]; rfl
    rw [e]; exact either_c f hf hlen hd p
end
theorem run_enter {P : Program} {F : FuncId} {fn : Func} (hf : P.funcs[F]? = some fn) (hn : (fn.name == "runtime.NumGoroutine") = false) (hb : fn.body.isNone = false) (args : Array Value) (W : World) : (callFunc F args).run P W = .ok (.enter F args) W := by
  have hn' : ¬ fn.name = "runtime.NumGoroutine" := by simpa using hn
  have hb' : ¬ fn.body = none := fun e => by rw [e] at hb; cases hb
  unfold callFunc
  simp [program, Sem.run, hf, hn', hb']
set_option maxRecDepth 100000 in
theorem call_doing (d : Int) (h1 : 1 ≤ d) (h7 : d ≤ 7) (args : Array Value) (W : World) : (callFunc (doing d) args).run Tryz.prog W = .ok (.enter (doing d) args) W := by
  rcases (by omega : d = 1 ∨ d = 2 ∨ d = 3 ∨ d = 4 ∨ d = 5 ∨ d = 6 ∨ d = 7) with rfl | rfl | rfl | rfl | rfl | rfl | rfl
  · exact run_enter Tryz.func133 (by kernel_rfl) (by kernel_rfl) args W
  · exact run_enter Tryz.func134 (by kernel_rfl) (by kernel_rfl) args W
  · exact run_enter Tryz.func135 (by kernel_rfl) (by kernel_rfl) args W
  · exact run_enter Tryz.func136 (by kernel_rfl) (by kernel_rfl) args W
  · exact run_enter Tryz.func137 (by kernel_rfl) (by kernel_rfl) args W
  · exact run_enter Tryz.func138 (by kernel_rfl) (by kernel_rfl) args W
  · exact run_enter Tryz.func139 (by kernel_rfl) (by kernel_rfl) args W
theorem cons_at {l : List Raw} {r : Raw} (h : l[0]? = some r) : l = r :: l.drop 1 := by
  cases l with
  | nil => simp at h
  | cons y l => simp at h; rw [h]; rfl
set_option maxRecDepth 100000 in
set_option maxHeartbeats 2000000 in
theorem part_zero_c : PartC 0 := by
  intro K w0 w g HA hn hc h m x c C cn cc e hl p
  obtain rfl : c = [] := List.eq_nil_of_length_eq_zero (by omega)
  obtain rfl : cn = 0 := p.part.len.symm
  have HP : Hid (PPost K w0 w g (.slice HA hn hc) h m [] e (.returned (.int .i64 1)) w) := Lib.hid ⟨1, m, rfl, ⟨x, p.run, p.ok, Fr.refl _ _⟩, p.good.weak _ (by simp), by
    have h0 := part_nil (abs h m 0)
    show part [] (abs h m 0) = _
    rw [h0]
    unfold ended abs
    rw [p.why]⟩
  clear p hl
  go_enter Tryz.func62, Tryz.ntmps62
  go_wp2
  go_loopw [1] (fun v wr => v = .slice C 0 cc ∧ wr = w) (fun v _ => lenV v)
  case atStart => exact ⟨rfl, rfl⟩
  case round =>
    obtain ⟨rfl, rfl⟩ := hrel
    go_wp2
    go_ret
    exact HP.out
set_option maxRecDepth 100000 in
set_option maxHeartbeats 4000000 in
theorem part_succ_c (f : Nat) (hf : PartC f) : PartC (f + 1) := by
  intro K w0 w g HA hn hc h m x c C cn cc e hl p
  obtain ⟨KT, ET, hu, hk⟩ := und_doing
  have HU := Lib.hid hu
  have HKT := Lib.hid hk
  have HFIN : Hid (∀ (wr w' : World) (m1 : CS) (x1 : RL) (Y : List Raw) (k : Int) (m' : CS), RunAt w0 wr g (.slice HA hn hc) m1 x1 → Fr K w wr → part (ss c) (abs h m 0) = part (ss Y) (abs h m1 0) → Kept K w0 wr w' g (.slice HA hn hc) m' → Good h m' e → part (ss Y) (abs h m1 0) = abs h m' k → PPost K w0 w g (.slice HA hn hc) h m c e (.returned (.int .i64 k)) w') :=
    Lib.hid (fun wr w' m1 x1 Y k m' _ h2 h3 h4 h5 h6 => by
      obtain ⟨x', k1, k2, k3⟩ := h4
      exact ⟨k, m', rfl, ⟨x', k1, k2, h2.trans k3⟩, h5, h3.trans h6⟩)
  have HPRE : Hid (∀ (wr : World) (m1 : CS) (x1 : RL) (Y : List Raw) (D : Option Addr) (dn dc : Nat), RunAt w0 wr g (.slice HA hn hc) m1 x1 → KOK K wr g x1 → At w0 D dn Y → dn ≤ dc → dn ≤ 24 → dc ≤ 9223372036854775807 → (ss Y).all oneB = true → (wellP (ss Y)).2 = true → Good h m1 (Y.length + e) → m1.why = 0 → PPre K w0 wr g HA hn hc h m1 x1 Y D dn dc e) :=
    Lib.hid (fun wr m1 x1 Y D dn dc h1 h2 h3 h4 h5 h6 h7 h8 h9 h10 => ⟨h1, h2, p.heap, p.hn, h3, h4, h5, h6, h7, h8, h9, h10⟩)
  have HHEAP := Lib.hid p.heap
  have HHN := Lib.hid p.hn
  have P0 := Lib.hid p
  have HF := Lib.hid hf
  clear p hf hu hk
  go_enter Tryz.func62, Tryz.ntmps62
  go_wp2
  go_loopw [1] (fun v wr => ∃ (m1 : CS) (x1 : RL) (Y : List Raw) (D : Option Addr) (dn dc : Nat), v = .slice D dn dc ∧ Y.length ≤ f + 1 ∧ Hid (PPre K w0 wr g HA hn hc h m1 x1 Y D dn dc e) ∧ Hid (Fr K w wr) ∧ Hid (part (ss c) (abs h m 0) = part (ss Y) (abs h m1 0))) (fun v _ => lenV v)
  case atStart => exact ⟨m, x, c, C, cn, cc, rfl, hl, P0, Lib.hid (Fr.refl _ _), Lib.hid rfl⟩
  case round =>
    obtain ⟨m1, x1, Y, D, dn, dc, rfl, hY, HP, HFR, HS⟩ := hrel
    generalize wr = w1 at *
    have hlen := HP.out.part.len
    by_cases hd0 : 0 < dn
    · obtain ⟨b, off, ⟨⟨sd, sa, sb, st⟩, T, tn, tc⟩, hD, hx, -⟩ := HP.out.part.at_ 0 hd0
      subst hD
      obtain ⟨Q, hQ⟩ : ∃ Q, Y.drop 1 = Q := ⟨_, rfl⟩
      have hYQ : Y = ⟨⟨sd, sa, sb, st⟩, T, tn, tc⟩ :: Q := by rw [← hQ]; exact cons_at hx
      subst hYQ
      have HCELL : Hid (∀ W, Below w0.heap.size w0 W → W.cell? ⟨b, off, none⟩ = some (.int .i64 sd) ∧ W.cell? ⟨b, off + 1, none⟩ = some (.int .i64 sa) ∧ W.cell? ⟨b, off + 2, none⟩ = some (.int .i64 sb) ∧ W.cell? ⟨b, off + 3, none⟩ = some (.slice T tn tc)) := Lib.hid (fun W hW => by
        obtain ⟨b', off', ⟨⟨sd', sa', sb', st'⟩, T', tn', tc'⟩, hA', hx', c0, c1, c2, c3, _⟩ := (HP.out.part.below hW).at_ 0 hd0
        injection hA' with hA'
        injection hA' with e1 e2
        subst e1 e2
        simp only [List.getElem?_cons_zero, Option.some.injEq] at hx'
        injection hx' with i1 i2 i3 i4
        injection i1 with j1 j2 j3 j4
        subst i2 i3 i4 j1 j2 j3
        simp only [Nat.zero_mul, Nat.add_zero] at c0 c1 c2 c3
        exact ⟨c0, c1, c2, c3⟩)
      obtain ⟨B2, hB2⟩ : ∃ B2, (if dc = 1 then some (⟨b, off, none⟩ : Addr) else some ⟨b, off + 4, none⟩) = B2 := ⟨_, rfl⟩
      have hcap := HP.out.cap
      have hcn := HP.out.cn
      have hccc := HP.out.ccc
      have hone : oneB ⟨sd, sa, sb, st⟩ = true := by
        have h1 := HP.out.all
        show oneB ⟨sd, sa, sb, st⟩ = true
        have h2 : (ss (⟨⟨sd, sa, sb, st⟩, T, tn, tc⟩ :: Q)).all oneB = (oneB ⟨sd, sa, sb, st⟩ && (ss Q).all oneB) := rfl
        rw [h2, Bool.and_eq_true] at h1
        exact h1.1
      have hallQ : (ss Q).all oneB = true := by
        have h1 := HP.out.all
        have h2 : (ss (⟨⟨sd, sa, sb, st⟩, T, tn, tc⟩ :: Q)).all oneB = (oneB ⟨sd, sa, sb, st⟩ && (ss Q).all oneB) := rfl
        rw [h2, Bool.and_eq_true] at h1
        exact h1.2
      have hql : Q.length = dn - 1 := by rw [List.length_cons] at hlen; omega
      have hqf : Q.length ≤ f := by rw [List.length_cons] at hY; omega
      have hsd := one_d _ hone
      simp only at hsd
      have HDO : Hid (∀ W, Below w1.heap.size w1 W → Calls Tryz.prog (doing sd) #[.pointer (some ⟨g, 0, none⟩), .agg #[.int .i64 sd, .int .i64 sa, .int .i64 sb, .slice T tn tc], .slice B2 (dn - 1) (dc - 1)] W (fun en w' => DoPost K w0 W g (.slice HA hn hc) h m1 ⟨⟨sd, sa, sb, st⟩, T, tn, tc⟩ Q e en w')) := Lib.hid (fun W hW => by
        refine do_c (r := ⟨⟨sd, sa, sb, st⟩, T, tn, tc⟩) (x := x1) f HF.out hqf ⟨HP.out.run.below hW, HP.out.ok.size hW.size, HHEAP.out, HHN.out, (HP.out.part.2 _ (List.mem_cons_self ..)).1, hone, ?_, by omega, by omega, by omega, hallQ, HP.out.well, ?_, HP.out.why⟩
        · have h1 := HP.out.part.behind 1 dc (by omega) hcap
          rw [List.drop_one, List.tail_cons] at h1
          have e2 : (if dc = 1 then (some ⟨b, off, none⟩ : Option Addr) else Option.map (fun q : Addr => q.add (1 * 4)) (some ⟨b, off, none⟩)) = B2 := by rw [← hB2]; simp [Mem.add_plain]
          rw [e2] at h1
          exact h1
        · have h1 := HP.out.good
          rw [List.length_cons] at h1
          exact h1.weak _ (by omega))
      have HRB := Lib.hid HP.out.run.bel
      have BD : Hid (Below w1.heap.size w1 w1.drew) := Lib.hid (Below.refl _ _).drew
      have HFB : Hid (∀ W, Below w1.heap.size w1 W → Fr K w W) := Lib.hid (fun W hW => HFR.out.trans (HP.out.ok.fr hW))
      obtain ⟨i0, -⟩ := HCELL.out _ (bl_trans HRB.out BD.out)
      have HQL := Lib.hid hql
      have hb1 : 1 ≤ dn := hd0
      have hb1' : (1 : Int) ≤ (dn : Int) := by omega
      have hb2' : (dn : Int) ≤ (dc : Int) := by omega
      have HCD := Lib.hid (call_doing sd (by omega) (by omega))
      have HQF := Lib.hid hqf
      clear hx hone hallQ hlen hql hQ hqf
      go_wp2_with fail
      go_region_held3 (fun w' => w'.cell? ⟨b, off, none⟩ = some (.int .i64 sd)) (first | exact a0 | exact i0 | go_keep)
        ((go_at_call 102
          refine (doings_c _).mono ?_
          rintro e w5 ⟨bm, es, c5, rfl, hm5, hl5, b5⟩
          obtain ⟨im, him⟩ := hl5 sd (by omega) (by omega)
          have hlook := run_look HU.out HKT.out hm5 sd _ im him
          have BA := Lib.hid (bl_trans BD.out b5)
          have a0 := (HCELL.out _ (bl_trans HRB.out BA.out)).1
          clear b5 hm5 hl5 him))
      have BE : Hid (Below w1.heap.size w1 w5.drew) := Lib.hid BA.out.drew
      obtain ⟨j0, j1, j2, j3⟩ := HCELL.out _ (bl_trans HRB.out BE.out)
      clear i0 a0 hlook
      go_wp2_with fail
      go_region_held3 (fun w' => w'.cell? ⟨b, off, none⟩ = some (.int .i64 sd) ∧ w'.cell? ⟨b, off + 1, none⟩ = some (.int .i64 sa) ∧ w'.cell? ⟨b, off + 2, none⟩ = some (.int .i64 sb) ∧ w'.cell? ⟨b, off + 3, none⟩ = some (.slice T tn tc)) (first | exact ⟨d0, d1, d2, d3⟩ | exact ⟨j0, j1, j2, j3⟩ | go_keep)
        ((refine calls_step2 (by rfl) (doing sd) _ _ (HDO.out _ BE.out) (by go_simp; exact HCD.out _ _) ?_
          rintro e w6 ⟨k, lft, LB, ln, lc, m2, rfl, hkept, hcase⟩
          refine ⟨_, rfl, ?_⟩
          have HKEPT := Lib.hid hkept
          have HCASE := Lib.hid hcase
          obtain ⟨x2, hr2, hk2, hf2⟩ := hkept
          obtain ⟨d0, d1, d2, d3⟩ := HCELL.out w6 hr2.bel
          have HR2 := Lib.hid hr2
          have HK2 := Lib.hid hk2
          have HF2 := Lib.hid hf2
          clear hr2 hk2 hf2 hcase))
      clear j0 j1 j2 j3 d0 d1 d2 d3
      rcases HCASE.out with ⟨rfl, hat, hln, hlc, hall, hwell, hlft, hgood, hwhy, hspec⟩ | ⟨hk1, hgood, hspec⟩
      · have hlnl := hat.len
        have hq := HQL.out
        have hqf := HQF.out
        have HP2 := Lib.hid (HPRE.out w6 m2 x2 lft LB ln lc HR2.out HK2.out hat hln (by omega) hlc hall hwell hgood hwhy)
        have HS2 : Hid (part (ss c) (abs h m 0) = part (ss lft) (abs h m2 0)) := Lib.hid (HS.out.trans hspec)
        have HFR2 := Lib.hid ((HFB.out _ BE.out).trans HF2.out)
        have hmeas : ln < dn := by omega
        have hlf : lft.length ≤ f + 1 := by omega
        clear hat hln hlc hall hwell hlft hgood hwhy hspec hlnl hq hqf
        go_wp2
        go_roundw
        case rel => exact ⟨m2, x2, lft, LB, ln, lc, rfl, hlf, HP2, HFR2, HS2⟩
        case measure => simpa [lenV] using hmeas
      · have q : (k != 1) = true := by simp [hk1]
        have HF1 := Lib.hid (HFIN.out w5.drew w6 m1 x1 _ k m2 (HP.out.run.below BE.out) (HFB.out _ BE.out) HS.out HKEPT.out hgood hspec)
        clear hgood hspec
        go_wp2
        go_ret
        exact HF1.out
    · obtain rfl : dn = 0 := by omega
      obtain rfl : Y = [] := List.eq_nil_of_length_eq_zero hlen
      have HF1 := Lib.hid (HFIN.out w1 w1 m1 x1 [] 1 m1 HP.out.run HFR.out HS.out ⟨x1, HP.out.run, HP.out.ok, Fr.refl _ _⟩ (HP.out.good.weak _ (by simp)) (by
        have h0 := part_nil (abs h m1 0)
        show part [] (abs h m1 0) = _
        rw [h0]
        unfold ended abs
        rw [HP.out.why]))
      go_wp2
      go_ret
      exact HF1.out
theorem part_c : ∀ f, PartC f := by
  intro f
  induction f with
  | zero => exact part_zero_c
  | succ f ih => exact part_succ_c f ih
end Go.Proofs.YtadofonlkjkcmaaGreat.Model

namespace Go.Proofs.YtadofonlkjkcmaaGreat.Model
open Go.ChangeShapes Go.WideShapes Go.ChangeAt Go.RowKit Mem Go.Proofs.YtadofonlkjkcmaaGreat.Code

/-- The first state of a run. -/
def m0 : CS := ⟨List.replicate 8 0, [], [], [], 0⟩
def x0 : RL := ⟨none, 0, 0, none, 0, 0, none, 0, none, 0, 0⟩
theorem run_start {w0 : World} (H : Value) : RunAt w0 (w0.alloc (.cells (rcells H m0 x0).toArray 132)) w0.heap.size H m0 x0 :=
  ⟨Nat.le_refl _, rfl, Blk.new _ _ _, Own.nil_ (bl_alloc (Below.refl _ _) _), Own.nil_ (bl_alloc (Below.refl _ _) _), Own.nil_ (bl_alloc (Below.refl _ _) _), (fun e => by cases e), (fun e => by cases e), (fun e => by cases e), .inl rfl, .inl rfl, .inl rfl, fun _ => rfl⟩
theorem abs_start (h : List Heap.Cell) : abs h m0 0 = s0 h := by
  unfold abs m0 s0
  simp only [St.mk.injEq, true_and, and_true]
  exact ⟨rfl, by funext n; rfl, by funext n; rfl⟩
theorem apart_grown {u v : Value} (h : Apart u v) : u.ownBlock = none ∨ u.ownBlock ≠ v.ownBlock := by
  rcases h with h | h | h
  · exact .inl h
  · cases hu : u.ownBlock with
    | none => exact .inl rfl
    | some q => refine .inr ?_; rw [h]; exact fun e => by cases e
  · exact .inr h
/-- What is left of a run where what was seen is sorted in its place. -/
structure Rest (w0 w : World) (g : Nat) (H : Value) (m : CS) (x : RL) : Prop where
  blk : Blk w g 132 (rcells H m x).toArray
  path : Own w0 w 3 1 x.pv x.pn (zs m.path)
  log : Own w0 w 119 2 x.lv x.ln (Heap.ws m.log)
theorem RunAt.rest {w0 w : World} {g : Nat} {H : Value} {m : CS} {x : RL} (h : RunAt w0 w g H m x) : Rest w0 w g H m x := ⟨h.blk, h.path, h.log⟩
theorem Rest.grown {w0 w w' : World} {g : Nat} {H : Value} {m : CS} {x : RL} (h : Rest w0 w g H m x) (gs : x.sv.ownBlock ≠ some g) (ps : Apart x.pv x.sv) (ls : Apart x.lv x.sv) (hg : w.grownBy w' x.sv.ownBlock) (hb : Below w0.heap.size w0 w') : Rest w0 w' g H m x :=
  ⟨h.blk.grown hg gs, own_grown_ h.path hg (apart_grown ps) hb, own_grown_ h.log hg (apart_grown ls) hb⟩
theorem Rest.below {w0 w w' : World} {g : Nat} {H : Value} {m : CS} {x : RL} (h : Rest w0 w g H m x) (hb : Below w.heap.size w w') : Rest w0 w' g H m x := ⟨h.blk.below hb, h.path.below hb, h.log.below hb⟩
theorem Rest.set {w0 w : World} {g q : Nat} {H : Value} {m : CS} {x : RL} (h : Rest w0 w g H m x) (hq : w0.heap.size ≤ q) (h1 : q ≠ g) (h2 : x.pv.ownBlock ≠ some q) (h3 : x.lv.ownBlock ≠ some q) (i : Nat) (u : Value) : Rest w0 (w.setCell ⟨q, i, none⟩ u) g H m x :=
  ⟨h.blk.beside h1 i u, h.path.set_ne hq h2 i u, h.log.set_ne hq h3 i u⟩
theorem Rest.rdregs {w0 w : World} {g : Nat} {H : Value} {m : CS} {x : RL} (h : Rest w0 w g H m x) (h8 : m.regs.length = 8) : Rd w 1 (some ⟨g, 0, none⟩) 8 (zs m.regs) := by
  refine ⟨by rw [zs_map, List.length_map, h8], fun _ => ⟨g, 0, rfl, fun j u hu => ?_⟩⟩
  rw [zs_map, List.getElem?_map] at hu
  cases hz : m.regs[j]? with
  | none => rw [hz] at hu; cases hu
  | some z =>
    rw [hz] at hu
    injection hu with hu
    rw [← hu, Nat.zero_add]
    exact h.blk.cell j _ (by rw [List.getElem?_toArray]; exact rc_reg j z hz)
theorem Rest.tail {w0 w : World} {g : Nat} {H : Value} {m : CS} {x : RL} (h : Rest w0 w g H m x) (h8 : m.regs.length = 8) (k : Nat) (u : Value) (hu : [x.pv, x.lv, .slice x.M 0 x.mc, H, x.sv, .int .i64 m.why][k]? = some u) : w.cell? ⟨g, 8 + k, none⟩ = some u :=
  h.blk.cell (8 + k) _ (by rw [List.getElem?_toArray]; exact (rc_tail h8 k).trans hu)
theorem own_off {w0 w : World} {e size n q : Nat} {B : Option Addr} {d : Nat} {xs : List Value} (h : Own w0 w e size (.slice B n d) n xs) (hq : q < w0.heap.size) : ∀ b off, B = some ⟨b, off, none⟩ → b ≠ q := fun b off e => by have := h.base b (by rw [e]; rfl); omega
theorem own_off2 {w0 w : World} {e size n q : Nat} {B : Option Addr} {d : Nat} {xs : List Value} (h : Own w0 w e size (.slice B n d) n xs) (hq : q < w0.heap.size) : (Value.slice B n d).ownBlock ≠ some q := fun e => by have := h.base q e; omega
set_option maxRecDepth 100000 in
set_option maxHeartbeats 4000000 in
theorem run_yes (l : List Raw) (h : List Heap.Cell) (C HA : Option Addr) (n c hn hc : Nat) (w : World) (hat : At w C n l) (hnc : n ≤ c) (cm : c ≤ 9223372036854775807) (hlim : Lim l) (hnm : n ≤ 1000000) (hh : Rd w 2 HA hn (Heap.cs h)) (hhm : hn ≤ 1000000) (hck : checkS (ss l) = 0) (hri : Heap.rightB h = true) :
    Calls Tryz.prog 24 #[.slice C n c, .slice HA hn hc] w (RetRunN w (outS (part (ss l) (s0 h))) (outS (part (ss l) (s0 h))).regs.length (outS (part (ss l) (s0 h))).path.length (outS (part (ss l) (s0 h))).seen.length (outS (part (ss l) (s0 h))).writes.length (if (part (ss l) (s0 h)).kind = 1 then (part (ss l) (s0 h)).h else h) (if (part (ss l) (s0 h)).kind = 1 then (part (ss l) (s0 h)).h else h).length 0) := by
  rw [← abs_start]
  obtain ⟨S, hS⟩ : ∃ S, part (ss l) (abs h m0 0) = S := ⟨_, rfl⟩
  have HSS := Lib.hid hS
  rw [hS]
  clear hS
  obtain ⟨PQ, hPQ⟩ : ∃ PQ, RetRunN w (outS S) (outS S).regs.length (outS S).path.length (outS S).seen.length (outS S).writes.length (if S.kind = 1 then S.h else h) (if S.kind = 1 then S.h else h).length 0 = PQ := ⟨_, rfl⟩
  have HPQ := Lib.hid hPQ
  rw [hPQ]
  clear hPQ
  have HAT := Lib.hid hat
  have HH := Lib.hid hh
  have HLM := Lib.hid hlim
  have HV := Lib.hid hck
  have HRB := Lib.hid hri
  obtain ⟨w1, hw1⟩ : ∃ w1, w1 = w.alloc (.cells #[.int .i64 0, .int .i64 0, .slice none 0 0, .slice none 0 0, .slice none 0 0, .slice none 0 0] 58) := ⟨_, rfl⟩
  have BB : Hid (Below w.heap.size w w1) := Lib.hid (by rw [hw1]; exact bl_alloc (Below.refl _ _) _)
  have KK : Hid (Blk w1 w.heap.size 58 #[.int .i64 0, .int .i64 0, .slice none 0 0, .slice none 0 0, .slice none 0 0, .slice none 0 0]) := Lib.hid (by rw [hw1]; exact Blk.new _ _ _)
  obtain ⟨hc24, hall, hwell, _⟩ := check_ok _ hck
  have hlen := hat.len
  have hhl := Heap.right_len h hri
  have hhl2 : h.length = hn := by have h1 := hh.1; rw [Heap.cs_len] at h1; omega
  rw [ss_len] at hc24
  have HALL := Lib.hid hall
  have HWELL := Lib.hid hwell
  have hn24 : n ≤ 24 := by omega
  have hn64 : hn ≤ 64 := by omega
  clear hat hh hlim hck hri hall hwell
  go_enter Tryz.func24, Tryz.ntmps24
  go_wp2_with fail
  rw [← hw1]
  clear hw1
  refine (Code.check_c l _ _ _ _ 0 (HAT.out.below BB.out) hnc HLM.out HV.out hnm).mono ?_
  rintro e w2a ⟨rfl, b2⟩
  have B2a := Lib.hid b2
  clear b2
  go_wp2_with fail
  refine (Heap.right_c h _ _ _ _ true (HH.out.below (bl_trans BB.out B2a.out)) hhm HRB.out).mono ?_
  rintro e w2 ⟨rfl, b2⟩
  have B2 := Lib.hid (bl_trans B2a.out b2)
  clear b2
  obtain ⟨w3, hw3⟩ : ∃ w3, w3 = w2.alloc (.cells (rcells (.slice HA hn hc) m0 x0).toArray 132) := ⟨_, rfl⟩
  have R3 : Hid (RunAt w2 w3 w2.heap.size (.slice HA hn hc) m0 x0) := Lib.hid (by rw [hw3]; exact run_start _)
  have HP : Hid (∀ W, Below w3.heap.size w3 W → Calls Tryz.prog 62 #[.pointer (some ⟨w2.heap.size, 0, none⟩), .slice C n c] W (PPost (fun _ _ => False) w2 W w2.heap.size (.slice HA hn hc) h m0 l 0)) := Lib.hid (fun W hW =>
    part_c l.length (fun _ _ => False) w2 W w2.heap.size HA hn hc h m0 x0 l C n c 0 (Nat.le_refl _) ⟨R3.out.below hW, fun _ _ hk => hk.elim, HH.out.below (bl_trans BB.out B2.out), hn64, HAT.out.below (bl_trans BB.out B2.out), hnc, hn24, cm, HALL.out, HWELL.out, ⟨HRB.out, rfl, rfl, by show 0 + _ ≤ 24; omega, rfl, by show 0 + _ ≤ 24; omega, by show 0 + _ ≤ 24; omega, fun z hz => by cases hz⟩, rfl⟩)
  go_wp2_with fail
  have hw3' : w3 = w2.alloc (.cells #[.int .i64 0, .int .i64 0, .int .i64 0, .int .i64 0, .int .i64 0, .int .i64 0, .int .i64 0, .int .i64 0, .slice none 0 0, .slice none 0 0, .slice none 0 0, .slice HA hn hc, .slice none 0 0, .int .i64 0] 132) := hw3
  rw [← hw3']
  clear hw3 hw3'
  refine (HP.out _ (Below.refl _ _)).mono ?_
  rintro e w5 ⟨k, m, rfl, ⟨x, hrun, -, -⟩, hgood, hspec⟩
  have R5 := Lib.hid hrun
  have G5 := Lib.hid hgood
  have SP := Lib.hid hspec
  have w13 := hrun.at8.2.2.2.2.2
  clear hrun hgood hspec
  obtain ⟨w6, hw6⟩ : ∃ w6, w6 = w5.alloc (.cells #[.int .i64 k, .int .i64 m.why, .slice none 0 0, .slice none 0 0, .slice none 0 0, .slice none 0 0] 58) := ⟨_, rfl⟩
  have K6 : Hid (Blk w6 w5.heap.size 58 #[.int .i64 k, .int .i64 m.why, .slice none 0 0, .slice none 0 0, .slice none 0 0, .slice none 0 0]) := Lib.hid (by rw [hw6]; exact Blk.new _ _ _)
  have b6 : Below w5.heap.size w5 w6 := by rw [hw6]; exact bl_alloc (Below.refl _ _) _
  have R6 := Lib.hid (R5.out.below b6)
  have NS : Hid (x.sv.ownBlock ≠ some w5.heap.size) := Lib.hid (fun e => by have := R5.out.seen.lt _ e; omega)
  have NP : Hid (x.pv.ownBlock ≠ some w5.heap.size) := Lib.hid (fun e => by have := R5.out.path.lt _ e; omega)
  have NL : Hid (x.lv.ownBlock ≠ some w5.heap.size) := Lib.hid (fun e => by have := R5.out.log.lt _ e; omega)
  have NG : Hid (w5.heap.size ≠ w2.heap.size) := Lib.hid (by have := R5.out.blk.lt; omega)
  have N2 : Hid (w2.heap.size ≤ w5.heap.size) := Lib.hid (by have := R5.out.blk.lt; omega)
  have s12 : w6.cell? ⟨w2.heap.size, 12, none⟩ = some (.slice x.S x.sn x.sc) := R6.out.at8.2.2.2.2.1
  have hsn : x.sn ≤ 24 := by
    have h1 := G5.out.seen
    have h2 := R5.out.seen.1.1
    rw [zs_map, List.length_map] at h2
    omega
  rw [hw6] at s12
  clear b6
  go_wp2_with fail
  rw [← hw6]
  clear hw6 w13 s12
  refine (sort_own2 w2 w6 x.sv x.sn m.seen R6.out.seen (by omega)).mono ?_
  rintro e w7 ⟨rfl, ho7, hg7⟩
  have O7 := Lib.hid ho7
  have T7 := Lib.hid (R6.out.rest.grown R6.out.gs R6.out.ps R6.out.ls hg7 ho7.2)
  have K7 := Lib.hid (K6.out.grown hg7 NS.out)
  clear ho7 hg7
  have s12 : w7.cell? ⟨w2.heap.size, 12, none⟩ = some (.slice x.S x.sn x.sc) := T7.out.blk.cell 12 _ (by rw [List.getElem?_toArray]; exact rc_tail R6.out.r8 4)
  go_wp2_with fail
  refine (compact_own2 w2 w7 x.sv x.sn (sortZ m.seen) O7.out (by omega)).mono ?_
  rintro e w8 ⟨v8, rfl, ho8, hg8, hv8⟩
  obtain ⟨S8, c8, rfl, -⟩ := ho8.form
  have O8 := Lib.hid ho8
  have T8 := Lib.hid (T7.out.grown R6.out.gs R6.out.ps R6.out.ls hg8 ho8.2)
  have K8 := Lib.hid (K7.out.grown hg8 NS.out)
  have NV : Hid ((Value.slice S8 (Lib.compact (sortZ m.seen)).length c8).ownBlock ≠ some w5.heap.size) := Lib.hid (by rw [hv8]; exact NS.out)
  clear ho8 hg8 hv8 s12
  obtain ⟨ns, hns⟩ : ∃ ns, (Lib.compact (sortZ m.seen)).length = ns := ⟨_, rfl⟩
  rw [hns] at O8 NV ⊢
  have HNS := Lib.hid hns
  clear hns
  have k84 := K8.out.cell 4 _ rfl
  have z8 := K8.out.frozen
  have K9 := Lib.hid (K8.out.set_ 4 (.slice S8 ns c8))
  have T9 := Lib.hid (T8.out.set (q := w5.heap.size) N2.out NG.out NP.out NL.out 4 (.slice S8 ns c8))
  have O9 := Lib.hid (O8.out.set_ne (g := w5.heap.size) N2.out NV.out 4 (.slice S8 ns c8))
  have k90 := K9.out.cell 0 _ rfl
  have R8 := Lib.hid R6.out.r8
  have NWW : Hid (w.heap.size < w2.heap.size) := Lib.hid (by have h1 := KK.out.lt; have h2 := B2.out.size; omega)
  have LPN : Hid (x.pn ≤ 24) := Lib.hid (by have h1 := G5.out.path; have h2 := R5.out.path.1.1; rw [zs_map, List.length_map] at h2; omega)
  have LLN : Hid (x.ln ≤ 24) := Lib.hid (by have h1 := G5.out.cnt; have h2 := R5.out.log.1.1; rw [Heap.ws_len] at h2; omega)
  have lpn := LPN.out
  have lln := LLN.out
  by_cases hk : k = 1
  · subst hk
    go_wp2_with fail
    clear k90 k84 z8
    generalize w8.setCell ⟨w5.heap.size, 4, none⟩ (.slice S8 ns c8) = w9 at *
    have k90 := K9.out.cell 2 _ rfl
    have z9 := K9.out.frozen
    refine (Writes.clonei_c m.regs (some ⟨w2.heap.size, 0, none⟩) 8 8 w9 (T9.out.rdregs R8.out) (by omega)).mono ?_
    rintro e w10 ⟨v10, rfl, ho⟩
    obtain ⟨RG, rgc, rfl, -, -⟩ := own_room ho
    have K10 := Lib.hid (K9.out.below ho.2)
    have T10 := Lib.hid (T9.out.below ho.2)
    have OS10 := Lib.hid (O9.out.below ho.2)
    have OR10 := Lib.hid (ho.wide T9.out.path.2)
    have NR : Hid ((Value.slice RG 8 rgc).ownBlock ≠ some w5.heap.size) := Lib.hid (own_off2 ho K9.out.lt)
    clear ho k90 z9
    have kk := K10.out.cell 2 _ rfl
    have z := K10.out.frozen
    have K11 := Lib.hid (K10.out.set_ 2 (.slice RG 8 rgc))
    have T11 := Lib.hid (T10.out.set (q := w5.heap.size) N2.out NG.out NP.out NL.out 2 (.slice RG 8 rgc))
    have OS11 := Lib.hid (OS10.out.set_ne (g := w5.heap.size) N2.out NV.out 2 (.slice RG 8 rgc))
    have OR11 := Lib.hid (OR10.out.set_ne (g := w5.heap.size) N2.out NR.out 2 (.slice RG 8 rgc))
    have s8 := T11.out.tail R8.out 0 _ rfl
    go_wp2_with fail
    clear kk z s8
    generalize w10.setCell ⟨w5.heap.size, 2, none⟩ (.slice RG 8 rgc) = w11 at *
    refine (Writes.clonei_c m.path x.P x.pn x.pc w11 (own_cap T11.out.path).2.2 (by omega)).mono ?_
    rintro e w12 ⟨v12, rfl, ho⟩
    obtain ⟨PG, pgc, rfl, -, -⟩ := own_room ho
    have K12 := Lib.hid (K11.out.below ho.2)
    have T12 := Lib.hid (T11.out.below ho.2)
    have OS12 := Lib.hid (OS11.out.below ho.2)
    have OR12 := Lib.hid (OR11.out.below ho.2)
    have OP12 := Lib.hid (ho.wide T11.out.path.2)
    have NPP : Hid ((Value.slice PG x.pn pgc).ownBlock ≠ some w5.heap.size) := Lib.hid (own_off2 ho K11.out.lt)
    clear ho
    have kk := K12.out.cell 3 _ rfl
    have z := K12.out.frozen
    have K13 := Lib.hid (K12.out.set_ 3 (.slice PG x.pn pgc))
    have T13 := Lib.hid (T12.out.set (q := w5.heap.size) N2.out NG.out NP.out NL.out 3 (.slice PG x.pn pgc))
    have OS13 := Lib.hid (OS12.out.set_ne (g := w5.heap.size) N2.out NV.out 3 (.slice PG x.pn pgc))
    have OR13 := Lib.hid (OR12.out.set_ne (g := w5.heap.size) N2.out NR.out 3 (.slice PG x.pn pgc))
    have OP13 := Lib.hid (OP12.out.set_ne (g := w5.heap.size) N2.out NPP.out 3 (.slice PG x.pn pgc))
    have s9 := T13.out.tail R8.out 1 _ rfl
    have s10 := T13.out.tail R8.out 2 _ rfl
    go_wp2_with fail
    clear kk z s9 s10
    generalize w12.setCell ⟨w5.heap.size, 3, none⟩ (.slice PG x.pn pgc) = w13 at *
    obtain ⟨wl, hwl⟩ : ∃ wl, Writes.lastS ⟨m.log, []⟩ = wl := ⟨_, rfl⟩
    obtain ⟨nw, hnw⟩ : ∃ nw, wl.length = nw := ⟨_, rfl⟩
    refine (Writes.last_o ⟨m.log, []⟩ x.L x.M x.ln x.lc 0 x.mc w13 wl nw ⟨(own_cap T13.out.log).2.2, ⟨rfl, fun h0 => absurd h0 (by omega)⟩, (own_cap T13.out.log).2.1, Nat.zero_le _⟩ (by omega) (by omega) hwl hnw).mono ?_
    rintro e w14 ⟨v14, rfl, ho⟩
    obtain ⟨WG, wgc, rfl, -, -⟩ := own_room ho
    have K14 := Lib.hid (K13.out.below ho.2)
    have BL14 := Lib.hid (bl_trans T13.out.path.2 ho.2)
    have OS14 := Lib.hid (OS13.out.below ho.2)
    have OR14 := Lib.hid (OR13.out.below ho.2)
    have OP14 := Lib.hid (OP13.out.below ho.2)
    have OW14 := Lib.hid (ho.wide T13.out.path.2)
    have NW : Hid ((Value.slice WG nw wgc).ownBlock ≠ some w5.heap.size) := Lib.hid (own_off2 ho K13.out.lt)
    have HWL := Lib.hid hwl
    have HNW := Lib.hid hnw
    clear ho hwl hnw
    have kk := K14.out.cell 5 _ rfl
    have z := K14.out.frozen
    have K15 := Lib.hid (K14.out.set_ 5 (.slice WG nw wgc))
    have BL15 : Hid (Below w2.heap.size w2 (w14.setCell ⟨w5.heap.size, 5, none⟩ (.slice WG nw wgc))) := Lib.hid (bl_set BL14.out (p := ⟨w5.heap.size, 5, none⟩) N2.out _)
    have OS15 := Lib.hid (OS14.out.set_ne (g := w5.heap.size) N2.out NV.out 5 (.slice WG nw wgc))
    have OR15 := Lib.hid (OR14.out.set_ne (g := w5.heap.size) N2.out NR.out 5 (.slice WG nw wgc))
    have OP15 := Lib.hid (OP14.out.set_ne (g := w5.heap.size) N2.out NPP.out 5 (.slice WG nw wgc))
    have OW15 := Lib.hid (OW14.out.set_ne (g := w5.heap.size) N2.out NW.out 5 (.slice WG nw wgc))
    have k5 := K15.out.cell 5 _ rfl
    go_wp2_with fail
    clear kk z k5
    generalize w14.setCell ⟨w5.heap.size, 5, none⟩ (.slice WG nw wgc) = w15 at *
    have hwle : wl = Writes.lastL m.log := by rw [← HWL.out]; unfold Writes.lastS; rw [if_pos G5.out.log]
    have hw64 : nw ≤ 24 := by
      rw [← HNW.out, hwle]
      have h1 := Writes.last_len m.log
      have h2 := G5.out.cnt
      omega
    have HPUT : Hid (Heap.putS h wl = ((abs h m 1).h, 0)) := Lib.hid (by rw [hwle]; exact put_abs G5.out 1)
    have HWLE := Lib.hid hwle
    clear hwle
    refine (Heap.put_o h wl HA (WG) hn hc nw wgc w15 _ ((HH.out.below (bl_trans BB.out B2.out)).below BL15.out) (own_cap OW15.out).2.2 (by omega) (by omega) HPUT.out).mono ?_
    rintro e w16 ⟨v16, rfl, hg⟩
    have b16 := hg.2
    obtain ⟨GB, gbc, rfl, -, -⟩ := own_room hg
    have GR := Lib.hid hg
    have B16 := Lib.hid b16
    have K16 := Lib.hid (K15.out.below b16)
    have KW16 := Lib.hid (KK.out.below (bl_trans B2.out (bl_trans BL15.out b16)))
    clear hg b16
    have k0 := K16.out.cell 0 _ rfl
    have k1 := K16.out.cell 1 _ rfl
    have k2 := K16.out.cell 2 _ rfl
    have k3 := K16.out.cell 3 _ rfl
    have k4 := K16.out.cell 4 _ rfl
    have k5 := K16.out.cell 5 _ rfl
    have q0 := KW16.out.cell 0 _ rfl
    have q1 := KW16.out.cell 1 _ rfl
    have q2 := KW16.out.cell 2 _ rfl
    have q3 := KW16.out.cell 3 _ rfl
    have q4 := KW16.out.cell 4 _ rfl
    have q5 := KW16.out.cell 5 _ rfl
    have qz := KW16.out.frozen
    have HK6 := Lib.hid (six_blk KW16.out (.int .i64 1) (.int .i64 m.why) (.slice RG 8 rgc) (.slice PG x.pn pgc) (.slice S8 ns c8) (.slice WG nw wgc))
    go_wp2_with fail
    clear k0 k1 k2 k3 k4 k5 q0 q1 q2 q3 q4 q5 qz
    have q0 := HK6.out.cell 0 _ rfl
    have q1 := HK6.out.cell 1 _ rfl
    have q2 := HK6.out.cell 2 _ rfl
    have q3 := HK6.out.cell 3 _ rfl
    have q4 := HK6.out.cell 4 _ rfl
    have q5 := HK6.out.cell 5 _ rfl
    (try simp only [Exit.inBlock, Exit.then])
    refine bodyPost_ret (v := .tuple #[.agg #[.int .i64 1, .int .i64 m.why, .slice RG 8 rgc, .slice PG x.pn pgc, .slice S8 ns c8, .slice WG nw wgc], .slice GB hn gbc, .int .i64 0]) (by simp [results, Tryz.results24, go_sem, q0, q1, q2, q3, q4, q5]) rfl ?_
    have eS : S = abs h m 1 := by rw [← HSS.out]; exact SP.out
    have e1 : outS S = ⟨1, m.why, m.regs, m.path, pick (abs h m 1).seen 64, writesS (abs h m 1)⟩ := by rw [eS]; rfl
    have e2 : (if S.kind = 1 then S.h else h) = (abs h m 1).h := by rw [eS]; exact if_pos rfl
    have hsn2 : Lib.compact (sortZ m.seen) = pick (abs h m 1).seen 64 := seen_abs G5.out 1
    have hwr : wl = writesS (abs h m 1) := by rw [HWLE.out]; exact writes_abs G5.out 1
    have l2 : m.path.length = x.pn := by have := R5.out.path.1.1; rw [zs_map, List.length_map] at this; omega
    have l3 : (pick (abs h m 1).seen 64).length = ns := by rw [← hsn2]; exact HNS.out
    have l4 : (writesS (abs h m 1)).length = nw := by rw [← hwr]; exact HNW.out
    have l5 : (abs h m 1).h.length = hn := by have := GR.out.1.1; rw [Heap.cs_len] at this; show (abs h m 1).h.length = hn; omega
    rw [← HPQ.out, e1, e2]
    show RetRunN w _ m.regs.length m.path.length (pick (abs h m 1).seen 64).length (writesS (abs h m 1)).length (abs h m 1).h (abs h m 1).h.length 0 _ _
    rw [R8.out, l2, l3, l4, l5]
    have hb16 := bl_trans (bl_trans (bl_trans BB.out B2.out) BL15.out) B16.out
    refine ⟨RG, rgc, PG, pgc, S8, c8, WG, wgc, GB, gbc, rfl, ⟨six_rd ((own_cap OR15.out).2.2.below B16.out) (own_off OR15.out NWW.out) _ _ _ _ _ _, six_rd ((own_cap OP15.out).2.2.below B16.out) (own_off OP15.out NWW.out) _ _ _ _ _ _, ?_, ?_⟩, six_rd (own_cap GR.out).2.2 (own_off (GR.out.wide BL15.out) NWW.out) _ _ _ _ _ _, six_bel hb16 (Nat.le_refl _) _ _ _ _ _ _, Nw.of_own OR15.out (Nat.le_of_lt NWW.out), Nw.of_own OP15.out (Nat.le_of_lt NWW.out), Nw.of_own OS15.out (Nat.le_of_lt NWW.out), Nw.of_own OW15.out (Nat.le_of_lt NWW.out), Nw.of_own (GR.out.wide BL15.out) (Nat.le_of_lt NWW.out)⟩
    · have h1 := (own_cap OS15.out).2.2
      rw [hsn2] at h1
      exact six_rd (h1.below B16.out) (own_off OS15.out NWW.out) _ _ _ _ _ _
    · have h1 := (own_cap OW15.out).2.2
      rw [hwr] at h1
      exact six_rd (h1.below B16.out) (own_off OW15.out NWW.out) _ _ _ _ _ _
  · have q : (k != 1) = true := by simp [hk]
    go_wp2_with fail
    clear k90 k84 z8
    generalize w8.setCell ⟨w5.heap.size, 4, none⟩ (.slice S8 ns c8) = w9 at *
    have KW9 := Lib.hid (KK.out.below (bl_trans B2.out T9.out.path.2))
    have HHW := Lib.hid ((HH.out.below (bl_trans BB.out B2.out)).below T9.out.path.2)
    have HBG : Hid (w5.heap.size ≠ w.heap.size) := Lib.hid (by have := NWW.out; have := N2.out; omega)
    have hbg := HBG.out
    have i0 : w9.drew.cell? ⟨w5.heap.size, 0, none⟩ = some (.int .i64 k) := K9.out.cell 0 _ rfl
    have i1 : w9.drew.cell? ⟨w5.heap.size, 1, none⟩ = some (.int .i64 m.why) := K9.out.cell 1 _ rfl
    have i2 : w9.drew.cell? ⟨w5.heap.size, 2, none⟩ = some (.slice none 0 0) := K9.out.cell 2 _ rfl
    have i3 : w9.drew.cell? ⟨w5.heap.size, 3, none⟩ = some (.slice none 0 0) := K9.out.cell 3 _ rfl
    have i4 : w9.drew.cell? ⟨w5.heap.size, 4, none⟩ = some (.slice S8 ns c8) := K9.out.cell 4 _ rfl
    have i5 : w9.drew.cell? ⟨w5.heap.size, 5, none⟩ = some (.slice none 0 0) := K9.out.cell 5 _ rfl
    refine wp_region_held_drew (S := fun (W : World) => W.cell? ⟨w5.heap.size, 0, none⟩ = some (.int .i64 k) ∧ W.cell? ⟨w5.heap.size, 1, none⟩ = some (.int .i64 m.why) ∧ W.cell? ⟨w5.heap.size, 2, none⟩ = some (.slice none 0 0) ∧ W.cell? ⟨w5.heap.size, 3, none⟩ = some (.slice none 0 0) ∧ W.cell? ⟨w5.heap.size, 4, none⟩ = some (.slice S8 ns c8) ∧ W.cell? ⟨w5.heap.size, 5, none⟩ = some (.slice none 0 0)) (by kernel_rfl) ⟨i0, i1, i2, i3, i4, i5⟩ (fun hHeld => ?_)
    clear i0 i1 i2 i3 i4 i5
    refine wpAnyH_take (i := 0) (v := .agg #[.int .i64 k, .int .i64 m.why, .slice none 0 0, .slice none 0 0, .slice S8 ns c8, .slice none 0 0]) rfl (by kernel_rfl) (by kernel_rfl) (by kernel_rfl) (fun _ _ _ h => h) (Or.inl ⟨by rfl, fun W hS => by obtain ⟨k0, k1, k2, k3, k4, k5⟩ := hS; go_simp⟩) hHeld ?_
    try simp only [Act.put]
    try simp only [List.setIfInBounds_toArray]
    try simp only [List.set_cons_succ]
    try simp only [List.set_cons_zero]
    refine wpAnyH_take (i := 1) (v := .slice HA hn hc) rfl (by kernel_rfl) (by kernel_rfl) (by kernel_rfl) (fun _ _ _ h => h) (Or.inl ⟨by rfl, fun W hS => by go_simp⟩) hHeld ?_
    try simp only [Act.put]
    try simp only [List.setIfInBounds_toArray]
    try simp only [List.set_cons_succ]
    try simp only [List.set_cons_zero]
    refine wpAnyH_ready (rs := [2]) (by kernel_rfl) (by simp) ?_
    refine AllReadyH.cons rfl (fun KK0 hK => ?_) AllReadyH.nil
    refine calls_step2 (by rfl) 61 #[.slice HA hn hc] _ (Heap.clone_any h HA hn hc w9.drew HHW.out (by omega)) ?_ ?_
    · focus (go_simp; done)
    rintro e w10 ⟨v10, rfl, ho⟩
    obtain ⟨GB, gbc, rfl, -, -⟩ := own_room ho
    refine ⟨_, rfl, ?_⟩
    have HG := Lib.hid ho
    have K10 := Lib.hid (K9.out.below (w := w9.drew) ho.2)
    have KW10 := Lib.hid (KW9.out.below (w := w9.drew) ho.2)
    clear ho
    refine hK.out _ _ ⟨K10.out.cell 0 _ rfl, K10.out.cell 1 _ rfl, K10.out.cell 2 _ rfl, K10.out.cell 3 _ rfl, K10.out.cell 4 _ rfl, K10.out.cell 5 _ rfl⟩ (fun hHeld2 => ?_)
    try simp only [Act.put]
    try simp only [List.setIfInBounds_toArray]
    try simp only [List.set_cons_succ]
    try simp only [List.set_cons_zero]
    clear hK KK0
    have q0 := KW10.out.cell 0 _ rfl
    have q1 := KW10.out.cell 1 _ rfl
    have q2 := KW10.out.cell 2 _ rfl
    have q3 := KW10.out.cell 3 _ rfl
    have q4 := KW10.out.cell 4 _ rfl
    have q5 := KW10.out.cell 5 _ rfl
    have qz := KW10.out.frozen
    have HK6 := Lib.hid (six_blk KW10.out (.int .i64 k) (.int .i64 m.why) (.slice none 0 0) (.slice none 0 0) (.slice S8 ns c8) (.slice none 0 0))
    refine wpAnyH_ready (rs := [3]) (by kernel_rfl) (by simp) ?_
    refine AllReadyH.cons rfl (fun KK0 hK => ?_) AllReadyH.nil
    go_simp
    clear q0 q1 q2 q3 q4 q5 qz
    refine hK.out _ _ (by refine ⟨?_, ?_, ?_, ?_, ?_, ?_⟩ <;> (rw [cell_set_ne (Ne.symm hbg), cell_set_ne (Ne.symm hbg), cell_set_ne (Ne.symm hbg), cell_set_ne (Ne.symm hbg), cell_set_ne (Ne.symm hbg), cell_set_ne (Ne.symm hbg)]; exact K10.out.cell _ _ rfl)) (fun hHeld3 => ?_)
    try simp only [Act.put]
    try simp only [List.setIfInBounds_toArray]
    try simp only [List.set_cons_succ]
    try simp only [List.set_cons_zero]
    clear hK KK0
    refine wpAnyH_ready (rs := [4]) (by kernel_rfl) (by simp) ?_
    refine AllReadyH.cons rfl (fun KK0 hK => ?_) AllReadyH.nil
    go_simp
    refine hK.out _ _ (by refine ⟨?_, ?_, ?_, ?_, ?_, ?_⟩ <;> (rw [cell_set_ne (Ne.symm hbg), cell_set_ne (Ne.symm hbg), cell_set_ne (Ne.symm hbg), cell_set_ne (Ne.symm hbg), cell_set_ne (Ne.symm hbg), cell_set_ne (Ne.symm hbg)]; exact K10.out.cell _ _ rfl)) (fun hHeld4 => ?_)
    try simp only [Act.put]
    try simp only [List.setIfInBounds_toArray]
    try simp only [List.set_cons_succ]
    try simp only [List.set_cons_zero]
    clear hK KK0
    refine wpAnyH_ready (rs := [5]) (by kernel_rfl) (by simp) ?_
    refine AllReadyH.cons rfl (fun KK0 hK => ?_) AllReadyH.nil
    go_simp
    refine hK.out _ _ (by refine ⟨?_, ?_, ?_, ?_, ?_, ?_⟩ <;> (rw [cell_set_ne (Ne.symm hbg), cell_set_ne (Ne.symm hbg), cell_set_ne (Ne.symm hbg), cell_set_ne (Ne.symm hbg), cell_set_ne (Ne.symm hbg), cell_set_ne (Ne.symm hbg)]; exact K10.out.cell _ _ rfl)) (fun hHeld5 => ?_)
    try simp only [Act.put]
    try simp only [List.setIfInBounds_toArray]
    try simp only [List.set_cons_succ]
    try simp only [List.set_cons_zero]
    clear hK KK0
    refine wpAnyH_done (by kernel_rfl) ?_ _
    have q0 := HK6.out.cell 0 _ rfl
    have q1 := HK6.out.cell 1 _ rfl
    have q2 := HK6.out.cell 2 _ rfl
    have q3 := HK6.out.cell 3 _ rfl
    have q4 := HK6.out.cell 4 _ rfl
    have q5 := HK6.out.cell 5 _ rfl
    go_wp2_with fail
    (try simp only [Exit.inBlock, Exit.then])
    refine bodyPost_ret (v := .tuple #[.agg #[.int .i64 k, .int .i64 m.why, .slice none 0 0, .slice none 0 0, .slice S8 ns c8, .slice none 0 0], .slice GB hn gbc, .int .i64 0]) (by simp [results, Tryz.results24, go_sem, q0, q1, q2, q3, q4, q5]) rfl ?_
    have eS : S = abs h m k := by rw [← HSS.out]; exact SP.out
    have hkk : ¬ (abs h m k).kind = 1 := hk
    have e1 : outS S = ⟨k, m.why, [], [], pick (abs h m k).seen 64, []⟩ := by rw [eS]; unfold outS; rw [if_neg hkk]; rfl
    have e2 : (if S.kind = 1 then S.h else h) = h := by rw [eS]; exact if_neg hkk
    have hsn2 : Lib.compact (sortZ m.seen) = pick (abs h m k).seen 64 := seen_abs G5.out k
    have l3 : (pick (abs h m k).seen 64).length = ns := by rw [← hsn2]; exact HNS.out
    rw [← HPQ.out, e1, e2]
    show RetRunN w _ 0 0 (pick (abs h m k).seen 64).length 0 h h.length 0 _ _
    rw [l3, hhl2]
    have hb9 := bl_trans (bl_trans BB.out B2.out) T9.out.path.2
    have hb10 : Below w.heap.size w w10 := bl_trans hb9 (bl_trans (Below.refl _ w9).drew HG.out.2)
    refine ⟨none, 0, none, 0, S8, c8, none, 0, GB, gbc, rfl, ⟨Rd.none_, Rd.none_, ?_, Rd.none_⟩, six_rd (own_cap HG.out).2.2 (own_off (q := w.heap.size) HG.out (show w.heap.size < w9.heap.size from KW9.out.lt)) _ _ _ _ _ _, six_bel hb10 (Nat.le_refl _) _ _ _ _ _ _, Nw.none_ _, Nw.none_ _, Nw.of_own O9.out (Nat.le_of_lt NWW.out), Nw.none_ _, Nw.of_own HG.out (show w.heap.size ≤ w9.heap.size from Nat.le_of_lt KW9.out.lt)⟩
    have h1 := (own_cap O9.out).2.2
    rw [hsn2] at h1
    exact six_rd (h1.below (bl_trans (Below.refl _ w9).drew HG.out.2)) (own_off O9.out NWW.out) _ _ _ _ _ _
/-- The layer's function does what the chapter asks. -/
theorem said : Said where
  runN := by
    intro l h C HA n c hn hc w o g ok n1 n2 n3 n4 gn f hat hnc cm hlim hnm hh hhm hrun e1 e2 e3 e4 e5 e6
    cases hok : okR (ss l) h with
    | false =>
      have h1 := run_no l h C HA n c hn hc w hat hnc hlim hnm hh hhm hok
      unfold runS at hrun
      rw [hok] at hrun
      simp only [Bool.false_eq_true, if_false, Prod.mk.injEq] at hrun
      obtain ⟨rfl, rfl, rfl⟩ := hrun
      have hl : h.length = hn := by have h1 := hh.1; rw [Heap.cs_len] at h1; omega
      subst e1 e2 e3 e4 e5 e6
      rw [hl]
      exact h1
    | true =>
      have h1 := hok
      unfold okR at h1
      rw [Bool.and_eq_true, decide_eq_true_eq] at h1
      have h2 := run_yes l h C HA n c hn hc w hat hnc cm hlim hnm hh hhm h1.1 h1.2
      unfold runS at hrun
      rw [if_pos hok] at hrun
      simp only [Prod.mk.injEq] at hrun
      obtain ⟨rfl, rfl, rfl⟩ := hrun
      subst e1 e2 e3 e4 e5 e6
      exact h2
end Go.Proofs.YtadofonlkjkcmaaGreat.Model
