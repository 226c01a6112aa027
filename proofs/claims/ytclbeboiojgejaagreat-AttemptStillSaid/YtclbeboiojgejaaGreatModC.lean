/-
 WHAT Run RETURNS, AS IT IS WRITTEN, of a code and a heap. No conditions beyond those that each theorem states.
-/
import Derived.Test.YtclbeboiojgejaaGreatModB
import Derived.Laws.Tables
import Derived.Laws.CopyOwn
import Derived.Test.YtclbeboiojgejaaGreatAttF
namespace Go.Proofs.YtclbeboiojgejaaGreat.Model
open Go.ChangeShapes Go.WideShapes Go.ChangeAt Go.RowKit Mem Go.Proofs.YtclbeboiojgejaaGreat.Code

theorem small_val (l : List Raw) (n : Nat) (hl : l.length = n) (h : smallB l = true) : smallI l = (n : Int) := by unfold smallI; rw [if_pos h, hl]
theorem small_neg (l : List Raw) (h : smallB l = false) : smallI l = -1 := by unfold smallI; rw [h]; rfl
end Go.Proofs.YtclbeboiojgejaaGreat.Model

namespace Go.Proofs.YtclbeboiojgejaaGreat.Model
open Go.ChangeShapes Go.WideShapes Go.ChangeAt Go.RowKit Mem Go.Proofs.YtclbeboiojgejaaGreat.Code

section
variable {P : Program} {w : World} {ops : Array Oper} {o : Oper} {a : Act} {K : Act → World → Prop} {Q : Exit → Act → World → Prop} {E : Prop}
end
section
variable {P : Program} {w : World} {o : Oper} {a : Act} {K : Act → World → Prop} {Q : Exit → Act → World → Prop}
theorem calls_wp (f : FuncId) (vs : Array Value) (R : Ending → World → Prop)
  (hc : Calls P f vs w R) (hrun : (execOp a.eval o).run P w = .ok (.enter f vs) w) (h : ∀ e w', R e w' → ∃ v, e = .returned v ∧ K (a.put o.dst v) w') : Oper.wp P o a w K Q := by
 unfold Oper.wp
 rw [hrun, Oper.upon_enter]
 refine hc.mono ?_
 intro e w' hr
 obtain ⟨v, rfl, hk⟩ := h e w' hr
 exact hk
end
theorem enter_run {P : Program} {F : FuncId} {fn : Func} (hf : P.funcs[F]? = some fn) (hn : (fn.name == "runtime.NumGoroutine") = false) (hb : fn.body.isNone = false) (args : Array Value) (W : World) : (callFunc F args).run P W = .ok (.enter F args) W := by
 have hn' : ¬ fn.name = "runtime.NumGoroutine" := by simpa using hn
 have hb' : ¬ fn.body = none := fun e => by rw [e] at hb; cases hb
 unfold callFunc
 simp [program, Sem.run, hf, hn', hb']
/-- A call of a function by its name. -/
theorem run_call {P : Program} {ρ : Operand → Value} {o : Oper} {w : World} (F : FuncId) (args : Array Operand) (tys : Array TypeId) (ho : o.op = .call { callee := .value (.func F), args := args, argTypes := tys }) (hρ : ρ (.func F) = .func (.func F) #[] #[]) {fn : Func} (hf : P.funcs[F]? = some fn)
  (hn : (fn.name == "runtime.NumGoroutine") = false) (hb : fn.body.isNone = false) (vs : Array Value) (hvs : args.map ρ = vs) : (execOp ρ o).run P w = .ok (.enter F vs) w := by
 unfold execOp
 simp only [ho, resolve, Deferred.ofValue, hρ, invoke, Sem.run_bind, Sem.run_pure, Result.andThen_ok, hvs, Array.append_empty, Array.empty_append]
 exact enter_run hf hn hb vs w
/-- A slice that lies below a block. -/
def Lw (g : Nat) (A : Option Addr) (n : Nat) : Prop := ∀ b off, A = some ⟨b, off, none⟩ → 0 < n → b < g
/-- An end whose lists lie below a block, and one whose lists are new. -/
structure OLw (g : Nat) (A1 A2 A3 A4 : Option Addr) (n1 n2 n3 n4 : Nat) : Prop where
 a1 : Lw g A1 n1
 a2 : Lw g A2 n2
 a3 : Lw g A3 n3
 a4 : Lw g A4 n4
/-- Of whatever run the lists are short. -/
structure Short (o : Out) (g h : List Heap.Cell) : Prop where
 regs : o.regs.length ≤ 8
 path : o.path.length ≤ 24
 seen : o.seen.length ≤ 64
 writes : o.writes.length ≤ 64
 heap : g.length = h.length
end Go.Proofs.YtclbeboiojgejaaGreat.Model

namespace Go.Proofs.YtclbeboiojgejaaGreat.Model
open Go.ChangeShapes Go.WideShapes Go.ChangeAt Go.RowKit Mem Go.Proofs.YtclbeboiojgejaaGreat.Code

/-- A part that is run. -/
structure PPre (K : Nat → Nat → Prop) (w0 w : World) (g : Nat) (HA : Option Addr) (hn hc : Nat) (h : List Heap.Cell) (m : CS) (x : RL) (c : List Raw) (C : Option Addr) (cn cc e : Nat) : Prop where
 run : RunAt w0 w g (.slice HA hn hc) m x
 ok : KOK K w g x
 heap : Rd w0 2 HA hn (Heap.cs h)
 hn : hn ≤ 64
 part : At w0 C cn c
 cap : cn ≤ cc
 cn : cn ≤ 24
 ccc : cc ≤ 9223372036854775807
 all : (ss c).all oneB = true
 well : (wellP (ss c)).2 = true
 good : Good h m (c.length + e)
 why : m.why = 0
/-- How a part has ended. -/
def PPost (K : Nat → Nat → Prop) (w0 w : World) (g : Nat) (H : Value) (h : List Heap.Cell) (m : CS) (c : List Raw) (e : Nat) (en : Ending) (w' : World) : Prop :=
 ∃ (k : Int) (m' : CS), en = .returned (.int .i64 k) ∧ Kept K w0 w w' g H m' ∧ Good h m' e ∧ part (ss c) (abs h m 0) = abs h m' k
def PartC (f : Nat) : Prop := ∀ (K : Nat → Nat → Prop) (w0 w : World) (g : Nat) (HA : Option Addr) (hn hc : Nat) (h : List Heap.Cell) (m : CS) (x : RL) (c : List Raw) (C : Option Addr) (cn cc e : Nat), c.length ≤ f →
 PPre K w0 w g HA hn hc h m x c C cn cc e → Calls Tryz.prog 62 #[.pointer (some ⟨g, 0, none⟩), .slice C cn cc] w (PPost K w0 w g (.slice HA hn hc) h m c e)
set_option maxRecDepth 100000 in
theorem zero_state : (Tryz.prog.info? 130).bind (·.zero) = some (.agg #[.int .i64 0, .int .i64 0, .int .i64 0, .int .i64 0, .int .i64 0, .int .i64 0, .int .i64 0, .int .i64 0, .slice none 0 0, .slice none 0 0, .slice none 0 0]) := by kernel_rfl
set_option maxRecDepth 100000 in
theorem size_state : (Tryz.prog.info? 130).map (·.size) = some 11 := by kernel_rfl
/-- The parts of an Either. -/
theorem parts_of (x : Step) (c : List Raw) (ho : oneB x = true) (hd : x.d = 7) (hall : (ss c).all oneB = true) (hw : (wellP (x :: ss c)).2 = true) :
  ∃ a b : Nat, x.a = (a : Int) ∧ x.b = (b : Int) ∧ a + b ≤ c.length ∧ (wellP (ss (c.take a))).2 = true ∧ (wellP (ss ((c.drop a).take b))).2 = true ∧ (wellP (ss (c.drop (a + b)))).2 = true ∧
   ((ss (c.take a)).all oneB = true ∧ (ss ((c.drop a).take b)).all oneB = true ∧ (ss (c.drop (a + b))).all oneB = true) ∧
   ∀ s : St, part (x :: ss c) s = if (eitherS (ss (c.take a)) (ss ((c.drop a).take b)) s).kind = 1 then part (ss (c.drop (a + b))) (eitherS (ss (c.take a)) (ss ((c.drop a).take b)) s) else eitherS (ss (c.take a)) (ss ((c.drop a).take b)) s := by
 have h1 := one_either x ho hd
 refine ⟨x.a.toNat, x.b.toNat, by omega, by omega, ?_⟩
 by_cases hlt : ((ss c).length : Int) < x.a + x.b
 · rw [well_out x (ss c) hd hlt] at hw; cases hw
 have hle : x.a.toNat + x.b.toNat ≤ c.length := by rw [ss_len] at hlt; omega
 have hla : (ss (c.take x.a.toNat)).length = x.a.toNat := by rw [ss_len, List.length_take]; omega
 have hlb : (ss ((c.drop x.a.toNat).take x.b.toNat)).length = x.b.toNat := by rw [ss_len, List.length_take, List.length_drop]; omega
 have e : ss c = ss (c.take x.a.toNat) ++ (ss ((c.drop x.a.toNat).take x.b.toNat) ++ ss (c.drop (x.a.toNat + x.b.toNat))) := by
  rw [← ss_app, ← ss_app, ← List.drop_drop, List.take_append_drop, List.take_append_drop]
 have hw2 := hw
 rw [e, well_either x _ _ _ hd (by rw [hla]; omega) (by rw [hlb]; omega), Bool.and_eq_true, Bool.and_eq_true] at hw2
 have ha := hall
 rw [e, List.all_append, List.all_append, Bool.and_eq_true, Bool.and_eq_true] at ha
 refine ⟨hle, hw2.1.1, hw2.1.2, hw2.2, ⟨ha.1, ha.2.1, ha.2.2⟩, fun s => ?_⟩
 conv => lhs; rw [e]
 exact part_either x s _ _ _ hd (by rw [hla]; omega) (by rw [hlb]; omega)
theorem abs_end (c : List Step) (h : List Heap.Cell) (m : CS) (k j : Int) : part c (abs h m k) = part c (abs h m j) := by
 have : abs h m k = ended (abs h m j) k m.why := rfl
 rw [this, part_end]
section
variable {K : Nat → Nat → Prop} {w0 w : World} {g : Nat} {HA : Option Addr} {hn hc : Nat} {h : List Heap.Cell} {m : CS} {x : RL} {rest : List Raw} {B : Option Addr} {rn rc e : Nat}
/-- A slice's piece. -/
theorem At.piece {l : List Raw} (hat : At w B rn l) (a b : Nat) (hab : a + b ≤ rn) (hc : rn ≤ rc) : At w (if rc = a then B else B.map (·.add (a * 4))) b ((l.drop a).take b) := by
 have h1 := hat.behind a rc (by omega) hc
 exact h1.fst b (by omega)
/-- What comes of a first part. -/
theorem either_one (U V : List Step) (m4 : CS) (k : Int) (h4 : part U (abs h (pathC m 1) 0) = abs h m4 k) (hk : k ≠ 2) : eitherS U V (abs h m 0) = abs h m4 k := by
 unfold eitherS
 have e : onPath (abs h m 0) 1 = abs h (pathC m 1) 0 := rfl
 rw [e, h4, if_neg (show ¬ (abs h m4 k).kind = 2 from hk)]
theorem either_two (U V : List Step) (m4 m7 : CS) (k : Int) (hw : m.why = 0) (h4 : part U (abs h (pathC m 1) 0) = abs h m4 2) (h7 : part V (abs h (pathC ⟨m.regs, m.path, m.log, m4.seen, m4.why⟩ 2) 0) = abs h m7 k) :
  m4.why = 0 ∧ eitherS U V (abs h m 0) = abs h m7 k := by
 have h0 : m4.why = 0 := by
  have h1 := part_again U.length U (abs h (pathC m 1) 0)
  have h2 : partF U.length U (abs h (pathC m 1) 0) = abs h m4 2 := h4
  rw [h2] at h1
  exact h1 rfl
 refine ⟨h0, ?_⟩
 unfold eitherS
 have e : onPath (abs h m 0) 1 = abs h (pathC m 1) 0 := rfl
 rw [e, h4, if_pos (show (abs h m4 2).kind = 2 from rfl)]
 have e2 : saw (onPath (abs h m 0) 2) (abs h m4 2).seen = abs h (pathC ⟨m.regs, m.path, m.log, m4.seen, m4.why⟩ 2) 0 := by
  unfold saw onPath abs pathC
  simp only [h0, hw]
 rw [e2, h7]
theorem either_fin {r : Raw} {w' : World} {R : List Raw} {RB : Option Addr} {ln lc : Nat} (U V : List Step) (m7 : CS) (k : Int) (hat : At w0 RB ln R) (h1 : ln ≤ lc) (h2 : lc ≤ 9223372036854775807) (hall : (ss R).all oneB = true) (hwell : (wellP (ss R)).2 = true) (hl : R.length ≤ rest.length)
  (hspec : part (r.s :: ss rest) (abs h m 0) = if (eitherS U V (abs h m 0)).kind = 1 then part (ss R) (eitherS U V (abs h m 0)) else eitherS U V (abs h m 0)) (h7 : eitherS U V (abs h m 0) = abs h m7 k) (hkept : Kept K w0 w w' g (.slice HA hn hc) m7) (hg : Good h m7 (R.length + e))
  (hw : k = 1 → m7.why = 0) : DoPost K w0 w g (.slice HA hn hc) h m r rest e (.returned (.tuple #[.slice RB ln lc, .int .i64 k])) w' := by
 refine ⟨k, R, RB, ln, lc, m7, rfl, hkept, ?_⟩
 rw [h7] at hspec
 by_cases hk : k = 1
 · refine .inl ⟨hk, hat, h1, h2, hall, hwell, hl, hg, hw hk, ?_⟩
  rw [hspec, if_pos (show (abs h m7 k).kind = 1 from hk)]
  exact abs_end _ h m7 k 0
 · refine .inr ⟨hk, hg.weak _ (by omega), ?_⟩
  rw [hspec, if_neg (show ¬ (abs h m7 k).kind = 1 from hk)]
theorem part_zero (c : List Step) (s : St) (m7 : CS) (k : Int) (h7 : part c s = abs h m7 k) (hk : k = 1) : m7.why = 0 := by
 have := part_no c s (by rw [h7]; exact hk)
 rw [h7] at this
 exact this
end
end Go.Proofs.YtclbeboiojgejaaGreat.Model

namespace Go.Proofs.YtclbeboiojgejaaGreat.Model
open Go.ChangeShapes Go.WideShapes Go.ChangeAt Go.RowKit Mem Go.Proofs.YtclbeboiojgejaaGreat.Code

section
variable {K : Nat → Nat → Prop} {w0 w : World} {g : Nat} {HA : Option Addr} {hn hc : Nat} {h : List Heap.Cell} {m : CS} {x : RL} {rest : List Raw} {B : Option Addr} {rn rc e : Nat}
theorem setRow_blk' {w : World} {g : Nat} {old cs : Array Value} {t : TypeId} (h : Blk w g t old) : Blk (w.setRow g cs) g t cs := setRow_heap w g old cs t (0, 0) h
set_option maxRecDepth 100000 in
set_option maxHeartbeats 4000000 in
theorem either_c (f : Nat) (hf : PartC f) {r : Raw} (hlen : rest.length ≤ f) (hd : r.s.d = 7) (p : Pre K w0 w g HA hn hc h m x r rest B rn rc e) :
  Calls Tryz.prog 139 #[.pointer (some ⟨g, 0, none⟩), .agg #[.int .i64 r.s.d, .int .i64 r.s.a, .int .i64 r.s.b, .slice r.T r.n r.c], .slice B rn rc] w (DoPost K w0 w g (.slice HA hn hc) h m r rest e) := by
 obtain ⟨a, b, ha, hb, hab, wu, wv, wr, ⟨au, av, ar⟩, hspec⟩ := parts_of r.s rest p.one hd p.all p.well
 have hrl : rest.length = rn := p.more.len
 have hrn := p.rn
 have hcap := p.cap
 have hrcc := p.rcc
 obtain ⟨N, hN⟩ : ∃ N, a + b = N := ⟨_, rfl⟩
 obtain ⟨w1, hw1⟩ : ∃ w1, w1 = w.alloc (.cells #[.int .i64 r.s.d, .int .i64 (a : Int), .int .i64 (b : Int), .slice r.T r.n r.c] 82) := ⟨_, rfl⟩
 have hb1 : Below w.heap.size w w1 := by rw [hw1]; exact bl_alloc (Below.refl _ _) _
 have hs1 : w1.heap.size = w.heap.size + 1 := by rw [hw1]; simp
 have HK : Hid (Blk w1 w.heap.size 82 #[.int .i64 r.s.d, .int .i64 (a : Int), .int .i64 (b : Int), .slice r.T r.n r.c]) := Lib.hid (by rw [hw1]; exact Blk.new _ _ _)
 have hr1 := p.run.below hb1
 obtain ⟨sl, hsl⟩ : ∃ sl, scells m x = sl := ⟨_, rfl⟩
 obtain ⟨Z, hZ⟩ : ∃ Z, (#[.int .i64 0, .int .i64 0, .int .i64 0, .int .i64 0, .int .i64 0, .int .i64 0, .int .i64 0, .int .i64 0, .slice none 0 0, .slice none 0 0, .slice none 0 0] : Array Value) = Z := ⟨_, rfl⟩
 have HZ := Lib.hid zero_state
 rw [hZ] at HZ
 have hsll : sl.length = 11 := by rw [← hsl]; exact scells_len p.run.r8
 have HSL : Hid (sl.length = 11) := Lib.hid hsll
 have HSE : Hid (scells m x = sl) := Lib.hid hsl
 have HRG : Hid (w1.rangeAt g 0 sl) := Lib.hid (by rw [← hsl]; exact hr1.range)
 have HIS : Hid ((Tryz.prog.info? 130).map (·.size) = some sl.length) := Lib.hid (by rw [size_state, hsll])
 have HIA : Hid ((Tryz.prog.info? 130).map (·.size) = some sl.toArray.size) := Lib.hid (by rw [size_state, List.size_toArray, hsll])
 have h11 : sl.toArray.size = 11 := by rw [List.size_toArray, hsll]
 have HSZ : Hid (Z.size = sl.toArray.size) := Lib.hid (by rw [h11, ← hZ]; rfl)
 have HON : Hid (sl.toArray.all (·.oneCell') = true) := Lib.hid (by
  rw [Array.all_eq_true_iff_forall_mem]
  intro u hu
  rw [← hsl] at hu
  exact scells_one m x u (by simpa using hu))
 obtain ⟨w2, hw2⟩ : ∃ w2, w2 = w1.alloc (.cells Z 130) := ⟨_, rfl⟩
 have HB2 : Hid (Blk w2 w1.heap.size 130 Z) := Lib.hid (by rw [hw2]; exact Blk.new _ _ _)
 have hb2 : Below w1.heap.size w1 w2 := by rw [hw2]; exact bl_alloc (Below.refl _ _) _
 obtain ⟨w3, hw3⟩ : ∃ w3, w3 = w2.setRow w1.heap.size sl.toArray := ⟨_, rfl⟩
 have hb3' : Below w1.heap.size w1 (w2.setRow w1.heap.size sl.toArray) := below_setRow hb2 (Nat.le_refl _) _
 have HB3 : Hid (Blk w3 w1.heap.size 130 sl.toArray) := Lib.hid (by rw [hw3]; exact setRow_blk' HB2.out)
 have hb3 : Below w1.heap.size w1 w3 := by rw [hw3]; exact below_setRow hb2 (Nat.le_refl _) _
 obtain ⟨W, hW⟩ : ∃ W, W = w3.alloc (.cells #[.int .i64 1] 3) := ⟨_, rfl⟩
 have hbW3 : Below w3.heap.size w3 W := by rw [hW]; exact bl_alloc (Below.refl _ _) _
 have hbW : Below w1.heap.size w1 W := bl_trans hb3 hbW3
 have RW := Lib.hid (hr1.below hbW)
 have HW3 := Lib.hid hbW3
 have R3 := Lib.hid (hr1.below hb3)
 have HRd1 : Hid (Rd W 1 (some ⟨w3.heap.size, 0, none⟩) 1 [.int .i64 1]) := Lib.hid (by rw [hW]; exact Rd.built _ 1 1 [.int .i64 1] _ rfl)
 have hK2 : ∀ bb i, K bb i → KMax W g x bb i := fun bb i hk => by
  obtain ⟨h1, h2, h3, h4⟩ := p.ok bb i hk
  exact ⟨by have := hb1.size; have := hbW.size; omega, h2, h3, h4⟩
 have HK2 := Lib.hid hK2
 have hgw := p.run.blk.lt
 have hpw : x.pv.ownBlock ≠ some w.heap.size := fun e => by have := p.run.path.lt _ e; omega
 have hbXX : Below w1.heap.size w1 W := hbW
 have hWs : w.heap.size + 1 < W.heap.size := by have := (HB3.out.below hbW3).lt; omega
 have hbox : ∀ i, KMax W g x w.heap.size i := fun i => ⟨by omega, by omega, fun e => by have := p.run.seen.lt _ e; omega, fun e => by have := p.run.path.lt _ e; omega⟩
 have hbef : ∀ i, KMax W g x w1.heap.size i := fun i => ⟨by omega, by omega, fun e => by have := p.run.seen.lt _ e; omega, fun e => by have := p.run.path.lt _ e; omega⟩
 have HBX := Lib.hid hbox
 have HBF := Lib.hid hbef
 have hpn : x.pn + 1 ≤ 24 := by have h1 := p.good.path; have h2 : m.path.length = x.pn := by { have := p.run.path.1.1; rw [zs_map, List.length_map] at this; omega }; omega
 have HFW : Hid (Fr K w W) := Lib.hid (p.ok.fr (bl_trans hb1 hbW))
 -- the first part
 have HC1 : Hid (∀ (W1 : World) (x3 : RL), RunAt w0 W1 g (.slice HA hn hc) (pathC m 1) x3 → KOK (KMax W g x) W1 g x3 → Calls Tryz.prog 62 #[.pointer (some ⟨g, 0, none⟩), .slice B a rc] W1 (PPost (KMax W g x) w0 W1 g (.slice HA hn hc) h (pathC m 1) (rest.take a) (rest.length - a + e))) :=
  Lib.hid (fun W1 x3 h1 h2 => hf _ _ _ _ _ _ _ _ _ x3 (rest.take a) B a rc _ (by rw [List.length_take]; omega) ⟨h1, h2, p.heap, p.hn, p.more.fst a (by omega), by omega, by omega, hrcc, au, wu, p.good.path_ 1 |>.weak _ (by rw [List.length_take]; omega), p.why⟩)
 obtain ⟨B2, hB2⟩ : ∃ B2, (if rc = a then B else Option.map (fun q : Addr => q.add (a * 4)) B) = B2 := ⟨_, rfl⟩
 obtain ⟨B3, hB3⟩ : ∃ B3, (if rc = N then B else Option.map (fun q : Addr => q.add (N * 4)) B) = B3 := ⟨_, rfl⟩
 have HC2 : Hid (∀ (m4 : CS) (W1 : World) (x6 : RL), Good h m4 (rest.length - a + e) → m4.why = 0 → RunAt w0 W1 g (.slice HA hn hc) (pathC ⟨m.regs, m.path, m.log, m4.seen, m4.why⟩ 2) x6 → KOK (KMax W g x) W1 g x6 →
   Calls Tryz.prog 62 #[.pointer (some ⟨g, 0, none⟩), .slice B2 b (rc - a)] W1 (PPost (KMax W g x) w0 W1 g (.slice HA hn hc) h (pathC ⟨m.regs, m.path, m.log, m4.seen, m4.why⟩ 2) ((rest.drop a).take b) (rest.length - N + e))) :=
  Lib.hid (fun m4 W1 x6 hg4 hw4 h1 h2 => hf _ _ _ _ _ _ _ _ _ x6 ((rest.drop a).take b) B2 b (rc - a) _ (by rw [List.length_take, List.length_drop]; omega) ⟨h1, h2, p.heap, p.hn, by rw [← hB2]; exact At.piece p.more a b (by omega) hcap, by omega, by omega, by omega, av, wv, by
   have h3 := hg4.seen
   have h4 := p.good.cnt
   have h5 := p.good.path
   have hlv : ((rest.drop a).take b).length = b := by rw [List.length_take, List.length_drop]; omega
   exact ⟨p.good.right, p.good.live, p.good.vals, by show m.log.length + _ ≤ 24; omega, p.good.regs, by show (m.path ++ [2]).length + _ ≤ 24; rw [List.length_append, List.length_singleton]; omega, by show m4.seen.length + _ ≤ 24; omega, hg4.cells⟩, hw4⟩)
 have HFIN : Hid (∀ (w' : World) (m7 : CS) (k : Int), eitherS (ss (rest.take a)) (ss ((rest.drop a).take b)) (abs h m 0) = abs h m7 k → Kept K w0 w w' g (.slice HA hn hc) m7 → Good h m7 (rest.length - N + e) → (k = 1 → m7.why = 0) →
   DoPost K w0 w g (.slice HA hn hc) h m r rest e (.returned (.tuple #[.slice B3 (rn - N) (rc - N), .int .i64 k])) w') := Lib.hid (fun w' m7 k h7 hkept hg hw => by
  refine either_fin (R := rest.drop (a + b)) (RB := B3) (ss (rest.take a)) (ss ((rest.drop a).take b)) m7 k ?_ (by omega) (by omega) ar wr (by rw [List.length_drop]; omega) (hspec _) h7 hkept (by rw [List.length_drop, hN]; exact hg) hw
  have h1 := p.more.behind N rc (by omega) hcap
  rw [hN, ← hB3]; exact h1)
 have hwhy := p.why
 have hwrap : IntKind.i64.wrap ((a : Int) + (b : Int)) = ((N : Nat) : Int) := by rw [IntKind.wrap_i64]; omega
 rw [ha, hb]
 have HE1 : Hid (∀ (m4 : CS) (k : Int), part (ss (rest.take a)) (abs h (pathC m 1) 0) = abs h m4 k → k ≠ 2 → eitherS (ss (rest.take a)) (ss ((rest.drop a).take b)) (abs h m 0) = abs h m4 k ∧ (k = 1 → m4.why = 0)) :=
  Lib.hid (fun m4 k h1 h2 => ⟨either_one _ _ m4 k h1 h2, fun hk => part_zero _ _ m4 k h1 hk⟩)
 have HE2 : Hid (∀ (m4 : CS), part (ss (rest.take a)) (abs h (pathC m 1) 0) = abs h m4 2 → m4.why = 0 ∧ ∀ (m7 : CS) (k : Int), part (ss ((rest.drop a).take b)) (abs h (pathC ⟨m.regs, m.path, m.log, m4.seen, m4.why⟩ 2) 0) = abs h m7 k →
   eitherS (ss (rest.take a)) (ss ((rest.drop a).take b)) (abs h m 0) = abs h m7 k ∧ (k = 1 → m7.why = 0)) := Lib.hid (fun m4 h1 => by
  have h0 : m4.why = 0 := by
   have e1 := part_again (ss (rest.take a)).length (ss (rest.take a)) (abs h (pathC m 1) 0)
   have e2 : partF (ss (rest.take a)).length (ss (rest.take a)) (abs h (pathC m 1) 0) = abs h m4 2 := h1
   rw [e2] at e1
   exact e1 rfl
  exact ⟨h0, fun m7 k h7 => ⟨(either_two _ _ m4 m7 k hwhy h1 h7).2, fun hk => part_zero _ _ m7 k h7 hk⟩⟩)
 have hN1 : N ≤ rn := by omega
 have hN2 : a ≤ N := by omega
 have hNb : N - a = b := by omega
 have ha1 : a ≤ rn := by omega
 have HLA : Hid (rest.length - a + e ≥ rest.length - N + e) := Lib.hid (by omega)
 clear p hd hspec wu wv wr au av ar hr1 hlen hf ha hb hrl hWs hbox hbef hK2 hsll hsl hb1 hbW hs1
 have hne : w.heap.size ≠ g := by omega
 clear hgw
 have hne' : g ≠ w.heap.size := Ne.symm hne
 have q1 := HK.out.cell 1 _ rfl
 have q2 := HK.out.cell 2 _ rfl
 have g8 : w3.cell? ⟨g, 8, none⟩ = some (.slice x.P x.pn x.pc) := R3.out.at8.1
 have g8W : W.cell? ⟨g, 8, none⟩ = some (.slice x.P x.pn x.pc) := RW.out.at8.1
 have HNS := Lib.hid hpw
 have hbX := Lib.hid hbXX
 clear hpw hbXX
 have HUS := Lib.hid Tryz.underlying130
 go_enter Tryz.func139, Tryz.ntmps139
 go_wp2_with (first
  | (refine box_row rfl 82 _ rfl #[.int .i64 r.s.d, .int .i64 (a : Int), .int .i64 (b : Int), .slice r.T r.n r.c] rfl ?_; rw [← hw1]; clear hw1)
  | (refine wpList_load_mid rfl 130 _ rfl g 0 rfl sl _ HRG.out HUS.out rfl HIS.out ?_)
  | (refine alloc_row rfl 130 rfl Z HZ.out ?_; rw [← hw2]; clear hw2)
  | (refine wpList_store_row rfl 130 _ _ rfl w1.heap.size sl.toArray rfl rfl 130 Z HB2.out HIA.out HSZ.out HON.out ?_; rw [← hw3]; clear hw3)
  | (at_builtin; refine append_moved rfl _ _ 27 rfl Mem.tInt w0 x.pv x.pn (zs m.path) rfl (by rw [← hW]; exact RW.out.path) _ 1 1 [.int .i64 1] rfl (by rw [← hW]; exact HRd1.out) (one_cons rfl one_nil) (by omega) (by omega) (by decide) ?_; rw [← hW]; intro v4 w4 ho4 hm4; obtain ⟨S4, c4, rfl, -⟩ := ho4.form; have HO4 := Lib.hid ho4; have HM4 := Lib.hid hm4; have k4 := hm4.blk RW.out.blk RW.out.gp; have g84 := k4.cell 8 x.pv (by rw [List.getElem?_toArray]; exact rc_tail RW.out.r8 0); have z84 := k4.frozen 8; have xb := hm4.blk ((HK.out.below hbX.out)) (fun e => HNS.out e); have x1 := xb.cell 1 _ rfl; have x1' := (xb.beside hne' 8 (.slice S4 (x.pn + 1) c4)).cell 1 _ rfl; clear ho4 hm4 k4 xb))
 obtain ⟨r5, k5, f5⟩ := RunAt.go RW.out (kmax_ok W g x) 1 HO4.out HM4.out
 refine (HC1.out _ _ r5 k5).mono ?_
 rintro e w5 ⟨k, m4, rfl, ⟨x4, r6, k6, f6⟩, hg4, hp4⟩
 have F6 := Lib.hid (f5.trans f6)
 have R6 := Lib.hid r6
 have K6 := Lib.hid k6
 have G4 := Lib.hid hg4
 have P4 := Lib.hid hp4
 have HK5 := Lib.hid (Fr.blk F6.out (HK.out.below hbX.out) HBX.out)
 have HB5 := Lib.hid (Fr.blk F6.out (HB3.out.below HW3.out) HBF.out)
 have y1 := HK5.out.cell 1 _ rfl
 clear r5 k5 f5 r6 k6 f6 hg4 hp4 g84 z84 x1 x1' q1 q2 g8 g8W
 by_cases h2 : k = 2
 · subst h2
  obtain ⟨hw4, hfin⟩ := HE2.out m4 P4.out
  have HF2 := Lib.hid hfin
  obtain ⟨r7, k7, f7⟩ := RunAt.back RW.out R6.out F6.out K6.out
  rw [HSE.out] at r7 k7 f7
  have HTH : Hid (w5.there g 0 sl.toArray.size) := Lib.hid (by rw [List.size_toArray, HSL.out]; exact R6.out.has)
  obtain ⟨w6, hw6⟩ : ∃ w6, w6 = w5.setCells g 0 sl := ⟨_, rfl⟩
  rw [← hw6] at r7 k7 f7
  obtain ⟨V, hV⟩ : ∃ V, V = w6.alloc (.cells #[.int .i64 2] 3) := ⟨_, rfl⟩
  have hbV : Below w6.heap.size w6 V := by rw [hV]; exact bl_alloc (Below.refl _ _) _
  have RV := Lib.hid (r7.below hbV)
  have KV := Lib.hid (k7.size hbV.size)
  have FV := Lib.hid (f7.trans (k7.fr hbV))
  have HRd2 : Hid (Rd V 1 (some ⟨w6.heap.size, 0, none⟩) 1 [.int .i64 2]) := Lib.hid (by rw [hV]; exact Rd.built _ 1 1 [.int .i64 2] _ rfl)
  have HB6 := Lib.hid (Fr.blk f7 HB5.out HBF.out)
  have HK6 := Lib.hid (Fr.blk f7 HK5.out HBX.out)
  have HKV := Lib.hid (HK6.out.below hbV)
  have g86 : w6.cell? ⟨g, 8, none⟩ = some (.slice x.P x.pn x.pc) := r7.at8.1
  have g8V : V.cell? ⟨g, 8, none⟩ = some (.slice x.P x.pn x.pc) := RV.out.at8.1
  clear r7 k7 f7 hfin hbV
  go_wp2_with (first
   | (refine wpList_load_row rfl 130 _ rfl w1.heap.size rfl 130 sl.toArray (0, 0) _ HB5.out HUS.out rfl HIA.out ?_)
   | (refine wpList_store_mid rfl 130 _ _ rfl g 0 sl.toArray rfl rfl HTH.out HIA.out HON.out ?_; rw [List.toList_toArray, ← hw6]; clear hw6)
   | (at_builtin; refine append_moved rfl _ _ 27 rfl Mem.tInt w0 x.pv x.pn (zs m.path) rfl (by rw [← hV]; exact RV.out.path) _ 1 1 [.int .i64 2] rfl (by rw [← hV]; exact HRd2.out) (one_cons rfl one_nil) (by omega) (by omega) (by decide) ?_; rw [← hV]; intro v7 w7 ho7 hm7; obtain ⟨S7, c7, rfl, -⟩ := ho7.form; have HO7 := Lib.hid ho7; have HM7 := Lib.hid hm7; have k7 := hm7.blk RV.out.blk RV.out.gp; have g87 := k7.cell 8 x.pv (by rw [List.getElem?_toArray]; exact rc_tail RV.out.r8 0); have z87 := k7.frozen 8; have xb := hm7.blk HKV.out (fun e => HNS.out e); have x7 := xb.cell 1 _ rfl; have x7' := (xb.beside hne' 8 (.slice S7 (x.pn + 1) c7)).cell 1 _ rfl; clear ho7 hm7 k7 xb))
  obtain ⟨r8, k8, f8⟩ := RunAt.go RV.out KV.out 2 HO7.out HM7.out
  refine (HC2.out m4 _ _ G4.out hw4 r8 k8).mono ?_
  rintro e w9 ⟨k9, m7, rfl, ⟨x7, r9, k9', f9⟩, hg7, hp7⟩
  obtain ⟨e1, e2⟩ := HF2.out m7 k9 hp7
  have HF1 := Lib.hid (HFIN.out w9 m7 k9 e1 ⟨x7, r9, k9'.sub HK2.out, HFW.out.trans ((F6.out.trans (FV.out.trans (f8.trans f9))).sub HK2.out)⟩ hg7 e2)
  clear e1 e2 r8 k8 f8 r9 k9' f9 hg7 hp7
  go_wp2
  go_ret2
  exact HF1.out
 · have q : (k == 2) = false := beq_eq_false_iff_ne.2 h2
  obtain ⟨e1, e2⟩ := HE1.out m4 k P4.out h2
  have HF1 := Lib.hid (HFIN.out w5 m4 k e1 ⟨x4, R6.out, K6.out.sub HK2.out, HFW.out.trans (F6.out.sub HK2.out)⟩ (G4.out.weak _ HLA.out) e2)
  clear e1 e2
  go_wp2
  go_ret2
  exact HF1.out
end
end Go.Proofs.YtclbeboiojgejaaGreat.Model

namespace Go.Proofs.YtclbeboiojgejaaGreat.Model
open Go.ChangeShapes Go.WideShapes Go.ChangeAt Go.RowKit Mem Go.Proofs.YtclbeboiojgejaaGreat.Code

section
variable {K : Nat → Nat → Prop} {w0 w : World} {g : Nat} {HA : Option Addr} {hn hc : Nat} {h : List Heap.Cell} {m : CS} {x : RL} {rest : List Raw} {B : Option Addr} {rn rc e : Nat}
theorem do_c (f : Nat) (hf : PartC f) {r : Raw} (hlen : rest.length ≤ f) (p : Pre K w0 w g HA hn hc h m x r rest B rn rc e) :
  Calls Tryz.prog (doing r.s.d) #[.pointer (some ⟨g, 0, none⟩), .agg #[.int .i64 r.s.d, .int .i64 r.s.a, .int .i64 r.s.b, .slice r.T r.n r.c], .slice B rn rc] w (DoPost K w0 w g (.slice HA hn hc) h m r rest e) := by
 have h1 := one_d r.s p.one
 rcases (by omega : r.s.d = 1 ∨ r.s.d = 2 ∨ r.s.d = 3 ∨ r.s.d = 4 ∨ r.s.d = 5 ∨ r.s.d = 6 ∨ r.s.d = 7) with hd | hd | hd | hd | hd | hd | hd
 · have e : doing r.s.d = 133 := by rw [hd]; rfl
  rw [e]
  cases hl : Heap.liveAt h r.s.b with
  | false => exact load_bad hd hl p
  | true =>
   cases hv : Writes.getL m.log r.s.b with
   | none => exact load_new hd hl hv p
   | some v => exact load_old v hd hl hv p
 · have e : doing r.s.d = 134 := by rw [hd]; rfl
  rw [e]; exact set_c hd p
 · have e : doing r.s.d = 135 := by rw [hd]; rfl
  rw [e]
  cases hl : Heap.liveAt h r.s.a with
  | false => exact store_bad hd hl p
  | true => exact store_c hd hl p
 · have e : doing r.s.d = 136 := by rw [hd]; rfl
  rw [e]; exact skip_c hd p
 · have e : doing r.s.d = 137 := by rw [hd]; rfl
  rw [e]; exact retry_c hd p
 · have e : doing r.s.d = 138 := by rw [hd]; rfl
  rw [e]; exact fail_c hd p
 · have e : doing r.s.d = 139 := by rw [hd]; rfl
  rw [e]; exact either_c f hf hlen hd p
end
end Go.Proofs.YtclbeboiojgejaaGreat.Model

namespace Go.Proofs.YtclbeboiojgejaaGreat.Model
open Go.ChangeShapes Go.WideShapes Go.ChangeAt Go.RowKit Mem Go.Proofs.YtclbeboiojgejaaGreat.Code

/-- The first state of a run. -/
def m0 : CS := ⟨List.replicate 8 0, [], [], [], 0⟩
def x0 : RL := ⟨none, 0, 0, none, 0, 0, none, 0, none, 0, 0⟩
theorem apart_grown {u v : Value} (h : Apart u v) : u.ownBlock = none ∨ u.ownBlock ≠ v.ownBlock := by
 rcases h with h | h | h
 · exact .inl h
 · cases hu : u.ownBlock with
  | none => exact .inl rfl
  | some q => refine .inr ?_; rw [h]; exact fun e => by cases e
 · exact .inr h
/-- What is left of a run where what was seen is sorted in its place. -/
structure Rest (w0 w : World) (g : Nat) (H : Value) (m : CS) (x : RL) : Prop where
 blk : Blk w g 132 (rcells H m x).toArray
 path : Own w0 w 3 1 x.pv x.pn (zs m.path)
 log : Own w0 w 119 2 x.lv x.ln (Heap.ws m.log)
theorem RunAt.rest {w0 w : World} {g : Nat} {H : Value} {m : CS} {x : RL} (h : RunAt w0 w g H m x) : Rest w0 w g H m x := ⟨h.blk, h.path, h.log⟩
theorem Rest.grown {w0 w w' : World} {g : Nat} {H : Value} {m : CS} {x : RL} (h : Rest w0 w g H m x) (gs : x.sv.ownBlock ≠ some g) (ps : Apart x.pv x.sv) (ls : Apart x.lv x.sv) (hg : w.grownBy w' x.sv.ownBlock) (hb : Below w0.heap.size w0 w') : Rest w0 w' g H m x :=
 ⟨h.blk.grown hg gs, own_grown_ h.path hg (apart_grown ps) hb, own_grown_ h.log hg (apart_grown ls) hb⟩
theorem Rest.below {w0 w w' : World} {g : Nat} {H : Value} {m : CS} {x : RL} (h : Rest w0 w g H m x) (hb : Below w.heap.size w w') : Rest w0 w' g H m x := ⟨h.blk.below hb, h.path.below hb, h.log.below hb⟩
theorem Rest.set {w0 w : World} {g q : Nat} {H : Value} {m : CS} {x : RL} (h : Rest w0 w g H m x) (hq : w0.heap.size ≤ q) (h1 : q ≠ g) (h2 : x.pv.ownBlock ≠ some q) (h3 : x.lv.ownBlock ≠ some q) (i : Nat) (u : Value) : Rest w0 (w.setCell ⟨q, i, none⟩ u) g H m x :=
 ⟨h.blk.beside h1 i u, h.path.set_ne hq h2 i u, h.log.set_ne hq h3 i u⟩
theorem Rest.rdregs {w0 w : World} {g : Nat} {H : Value} {m : CS} {x : RL} (h : Rest w0 w g H m x) (h8 : m.regs.length = 8) : Rd w 1 (some ⟨g, 0, none⟩) 8 (zs m.regs) := by
 refine ⟨by rw [zs_map, List.length_map, h8], fun _ => ⟨g, 0, rfl, fun j u hu => ?_⟩⟩
 rw [zs_map, List.getElem?_map] at hu
 cases hz : m.regs[j]? with
 | none => rw [hz] at hu; cases hu
 | some z =>
  rw [hz] at hu
  injection hu with hu
  rw [← hu, Nat.zero_add]
  exact h.blk.cell j _ (by rw [List.getElem?_toArray]; exact rc_reg j z hz)
theorem Rest.tail {w0 w : World} {g : Nat} {H : Value} {m : CS} {x : RL} (h : Rest w0 w g H m x) (h8 : m.regs.length = 8) (k : Nat) (u : Value) (hu : [x.pv, x.lv, .slice x.M 0 x.mc, H, x.sv, .int .i64 m.why][k]? = some u) : w.cell? ⟨g, 8 + k, none⟩ = some u :=
 h.blk.cell (8 + k) _ (by rw [List.getElem?_toArray]; exact (rc_tail h8 k).trans hu)
end Go.Proofs.YtclbeboiojgejaaGreat.Model
