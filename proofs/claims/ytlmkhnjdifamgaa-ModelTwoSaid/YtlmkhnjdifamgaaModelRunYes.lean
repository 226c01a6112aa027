/-
  WHAT Run RETURNS, AS IT IS WRITTEN, of a code and a heap. No conditions beyond those that each theorem states.
-/
import Derived.Test.YtlmkhnjdifamgaaModelRunNo
import Derived.Test.YtlmkhnjdifamgaaModelPart
import Derived.Test.YtlmkhnjdifamgaaInts2
import Derived.Test.YtlmkhnjdifamgaaWritesCode5
import Derived.Test.YtlmkhnjdifamgaaHeapPutO
namespace Go.Proofs.Ytlmkhnjdifamgaa.Model
open Go.ChangeShapes Go.WideShapes Go.ChangeAt Go.RowKit Mem Go.Proofs.Ytlmkhnjdifamgaa.Code

/-- The first state of a run. -/
def m0 : CS := ⟨List.replicate 8 0, [], [], [], 0⟩
def x0 : RL := ⟨none, 0, 0, none, 0, 0, none, 0, none, 0, 0⟩
theorem run_start {w0 : World} (H : Value) : RunAt w0 (w0.alloc (.cells (rcells H m0 x0).toArray 61)) w0.heap.size H m0 x0 :=
  ⟨Nat.le_refl _, rfl, Blk.new _ _ _, Own.nil_ (bl_alloc (Below.refl _ _) _), Own.nil_ (bl_alloc (Below.refl _ _) _), Own.nil_ (bl_alloc (Below.refl _ _) _), (fun e => by cases e), (fun e => by cases e), (fun e => by cases e), .inl rfl, .inl rfl, .inl rfl, fun _ => rfl⟩
theorem abs_start (h : List Heap.Cell) : abs h m0 0 = s0 h := by
  unfold abs m0 s0
  simp only [St.mk.injEq, true_and, and_true]
  exact ⟨rfl, by funext n; rfl, by funext n; rfl⟩
theorem apart_grown {u v : Value} (h : Apart u v) : u.ownBlock = none ∨ u.ownBlock ≠ v.ownBlock := by
  rcases h with h | h | h
  · exact .inl h
  · cases hu : u.ownBlock with
    | none => exact .inl rfl
    | some q => refine .inr ?_; rw [h]; exact fun e => by cases e
  · exact .inr h
/-- What is left of a run where what was seen is sorted in its place. -/
structure Rest (w0 w : World) (g : Nat) (H : Value) (m : CS) (x : RL) : Prop where
  blk : Blk w g 61 (rcells H m x).toArray
  path : Own w0 w 3 1 x.pv x.pn (zs m.path)
  log : Own w0 w 67 2 x.lv x.ln (Heap.ws m.log)
theorem RunAt.rest {w0 w : World} {g : Nat} {H : Value} {m : CS} {x : RL} (h : RunAt w0 w g H m x) : Rest w0 w g H m x := ⟨h.blk, h.path, h.log⟩
theorem Rest.grown {w0 w w' : World} {g : Nat} {H : Value} {m : CS} {x : RL} (h : Rest w0 w g H m x) (gs : x.sv.ownBlock ≠ some g) (ps : Apart x.pv x.sv) (ls : Apart x.lv x.sv) (hg : w.grownBy w' x.sv.ownBlock) (hb : Below w0.heap.size w0 w') : Rest w0 w' g H m x :=
  ⟨h.blk.grown hg gs, own_grown_ h.path hg (apart_grown ps) hb, own_grown_ h.log hg (apart_grown ls) hb⟩
theorem Rest.below {w0 w w' : World} {g : Nat} {H : Value} {m : CS} {x : RL} (h : Rest w0 w g H m x) (hb : Below w.heap.size w w') : Rest w0 w' g H m x := ⟨h.blk.below hb, h.path.below hb, h.log.below hb⟩
theorem Rest.set {w0 w : World} {g q : Nat} {H : Value} {m : CS} {x : RL} (h : Rest w0 w g H m x) (hq : w0.heap.size ≤ q) (h1 : q ≠ g) (h2 : x.pv.ownBlock ≠ some q) (h3 : x.lv.ownBlock ≠ some q) (i : Nat) (u : Value) : Rest w0 (w.setCell ⟨q, i, none⟩ u) g H m x :=
  ⟨h.blk.beside h1 i u, h.path.set_ne hq h2 i u, h.log.set_ne hq h3 i u⟩
theorem Rest.rdregs {w0 w : World} {g : Nat} {H : Value} {m : CS} {x : RL} (h : Rest w0 w g H m x) (h8 : m.regs.length = 8) : Rd w 1 (some ⟨g, 0, none⟩) 8 (zs m.regs) := by
  refine ⟨by rw [zs_map, List.length_map, h8], fun _ => ⟨g, 0, rfl, fun j u hu => ?_⟩⟩
  rw [zs_map, List.getElem?_map] at hu
  cases hz : m.regs[j]? with
  | none => rw [hz] at hu; cases hu
  | some z =>
    rw [hz] at hu
    injection hu with hu
    rw [← hu, Nat.zero_add]
    exact h.blk.cell j _ (by rw [List.getElem?_toArray]; exact rc_reg j z hz)
theorem Rest.tail {w0 w : World} {g : Nat} {H : Value} {m : CS} {x : RL} (h : Rest w0 w g H m x) (h8 : m.regs.length = 8) (k : Nat) (u : Value) (hu : [x.pv, x.lv, .slice x.M 0 x.mc, H, x.sv, .int .i64 m.why][k]? = some u) : w.cell? ⟨g, 8 + k, none⟩ = some u :=
  h.blk.cell (8 + k) _ (by rw [List.getElem?_toArray]; exact (rc_tail h8 k).trans hu)
theorem own_off {w0 w : World} {e size n q : Nat} {B : Option Addr} {d : Nat} {xs : List Value} (h : Own w0 w e size (.slice B n d) n xs) (hq : q < w0.heap.size) : ∀ b off, B = some ⟨b, off, none⟩ → b ≠ q := fun b off e => by have := h.base b (by rw [e]; rfl); omega
theorem own_off2 {w0 w : World} {e size n q : Nat} {B : Option Addr} {d : Nat} {xs : List Value} (h : Own w0 w e size (.slice B n d) n xs) (hq : q < w0.heap.size) : (Value.slice B n d).ownBlock ≠ some q := fun e => by have := h.base q e; omega
set_option maxRecDepth 100000 in
set_option maxHeartbeats 4000000 in
theorem run_yes (l : List Raw) (h : List Heap.Cell) (C HA : Option Addr) (n c hn hc : Nat) (w : World) (hat : At w C n l) (hnc : n ≤ c) (cm : c ≤ 9223372036854775807) (hlim : Lim l) (hnm : n ≤ 1000000) (hh : Rd w 2 HA hn (Heap.cs h)) (hhm : hn ≤ 1000000) (hck : checkS (ss l) = 0) (hri : Heap.rightB h = true) :
    Calls Try.prog 10 #[.slice C n c, .slice HA hn hc] w (RetRunN w (outS (part (ss l) (s0 h))) (outS (part (ss l) (s0 h))).regs.length (outS (part (ss l) (s0 h))).path.length (outS (part (ss l) (s0 h))).seen.length (outS (part (ss l) (s0 h))).writes.length (if (part (ss l) (s0 h)).kind = 1 then (part (ss l) (s0 h)).h else h) (if (part (ss l) (s0 h)).kind = 1 then (part (ss l) (s0 h)).h else h).length 0) := by
  rw [← abs_start]
  obtain ⟨S, hS⟩ : ∃ S, part (ss l) (abs h m0 0) = S := ⟨_, rfl⟩
  have HSS := Lib.hid hS
  rw [hS]
  clear hS
  obtain ⟨PQ, hPQ⟩ : ∃ PQ, RetRunN w (outS S) (outS S).regs.length (outS S).path.length (outS S).seen.length (outS S).writes.length (if S.kind = 1 then S.h else h) (if S.kind = 1 then S.h else h).length 0 = PQ := ⟨_, rfl⟩
  have HPQ := Lib.hid hPQ
  rw [hPQ]
  clear hPQ
  have HAT := Lib.hid hat
  have HH := Lib.hid hh
  have HLM := Lib.hid hlim
  have HV := Lib.hid hck
  have HRB := Lib.hid hri
  obtain ⟨w1, hw1⟩ : ∃ w1, w1 = w.alloc (.cells #[.int .i64 0, .int .i64 0, .slice none 0 0, .slice none 0 0, .slice none 0 0, .slice none 0 0] 30) := ⟨_, rfl⟩
  have BB : Hid (Below w.heap.size w w1) := Lib.hid (by rw [hw1]; exact bl_alloc (Below.refl _ _) _)
  have KK : Hid (Blk w1 w.heap.size 30 #[.int .i64 0, .int .i64 0, .slice none 0 0, .slice none 0 0, .slice none 0 0, .slice none 0 0]) := Lib.hid (by rw [hw1]; exact Blk.new _ _ _)
  obtain ⟨hc24, hall, hwell, _⟩ := check_ok _ hck
  have hlen := hat.len
  have hhl := Heap.right_len h hri
  have hhl2 : h.length = hn := by have h1 := hh.1; rw [Heap.cs_len] at h1; omega
  rw [ss_len] at hc24
  have HALL := Lib.hid hall
  have HWELL := Lib.hid hwell
  have hn24 : n ≤ 24 := by omega
  have hn64 : hn ≤ 64 := by omega
  clear hat hh hlim hck hri hall hwell
  go_enter Try.func10, Try.ntmps10
  go_wp2_with fail
  rw [← hw1]
  clear hw1
  refine (Code.check_c l _ _ _ _ 0 (HAT.out.below BB.out) hnc HLM.out HV.out hnm).mono ?_
  rintro e w2a ⟨rfl, b2⟩
  have B2a := Lib.hid b2
  clear b2
  go_wp2_with fail
  refine (Heap.right_c h _ _ _ _ true (HH.out.below (bl_trans BB.out B2a.out)) hhm HRB.out).mono ?_
  rintro e w2 ⟨rfl, b2⟩
  have B2 := Lib.hid (bl_trans B2a.out b2)
  clear b2
  obtain ⟨w3, hw3⟩ : ∃ w3, w3 = w2.alloc (.cells (rcells (.slice HA hn hc) m0 x0).toArray 61) := ⟨_, rfl⟩
  have R3 : Hid (RunAt w2 w3 w2.heap.size (.slice HA hn hc) m0 x0) := Lib.hid (by rw [hw3]; exact run_start _)
  have HP : Hid (∀ W, Below w3.heap.size w3 W → Calls Try.prog 18 #[.pointer (some ⟨w2.heap.size, 0, none⟩), .slice C n c] W (PPost (fun _ _ => False) w2 W w2.heap.size (.slice HA hn hc) h m0 l 0)) := Lib.hid (fun W hW =>
    part_c l.length (fun _ _ => False) w2 W w2.heap.size HA hn hc h m0 x0 l C n c 0 (Nat.le_refl _) ⟨R3.out.below hW, fun _ _ hk => hk.elim, HH.out.below (bl_trans BB.out B2.out), hn64, HAT.out.below (bl_trans BB.out B2.out), hnc, hn24, cm, HALL.out, HWELL.out, ⟨HRB.out, rfl, rfl, by show 0 + _ ≤ 24; omega, rfl, by show 0 + _ ≤ 24; omega, by show 0 + _ ≤ 24; omega, fun z hz => by cases hz⟩, rfl⟩)
  go_wp2_with fail
  have hw3' : w3 = w2.alloc (.cells #[.int .i64 0, .int .i64 0, .int .i64 0, .int .i64 0, .int .i64 0, .int .i64 0, .int .i64 0, .int .i64 0, .slice none 0 0, .slice none 0 0, .slice none 0 0, .slice HA hn hc, .slice none 0 0, .int .i64 0] 61) := hw3
  rw [← hw3']
  clear hw3 hw3'
  refine (HP.out _ (Below.refl _ _)).mono ?_
  rintro e w5 ⟨k, m, rfl, ⟨x, hrun, -, -⟩, hgood, hspec⟩
  have R5 := Lib.hid hrun
  have G5 := Lib.hid hgood
  have SP := Lib.hid hspec
  have w13 := hrun.at8.2.2.2.2.2
  clear hrun hgood hspec
  obtain ⟨w6, hw6⟩ : ∃ w6, w6 = w5.alloc (.cells #[.int .i64 k, .int .i64 m.why, .slice none 0 0, .slice none 0 0, .slice none 0 0, .slice none 0 0] 30) := ⟨_, rfl⟩
  have K6 : Hid (Blk w6 w5.heap.size 30 #[.int .i64 k, .int .i64 m.why, .slice none 0 0, .slice none 0 0, .slice none 0 0, .slice none 0 0]) := Lib.hid (by rw [hw6]; exact Blk.new _ _ _)
  have b6 : Below w5.heap.size w5 w6 := by rw [hw6]; exact bl_alloc (Below.refl _ _) _
  have R6 := Lib.hid (R5.out.below b6)
  have NS : Hid (x.sv.ownBlock ≠ some w5.heap.size) := Lib.hid (fun e => by have := R5.out.seen.lt _ e; omega)
  have NP : Hid (x.pv.ownBlock ≠ some w5.heap.size) := Lib.hid (fun e => by have := R5.out.path.lt _ e; omega)
  have NL : Hid (x.lv.ownBlock ≠ some w5.heap.size) := Lib.hid (fun e => by have := R5.out.log.lt _ e; omega)
  have NG : Hid (w5.heap.size ≠ w2.heap.size) := Lib.hid (by have := R5.out.blk.lt; omega)
  have N2 : Hid (w2.heap.size ≤ w5.heap.size) := Lib.hid (by have := R5.out.blk.lt; omega)
  have s12 : w6.cell? ⟨w2.heap.size, 12, none⟩ = some (.slice x.S x.sn x.sc) := R6.out.at8.2.2.2.2.1
  have hsn : x.sn ≤ 24 := by
    have h1 := G5.out.seen
    have h2 := R5.out.seen.1.1
    rw [zs_map, List.length_map] at h2
    omega
  rw [hw6] at s12
  clear b6
  go_wp2_with fail
  rw [← hw6]
  clear hw6 w13 s12
  refine (sort_own2 w2 w6 x.sv x.sn m.seen R6.out.seen (by omega)).mono ?_
  rintro e w7 ⟨rfl, ho7, hg7⟩
  have O7 := Lib.hid ho7
  have T7 := Lib.hid (R6.out.rest.grown R6.out.gs R6.out.ps R6.out.ls hg7 ho7.2)
  have K7 := Lib.hid (K6.out.grown hg7 NS.out)
  clear ho7 hg7
  have s12 : w7.cell? ⟨w2.heap.size, 12, none⟩ = some (.slice x.S x.sn x.sc) := T7.out.blk.cell 12 _ (by rw [List.getElem?_toArray]; exact rc_tail R6.out.r8 4)
  go_wp2_with fail
  refine (compact_own2 w2 w7 x.sv x.sn (sortZ m.seen) O7.out (by omega)).mono ?_
  rintro e w8 ⟨v8, rfl, ho8, hg8, hv8⟩
  obtain ⟨S8, c8, rfl, -⟩ := ho8.form
  have O8 := Lib.hid ho8
  have T8 := Lib.hid (T7.out.grown R6.out.gs R6.out.ps R6.out.ls hg8 ho8.2)
  have K8 := Lib.hid (K7.out.grown hg8 NS.out)
  have NV : Hid ((Value.slice S8 (Lib.compact (sortZ m.seen)).length c8).ownBlock ≠ some w5.heap.size) := Lib.hid (by rw [hv8]; exact NS.out)
  clear ho8 hg8 hv8 s12
  obtain ⟨ns, hns⟩ : ∃ ns, (Lib.compact (sortZ m.seen)).length = ns := ⟨_, rfl⟩
  rw [hns] at O8 NV ⊢
  have HNS := Lib.hid hns
  clear hns
  have k84 := K8.out.cell 4 _ rfl
  have z8 := K8.out.frozen
  have K9 := Lib.hid (K8.out.set_ 4 (.slice S8 ns c8))
  have T9 := Lib.hid (T8.out.set (q := w5.heap.size) N2.out NG.out NP.out NL.out 4 (.slice S8 ns c8))
  have O9 := Lib.hid (O8.out.set_ne (g := w5.heap.size) N2.out NV.out 4 (.slice S8 ns c8))
  have k90 := K9.out.cell 0 _ rfl
  have R8 := Lib.hid R6.out.r8
  have NWW : Hid (w.heap.size < w2.heap.size) := Lib.hid (by have h1 := KK.out.lt; have h2 := B2.out.size; omega)
  have LPN : Hid (x.pn ≤ 24) := Lib.hid (by have h1 := G5.out.path; have h2 := R5.out.path.1.1; rw [zs_map, List.length_map] at h2; omega)
  have LLN : Hid (x.ln ≤ 24) := Lib.hid (by have h1 := G5.out.cnt; have h2 := R5.out.log.1.1; rw [Heap.ws_len] at h2; omega)
  have lpn := LPN.out
  have lln := LLN.out
  by_cases hk : k = 1
  · subst hk
    go_wp2_with fail
    clear k90 k84 z8
    generalize w8.setCell ⟨w5.heap.size, 4, none⟩ (.slice S8 ns c8) = w9 at *
    have k90 := K9.out.cell 2 _ rfl
    have z9 := K9.out.frozen
    refine (Writes.clonei_c m.regs (some ⟨w2.heap.size, 0, none⟩) 8 8 w9 (T9.out.rdregs R8.out) (by omega)).mono ?_
    rintro e w10 ⟨v10, rfl, ho⟩
    obtain ⟨RG, rgc, rfl, -, -⟩ := own_room ho
    have K10 := Lib.hid (K9.out.below ho.2)
    have T10 := Lib.hid (T9.out.below ho.2)
    have OS10 := Lib.hid (O9.out.below ho.2)
    have OR10 := Lib.hid (ho.wide T9.out.path.2)
    have NR : Hid ((Value.slice RG 8 rgc).ownBlock ≠ some w5.heap.size) := Lib.hid (own_off2 ho K9.out.lt)
    clear ho k90 z9
    have kk := K10.out.cell 2 _ rfl
    have z := K10.out.frozen
    have K11 := Lib.hid (K10.out.set_ 2 (.slice RG 8 rgc))
    have T11 := Lib.hid (T10.out.set (q := w5.heap.size) N2.out NG.out NP.out NL.out 2 (.slice RG 8 rgc))
    have OS11 := Lib.hid (OS10.out.set_ne (g := w5.heap.size) N2.out NV.out 2 (.slice RG 8 rgc))
    have OR11 := Lib.hid (OR10.out.set_ne (g := w5.heap.size) N2.out NR.out 2 (.slice RG 8 rgc))
    have s8 := T11.out.tail R8.out 0 _ rfl
    go_wp2_with fail
    clear kk z s8
    generalize w10.setCell ⟨w5.heap.size, 2, none⟩ (.slice RG 8 rgc) = w11 at *
    refine (Writes.clonei_c m.path x.P x.pn x.pc w11 (own_cap T11.out.path).2.2 (by omega)).mono ?_
    rintro e w12 ⟨v12, rfl, ho⟩
    obtain ⟨PG, pgc, rfl, -, -⟩ := own_room ho
    have K12 := Lib.hid (K11.out.below ho.2)
    have T12 := Lib.hid (T11.out.below ho.2)
    have OS12 := Lib.hid (OS11.out.below ho.2)
    have OR12 := Lib.hid (OR11.out.below ho.2)
    have OP12 := Lib.hid (ho.wide T11.out.path.2)
    have NPP : Hid ((Value.slice PG x.pn pgc).ownBlock ≠ some w5.heap.size) := Lib.hid (own_off2 ho K11.out.lt)
    clear ho
    have kk := K12.out.cell 3 _ rfl
    have z := K12.out.frozen
    have K13 := Lib.hid (K12.out.set_ 3 (.slice PG x.pn pgc))
    have T13 := Lib.hid (T12.out.set (q := w5.heap.size) N2.out NG.out NP.out NL.out 3 (.slice PG x.pn pgc))
    have OS13 := Lib.hid (OS12.out.set_ne (g := w5.heap.size) N2.out NV.out 3 (.slice PG x.pn pgc))
    have OR13 := Lib.hid (OR12.out.set_ne (g := w5.heap.size) N2.out NR.out 3 (.slice PG x.pn pgc))
    have OP13 := Lib.hid (OP12.out.set_ne (g := w5.heap.size) N2.out NPP.out 3 (.slice PG x.pn pgc))
    have s9 := T13.out.tail R8.out 1 _ rfl
    have s10 := T13.out.tail R8.out 2 _ rfl
    go_wp2_with fail
    clear kk z s9 s10
    generalize w12.setCell ⟨w5.heap.size, 3, none⟩ (.slice PG x.pn pgc) = w13 at *
    obtain ⟨wl, hwl⟩ : ∃ wl, Writes.lastS ⟨m.log, []⟩ = wl := ⟨_, rfl⟩
    obtain ⟨nw, hnw⟩ : ∃ nw, wl.length = nw := ⟨_, rfl⟩
    refine (Writes.last_o ⟨m.log, []⟩ x.L x.M x.ln x.lc 0 x.mc w13 wl nw ⟨(own_cap T13.out.log).2.2, ⟨rfl, fun h0 => absurd h0 (by omega)⟩, (own_cap T13.out.log).2.1, Nat.zero_le _⟩ (by omega) (by omega) hwl hnw).mono ?_
    rintro e w14 ⟨v14, rfl, ho⟩
    obtain ⟨WG, wgc, rfl, -, -⟩ := own_room ho
    have K14 := Lib.hid (K13.out.below ho.2)
    have BL14 := Lib.hid (bl_trans T13.out.path.2 ho.2)
    have OS14 := Lib.hid (OS13.out.below ho.2)
    have OR14 := Lib.hid (OR13.out.below ho.2)
    have OP14 := Lib.hid (OP13.out.below ho.2)
    have OW14 := Lib.hid (ho.wide T13.out.path.2)
    have NW : Hid ((Value.slice WG nw wgc).ownBlock ≠ some w5.heap.size) := Lib.hid (own_off2 ho K13.out.lt)
    have HWL := Lib.hid hwl
    have HNW := Lib.hid hnw
    clear ho hwl hnw
    have kk := K14.out.cell 5 _ rfl
    have z := K14.out.frozen
    have K15 := Lib.hid (K14.out.set_ 5 (.slice WG nw wgc))
    have BL15 : Hid (Below w2.heap.size w2 (w14.setCell ⟨w5.heap.size, 5, none⟩ (.slice WG nw wgc))) := Lib.hid (bl_set BL14.out (p := ⟨w5.heap.size, 5, none⟩) N2.out _)
    have OS15 := Lib.hid (OS14.out.set_ne (g := w5.heap.size) N2.out NV.out 5 (.slice WG nw wgc))
    have OR15 := Lib.hid (OR14.out.set_ne (g := w5.heap.size) N2.out NR.out 5 (.slice WG nw wgc))
    have OP15 := Lib.hid (OP14.out.set_ne (g := w5.heap.size) N2.out NPP.out 5 (.slice WG nw wgc))
    have OW15 := Lib.hid (OW14.out.set_ne (g := w5.heap.size) N2.out NW.out 5 (.slice WG nw wgc))
    have k5 := K15.out.cell 5 _ rfl
    go_wp2_with fail
    clear kk z k5
    generalize w14.setCell ⟨w5.heap.size, 5, none⟩ (.slice WG nw wgc) = w15 at *
    have hwle : wl = Writes.lastL m.log := by rw [← HWL.out]; unfold Writes.lastS; rw [if_pos G5.out.log]
    have hw64 : nw ≤ 24 := by
      rw [← HNW.out, hwle]
      have h1 := Writes.last_len m.log
      have h2 := G5.out.cnt
      omega
    have HPUT : Hid (Heap.putS h wl = ((abs h m 1).h, 0)) := Lib.hid (by rw [hwle]; exact put_abs G5.out 1)
    have HWLE := Lib.hid hwle
    clear hwle
    refine (Heap.put_o h wl HA (WG) hn hc nw wgc w15 _ ((HH.out.below (bl_trans BB.out B2.out)).below BL15.out) (own_cap OW15.out).2.2 (by omega) (by omega) HPUT.out).mono ?_
    rintro e w16 ⟨v16, rfl, hg⟩
    have b16 := hg.2
    obtain ⟨GB, gbc, rfl, -, -⟩ := own_room hg
    have GR := Lib.hid hg
    have B16 := Lib.hid b16
    have K16 := Lib.hid (K15.out.below b16)
    have KW16 := Lib.hid (KK.out.below (bl_trans B2.out (bl_trans BL15.out b16)))
    clear hg b16
    have k0 := K16.out.cell 0 _ rfl
    have k1 := K16.out.cell 1 _ rfl
    have k2 := K16.out.cell 2 _ rfl
    have k3 := K16.out.cell 3 _ rfl
    have k4 := K16.out.cell 4 _ rfl
    have k5 := K16.out.cell 5 _ rfl
    have q0 := KW16.out.cell 0 _ rfl
    have q1 := KW16.out.cell 1 _ rfl
    have q2 := KW16.out.cell 2 _ rfl
    have q3 := KW16.out.cell 3 _ rfl
    have q4 := KW16.out.cell 4 _ rfl
    have q5 := KW16.out.cell 5 _ rfl
    have qz := KW16.out.frozen
    have HK6 := Lib.hid (six_blk KW16.out (.int .i64 1) (.int .i64 m.why) (.slice RG 8 rgc) (.slice PG x.pn pgc) (.slice S8 ns c8) (.slice WG nw wgc))
    go_wp2_with fail
    clear k0 k1 k2 k3 k4 k5 q0 q1 q2 q3 q4 q5 qz
    have q0 := HK6.out.cell 0 _ rfl
    have q1 := HK6.out.cell 1 _ rfl
    have q2 := HK6.out.cell 2 _ rfl
    have q3 := HK6.out.cell 3 _ rfl
    have q4 := HK6.out.cell 4 _ rfl
    have q5 := HK6.out.cell 5 _ rfl
    (try simp only [Exit.inBlock, Exit.then])
    refine bodyPost_ret (v := .tuple #[.agg #[.int .i64 1, .int .i64 m.why, .slice RG 8 rgc, .slice PG x.pn pgc, .slice S8 ns c8, .slice WG nw wgc], .slice GB hn gbc, .int .i64 0]) (by simp [results, Try.results10, go_sem, q0, q1, q2, q3, q4, q5]) rfl ?_
    have eS : S = abs h m 1 := by rw [← HSS.out]; exact SP.out
    have e1 : outS S = ⟨1, m.why, m.regs, m.path, pick (abs h m 1).seen 64, writesS (abs h m 1)⟩ := by rw [eS]; rfl
    have e2 : (if S.kind = 1 then S.h else h) = (abs h m 1).h := by rw [eS]; exact if_pos rfl
    have hsn2 : Lib.compact (sortZ m.seen) = pick (abs h m 1).seen 64 := seen_abs G5.out 1
    have hwr : wl = writesS (abs h m 1) := by rw [HWLE.out]; exact writes_abs G5.out 1
    have l2 : m.path.length = x.pn := by have := R5.out.path.1.1; rw [zs_map, List.length_map] at this; omega
    have l3 : (pick (abs h m 1).seen 64).length = ns := by rw [← hsn2]; exact HNS.out
    have l4 : (writesS (abs h m 1)).length = nw := by rw [← hwr]; exact HNW.out
    have l5 : (abs h m 1).h.length = hn := by have := GR.out.1.1; rw [Heap.cs_len] at this; show (abs h m 1).h.length = hn; omega
    rw [← HPQ.out, e1, e2]
    show RetRunN w _ m.regs.length m.path.length (pick (abs h m 1).seen 64).length (writesS (abs h m 1)).length (abs h m 1).h (abs h m 1).h.length 0 _ _
    rw [R8.out, l2, l3, l4, l5]
    have hb16 := bl_trans (bl_trans (bl_trans BB.out B2.out) BL15.out) B16.out
    refine ⟨RG, rgc, PG, pgc, S8, c8, WG, wgc, GB, gbc, rfl, ⟨six_rd ((own_cap OR15.out).2.2.below B16.out) (own_off OR15.out NWW.out) _ _ _ _ _ _, six_rd ((own_cap OP15.out).2.2.below B16.out) (own_off OP15.out NWW.out) _ _ _ _ _ _, ?_, ?_⟩, six_rd (own_cap GR.out).2.2 (own_off (GR.out.wide BL15.out) NWW.out) _ _ _ _ _ _, six_bel hb16 (Nat.le_refl _) _ _ _ _ _ _, Nw.of_own OR15.out (Nat.le_of_lt NWW.out), Nw.of_own OP15.out (Nat.le_of_lt NWW.out), Nw.of_own OS15.out (Nat.le_of_lt NWW.out), Nw.of_own OW15.out (Nat.le_of_lt NWW.out), Nw.of_own (GR.out.wide BL15.out) (Nat.le_of_lt NWW.out)⟩
    · have h1 := (own_cap OS15.out).2.2
      rw [hsn2] at h1
      exact six_rd (h1.below B16.out) (own_off OS15.out NWW.out) _ _ _ _ _ _
    · have h1 := (own_cap OW15.out).2.2
      rw [hwr] at h1
      exact six_rd (h1.below B16.out) (own_off OW15.out NWW.out) _ _ _ _ _ _
  · have q : (k != 1) = true := by simp [hk]
    go_wp2_with fail
    clear k90 k84 z8
    generalize w8.setCell ⟨w5.heap.size, 4, none⟩ (.slice S8 ns c8) = w9 at *
    have KW9 := Lib.hid (KK.out.below (bl_trans B2.out T9.out.path.2))
    have HHW := Lib.hid ((HH.out.below (bl_trans BB.out B2.out)).below T9.out.path.2)
    have HBG : Hid (w5.heap.size ≠ w.heap.size) := Lib.hid (by have := NWW.out; have := N2.out; omega)
    have hbg := HBG.out
    have i0 : w9.drew.cell? ⟨w5.heap.size, 0, none⟩ = some (.int .i64 k) := K9.out.cell 0 _ rfl
    have i1 : w9.drew.cell? ⟨w5.heap.size, 1, none⟩ = some (.int .i64 m.why) := K9.out.cell 1 _ rfl
    have i2 : w9.drew.cell? ⟨w5.heap.size, 2, none⟩ = some (.slice none 0 0) := K9.out.cell 2 _ rfl
    have i3 : w9.drew.cell? ⟨w5.heap.size, 3, none⟩ = some (.slice none 0 0) := K9.out.cell 3 _ rfl
    have i4 : w9.drew.cell? ⟨w5.heap.size, 4, none⟩ = some (.slice S8 ns c8) := K9.out.cell 4 _ rfl
    have i5 : w9.drew.cell? ⟨w5.heap.size, 5, none⟩ = some (.slice none 0 0) := K9.out.cell 5 _ rfl
    refine wp_region_held_drew (S := fun (W : World) => W.cell? ⟨w5.heap.size, 0, none⟩ = some (.int .i64 k) ∧ W.cell? ⟨w5.heap.size, 1, none⟩ = some (.int .i64 m.why) ∧ W.cell? ⟨w5.heap.size, 2, none⟩ = some (.slice none 0 0) ∧ W.cell? ⟨w5.heap.size, 3, none⟩ = some (.slice none 0 0) ∧ W.cell? ⟨w5.heap.size, 4, none⟩ = some (.slice S8 ns c8) ∧ W.cell? ⟨w5.heap.size, 5, none⟩ = some (.slice none 0 0)) (by kernel_rfl) ⟨i0, i1, i2, i3, i4, i5⟩ (fun hHeld => ?_)
    clear i0 i1 i2 i3 i4 i5
    refine wpAnyH_take (i := 0) (v := .agg #[.int .i64 k, .int .i64 m.why, .slice none 0 0, .slice none 0 0, .slice S8 ns c8, .slice none 0 0]) rfl (by kernel_rfl) (by kernel_rfl) (by kernel_rfl) (fun _ _ _ h => h) (Or.inl ⟨by rfl, fun W hS => by obtain ⟨k0, k1, k2, k3, k4, k5⟩ := hS; go_simp⟩) hHeld ?_
    try simp only [Act.put]
    try simp only [List.setIfInBounds_toArray]
    try simp only [List.set_cons_succ]
    try simp only [List.set_cons_zero]
    refine wpAnyH_take (i := 1) (v := .slice HA hn hc) rfl (by kernel_rfl) (by kernel_rfl) (by kernel_rfl) (fun _ _ _ h => h) (Or.inl ⟨by rfl, fun W hS => by go_simp⟩) hHeld ?_
    try simp only [Act.put]
    try simp only [List.setIfInBounds_toArray]
    try simp only [List.set_cons_succ]
    try simp only [List.set_cons_zero]
    refine wpAnyH_ready (rs := [2]) (by kernel_rfl) (by simp) ?_
    refine AllReadyH.cons rfl (fun KK0 hK => ?_) AllReadyH.nil
    refine calls_step2 (by rfl) 17 #[.slice HA hn hc] _ (Heap.clone_any h HA hn hc w9.drew HHW.out (by omega)) ?_ ?_
    · focus (go_simp; done)
    rintro e w10 ⟨v10, rfl, ho⟩
    obtain ⟨GB, gbc, rfl, -, -⟩ := own_room ho
    refine ⟨_, rfl, ?_⟩
    have HG := Lib.hid ho
    have K10 := Lib.hid (K9.out.below (w := w9.drew) ho.2)
    have KW10 := Lib.hid (KW9.out.below (w := w9.drew) ho.2)
    clear ho
    refine hK.out _ _ ⟨K10.out.cell 0 _ rfl, K10.out.cell 1 _ rfl, K10.out.cell 2 _ rfl, K10.out.cell 3 _ rfl, K10.out.cell 4 _ rfl, K10.out.cell 5 _ rfl⟩ (fun hHeld2 => ?_)
    try simp only [Act.put]
    try simp only [List.setIfInBounds_toArray]
    try simp only [List.set_cons_succ]
    try simp only [List.set_cons_zero]
    clear hK KK0
    have q0 := KW10.out.cell 0 _ rfl
    have q1 := KW10.out.cell 1 _ rfl
    have q2 := KW10.out.cell 2 _ rfl
    have q3 := KW10.out.cell 3 _ rfl
    have q4 := KW10.out.cell 4 _ rfl
    have q5 := KW10.out.cell 5 _ rfl
    have qz := KW10.out.frozen
    have HK6 := Lib.hid (six_blk KW10.out (.int .i64 k) (.int .i64 m.why) (.slice none 0 0) (.slice none 0 0) (.slice S8 ns c8) (.slice none 0 0))
    refine wpAnyH_ready (rs := [3]) (by kernel_rfl) (by simp) ?_
    refine AllReadyH.cons rfl (fun KK0 hK => ?_) AllReadyH.nil
    go_simp
    clear q0 q1 q2 q3 q4 q5 qz
    refine hK.out _ _ (by refine ⟨?_, ?_, ?_, ?_, ?_, ?_⟩ <;> (rw [cell_set_ne (Ne.symm hbg), cell_set_ne (Ne.symm hbg), cell_set_ne (Ne.symm hbg), cell_set_ne (Ne.symm hbg), cell_set_ne (Ne.symm hbg), cell_set_ne (Ne.symm hbg)]; exact K10.out.cell _ _ rfl)) (fun hHeld3 => ?_)
    try simp only [Act.put]
    try simp only [List.setIfInBounds_toArray]
    try simp only [List.set_cons_succ]
    try simp only [List.set_cons_zero]
    clear hK KK0
    refine wpAnyH_ready (rs := [4]) (by kernel_rfl) (by simp) ?_
    refine AllReadyH.cons rfl (fun KK0 hK => ?_) AllReadyH.nil
    go_simp
    refine hK.out _ _ (by refine ⟨?_, ?_, ?_, ?_, ?_, ?_⟩ <;> (rw [cell_set_ne (Ne.symm hbg), cell_set_ne (Ne.symm hbg), cell_set_ne (Ne.symm hbg), cell_set_ne (Ne.symm hbg), cell_set_ne (Ne.symm hbg), cell_set_ne (Ne.symm hbg)]; exact K10.out.cell _ _ rfl)) (fun hHeld4 => ?_)
    try simp only [Act.put]
    try simp only [List.setIfInBounds_toArray]
    try simp only [List.set_cons_succ]
    try simp only [List.set_cons_zero]
    clear hK KK0
    refine wpAnyH_ready (rs := [5]) (by kernel_rfl) (by simp) ?_
    refine AllReadyH.cons rfl (fun KK0 hK => ?_) AllReadyH.nil
    go_simp
    refine hK.out _ _ (by refine ⟨?_, ?_, ?_, ?_, ?_, ?_⟩ <;> (rw [cell_set_ne (Ne.symm hbg), cell_set_ne (Ne.symm hbg), cell_set_ne (Ne.symm hbg), cell_set_ne (Ne.symm hbg), cell_set_ne (Ne.symm hbg), cell_set_ne (Ne.symm hbg)]; exact K10.out.cell _ _ rfl)) (fun hHeld5 => ?_)
    try simp only [Act.put]
    try simp only [List.setIfInBounds_toArray]
    try simp only [List.set_cons_succ]
    try simp only [List.set_cons_zero]
    clear hK KK0
    refine wpAnyH_done (by kernel_rfl) ?_ _
    have q0 := HK6.out.cell 0 _ rfl
    have q1 := HK6.out.cell 1 _ rfl
    have q2 := HK6.out.cell 2 _ rfl
    have q3 := HK6.out.cell 3 _ rfl
    have q4 := HK6.out.cell 4 _ rfl
    have q5 := HK6.out.cell 5 _ rfl
    go_wp2_with fail
    (try simp only [Exit.inBlock, Exit.then])
    refine bodyPost_ret (v := .tuple #[.agg #[.int .i64 k, .int .i64 m.why, .slice none 0 0, .slice none 0 0, .slice S8 ns c8, .slice none 0 0], .slice GB hn gbc, .int .i64 0]) (by simp [results, Try.results10, go_sem, q0, q1, q2, q3, q4, q5]) rfl ?_
    have eS : S = abs h m k := by rw [← HSS.out]; exact SP.out
    have hkk : ¬ (abs h m k).kind = 1 := hk
    have e1 : outS S = ⟨k, m.why, [], [], pick (abs h m k).seen 64, []⟩ := by rw [eS]; unfold outS; rw [if_neg hkk]; rfl
    have e2 : (if S.kind = 1 then S.h else h) = h := by rw [eS]; exact if_neg hkk
    have hsn2 : Lib.compact (sortZ m.seen) = pick (abs h m k).seen 64 := seen_abs G5.out k
    have l3 : (pick (abs h m k).seen 64).length = ns := by rw [← hsn2]; exact HNS.out
    rw [← HPQ.out, e1, e2]
    show RetRunN w _ 0 0 (pick (abs h m k).seen 64).length 0 h h.length 0 _ _
    rw [l3, hhl2]
    have hb9 := bl_trans (bl_trans BB.out B2.out) T9.out.path.2
    have hb10 : Below w.heap.size w w10 := bl_trans hb9 (bl_trans (Below.refl _ w9).drew HG.out.2)
    refine ⟨none, 0, none, 0, S8, c8, none, 0, GB, gbc, rfl, ⟨Rd.none_, Rd.none_, ?_, Rd.none_⟩, six_rd (own_cap HG.out).2.2 (own_off (q := w.heap.size) HG.out (show w.heap.size < w9.heap.size from KW9.out.lt)) _ _ _ _ _ _, six_bel hb10 (Nat.le_refl _) _ _ _ _ _ _, Nw.none_ _, Nw.none_ _, Nw.of_own O9.out (Nat.le_of_lt NWW.out), Nw.none_ _, Nw.of_own HG.out (show w.heap.size ≤ w9.heap.size from Nat.le_of_lt KW9.out.lt)⟩
    have h1 := (own_cap O9.out).2.2
    rw [hsn2] at h1
    exact six_rd (h1.below (bl_trans (Below.refl _ w9).drew HG.out.2)) (own_off O9.out NWW.out) _ _ _ _ _ _
/-- The layer's function does what the chapter asks. -/
theorem said : Said where
  runN := by
    intro l h C HA n c hn hc w o g ok n1 n2 n3 n4 gn f hat hnc cm hlim hnm hh hhm hrun e1 e2 e3 e4 e5 e6
    cases hok : okR (ss l) h with
    | false =>
      have h1 := run_no l h C HA n c hn hc w hat hnc hlim hnm hh hhm hok
      unfold runS at hrun
      rw [hok] at hrun
      simp only [Bool.false_eq_true, if_false, Prod.mk.injEq] at hrun
      obtain ⟨rfl, rfl, rfl⟩ := hrun
      have hl : h.length = hn := by have h1 := hh.1; rw [Heap.cs_len] at h1; omega
      subst e1 e2 e3 e4 e5 e6
      rw [hl]
      exact h1
    | true =>
      have h1 := hok
      unfold okR at h1
      rw [Bool.and_eq_true, decide_eq_true_eq] at h1
      have h2 := run_yes l h C HA n c hn hc w hat hnc cm hlim hnm hh hhm h1.1 h1.2
      unfold runS at hrun
      rw [if_pos hok] at hrun
      simp only [Prod.mk.injEq] at hrun
      obtain ⟨rfl, rfl, rfl⟩ := hrun
      subst e1 e2 e3 e4 e5 e6
      exact h2
end Go.Proofs.Ytlmkhnjdifamgaa.Model
