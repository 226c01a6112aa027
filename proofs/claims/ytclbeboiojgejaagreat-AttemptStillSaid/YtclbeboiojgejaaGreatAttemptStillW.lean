/-
  THE WALK OF THE LAW AttemptStill.
-/
import Derived.Test.YtclbeboiojgejaaGreatAttemptEnds
import Derived.Test.YtclbeboiojgejaaGreatAttemptSmall
import Derived.Test.YtclbeboiojgejaaGreatModC
import Derived.Test.YtclbeboiojgejaaGreatAttemptRef
import Derived.Test.YtclbeboiojgejaaGreatAttemptSame
import Derived.Test.YtclbeboiojgejaaGreatAttemptWho
import Derived.Test.YtclbeboiojgejaaGreatHeapA
import Derived.Deep.CutRange
import Derived.Laws.Tables
import Derived.Laws.CopyRow
namespace Go.Proofs.YtclbeboiojgejaaGreat.Attempt
open Go.ChangeShapes Go.WideShapes Go.ChangeAt Go.RowKit Mem Go.Proofs.YtclbeboiojgejaaGreat.Code

theorem begin_who {c : List Step} {who other snap : Int} {t u : Try} (h1 : beginS c who snap = (t, true)) (h2 : beginS c other snap = (u, true)) : u = wh t other := by
  have k : ∀ {o : Int} {v : Try}, beginS c o snap = (v, true) → v = first c o snap := by
    intro o v h
    unfold beginS at h
    split at h
    · injection h with e _; exact e.symm
    · injection h with _ e; cases e
  rw [k h2, k h1, first_who c who other snap]
theorem trd_frames {w w' : World} {t : Try} {x : TL} {F : Option Addr} {fc : Nat} (h : TRd w t x) (hb : Below w.heap.size w w') (hf : Rd w' 4 F x.fl.length (frs x.fl)) : TRd w' t { x with F := F, fc := fc } :=
  { h.below hb with frames := hf }
theorem trd_same {w : World} {t : Try} {x : TL} {o : Int} (k : TRd w (wh t o) x) : TRd w t x := ⟨k.regs, k.path, k.reads, k.dn, k.log, k.frames, k.nest, k.raw⟩
theorem row_blk {w : World} {g : Nat} {old cs : Array Value} {t : TypeId} (h : Blk w g t old) : Blk (w.setRow g cs) g t cs := setRow_heap w g old cs t (0, 0) h
theorem row_only (w : World) (g : Nat) (cs : Array Value) : Only (fun k => k = g) w (w.setRow g cs) :=
  Only.of_grown (r := some g) ⟨rfl, rfl, rfl, by simp, fun k _ hk => setRow_other w g k _ (fun e => hk (by rw [e]))⟩ (fun k e => by injection e with e; exact e.symm)
theorem store_row2 {P : Program} {o : Oper} {a : Act} {w : World} {K : Act → World → Prop} {Q : Exit → Act → World → Prop} (ty : TypeId) (x y : Operand) (ho : o.op = .store ty x y) (g : Nat) (cells : Array Value) (hx : a.eval x = .pointer (some ⟨g, 0, none⟩)) (hy : a.eval y = .agg cells)
    (t : TypeId) (old : Array Value) (hg : Blk w g t old) (hi : (P.info? ty).map (·.size) = some cells.size) (hold : old.size = cells.size) (h1 : cells.all (·.oneCell') = true) (h : ∀ wn, Blk wn g t cells → Only (fun k => k = g) w wn → K (a.put o.dst undef) wn) : o.wp P a w K Q :=
  wp_store_row ty x y ho g cells hx hy t old hg hi hold h1 (h _ (row_blk hg) (row_only _ _ _))
abbrev zO : Obj := .cells #[.int .i64 0, .int .i64 0, .int .i64 0, .slice none 0 0, .slice none 0 0, .slice none 0 0, .slice none 0 0, .slice none 0 0, .slice none 0 0, .int .i64 0, .int .i64 0] 41
theorem rd_only {S : Nat → Prop} {w w' : World} {k n : Nat} {A : Option Addr} {xs : List Value} (h : Rd w k A n xs) (ho : Only S w w') (hne : ∀ b off, A = some ⟨b, off, none⟩ → 0 < n → ¬ S b) : Rd w' k A n xs :=
  ⟨h.1, fun hn => by
    obtain ⟨b, off, e, hc⟩ := h.2 hn
    refine ⟨b, off, e, fun j u hu => ?_⟩
    have e2 := ho.block b (cell_lt (hc j u hu)) (hne b off e hn)
    have e3 := hc j u hu
    unfold World.cell? at e3 ⊢
    rw [e2]; exact e3⟩
theorem frames8 {t : Try} {x : TL} {w : World} (h : TRd w t x) (h8 : ∀ f ∈ x.fl, f.f.regs.length = 8) : ∀ f ∈ t.frames, f.regs.length ≤ 1000000 := by
  intro f hf
  have h1 : f ∈ x.fl.map FRaw.f := by rw [h.raw]; exact List.mem_reverse.2 hf
  obtain ⟨r, hr, rfl⟩ := List.mem_map.1 h1
  rw [h8 r hr]; decide
theorem own_zero1 {w0 w : World} {e size n : Nat} {v : Value} {xs : List Value} (h : Own w0 w e size v (0 + n) ([] ++ xs)) : Own w0 w e size v n xs := by rwa [Nat.zero_add, List.nil_append] at h
set_option maxRecDepth 100000 in
set_option maxHeartbeats 16000000 in
theorem still_walk (A : Option Addr) (n c : Nat) (who other snap : Int) (l : List Raw) (x : WRaw) (w : World) (hnc : n ≤ c) (mn : n ≤ 9223372036854775807) (hat : At w A n l) (hg : WGood w x) :
    Calls Tryz.prog 6 #[.slice A n c, .int .i64 who, .int .i64 other, .int .i64 snap, .agg #[.slice x.H x.hn x.hc, .slice x.R x.rn x.rc]] w (RetB w true) := by
  obtain ⟨h, HA, hn, hc, r, RA, rn, rc⟩ := x
  obtain ⟨⟨hh, hhl, hmn, hf⟩, hr, hrl, hrm⟩ := hg
  simp only at hh hhl hmn hr hrl hrm ⊢
  clear hf
  have HL := Lib.hid hat.len
  have HA0 := Lib.hid hat
  have HH0 := Lib.hid hh
  have HR0 := Lib.hid hr
  have HHL := Lib.hid hhl
  have HRL := Lib.hid hrl
  clear hat hh hr hhl hrl
  have bb : Hid (Below w.heap.size w (w.alloc (.cells #[.slice HA hn hc, .slice RA rn rc] 51))) := Lib.hid (bl_alloc (Below.refl _ _) _)
  have KW : Hid (Blk (w.alloc (.cells #[.slice HA hn hc, .slice RA rn rc] 51)) w.heap.size 51 #[.slice HA hn hc, .slice RA rn rc]) := Lib.hid (Blk.new _ _ _)
  cases hs : smallB l with
  | false =>
    have HSM := Lib.hid (small_neg l hs)
    clear hs
    go_enter Tryz.func6, Tryz.ntmps6
    go_wp2_with fail
    refine (small_c l _ _ _ _ (-1) (HA0.out.below bb.out) mn HSM.out).mono ?_
    rintro e w1 ⟨rfl, b_⟩
    replace KW := Lib.hid (KW.out.below b_)
    replace bb := Lib.hid (bl_trans bb.out b_)
    clear b_
    go_wp2_with fail
    refine (awake_any _).mono ?_
    rintro e wz ⟨rfl, b_⟩
    replace bb := Lib.hid (bl_trans bb.out b_)
    clear b_
    go_wp2
    go_ret
    exact ⟨rfl, bb.out⟩
  | true =>
    obtain ⟨hlim, h40⟩ := small_lim l hs
    have HSM := Lib.hid (small_val l n HL.out hs)
    have HLM := Lib.hid hlim
    have hn40 : n ≤ 40 := by rw [← HL.out]; exact h40
    clear hs hlim h40
    cases hsw : smallW [(⟨h, HA, hn, hc, r, RA, rn, rc⟩ : WRaw)] with
    | false =>
      have HSW := Lib.hid hsw
      clear hsw
      go_enter Tryz.func6, Tryz.ntmps6
      go_wp2_with fail
      refine (small_c l _ _ _ _ (n : Int) (HA0.out.below bb.out) mn HSM.out).mono ?_
      rintro e w1 ⟨rfl, b_⟩
      replace KW := Lib.hid (KW.out.below b_)
      replace bb := Lib.hid (bl_trans bb.out b_)
      clear b_
      have q0 := KW.out.cell 0 _ rfl
      have q1 := KW.out.cell 1 _ rfl
      go_wp2_with fail
      refine (smallw_c [(⟨h, HA, hn, hc, r, RA, rn, rc⟩ : WRaw)] _ _ _ _ false (Rd.built w1 2 1 (wcs [(⟨h, HA, hn, hc, r, RA, rn, rc⟩ : WRaw)]) _ rfl) rfl (by decide) (fun z hz => by rw [List.mem_singleton] at hz; subst hz; exact ⟨hmn, hrm⟩) HSW.out).mono ?_
      rintro e w2 ⟨rfl, b_⟩
      replace KW := Lib.hid ((KW.out.alloc (.cells #[.slice HA hn hc, .slice RA rn rc] 51)).below b_)
      replace bb := Lib.hid (bl_trans (bl_alloc bb.out (.cells #[.slice HA hn hc, .slice RA rn rc] 51)) b_)
      clear b_ q0 q1
      go_wp2_with fail
      refine (awake_any _).mono ?_
      rintro e wz ⟨rfl, b_⟩
      replace bb := Lib.hid (bl_trans bb.out b_)
      clear b_
      go_wp2
      go_ret
      exact ⟨rfl, bb.out⟩
    | true =>
      have HSW := Lib.hid hsw
      obtain ⟨h80, r30⟩ := smallW_all hsw (⟨h, HA, hn, hc, r, RA, rn, rc⟩ : WRaw) (List.mem_singleton.2 rfl)
      simp only at h80 r30
      clear hsw
      have HBG : Hid (∀ (W : World) (t0 : Try) (ok : Bool), Below w.heap.size w W → beginS (ss l) who snap = (t0, ok) → Calls Tryz.prog 12 #[.slice A n c, .int .i64 who, .int .i64 snap] W fun e w' => ∃ y : TL, e = .returned (.tuple #[.agg #[.int .i64 t0.who, .int .i64 t0.snap, .int .i64 t0.pc, .slice y.R t0.regs.length y.rc, .slice y.P t0.path.length y.pc, .slice y.D t0.reads.length y.dc, .slice y.L t0.log.list.length y.lc, .slice y.M t0.log.marks.length y.mc, .slice y.F y.fl.length y.fc, .int .i64 t0.kind, .int .i64 t0.why], .int .i64 (if ok = true then 0 else 1)]) ∧ TOwn W w' t0 y ∧ Below W.heap.size W w') := Lib.hid (fun W t0 ok hW hB => (begin_c l A n c who snap W t0 ok (HA0.out.below hW) hnc HLM.out (by omega) hB).mono (fun e w' ⟨y, h1, h2, _, h4⟩ => ⟨y, h1, h2, h4⟩))
      have HBH : Hid (∀ (W : World) (t0 : Try) (ok : Bool), Below w.heap.size w W → beginS (ss l) other snap = (t0, ok) → Calls Tryz.prog 12 #[.slice A n c, .int .i64 other, .int .i64 snap] W fun e w' => ∃ y : TL, e = .returned (.tuple #[.agg #[.int .i64 t0.who, .int .i64 t0.snap, .int .i64 t0.pc, .slice y.R t0.regs.length y.rc, .slice y.P t0.path.length y.pc, .slice y.D t0.reads.length y.dc, .slice y.L t0.log.list.length y.lc, .slice y.M t0.log.marks.length y.mc, .slice y.F y.fl.length y.fc, .int .i64 t0.kind, .int .i64 t0.why], .int .i64 (if ok = true then 0 else 1)]) ∧ TOwn W w' t0 y ∧ Below W.heap.size W w') := Lib.hid (fun W t0 ok hW hB => (begin_c l A n c other snap W t0 ok (HA0.out.below hW) hnc HLM.out (by omega) hB).mono (fun e w' ⟨y, h1, h2, _, h4⟩ => ⟨y, h1, h2, h4⟩))
      have HRN : Hid (∀ (W : World) (rl : List Stripe.Rec) (RA : Option Addr) (rn rc : Nat) (t0 T9 : Try) (x0 : TL) (k : Nat) (ok : Bool), Below w.heap.size w W → TRd W t0 x0 → Inv (ss l) t0 → Rd W 2 RA rn (Stripe.rs rl) → rn ≤ 1000 → runS (ss l) h rl t0 = (T9, k, ok) → Calls Tryz.prog 23 #[.agg #[.int .i64 t0.who, .int .i64 t0.snap, .int .i64 t0.pc, .slice x0.R t0.regs.length x0.rc, .slice x0.P t0.path.length x0.pc, .slice x0.D t0.reads.length x0.dc, .slice x0.L t0.log.list.length x0.lc, .slice x0.M t0.log.marks.length x0.mc, .slice x0.F x0.fl.length x0.fc, .int .i64 t0.kind, .int .i64 t0.why], .slice A n c, .slice HA hn hc, .slice RA rn rc] W fun e w' => ∃ y : TL, e = .returned (.tuple #[.agg #[.int .i64 T9.who, .int .i64 T9.snap, .int .i64 T9.pc, .slice y.R T9.regs.length y.rc, .slice y.P T9.path.length y.pc, .slice y.D T9.reads.length y.dc, .slice y.L T9.log.list.length y.lc, .slice y.M T9.log.marks.length y.mc, .slice y.F y.fl.length y.fc, .int .i64 T9.kind, .int .i64 T9.why], .int .i64 k, .int .i64 (if ok = true then 0 else 1)]) ∧ TOwn W w' T9 y ∧ Below W.heap.size W w') := Lib.hid (fun W rl RA rn rc t0 T9 x0 k ok hW hr hi ht h6 hR => (run_c l A n c h HA hn hc rl RA rn rc t0 x0 W (SPre.mk_ (HA0.out.below hW) hnc HLM.out (by omega) (HH0.out.below hW) (by omega) ht (by omega) hr hi) (T9, k, ok) hR).mono (fun e w' ⟨y, h1, h2, _, h4⟩ => ⟨y, h1, h2, h4⟩))
      go_enter Tryz.func6, Tryz.ntmps6
      go_wp2_with fail
      refine (small_c l _ _ _ _ (n : Int) (HA0.out.below bb.out) mn HSM.out).mono ?_
      rintro e w1 ⟨rfl, b_⟩
      replace KW := Lib.hid (KW.out.below b_)
      replace bb := Lib.hid (bl_trans bb.out b_)
      clear b_
      have q0 := KW.out.cell 0 _ rfl
      have q1 := KW.out.cell 1 _ rfl
      go_wp2_with fail
      refine (smallw_c [(⟨h, HA, hn, hc, r, RA, rn, rc⟩ : WRaw)] _ _ _ _ true (Rd.built w1 2 1 (wcs [(⟨h, HA, hn, hc, r, RA, rn, rc⟩ : WRaw)]) _ rfl) rfl (by decide) (fun z hz => by rw [List.mem_singleton] at hz; subst hz; exact ⟨hmn, hrm⟩) HSW.out).mono ?_
      rintro e w2 ⟨rfl, b_⟩
      replace KW := Lib.hid ((KW.out.alloc (.cells #[.slice HA hn hc, .slice RA rn rc] 51)).below b_)
      replace bb := Lib.hid (bl_trans (bl_alloc bb.out (.cells #[.slice HA hn hc, .slice RA rn rc] 51)) b_)
      clear b_ q0 q1
      have q0 := KW.out.cell 0 _ rfl
      have q0a := (KW.out.alloc (.cells #[] 76)).cell 0 _ rfl
      go_wp2_with (at_builtin; refine append_rd rfl _ _ 48 rfl Heap.tCell w2 _ 0 [] rfl (Own.empty _ _ _) _ hn hc (Heap.cs h) rfl ((HH0.out.below bb.out).alloc _) (Heap.cs_one h) (by omega) (by omega) ?_; intro v1 p1 ho hg'; clear hg'; have HCO := Lib.hid (own_zero1 ho); clear ho)
      obtain ⟨HB, hd, rfl, hcap, hrdb⟩ := own_room HCO.out
      have HCP := Lib.hid hrdb
      replace KW := Lib.hid (KW.out.below HCO.out.2)
      replace bb := Lib.hid (bl_trans bb.out HCO.out.2)
      clear hrdb q0 q0a HCO
      obtain ⟨t0, ok, hB⟩ : ∃ t0 ok, beginS (ss l) who snap = (t0, ok) := ⟨_, _, rfl⟩
      obtain ⟨t1, okb, hC⟩ : ∃ t0 ok, beginS (ss l) other snap = (t0, ok) := ⟨_, _, rfl⟩
      have HBB := Lib.hid hB
      have HBC := Lib.hid hC
      clear hB hC
      cases ok with
      | false =>
        cases okb with
        | false =>
          go_wp2_with fail
          refine (HBG.out _ t0 false bb.out HBB.out).mono ?_
          rintro e2 v2 ⟨y0, rfl, ho_, b_⟩
          have ba := bl_alloc b_ (.cells #[.int .i64 t0.who, .int .i64 t0.snap, .int .i64 t0.pc, .slice y0.R t0.regs.length y0.rc, .slice y0.P t0.path.length y0.pc, .slice y0.D t0.reads.length y0.dc, .slice y0.L t0.log.list.length y0.lc, .slice y0.M t0.log.marks.length y0.mc, .slice y0.F y0.fl.length y0.fc, .int .i64 t0.kind, .int .i64 t0.why] 34)
          replace KW := Lib.hid (KW.out.below ba)
          replace HCP := Lib.hid (HCP.out.below ba)
          have HO0 := Lib.hid (ho_.rd.below (bl_alloc (Below.refl _ _) (.cells #[.int .i64 t0.who, .int .i64 t0.snap, .int .i64 t0.pc, .slice y0.R t0.regs.length y0.rc, .slice y0.P t0.path.length y0.pc, .slice y0.D t0.reads.length y0.dc, .slice y0.L t0.log.list.length y0.lc, .slice y0.M t0.log.marks.length y0.mc, .slice y0.F y0.fl.length y0.fc, .int .i64 t0.kind, .int .i64 t0.why] 34)))
          have HK0 : Hid (Blk (v2.alloc (.cells #[.int .i64 t0.who, .int .i64 t0.snap, .int .i64 t0.pc, .slice y0.R t0.regs.length y0.rc, .slice y0.P t0.path.length y0.pc, .slice y0.D t0.reads.length y0.dc, .slice y0.L t0.log.list.length y0.lc, .slice y0.M t0.log.marks.length y0.mc, .slice y0.F y0.fl.length y0.fc, .int .i64 t0.kind, .int .i64 t0.why] 34)) v2.heap.size 34 #[.int .i64 t0.who, .int .i64 t0.snap, .int .i64 t0.pc, .slice y0.R t0.regs.length y0.rc, .slice y0.P t0.path.length y0.pc, .slice y0.D t0.reads.length y0.dc, .slice y0.L t0.log.list.length y0.lc, .slice y0.M t0.log.marks.length y0.mc, .slice y0.F y0.fl.length y0.fc, .int .i64 t0.kind, .int .i64 t0.why]) := Lib.hid (Blk.new _ _ _)
          replace bb := Lib.hid (bl_trans bb.out ba)
          clear ho_ b_ ba
          go_wp2_with fail
          refine (HBH.out _ t1 false bb.out HBC.out).mono ?_
          rintro e3 v3 ⟨y1, rfl, ho_, b_⟩
          have ba := bl_alloc b_ (.cells #[.int .i64 t1.who, .int .i64 t1.snap, .int .i64 t1.pc, .slice y1.R t1.regs.length y1.rc, .slice y1.P t1.path.length y1.pc, .slice y1.D t1.reads.length y1.dc, .slice y1.L t1.log.list.length y1.lc, .slice y1.M t1.log.marks.length y1.mc, .slice y1.F y1.fl.length y1.fc, .int .i64 t1.kind, .int .i64 t1.why] 34)
          replace KW := Lib.hid (KW.out.below ba)
          replace HCP := Lib.hid (HCP.out.below ba)
          replace HO0 := Lib.hid (HO0.out.below ba)
          replace HK0 := Lib.hid (HK0.out.below ba)
          have HO1 := Lib.hid (ho_.rd.below (bl_alloc (Below.refl _ _) (.cells #[.int .i64 t1.who, .int .i64 t1.snap, .int .i64 t1.pc, .slice y1.R t1.regs.length y1.rc, .slice y1.P t1.path.length y1.pc, .slice y1.D t1.reads.length y1.dc, .slice y1.L t1.log.list.length y1.lc, .slice y1.M t1.log.marks.length y1.mc, .slice y1.F y1.fl.length y1.fc, .int .i64 t1.kind, .int .i64 t1.why] 34)))
          have HK1 : Hid (Blk (v3.alloc (.cells #[.int .i64 t1.who, .int .i64 t1.snap, .int .i64 t1.pc, .slice y1.R t1.regs.length y1.rc, .slice y1.P t1.path.length y1.pc, .slice y1.D t1.reads.length y1.dc, .slice y1.L t1.log.list.length y1.lc, .slice y1.M t1.log.marks.length y1.mc, .slice y1.F y1.fl.length y1.fc, .int .i64 t1.kind, .int .i64 t1.why] 34)) v3.heap.size 34 #[.int .i64 t1.who, .int .i64 t1.snap, .int .i64 t1.pc, .slice y1.R t1.regs.length y1.rc, .slice y1.P t1.path.length y1.pc, .slice y1.D t1.reads.length y1.dc, .slice y1.L t1.log.list.length y1.lc, .slice y1.M t1.log.marks.length y1.mc, .slice y1.F y1.fl.length y1.fc, .int .i64 t1.kind, .int .i64 t1.why]) := Lib.hid (Blk.new _ _ _)
          replace bb := Lib.hid (bl_trans bb.out ba)
          clear ho_ b_ ba
          go_wp2_with fail
          refine (awake_any _).mono ?_
          rintro e wz ⟨rfl, b_⟩
          replace bb := Lib.hid (bl_trans bb.out b_)
          clear b_
          go_wp2
          go_ret
          exact ⟨rfl, bb.out⟩
        | true =>
          go_wp2_with fail
          refine (HBG.out _ t0 false bb.out HBB.out).mono ?_
          rintro e2 v2 ⟨y0, rfl, ho_, b_⟩
          have ba := bl_alloc b_ (.cells #[.int .i64 t0.who, .int .i64 t0.snap, .int .i64 t0.pc, .slice y0.R t0.regs.length y0.rc, .slice y0.P t0.path.length y0.pc, .slice y0.D t0.reads.length y0.dc, .slice y0.L t0.log.list.length y0.lc, .slice y0.M t0.log.marks.length y0.mc, .slice y0.F y0.fl.length y0.fc, .int .i64 t0.kind, .int .i64 t0.why] 34)
          replace KW := Lib.hid (KW.out.below ba)
          replace HCP := Lib.hid (HCP.out.below ba)
          have HO0 := Lib.hid (ho_.rd.below (bl_alloc (Below.refl _ _) (.cells #[.int .i64 t0.who, .int .i64 t0.snap, .int .i64 t0.pc, .slice y0.R t0.regs.length y0.rc, .slice y0.P t0.path.length y0.pc, .slice y0.D t0.reads.length y0.dc, .slice y0.L t0.log.list.length y0.lc, .slice y0.M t0.log.marks.length y0.mc, .slice y0.F y0.fl.length y0.fc, .int .i64 t0.kind, .int .i64 t0.why] 34)))
          have HK0 : Hid (Blk (v2.alloc (.cells #[.int .i64 t0.who, .int .i64 t0.snap, .int .i64 t0.pc, .slice y0.R t0.regs.length y0.rc, .slice y0.P t0.path.length y0.pc, .slice y0.D t0.reads.length y0.dc, .slice y0.L t0.log.list.length y0.lc, .slice y0.M t0.log.marks.length y0.mc, .slice y0.F y0.fl.length y0.fc, .int .i64 t0.kind, .int .i64 t0.why] 34)) v2.heap.size 34 #[.int .i64 t0.who, .int .i64 t0.snap, .int .i64 t0.pc, .slice y0.R t0.regs.length y0.rc, .slice y0.P t0.path.length y0.pc, .slice y0.D t0.reads.length y0.dc, .slice y0.L t0.log.list.length y0.lc, .slice y0.M t0.log.marks.length y0.mc, .slice y0.F y0.fl.length y0.fc, .int .i64 t0.kind, .int .i64 t0.why]) := Lib.hid (Blk.new _ _ _)
          replace bb := Lib.hid (bl_trans bb.out ba)
          clear ho_ b_ ba
          go_wp2_with fail
          refine (HBH.out _ t1 true bb.out HBC.out).mono ?_
          rintro e3 v3 ⟨y1, rfl, ho_, b_⟩
          have ba := bl_alloc b_ (.cells #[.int .i64 t1.who, .int .i64 t1.snap, .int .i64 t1.pc, .slice y1.R t1.regs.length y1.rc, .slice y1.P t1.path.length y1.pc, .slice y1.D t1.reads.length y1.dc, .slice y1.L t1.log.list.length y1.lc, .slice y1.M t1.log.marks.length y1.mc, .slice y1.F y1.fl.length y1.fc, .int .i64 t1.kind, .int .i64 t1.why] 34)
          replace KW := Lib.hid (KW.out.below ba)
          replace HCP := Lib.hid (HCP.out.below ba)
          replace HO0 := Lib.hid (HO0.out.below ba)
          replace HK0 := Lib.hid (HK0.out.below ba)
          have HO1 := Lib.hid (ho_.rd.below (bl_alloc (Below.refl _ _) (.cells #[.int .i64 t1.who, .int .i64 t1.snap, .int .i64 t1.pc, .slice y1.R t1.regs.length y1.rc, .slice y1.P t1.path.length y1.pc, .slice y1.D t1.reads.length y1.dc, .slice y1.L t1.log.list.length y1.lc, .slice y1.M t1.log.marks.length y1.mc, .slice y1.F y1.fl.length y1.fc, .int .i64 t1.kind, .int .i64 t1.why] 34)))
          have HK1 : Hid (Blk (v3.alloc (.cells #[.int .i64 t1.who, .int .i64 t1.snap, .int .i64 t1.pc, .slice y1.R t1.regs.length y1.rc, .slice y1.P t1.path.length y1.pc, .slice y1.D t1.reads.length y1.dc, .slice y1.L t1.log.list.length y1.lc, .slice y1.M t1.log.marks.length y1.mc, .slice y1.F y1.fl.length y1.fc, .int .i64 t1.kind, .int .i64 t1.why] 34)) v3.heap.size 34 #[.int .i64 t1.who, .int .i64 t1.snap, .int .i64 t1.pc, .slice y1.R t1.regs.length y1.rc, .slice y1.P t1.path.length y1.pc, .slice y1.D t1.reads.length y1.dc, .slice y1.L t1.log.list.length y1.lc, .slice y1.M t1.log.marks.length y1.mc, .slice y1.F y1.fl.length y1.fc, .int .i64 t1.kind, .int .i64 t1.why]) := Lib.hid (Blk.new _ _ _)
          replace bb := Lib.hid (bl_trans bb.out ba)
          clear ho_ b_ ba
          go_wp2_with fail
          refine (awake_any _).mono ?_
          rintro e wz ⟨rfl, b_⟩
          replace bb := Lib.hid (bl_trans bb.out b_)
          clear b_
          go_wp2
          go_ret
          exact ⟨rfl, bb.out⟩
      | true =>
        cases okb with
        | false =>
          go_wp2_with fail
          refine (HBG.out _ t0 true bb.out HBB.out).mono ?_
          rintro e2 v2 ⟨y0, rfl, ho_, b_⟩
          have ba := bl_alloc b_ (.cells #[.int .i64 t0.who, .int .i64 t0.snap, .int .i64 t0.pc, .slice y0.R t0.regs.length y0.rc, .slice y0.P t0.path.length y0.pc, .slice y0.D t0.reads.length y0.dc, .slice y0.L t0.log.list.length y0.lc, .slice y0.M t0.log.marks.length y0.mc, .slice y0.F y0.fl.length y0.fc, .int .i64 t0.kind, .int .i64 t0.why] 34)
          replace KW := Lib.hid (KW.out.below ba)
          replace HCP := Lib.hid (HCP.out.below ba)
          have HO0 := Lib.hid (ho_.rd.below (bl_alloc (Below.refl _ _) (.cells #[.int .i64 t0.who, .int .i64 t0.snap, .int .i64 t0.pc, .slice y0.R t0.regs.length y0.rc, .slice y0.P t0.path.length y0.pc, .slice y0.D t0.reads.length y0.dc, .slice y0.L t0.log.list.length y0.lc, .slice y0.M t0.log.marks.length y0.mc, .slice y0.F y0.fl.length y0.fc, .int .i64 t0.kind, .int .i64 t0.why] 34)))
          have HK0 : Hid (Blk (v2.alloc (.cells #[.int .i64 t0.who, .int .i64 t0.snap, .int .i64 t0.pc, .slice y0.R t0.regs.length y0.rc, .slice y0.P t0.path.length y0.pc, .slice y0.D t0.reads.length y0.dc, .slice y0.L t0.log.list.length y0.lc, .slice y0.M t0.log.marks.length y0.mc, .slice y0.F y0.fl.length y0.fc, .int .i64 t0.kind, .int .i64 t0.why] 34)) v2.heap.size 34 #[.int .i64 t0.who, .int .i64 t0.snap, .int .i64 t0.pc, .slice y0.R t0.regs.length y0.rc, .slice y0.P t0.path.length y0.pc, .slice y0.D t0.reads.length y0.dc, .slice y0.L t0.log.list.length y0.lc, .slice y0.M t0.log.marks.length y0.mc, .slice y0.F y0.fl.length y0.fc, .int .i64 t0.kind, .int .i64 t0.why]) := Lib.hid (Blk.new _ _ _)
          replace bb := Lib.hid (bl_trans bb.out ba)
          clear ho_ b_ ba
          go_wp2_with fail
          refine (HBH.out _ t1 false bb.out HBC.out).mono ?_
          rintro e3 v3 ⟨y1, rfl, ho_, b_⟩
          have ba := bl_alloc b_ (.cells #[.int .i64 t1.who, .int .i64 t1.snap, .int .i64 t1.pc, .slice y1.R t1.regs.length y1.rc, .slice y1.P t1.path.length y1.pc, .slice y1.D t1.reads.length y1.dc, .slice y1.L t1.log.list.length y1.lc, .slice y1.M t1.log.marks.length y1.mc, .slice y1.F y1.fl.length y1.fc, .int .i64 t1.kind, .int .i64 t1.why] 34)
          replace KW := Lib.hid (KW.out.below ba)
          replace HCP := Lib.hid (HCP.out.below ba)
          replace HO0 := Lib.hid (HO0.out.below ba)
          replace HK0 := Lib.hid (HK0.out.below ba)
          have HO1 := Lib.hid (ho_.rd.below (bl_alloc (Below.refl _ _) (.cells #[.int .i64 t1.who, .int .i64 t1.snap, .int .i64 t1.pc, .slice y1.R t1.regs.length y1.rc, .slice y1.P t1.path.length y1.pc, .slice y1.D t1.reads.length y1.dc, .slice y1.L t1.log.list.length y1.lc, .slice y1.M t1.log.marks.length y1.mc, .slice y1.F y1.fl.length y1.fc, .int .i64 t1.kind, .int .i64 t1.why] 34)))
          have HK1 : Hid (Blk (v3.alloc (.cells #[.int .i64 t1.who, .int .i64 t1.snap, .int .i64 t1.pc, .slice y1.R t1.regs.length y1.rc, .slice y1.P t1.path.length y1.pc, .slice y1.D t1.reads.length y1.dc, .slice y1.L t1.log.list.length y1.lc, .slice y1.M t1.log.marks.length y1.mc, .slice y1.F y1.fl.length y1.fc, .int .i64 t1.kind, .int .i64 t1.why] 34)) v3.heap.size 34 #[.int .i64 t1.who, .int .i64 t1.snap, .int .i64 t1.pc, .slice y1.R t1.regs.length y1.rc, .slice y1.P t1.path.length y1.pc, .slice y1.D t1.reads.length y1.dc, .slice y1.L t1.log.list.length y1.lc, .slice y1.M t1.log.marks.length y1.mc, .slice y1.F y1.fl.length y1.fc, .int .i64 t1.kind, .int .i64 t1.why]) := Lib.hid (Blk.new _ _ _)
          replace bb := Lib.hid (bl_trans bb.out ba)
          clear ho_ b_ ba
          go_wp2_with fail
          refine (awake_any _).mono ?_
          rintro e wz ⟨rfl, b_⟩
          replace bb := Lib.hid (bl_trans bb.out b_)
          clear b_
          go_wp2
          go_ret
          exact ⟨rfl, bb.out⟩
        | true =>
          have hwb := begin_who HBB.out HBC.out
          subst hwb
          go_wp2_with fail
          refine (HBG.out _ t0 true bb.out HBB.out).mono ?_
          rintro e2 v2 ⟨y0, rfl, ho_, b_⟩
          have ba := bl_alloc b_ (.cells #[.int .i64 t0.who, .int .i64 t0.snap, .int .i64 t0.pc, .slice y0.R t0.regs.length y0.rc, .slice y0.P t0.path.length y0.pc, .slice y0.D t0.reads.length y0.dc, .slice y0.L t0.log.list.length y0.lc, .slice y0.M t0.log.marks.length y0.mc, .slice y0.F y0.fl.length y0.fc, .int .i64 t0.kind, .int .i64 t0.why] 34)
          replace KW := Lib.hid (KW.out.below ba)
          replace HCP := Lib.hid (HCP.out.below ba)
          have HO0 := Lib.hid (ho_.rd.below (bl_alloc (Below.refl _ _) (.cells #[.int .i64 t0.who, .int .i64 t0.snap, .int .i64 t0.pc, .slice y0.R t0.regs.length y0.rc, .slice y0.P t0.path.length y0.pc, .slice y0.D t0.reads.length y0.dc, .slice y0.L t0.log.list.length y0.lc, .slice y0.M t0.log.marks.length y0.mc, .slice y0.F y0.fl.length y0.fc, .int .i64 t0.kind, .int .i64 t0.why] 34)))
          have HK0 : Hid (Blk (v2.alloc (.cells #[.int .i64 t0.who, .int .i64 t0.snap, .int .i64 t0.pc, .slice y0.R t0.regs.length y0.rc, .slice y0.P t0.path.length y0.pc, .slice y0.D t0.reads.length y0.dc, .slice y0.L t0.log.list.length y0.lc, .slice y0.M t0.log.marks.length y0.mc, .slice y0.F y0.fl.length y0.fc, .int .i64 t0.kind, .int .i64 t0.why] 34)) v2.heap.size 34 #[.int .i64 t0.who, .int .i64 t0.snap, .int .i64 t0.pc, .slice y0.R t0.regs.length y0.rc, .slice y0.P t0.path.length y0.pc, .slice y0.D t0.reads.length y0.dc, .slice y0.L t0.log.list.length y0.lc, .slice y0.M t0.log.marks.length y0.mc, .slice y0.F y0.fl.length y0.fc, .int .i64 t0.kind, .int .i64 t0.why]) := Lib.hid (Blk.new _ _ _)
          replace bb := Lib.hid (bl_trans bb.out ba)
          clear ho_ b_ ba
          go_wp2_with fail
          refine ((show Calls Tryz.prog 12 #[.slice A n c, .int .i64 other, .int .i64 snap] _ (fun e w' => ∃ y : TL, e = .returned (.tuple #[.agg #[.int .i64 other, .int .i64 t0.snap, .int .i64 t0.pc, .slice y.R t0.regs.length y.rc, .slice y.P t0.path.length y.pc, .slice y.D t0.reads.length y.dc, .slice y.L t0.log.list.length y.lc, .slice y.M t0.log.marks.length y.mc, .slice y.F y.fl.length y.fc, .int .i64 t0.kind, .int .i64 t0.why], .int .i64 0]) ∧ TOwn _ w' (wh t0 other) y ∧ Below _ _ w') from HBH.out _ (wh t0 other) true bb.out HBC.out)).mono ?_
          rintro e3 v3 ⟨y1, rfl, ho_, b_⟩
          have ba := bl_alloc b_ (.cells #[.int .i64 other, .int .i64 t0.snap, .int .i64 t0.pc, .slice y1.R t0.regs.length y1.rc, .slice y1.P t0.path.length y1.pc, .slice y1.D t0.reads.length y1.dc, .slice y1.L t0.log.list.length y1.lc, .slice y1.M t0.log.marks.length y1.mc, .slice y1.F y1.fl.length y1.fc, .int .i64 t0.kind, .int .i64 t0.why] 34)
          replace KW := Lib.hid (KW.out.below ba)
          replace HCP := Lib.hid (HCP.out.below ba)
          replace HO0 := Lib.hid (HO0.out.below ba)
          replace HK0 := Lib.hid (HK0.out.below ba)
          have HO1 := Lib.hid (ho_.rd.below (bl_alloc (Below.refl _ _) (.cells #[.int .i64 other, .int .i64 t0.snap, .int .i64 t0.pc, .slice y1.R t0.regs.length y1.rc, .slice y1.P t0.path.length y1.pc, .slice y1.D t0.reads.length y1.dc, .slice y1.L t0.log.list.length y1.lc, .slice y1.M t0.log.marks.length y1.mc, .slice y1.F y1.fl.length y1.fc, .int .i64 t0.kind, .int .i64 t0.why] 34)))
          have HK1 : Hid (Blk (v3.alloc (.cells #[.int .i64 other, .int .i64 t0.snap, .int .i64 t0.pc, .slice y1.R t0.regs.length y1.rc, .slice y1.P t0.path.length y1.pc, .slice y1.D t0.reads.length y1.dc, .slice y1.L t0.log.list.length y1.lc, .slice y1.M t0.log.marks.length y1.mc, .slice y1.F y1.fl.length y1.fc, .int .i64 t0.kind, .int .i64 t0.why] 34)) v3.heap.size 34 #[.int .i64 other, .int .i64 t0.snap, .int .i64 t0.pc, .slice y1.R t0.regs.length y1.rc, .slice y1.P t0.path.length y1.pc, .slice y1.D t0.reads.length y1.dc, .slice y1.L t0.log.list.length y1.lc, .slice y1.M t0.log.marks.length y1.mc, .slice y1.F y1.fl.length y1.fc, .int .i64 t0.kind, .int .i64 t0.why]) := Lib.hid (Blk.new _ _ _)
          replace bb := Lib.hid (bl_trans bb.out ba)
          clear ho_ b_ ba
          obtain ⟨T9, kk, ok2, hR⟩ : ∃ T9 kk ok2, runS (ss l) h r t0 = (T9, kk, ok2) := ⟨_, _, _, rfl⟩
          have HRR := Lib.hid hR
          have HRW : Hid (runS (ss l) h r (wh t0 other) = (wh T9 other, kk, ok2)) := Lib.hid (by rw [run_who, hR])
          clear hR
          have HIV := Lib.hid (begin_inv HBB.out)
          have HIW := Lib.hid (begin_inv HBC.out)
          obtain ⟨f2, hf2⟩ : ∃ f2 : Int, (if ok2 = true then 0 else 1) = f2 := ⟨_, rfl⟩
          have HF2 := Lib.hid hf2
          clear hf2
          have w0 := KW.out.cell 0 _ rfl
          have w1_ := KW.out.cell 1 _ rfl
          have c0 := HK0.out.cell 0 _ rfl
          have c1 := HK0.out.cell 1 _ rfl
          have c2 := HK0.out.cell 2 _ rfl
          have c3 := HK0.out.cell 3 _ rfl
          have c4 := HK0.out.cell 4 _ rfl
          have c5 := HK0.out.cell 5 _ rfl
          have c6 := HK0.out.cell 6 _ rfl
          have c7 := HK0.out.cell 7 _ rfl
          have c8 := HK0.out.cell 8 _ rfl
          have c9 := HK0.out.cell 9 _ rfl
          have c10 := HK0.out.cell 10 _ rfl
          go_wp2_with fail
          refine ((show Calls Tryz.prog 23 #[.agg #[.int .i64 t0.who, .int .i64 t0.snap, .int .i64 t0.pc, .slice y0.R t0.regs.length y0.rc, .slice y0.P t0.path.length y0.pc, .slice y0.D t0.reads.length y0.dc, .slice y0.L t0.log.list.length y0.lc, .slice y0.M t0.log.marks.length y0.mc, .slice y0.F y0.fl.length y0.fc, .int .i64 t0.kind, .int .i64 t0.why], .slice A n c, .slice HA hn hc, .slice RA rn rc] _ (fun e w' => ∃ y : TL, e = .returned (.tuple #[.agg #[.int .i64 T9.who, .int .i64 T9.snap, .int .i64 T9.pc, .slice y.R T9.regs.length y.rc, .slice y.P T9.path.length y.pc, .slice y.D T9.reads.length y.dc, .slice y.L T9.log.list.length y.lc, .slice y.M T9.log.marks.length y.mc, .slice y.F y.fl.length y.fc, .int .i64 T9.kind, .int .i64 T9.why], .int .i64 kk, .int .i64 f2]) ∧ TOwn _ w' (T9) y ∧ Below _ _ w') from by rw [← HF2.out]; exact HRN.out _ r RA rn rc (t0) (T9) y0 kk ok2 bb.out HO0.out HIV.out (HR0.out.below bb.out) (by omega) HRR.out)).mono ?_
          rintro e4 v4 ⟨yx, rfl, ho_, b_⟩
          clear w0 w1_ c0 c1 c2 c3 c4 c5 c6 c7 c8 c9 c10
          have ba := bl_alloc b_ (.cells #[.int .i64 T9.who, .int .i64 T9.snap, .int .i64 T9.pc, .slice yx.R T9.regs.length yx.rc, .slice yx.P T9.path.length yx.pc, .slice yx.D T9.reads.length yx.dc, .slice yx.L T9.log.list.length yx.lc, .slice yx.M T9.log.marks.length yx.mc, .slice yx.F yx.fl.length yx.fc, .int .i64 T9.kind, .int .i64 T9.why] 34)
          replace KW := Lib.hid (KW.out.below ba)
          replace HCP := Lib.hid (HCP.out.below ba)
          replace HO0 := Lib.hid (HO0.out.below ba)
          replace HK0 := Lib.hid (HK0.out.below ba)
          replace HO1 := Lib.hid (HO1.out.below ba)
          replace HK1 := Lib.hid (HK1.out.below ba)
          have HOx := Lib.hid (ho_.rd.below (bl_alloc (Below.refl _ _) (.cells #[.int .i64 T9.who, .int .i64 T9.snap, .int .i64 T9.pc, .slice yx.R T9.regs.length yx.rc, .slice yx.P T9.path.length yx.pc, .slice yx.D T9.reads.length yx.dc, .slice yx.L T9.log.list.length yx.lc, .slice yx.M T9.log.marks.length yx.mc, .slice yx.F yx.fl.length yx.fc, .int .i64 T9.kind, .int .i64 T9.why] 34)))
          have HKx : Hid (Blk (v4.alloc (.cells #[.int .i64 T9.who, .int .i64 T9.snap, .int .i64 T9.pc, .slice yx.R T9.regs.length yx.rc, .slice yx.P T9.path.length yx.pc, .slice yx.D T9.reads.length yx.dc, .slice yx.L T9.log.list.length yx.lc, .slice yx.M T9.log.marks.length yx.mc, .slice yx.F yx.fl.length yx.fc, .int .i64 T9.kind, .int .i64 T9.why] 34)) v4.heap.size 34 #[.int .i64 T9.who, .int .i64 T9.snap, .int .i64 T9.pc, .slice yx.R T9.regs.length yx.rc, .slice yx.P T9.path.length yx.pc, .slice yx.D T9.reads.length yx.dc, .slice yx.L T9.log.list.length yx.lc, .slice yx.M T9.log.marks.length yx.mc, .slice yx.F yx.fl.length yx.fc, .int .i64 T9.kind, .int .i64 T9.why]) := Lib.hid (Blk.new _ _ _)
          replace bb := Lib.hid (bl_trans bb.out ba)
          clear ho_ b_ ba
          have w0 := KW.out.cell 0 _ rfl
          have w1_ := KW.out.cell 1 _ rfl
          have c0 := HK1.out.cell 0 _ rfl
          have c1 := HK1.out.cell 1 _ rfl
          have c2 := HK1.out.cell 2 _ rfl
          have c3 := HK1.out.cell 3 _ rfl
          have c4 := HK1.out.cell 4 _ rfl
          have c5 := HK1.out.cell 5 _ rfl
          have c6 := HK1.out.cell 6 _ rfl
          have c7 := HK1.out.cell 7 _ rfl
          have c8 := HK1.out.cell 8 _ rfl
          have c9 := HK1.out.cell 9 _ rfl
          have c10 := HK1.out.cell 10 _ rfl
          go_wp2_with fail
          refine ((show Calls Tryz.prog 23 #[.agg #[.int .i64 other, .int .i64 t0.snap, .int .i64 t0.pc, .slice y1.R t0.regs.length y1.rc, .slice y1.P t0.path.length y1.pc, .slice y1.D t0.reads.length y1.dc, .slice y1.L t0.log.list.length y1.lc, .slice y1.M t0.log.marks.length y1.mc, .slice y1.F y1.fl.length y1.fc, .int .i64 t0.kind, .int .i64 t0.why], .slice A n c, .slice HA hn hc, .slice RA rn rc] _ (fun e w' => ∃ y : TL, e = .returned (.tuple #[.agg #[.int .i64 other, .int .i64 T9.snap, .int .i64 T9.pc, .slice y.R T9.regs.length y.rc, .slice y.P T9.path.length y.pc, .slice y.D T9.reads.length y.dc, .slice y.L T9.log.list.length y.lc, .slice y.M T9.log.marks.length y.mc, .slice y.F y.fl.length y.fc, .int .i64 T9.kind, .int .i64 T9.why], .int .i64 kk, .int .i64 f2]) ∧ TOwn _ w' (wh T9 other) y ∧ Below _ _ w') from by rw [← HF2.out]; exact HRN.out _ r RA rn rc (wh t0 other) (wh T9 other) y1 kk ok2 bb.out HO1.out HIW.out (HR0.out.below bb.out) (by omega) HRW.out)).mono ?_
          rintro e5 v5 ⟨yy, rfl, ho_, b_⟩
          clear w0 w1_ c0 c1 c2 c3 c4 c5 c6 c7 c8 c9 c10
          have ba := bl_alloc b_ (.cells #[.int .i64 other, .int .i64 T9.snap, .int .i64 T9.pc, .slice yy.R T9.regs.length yy.rc, .slice yy.P T9.path.length yy.pc, .slice yy.D T9.reads.length yy.dc, .slice yy.L T9.log.list.length yy.lc, .slice yy.M T9.log.marks.length yy.mc, .slice yy.F yy.fl.length yy.fc, .int .i64 T9.kind, .int .i64 T9.why] 34)
          replace KW := Lib.hid (KW.out.below ba)
          replace HCP := Lib.hid (HCP.out.below ba)
          replace HO0 := Lib.hid (HO0.out.below ba)
          replace HK0 := Lib.hid (HK0.out.below ba)
          replace HO1 := Lib.hid (HO1.out.below ba)
          replace HK1 := Lib.hid (HK1.out.below ba)
          replace HOx := Lib.hid (HOx.out.below ba)
          replace HKx := Lib.hid (HKx.out.below ba)
          have HOy := Lib.hid (ho_.rd.below (bl_alloc (Below.refl _ _) (.cells #[.int .i64 other, .int .i64 T9.snap, .int .i64 T9.pc, .slice yy.R T9.regs.length yy.rc, .slice yy.P T9.path.length yy.pc, .slice yy.D T9.reads.length yy.dc, .slice yy.L T9.log.list.length yy.lc, .slice yy.M T9.log.marks.length yy.mc, .slice yy.F yy.fl.length yy.fc, .int .i64 T9.kind, .int .i64 T9.why] 34)))
          have HKy : Hid (Blk (v5.alloc (.cells #[.int .i64 other, .int .i64 T9.snap, .int .i64 T9.pc, .slice yy.R T9.regs.length yy.rc, .slice yy.P T9.path.length yy.pc, .slice yy.D T9.reads.length yy.dc, .slice yy.L T9.log.list.length yy.lc, .slice yy.M T9.log.marks.length yy.mc, .slice yy.F yy.fl.length yy.fc, .int .i64 T9.kind, .int .i64 T9.why] 34)) v5.heap.size 34 #[.int .i64 other, .int .i64 T9.snap, .int .i64 T9.pc, .slice yy.R T9.regs.length yy.rc, .slice yy.P T9.path.length yy.pc, .slice yy.D T9.reads.length yy.dc, .slice yy.L T9.log.list.length yy.lc, .slice yy.M T9.log.marks.length yy.mc, .slice yy.F yy.fl.length yy.fc, .int .i64 T9.kind, .int .i64 T9.why]) := Lib.hid (Blk.new _ _ _)
          replace bb := Lib.hid (bl_trans bb.out ba)
          clear ho_ b_ ba
          have w0 := KW.out.cell 0 _ rfl
          have w1_ := KW.out.cell 1 _ rfl
          have c0 := HK0.out.cell 0 _ rfl
          have c1 := HK0.out.cell 1 _ rfl
          have c2 := HK0.out.cell 2 _ rfl
          have c3 := HK0.out.cell 3 _ rfl
          have c4 := HK0.out.cell 4 _ rfl
          have c5 := HK0.out.cell 5 _ rfl
          have c6 := HK0.out.cell 6 _ rfl
          have c7 := HK0.out.cell 7 _ rfl
          have c8 := HK0.out.cell 8 _ rfl
          have c9 := HK0.out.cell 9 _ rfl
          have c10 := HK0.out.cell 10 _ rfl
          go_wp2_with fail
          refine ((show Calls Tryz.prog 23 #[.agg #[.int .i64 t0.who, .int .i64 t0.snap, .int .i64 t0.pc, .slice y0.R t0.regs.length y0.rc, .slice y0.P t0.path.length y0.pc, .slice y0.D t0.reads.length y0.dc, .slice y0.L t0.log.list.length y0.lc, .slice y0.M t0.log.marks.length y0.mc, .slice y0.F y0.fl.length y0.fc, .int .i64 t0.kind, .int .i64 t0.why], .slice A n c, .slice HA hn hc, .slice RA rn rc] _ (fun e w' => ∃ y : TL, e = .returned (.tuple #[.agg #[.int .i64 T9.who, .int .i64 T9.snap, .int .i64 T9.pc, .slice y.R T9.regs.length y.rc, .slice y.P T9.path.length y.pc, .slice y.D T9.reads.length y.dc, .slice y.L T9.log.list.length y.lc, .slice y.M T9.log.marks.length y.mc, .slice y.F y.fl.length y.fc, .int .i64 T9.kind, .int .i64 T9.why], .int .i64 kk, .int .i64 f2]) ∧ TOwn _ w' (T9) y ∧ Below _ _ w') from by rw [← HF2.out]; exact HRN.out _ r RA rn rc (t0) (T9) y0 kk ok2 bb.out HO0.out HIV.out (HR0.out.below bb.out) (by omega) HRR.out)).mono ?_
          rintro e6 v6 ⟨yz, rfl, ho_, b_⟩
          clear w0 w1_ c0 c1 c2 c3 c4 c5 c6 c7 c8 c9 c10
          have ba := bl_alloc b_ (.cells #[.int .i64 T9.who, .int .i64 T9.snap, .int .i64 T9.pc, .slice yz.R T9.regs.length yz.rc, .slice yz.P T9.path.length yz.pc, .slice yz.D T9.reads.length yz.dc, .slice yz.L T9.log.list.length yz.lc, .slice yz.M T9.log.marks.length yz.mc, .slice yz.F yz.fl.length yz.fc, .int .i64 T9.kind, .int .i64 T9.why] 34)
          replace KW := Lib.hid (KW.out.below ba)
          replace HCP := Lib.hid (HCP.out.below ba)
          replace HO0 := Lib.hid (HO0.out.below ba)
          replace HK0 := Lib.hid (HK0.out.below ba)
          replace HO1 := Lib.hid (HO1.out.below ba)
          replace HK1 := Lib.hid (HK1.out.below ba)
          replace HOx := Lib.hid (HOx.out.below ba)
          replace HKx := Lib.hid (HKx.out.below ba)
          replace HOy := Lib.hid (HOy.out.below ba)
          replace HKy := Lib.hid (HKy.out.below ba)
          have HOz := Lib.hid (ho_.rd.below (bl_alloc (Below.refl _ _) (.cells #[.int .i64 T9.who, .int .i64 T9.snap, .int .i64 T9.pc, .slice yz.R T9.regs.length yz.rc, .slice yz.P T9.path.length yz.pc, .slice yz.D T9.reads.length yz.dc, .slice yz.L T9.log.list.length yz.lc, .slice yz.M T9.log.marks.length yz.mc, .slice yz.F yz.fl.length yz.fc, .int .i64 T9.kind, .int .i64 T9.why] 34)))
          have HKz : Hid (Blk (v6.alloc (.cells #[.int .i64 T9.who, .int .i64 T9.snap, .int .i64 T9.pc, .slice yz.R T9.regs.length yz.rc, .slice yz.P T9.path.length yz.pc, .slice yz.D T9.reads.length yz.dc, .slice yz.L T9.log.list.length yz.lc, .slice yz.M T9.log.marks.length yz.mc, .slice yz.F yz.fl.length yz.fc, .int .i64 T9.kind, .int .i64 T9.why] 34)) v6.heap.size 34 #[.int .i64 T9.who, .int .i64 T9.snap, .int .i64 T9.pc, .slice yz.R T9.regs.length yz.rc, .slice yz.P T9.path.length yz.pc, .slice yz.D T9.reads.length yz.dc, .slice yz.L T9.log.list.length yz.lc, .slice yz.M T9.log.marks.length yz.mc, .slice yz.F yz.fl.length yz.fc, .int .i64 T9.kind, .int .i64 T9.why]) := Lib.hid (Blk.new _ _ _)
          replace bb := Lib.hid (bl_trans bb.out ba)
          clear ho_ b_ ba
          go_upto_region 11 with fail
          generalize (v6.alloc (.cells #[.int .i64 T9.who, .int .i64 T9.snap, .int .i64 T9.pc, .slice yz.R T9.regs.length yz.rc, .slice yz.P T9.path.length yz.pc, .slice yz.D T9.reads.length yz.dc, .slice yz.L T9.log.list.length yz.lc, .slice yz.M T9.log.marks.length yz.mc, .slice yz.F yz.fl.length yz.fc, .int .i64 T9.kind, .int .i64 T9.why] 34)) = W0 at *
          have HI9 := Lib.hid (run_inv (begin_inv HBB.out) HRR.out).1
          have KEEP : Hid (∀ W, Below W0.heap.size W0 W → W.cell? ⟨v4.heap.size, 0, none⟩ = some (.int .i64 T9.who) ∧ W.cell? ⟨v4.heap.size, 1, none⟩ = some (.int .i64 T9.snap) ∧ W.cell? ⟨v4.heap.size, 2, none⟩ = some (.int .i64 T9.pc) ∧ W.cell? ⟨v4.heap.size, 3, none⟩ = some (.slice yx.R T9.regs.length yx.rc) ∧ W.cell? ⟨v4.heap.size, 4, none⟩ = some (.slice yx.P T9.path.length yx.pc) ∧ W.cell? ⟨v4.heap.size, 5, none⟩ = some (.slice yx.D T9.reads.length yx.dc) ∧ W.cell? ⟨v4.heap.size, 6, none⟩ = some (.slice yx.L T9.log.list.length yx.lc) ∧ W.cell? ⟨v4.heap.size, 7, none⟩ = some (.slice yx.M T9.log.marks.length yx.mc) ∧ W.cell? ⟨v4.heap.size, 8, none⟩ = some (.slice yx.F yx.fl.length yx.fc) ∧ W.cell? ⟨v4.heap.size, 9, none⟩ = some (.int .i64 T9.kind) ∧ W.cell? ⟨v4.heap.size, 10, none⟩ = some (.int .i64 T9.why) ∧ W.cell? ⟨v5.heap.size, 0, none⟩ = some (.int .i64 other) ∧ W.cell? ⟨v5.heap.size, 1, none⟩ = some (.int .i64 T9.snap) ∧ W.cell? ⟨v5.heap.size, 2, none⟩ = some (.int .i64 T9.pc) ∧ W.cell? ⟨v5.heap.size, 3, none⟩ = some (.slice yy.R T9.regs.length yy.rc) ∧ W.cell? ⟨v5.heap.size, 4, none⟩ = some (.slice yy.P T9.path.length yy.pc) ∧ W.cell? ⟨v5.heap.size, 5, none⟩ = some (.slice yy.D T9.reads.length yy.dc) ∧ W.cell? ⟨v5.heap.size, 6, none⟩ = some (.slice yy.L T9.log.list.length yy.lc) ∧ W.cell? ⟨v5.heap.size, 7, none⟩ = some (.slice yy.M T9.log.marks.length yy.mc) ∧ W.cell? ⟨v5.heap.size, 8, none⟩ = some (.slice yy.F yy.fl.length yy.fc) ∧ W.cell? ⟨v5.heap.size, 9, none⟩ = some (.int .i64 T9.kind) ∧ W.cell? ⟨v5.heap.size, 10, none⟩ = some (.int .i64 T9.why)) := Lib.hid (fun W hW => by have k1 := HKx.out.below hW; have k2 := HKy.out.below hW; exact ⟨k1.cell 0 _ rfl, k1.cell 1 _ rfl, k1.cell 2 _ rfl, k1.cell 3 _ rfl, k1.cell 4 _ rfl, k1.cell 5 _ rfl, k1.cell 6 _ rfl, k1.cell 7 _ rfl, k1.cell 8 _ rfl, k1.cell 9 _ rfl, k1.cell 10 _ rfl, k2.cell 0 _ rfl, k2.cell 1 _ rfl, k2.cell 2 _ rfl, k2.cell 3 _ rfl, k2.cell 4 _ rfl, k2.cell 5 _ rfl, k2.cell 6 _ rfl, k2.cell 7 _ rfl, k2.cell 8 _ rfl, k2.cell 9 _ rfl, k2.cell 10 _ rfl⟩)
          have SMx := Lib.hid (HI9.out.small HOx.out)
          have SMy := Lib.hid (HI9.out.small (trd_same HOy.out))
          have HRU : Hid (∀ W : World, Below W0.heap.size W0 W → Calls Tryz.prog 16 #[.agg #[.int .i64 T9.who, .int .i64 T9.snap, .int .i64 T9.pc, .slice yx.R T9.regs.length yx.rc, .slice yx.P T9.path.length yx.pc, .slice yx.D T9.reads.length yx.dc, .slice yx.L T9.log.list.length yx.lc, .slice yx.M T9.log.marks.length yx.mc, .slice yx.F yx.fl.length yx.fc, .int .i64 T9.kind, .int .i64 T9.why]] W (fun e w' => ∃ (F : Option Addr) (fc : Nat), e = .returned (.agg #[.int .i64 T9.who, .int .i64 T9.snap, .int .i64 T9.pc, .slice yx.R T9.regs.length yx.rc, .slice yx.P T9.path.length yx.pc, .slice yx.D T9.reads.length yx.dc, .slice yx.L T9.log.list.length yx.lc, .slice yx.M T9.log.marks.length yx.mc, .slice F yx.fl.length fc, .int .i64 T9.kind, .int .i64 T9.why]) ∧ Own W w' 98 4 (.slice F yx.fl.length fc) yx.fl.length (frs yx.fl) ∧ Below W.heap.size W w')) := Lib.hid (fun W hW => (ref_t T9 yx W (HOx.out.below hW) (Nat.le_trans SMx.out.fl (by decide))).mono (fun e w' ⟨F, fc, h1, h2, h3⟩ => ⟨F, fc, h1, h2, h3⟩))
          have HRV : Hid (∀ W : World, Below W0.heap.size W0 W → Calls Tryz.prog 16 #[.agg #[.int .i64 other, .int .i64 T9.snap, .int .i64 T9.pc, .slice yy.R T9.regs.length yy.rc, .slice yy.P T9.path.length yy.pc, .slice yy.D T9.reads.length yy.dc, .slice yy.L T9.log.list.length yy.lc, .slice yy.M T9.log.marks.length yy.mc, .slice yy.F yy.fl.length yy.fc, .int .i64 T9.kind, .int .i64 T9.why]] W (fun e w' => ∃ (F : Option Addr) (fc : Nat), e = .returned (.agg #[.int .i64 other, .int .i64 T9.snap, .int .i64 T9.pc, .slice yy.R T9.regs.length yy.rc, .slice yy.P T9.path.length yy.pc, .slice yy.D T9.reads.length yy.dc, .slice yy.L T9.log.list.length yy.lc, .slice yy.M T9.log.marks.length yy.mc, .slice F yy.fl.length fc, .int .i64 T9.kind, .int .i64 T9.why]) ∧ Own W w' 98 4 (.slice F yy.fl.length fc) yy.fl.length (frs yy.fl) ∧ Below W.heap.size W w')) := Lib.hid (fun W hW => (ref_t (wh T9 other) yy W (HOy.out.below hW) (Nat.le_trans SMy.out.fl (by decide))).mono (fun e w' ⟨F, fc, h1, h2, h3⟩ => ⟨F, fc, h1, h2, h3⟩))
          go_cut [25, 26] from 95 to 98 (fun p q wx => ∃ (g25 g26 : Nat) (Fu : Option Addr) (fu : Nat) (Fv : Option Addr) (fv : Nat), p = .pointer (some ⟨g25, 0, none⟩) ∧ q = .pointer (some ⟨g26, 0, none⟩) ∧ Hid (Blk wx g25 41 #[.int .i64 T9.who, .int .i64 T9.snap, .int .i64 T9.pc, .slice yx.R T9.regs.length yx.rc, .slice yx.P T9.path.length yx.pc, .slice yx.D T9.reads.length yx.dc, .slice yx.L T9.log.list.length yx.lc, .slice yx.M T9.log.marks.length yx.mc, .slice Fu yx.fl.length fu, .int .i64 T9.kind, .int .i64 T9.why]) ∧ Hid (Blk wx g26 41 #[.int .i64 other, .int .i64 T9.snap, .int .i64 T9.pc, .slice yy.R T9.regs.length yy.rc, .slice yy.P T9.path.length yy.pc, .slice yy.D T9.reads.length yy.dc, .slice yy.L T9.log.list.length yy.lc, .slice yy.M T9.log.marks.length yy.mc, .slice Fv yy.fl.length fv, .int .i64 T9.kind, .int .i64 T9.why]) ∧ Hid (Rd wx 4 Fu yx.fl.length (frs yx.fl)) ∧ Hid (Rd wx 4 Fv yy.fl.length (frs yy.fl)) ∧ Hid (Below W0.heap.size W0 wx) ∧ Hid (W0.heap.size ≤ g25 ∧ W0.heap.size ≤ g26 ∧ g25 ≠ g26) ∧ Hid (∀ b off, Fu = some ⟨b, off, none⟩ → 0 < yx.fl.length → b ≠ g26) ∧ Hid (∀ b off, Fv = some ⟨b, off, none⟩ → 0 < yy.fl.length → b ≠ g26))
          case first =>
            have bq : Hid (Below W0.heap.size W0 W0.drew) := Lib.hid (Below.refl _ _).drew
            try simp only [List.append_eq, List.cons_append, List.nil_append]
            refine wp_region_held_drew (S := fun (W : World) => W.cell? ⟨v4.heap.size, 0, none⟩ = some (.int .i64 T9.who) ∧ W.cell? ⟨v4.heap.size, 1, none⟩ = some (.int .i64 T9.snap) ∧ W.cell? ⟨v4.heap.size, 2, none⟩ = some (.int .i64 T9.pc) ∧ W.cell? ⟨v4.heap.size, 3, none⟩ = some (.slice yx.R T9.regs.length yx.rc) ∧ W.cell? ⟨v4.heap.size, 4, none⟩ = some (.slice yx.P T9.path.length yx.pc) ∧ W.cell? ⟨v4.heap.size, 5, none⟩ = some (.slice yx.D T9.reads.length yx.dc) ∧ W.cell? ⟨v4.heap.size, 6, none⟩ = some (.slice yx.L T9.log.list.length yx.lc) ∧ W.cell? ⟨v4.heap.size, 7, none⟩ = some (.slice yx.M T9.log.marks.length yx.mc) ∧ W.cell? ⟨v4.heap.size, 8, none⟩ = some (.slice yx.F yx.fl.length yx.fc) ∧ W.cell? ⟨v4.heap.size, 9, none⟩ = some (.int .i64 T9.kind) ∧ W.cell? ⟨v4.heap.size, 10, none⟩ = some (.int .i64 T9.why) ∧ W.cell? ⟨v5.heap.size, 0, none⟩ = some (.int .i64 other) ∧ W.cell? ⟨v5.heap.size, 1, none⟩ = some (.int .i64 T9.snap) ∧ W.cell? ⟨v5.heap.size, 2, none⟩ = some (.int .i64 T9.pc) ∧ W.cell? ⟨v5.heap.size, 3, none⟩ = some (.slice yy.R T9.regs.length yy.rc) ∧ W.cell? ⟨v5.heap.size, 4, none⟩ = some (.slice yy.P T9.path.length yy.pc) ∧ W.cell? ⟨v5.heap.size, 5, none⟩ = some (.slice yy.D T9.reads.length yy.dc) ∧ W.cell? ⟨v5.heap.size, 6, none⟩ = some (.slice yy.L T9.log.list.length yy.lc) ∧ W.cell? ⟨v5.heap.size, 7, none⟩ = some (.slice yy.M T9.log.marks.length yy.mc) ∧ W.cell? ⟨v5.heap.size, 8, none⟩ = some (.slice yy.F yy.fl.length yy.fc) ∧ W.cell? ⟨v5.heap.size, 9, none⟩ = some (.int .i64 T9.kind) ∧ W.cell? ⟨v5.heap.size, 10, none⟩ = some (.int .i64 T9.why)) (by kernel_rfl) (KEEP.out _ bq.out) (fun hHeld0 => ?_)
            refine wpAnyH_take (i := 0) (v := .agg #[.int .i64 T9.who, .int .i64 T9.snap, .int .i64 T9.pc, .slice yx.R T9.regs.length yx.rc, .slice yx.P T9.path.length yx.pc, .slice yx.D T9.reads.length yx.dc, .slice yx.L T9.log.list.length yx.lc, .slice yx.M T9.log.marks.length yx.mc, .slice yx.F yx.fl.length yx.fc, .int .i64 T9.kind, .int .i64 T9.why]) rfl (by kernel_rfl) (by kernel_rfl) (by kernel_rfl) (fun _ _ _ h => h) (Or.inl ⟨by kernel_rfl, fun W hS => by obtain ⟨k_0, k_1, k_2, k_3, k_4, k_5, k_6, k_7, k_8, k_9, k_10, k_11, k_12, k_13, k_14, k_15, k_16, k_17, k_18, k_19, k_20, k_21⟩ := hS; go_simp⟩) hHeld0 ?_
            try simp only [Act.put]
            try simp only [List.setIfInBounds_toArray]
            try simp only [List.set_cons_succ]
            try simp only [List.set_cons_zero]
            refine wpAnyH_take (i := 2) (v := .agg #[.int .i64 other, .int .i64 T9.snap, .int .i64 T9.pc, .slice yy.R T9.regs.length yy.rc, .slice yy.P T9.path.length yy.pc, .slice yy.D T9.reads.length yy.dc, .slice yy.L T9.log.list.length yy.lc, .slice yy.M T9.log.marks.length yy.mc, .slice yy.F yy.fl.length yy.fc, .int .i64 T9.kind, .int .i64 T9.why]) rfl (by kernel_rfl) (by kernel_rfl) (by kernel_rfl) (fun _ _ _ h => h) (Or.inl ⟨by kernel_rfl, fun W hS => by obtain ⟨k_0, k_1, k_2, k_3, k_4, k_5, k_6, k_7, k_8, k_9, k_10, k_11, k_12, k_13, k_14, k_15, k_16, k_17, k_18, k_19, k_20, k_21⟩ := hS; go_simp⟩) hHeld0 ?_
            try simp only [Act.put]
            try simp only [List.setIfInBounds_toArray]
            try simp only [List.set_cons_succ]
            try simp only [List.set_cons_zero]
            generalize W0.drew = wq at *
            refine wpAnyH_ready (rs := [1, 4, 5]) (by kernel_rfl) (by simp) ?_
            refine AllReadyH.cons rfl (fun KK0 hK => ?_) ?_
            · rw [if_pos (by kernel_rfl)]
              refine Model.calls_wp _ _ _ (HRU.out _ bq.out) (Model.run_call _ _ _ rfl rfl Tryz.func16 (by kernel_rfl) (by kernel_rfl) _ (by kernel_rfl)) ?_
              rintro e wq ⟨Fu, fu, rfl, of_, b_⟩
              refine ⟨_, rfl, ?_⟩
              have rd_ := (own_cap of_).2.2
              have OU := Lib.hid rd_
              clear of_ rd_
              replace bq := Lib.hid (bl_trans bq.out b_)
              clear b_
              refine hK.out _ _ (KEEP.out _ bq.out) (fun hHeld1 => ?_)
              clear hHeld0 hK KK0
              try simp only [Act.put]
              try simp only [List.setIfInBounds_toArray]
              try simp only [List.set_cons_succ]
              try simp only [List.set_cons_zero]
              refine wpAnyH_ready (rs := [3, 4, 5]) (by kernel_rfl) (by simp) ?_
              refine AllReadyH.cons rfl (fun KK0 hK => ?_) ?_
              · rw [if_pos (by kernel_rfl)]
                refine Model.calls_wp _ _ _ (HRV.out _ bq.out) (Model.run_call _ _ _ rfl rfl Tryz.func16 (by kernel_rfl) (by kernel_rfl) _ (by kernel_rfl)) ?_
                rintro e wq ⟨Fv, fv, rfl, of_, b_⟩
                refine ⟨_, rfl, ?_⟩
                replace OU := Lib.hid (OU.out.below b_)
                have rd_ := (own_cap of_).2.2
                have OV := Lib.hid rd_
                clear of_ rd_
                replace bq := Lib.hid (bl_trans bq.out b_)
                clear b_
                refine hK.out _ _ (KEEP.out _ bq.out) (fun hHeld2 => ?_)
                clear hHeld1 hK KK0
                try simp only [Act.put]
                try simp only [List.setIfInBounds_toArray]
                try simp only [List.set_cons_succ]
                try simp only [List.set_cons_zero]
                refine wpAnyH_ready (rs := [4, 5]) (by kernel_rfl) (by simp) ?_
                refine AllReadyH.cons rfl (fun KK0 hK => ?_) ?_
                · go_simp
                  obtain ⟨g25, hg25⟩ : ∃ g, wq.heap.size = g := ⟨_, rfl⟩
                  have K25 : Hid (Blk (wq.alloc zO) g25 41 #[.int .i64 0, .int .i64 0, .int .i64 0, .slice none 0 0, .slice none 0 0, .slice none 0 0, .slice none 0 0, .slice none 0 0, .slice none 0 0, .int .i64 0, .int .i64 0]) := Lib.hid (by rw [← hg25]; exact Blk.new _ _ _)
                  have Gg25 : Hid (W0.heap.size ≤ g25) := Lib.hid (by rw [← hg25]; exact bq.out.size)
                  have NUg25 : Hid (∀ b off, Fu = some ⟨b, off, none⟩ → 0 < yx.fl.length → b ≠ g25) := Lib.hid (fun b off e hn_ e2 => by have k1 := rd_lt OU.out (by decide) hn_ e; omega)
                  have NVg25 : Hid (∀ b off, Fv = some ⟨b, off, none⟩ → 0 < yy.fl.length → b ≠ g25) := Lib.hid (fun b off e hn_ e2 => by have k1 := rd_lt OV.out (by decide) hn_ e; omega)
                  replace OU := Lib.hid (OU.out.alloc zO)
                  replace OV := Lib.hid (OV.out.alloc zO)
                  replace bq := Lib.hid (bl_alloc bq.out zO)
                  rw [hg25]
                  generalize (wq.alloc zO) = wq at *
                  refine hK.out _ _ (KEEP.out _ bq.out) (fun hHeld3 => ?_)
                  clear hHeld2 hK KK0
                  try simp only [Act.put]
                  try simp only [List.setIfInBounds_toArray]
                  try simp only [List.set_cons_succ]
                  try simp only [List.set_cons_zero]
                  refine wpAnyH_ready (rs := [5]) (by kernel_rfl) (by simp) ?_
                  refine AllReadyH.cons rfl (fun KK0 hK => ?_) AllReadyH.nil
                  go_simp
                  obtain ⟨g26, hg26⟩ : ∃ g, wq.heap.size = g := ⟨_, rfl⟩
                  have K26 : Hid (Blk (wq.alloc zO) g26 41 #[.int .i64 0, .int .i64 0, .int .i64 0, .slice none 0 0, .slice none 0 0, .slice none 0 0, .slice none 0 0, .slice none 0 0, .slice none 0 0, .int .i64 0, .int .i64 0]) := Lib.hid (by rw [← hg26]; exact Blk.new _ _ _)
                  have Gg26 : Hid (W0.heap.size ≤ g26 ∧ g25 ≠ g26) := Lib.hid (by rw [← hg26]; exact ⟨bq.out.size, fun e => by have := K25.out.lt; omega⟩)
                  have NUg26 : Hid (∀ b off, Fu = some ⟨b, off, none⟩ → 0 < yx.fl.length → b ≠ g26) := Lib.hid (fun b off e hn_ e2 => by have k1 := rd_lt OU.out (by decide) hn_ e; omega)
                  have NVg26 : Hid (∀ b off, Fv = some ⟨b, off, none⟩ → 0 < yy.fl.length → b ≠ g26) := Lib.hid (fun b off e hn_ e2 => by have k1 := rd_lt OV.out (by decide) hn_ e; omega)
                  replace OU := Lib.hid (OU.out.alloc zO)
                  replace OV := Lib.hid (OV.out.alloc zO)
                  replace K25 := Lib.hid (K25.out.alloc zO)
                  replace bq := Lib.hid (bl_alloc bq.out zO)
                  rw [hg26]
                  generalize (wq.alloc zO) = wq at *
                  refine hK.out _ _ (KEEP.out _ bq.out) (fun hHeld4 => ?_)
                  clear hHeld3 hK KK0
                  try simp only [Act.put]
                  try simp only [List.setIfInBounds_toArray]
                  try simp only [List.set_cons_succ]
                  try simp only [List.set_cons_zero]
                  have HNE : Hid (W0.heap.size ≤ g25 ∧ W0.heap.size ≤ g26 ∧ g25 ≠ g26) := Lib.hid (by first | exact ⟨Gg25.out.1, Gg26.out, Gg25.out.2⟩ | exact ⟨Gg25.out, Gg26.out.1, Gg26.out.2⟩)
                  refine wpAnyH_ready (rs := [6]) (by kernel_rfl) (by simp) ?_
                  refine AllReadyH.cons rfl (fun KK0 hK => ?_) AllReadyH.nil
                  rw [if_pos (by kernel_rfl)]
                  refine store_row2 41 (.tmp 25) (.tmp 96) rfl g25 _ rfl rfl _ _ K25.out (by kernel_rfl) rfl (by simp [Value.oneCell']) (fun wn kb ON => ?_)
                  replace K25 := Lib.hid kb
                  replace K26 := Lib.hid (ON.blk K26.out (fun e => HNE.out.2.2 e.symm))
                  replace OU := Lib.hid (rd_only OU.out ON (fun b off e hn_ => NUg25.out b off e hn_))
                  replace OV := Lib.hid (rd_only OV.out ON (fun b off e hn_ => NVg25.out b off e hn_))
                  replace bq := Lib.hid (bq.out.trans (ON.below bq.out.size (fun k hk e => by have := HNE.out; omega)))
                  clear ON kb
                  refine hK.out _ _ (KEEP.out _ bq.out) (fun hHeld5 => ?_)
                  clear hHeld4 hK KK0
                  try simp only [Act.put]
                  try simp only [List.setIfInBounds_toArray]
                  try simp only [List.set_cons_succ]
                  try simp only [List.set_cons_zero]
                  refine wpAnyH_ready (rs := [7]) (by kernel_rfl) (by simp) ?_
                  refine AllReadyH.cons rfl (fun KK0 hK => ?_) AllReadyH.nil
                  rw [if_pos (by kernel_rfl)]
                  refine store_row2 41 (.tmp 26) (.tmp 98) rfl g26 _ rfl rfl _ _ K26.out (by kernel_rfl) rfl (by simp [Value.oneCell']) (fun wm kb ON => ?_)
                  replace K26 := Lib.hid kb
                  replace K25 := Lib.hid (ON.blk K25.out (fun e => HNE.out.2.2 e))
                  replace OU := Lib.hid (rd_only OU.out ON (fun b off e hn_ => NUg26.out b off e hn_))
                  replace OV := Lib.hid (rd_only OV.out ON (fun b off e hn_ => NVg26.out b off e hn_))
                  replace bq := Lib.hid (bq.out.trans (ON.below bq.out.size (fun k hk e => by have := HNE.out; omega)))
                  clear ON kb
                  refine hK.out _ _ (KEEP.out _ bq.out) (fun hHeld6 => ?_)
                  clear hHeld5 hK KK0
                  refine wpAnyH_done (by kernel_rfl) ?_ _
                  try simp only [Act.put, List.getElem_toArray, List.getElem_cons_succ, List.getElem_cons_zero]
                  try simp only [Act.put]
                  try simp only [List.setIfInBounds_toArray]
                  try simp only [List.set_cons_succ]
                  try simp only [List.set_cons_zero]
                  go_wp2_with fail
                  go_meet
                  case rel => exact ⟨g25, g26, Fu, fu, Fv, fv, rfl, rfl, K25, K26, OU, OV, bq, HNE, NUg26, NVg26⟩
                refine AllReadyH.cons rfl (fun KK0 hK => ?_) AllReadyH.nil
                · go_simp
                  obtain ⟨g26, hg26⟩ : ∃ g, wq.heap.size = g := ⟨_, rfl⟩
                  have K26 : Hid (Blk (wq.alloc zO) g26 41 #[.int .i64 0, .int .i64 0, .int .i64 0, .slice none 0 0, .slice none 0 0, .slice none 0 0, .slice none 0 0, .slice none 0 0, .slice none 0 0, .int .i64 0, .int .i64 0]) := Lib.hid (by rw [← hg26]; exact Blk.new _ _ _)
                  have Gg26 : Hid (W0.heap.size ≤ g26) := Lib.hid (by rw [← hg26]; exact bq.out.size)
                  have NUg26 : Hid (∀ b off, Fu = some ⟨b, off, none⟩ → 0 < yx.fl.length → b ≠ g26) := Lib.hid (fun b off e hn_ e2 => by have k1 := rd_lt OU.out (by decide) hn_ e; omega)
                  have NVg26 : Hid (∀ b off, Fv = some ⟨b, off, none⟩ → 0 < yy.fl.length → b ≠ g26) := Lib.hid (fun b off e hn_ e2 => by have k1 := rd_lt OV.out (by decide) hn_ e; omega)
                  replace OU := Lib.hid (OU.out.alloc zO)
                  replace OV := Lib.hid (OV.out.alloc zO)
                  replace bq := Lib.hid (bl_alloc bq.out zO)
                  rw [hg26]
                  generalize (wq.alloc zO) = wq at *
                  refine hK.out _ _ (KEEP.out _ bq.out) (fun hHeld3 => ?_)
                  clear hHeld2 hK KK0
                  try simp only [Act.put]
                  try simp only [List.setIfInBounds_toArray]
                  try simp only [List.set_cons_succ]
                  try simp only [List.set_cons_zero]
                  refine wpAnyH_ready (rs := [4]) (by kernel_rfl) (by simp) ?_
                  refine AllReadyH.cons rfl (fun KK0 hK => ?_) AllReadyH.nil
                  go_simp
                  obtain ⟨g25, hg25⟩ : ∃ g, wq.heap.size = g := ⟨_, rfl⟩
                  have K25 : Hid (Blk (wq.alloc zO) g25 41 #[.int .i64 0, .int .i64 0, .int .i64 0, .slice none 0 0, .slice none 0 0, .slice none 0 0, .slice none 0 0, .slice none 0 0, .slice none 0 0, .int .i64 0, .int .i64 0]) := Lib.hid (by rw [← hg25]; exact Blk.new _ _ _)
                  have Gg25 : Hid (W0.heap.size ≤ g25 ∧ g25 ≠ g26) := Lib.hid (by rw [← hg25]; exact ⟨bq.out.size, fun e => by have := K26.out.lt; omega⟩)
                  have NUg25 : Hid (∀ b off, Fu = some ⟨b, off, none⟩ → 0 < yx.fl.length → b ≠ g25) := Lib.hid (fun b off e hn_ e2 => by have k1 := rd_lt OU.out (by decide) hn_ e; omega)
                  have NVg25 : Hid (∀ b off, Fv = some ⟨b, off, none⟩ → 0 < yy.fl.length → b ≠ g25) := Lib.hid (fun b off e hn_ e2 => by have k1 := rd_lt OV.out (by decide) hn_ e; omega)
                  replace OU := Lib.hid (OU.out.alloc zO)
                  replace OV := Lib.hid (OV.out.alloc zO)
                  replace K26 := Lib.hid (K26.out.alloc zO)
                  replace bq := Lib.hid (bl_alloc bq.out zO)
                  rw [hg25]
                  generalize (wq.alloc zO) = wq at *
                  refine hK.out _ _ (KEEP.out _ bq.out) (fun hHeld4 => ?_)
                  clear hHeld3 hK KK0
                  try simp only [Act.put]
                  try simp only [List.setIfInBounds_toArray]
                  try simp only [List.set_cons_succ]
                  try simp only [List.set_cons_zero]
                  have HNE : Hid (W0.heap.size ≤ g25 ∧ W0.heap.size ≤ g26 ∧ g25 ≠ g26) := Lib.hid (by first | exact ⟨Gg25.out.1, Gg26.out, Gg25.out.2⟩ | exact ⟨Gg25.out, Gg26.out.1, Gg26.out.2⟩)
                  refine wpAnyH_ready (rs := [6]) (by kernel_rfl) (by simp) ?_
                  refine AllReadyH.cons rfl (fun KK0 hK => ?_) AllReadyH.nil
                  rw [if_pos (by kernel_rfl)]
                  refine store_row2 41 (.tmp 25) (.tmp 96) rfl g25 _ rfl rfl _ _ K25.out (by kernel_rfl) rfl (by simp [Value.oneCell']) (fun wn kb ON => ?_)
                  replace K25 := Lib.hid kb
                  replace K26 := Lib.hid (ON.blk K26.out (fun e => HNE.out.2.2 e.symm))
                  replace OU := Lib.hid (rd_only OU.out ON (fun b off e hn_ => NUg25.out b off e hn_))
                  replace OV := Lib.hid (rd_only OV.out ON (fun b off e hn_ => NVg25.out b off e hn_))
                  replace bq := Lib.hid (bq.out.trans (ON.below bq.out.size (fun k hk e => by have := HNE.out; omega)))
                  clear ON kb
                  refine hK.out _ _ (KEEP.out _ bq.out) (fun hHeld5 => ?_)
                  clear hHeld4 hK KK0
                  try simp only [Act.put]
                  try simp only [List.setIfInBounds_toArray]
                  try simp only [List.set_cons_succ]
                  try simp only [List.set_cons_zero]
                  refine wpAnyH_ready (rs := [7]) (by kernel_rfl) (by simp) ?_
                  refine AllReadyH.cons rfl (fun KK0 hK => ?_) AllReadyH.nil
                  rw [if_pos (by kernel_rfl)]
                  refine store_row2 41 (.tmp 26) (.tmp 98) rfl g26 _ rfl rfl _ _ K26.out (by kernel_rfl) rfl (by simp [Value.oneCell']) (fun wm kb ON => ?_)
                  replace K26 := Lib.hid kb
                  replace K25 := Lib.hid (ON.blk K25.out (fun e => HNE.out.2.2 e))
                  replace OU := Lib.hid (rd_only OU.out ON (fun b off e hn_ => NUg26.out b off e hn_))
                  replace OV := Lib.hid (rd_only OV.out ON (fun b off e hn_ => NVg26.out b off e hn_))
                  replace bq := Lib.hid (bq.out.trans (ON.below bq.out.size (fun k hk e => by have := HNE.out; omega)))
                  clear ON kb
                  refine hK.out _ _ (KEEP.out _ bq.out) (fun hHeld6 => ?_)
                  clear hHeld5 hK KK0
                  refine wpAnyH_done (by kernel_rfl) ?_ _
                  try simp only [Act.put, List.getElem_toArray, List.getElem_cons_succ, List.getElem_cons_zero]
                  try simp only [Act.put]
                  try simp only [List.setIfInBounds_toArray]
                  try simp only [List.set_cons_succ]
                  try simp only [List.set_cons_zero]
                  go_wp2_with fail
                  go_meet
                  case rel => exact ⟨g25, g26, Fu, fu, Fv, fv, rfl, rfl, K25, K26, OU, OV, bq, HNE, NUg26, NVg26⟩
              refine AllReadyH.cons rfl (fun KK0 hK => ?_) ?_
              · go_simp
                obtain ⟨g25, hg25⟩ : ∃ g, wq.heap.size = g := ⟨_, rfl⟩
                have K25 : Hid (Blk (wq.alloc zO) g25 41 #[.int .i64 0, .int .i64 0, .int .i64 0, .slice none 0 0, .slice none 0 0, .slice none 0 0, .slice none 0 0, .slice none 0 0, .slice none 0 0, .int .i64 0, .int .i64 0]) := Lib.hid (by rw [← hg25]; exact Blk.new _ _ _)
                have Gg25 : Hid (W0.heap.size ≤ g25) := Lib.hid (by rw [← hg25]; exact bq.out.size)
                have NUg25 : Hid (∀ b off, Fu = some ⟨b, off, none⟩ → 0 < yx.fl.length → b ≠ g25) := Lib.hid (fun b off e hn_ e2 => by have k1 := rd_lt OU.out (by decide) hn_ e; omega)
                replace OU := Lib.hid (OU.out.alloc zO)
                replace bq := Lib.hid (bl_alloc bq.out zO)
                rw [hg25]
                generalize (wq.alloc zO) = wq at *
                refine hK.out _ _ (KEEP.out _ bq.out) (fun hHeld2 => ?_)
                clear hHeld1 hK KK0
                try simp only [Act.put]
                try simp only [List.setIfInBounds_toArray]
                try simp only [List.set_cons_succ]
                try simp only [List.set_cons_zero]
                refine wpAnyH_ready (rs := [3, 5]) (by kernel_rfl) (by simp) ?_
                refine AllReadyH.cons rfl (fun KK0 hK => ?_) ?_
                · rw [if_pos (by kernel_rfl)]
                  refine Model.calls_wp _ _ _ (HRV.out _ bq.out) (Model.run_call _ _ _ rfl rfl Tryz.func16 (by kernel_rfl) (by kernel_rfl) _ (by kernel_rfl)) ?_
                  rintro e wq ⟨Fv, fv, rfl, of_, b_⟩
                  refine ⟨_, rfl, ?_⟩
                  have NVg25 : Hid (∀ b off, Fv = some ⟨b, off, none⟩ → 0 < yy.fl.length → b ≠ g25) := Lib.hid (fun b off e _ e2 => by have k1 := of_.base b (by rw [e]; rfl); have k2 := K25.out.lt; omega)
                  replace OU := Lib.hid (OU.out.below b_)
                  replace K25 := Lib.hid (K25.out.below b_)
                  have rd_ := (own_cap of_).2.2
                  have OV := Lib.hid rd_
                  clear of_ rd_
                  replace bq := Lib.hid (bl_trans bq.out b_)
                  clear b_
                  refine hK.out _ _ (KEEP.out _ bq.out) (fun hHeld3 => ?_)
                  clear hHeld2 hK KK0
                  try simp only [Act.put]
                  try simp only [List.setIfInBounds_toArray]
                  try simp only [List.set_cons_succ]
                  try simp only [List.set_cons_zero]
                  refine wpAnyH_ready (rs := [5]) (by kernel_rfl) (by simp) ?_
                  refine AllReadyH.cons rfl (fun KK0 hK => ?_) AllReadyH.nil
                  go_simp
                  obtain ⟨g26, hg26⟩ : ∃ g, wq.heap.size = g := ⟨_, rfl⟩
                  have K26 : Hid (Blk (wq.alloc zO) g26 41 #[.int .i64 0, .int .i64 0, .int .i64 0, .slice none 0 0, .slice none 0 0, .slice none 0 0, .slice none 0 0, .slice none 0 0, .slice none 0 0, .int .i64 0, .int .i64 0]) := Lib.hid (by rw [← hg26]; exact Blk.new _ _ _)
                  have Gg26 : Hid (W0.heap.size ≤ g26 ∧ g25 ≠ g26) := Lib.hid (by rw [← hg26]; exact ⟨bq.out.size, fun e => by have := K25.out.lt; omega⟩)
                  have NUg26 : Hid (∀ b off, Fu = some ⟨b, off, none⟩ → 0 < yx.fl.length → b ≠ g26) := Lib.hid (fun b off e hn_ e2 => by have k1 := rd_lt OU.out (by decide) hn_ e; omega)
                  have NVg26 : Hid (∀ b off, Fv = some ⟨b, off, none⟩ → 0 < yy.fl.length → b ≠ g26) := Lib.hid (fun b off e hn_ e2 => by have k1 := rd_lt OV.out (by decide) hn_ e; omega)
                  replace OU := Lib.hid (OU.out.alloc zO)
                  replace OV := Lib.hid (OV.out.alloc zO)
                  replace K25 := Lib.hid (K25.out.alloc zO)
                  replace bq := Lib.hid (bl_alloc bq.out zO)
                  rw [hg26]
                  generalize (wq.alloc zO) = wq at *
                  refine hK.out _ _ (KEEP.out _ bq.out) (fun hHeld4 => ?_)
                  clear hHeld3 hK KK0
                  try simp only [Act.put]
                  try simp only [List.setIfInBounds_toArray]
                  try simp only [List.set_cons_succ]
                  try simp only [List.set_cons_zero]
                  have HNE : Hid (W0.heap.size ≤ g25 ∧ W0.heap.size ≤ g26 ∧ g25 ≠ g26) := Lib.hid (by first | exact ⟨Gg25.out.1, Gg26.out, Gg25.out.2⟩ | exact ⟨Gg25.out, Gg26.out.1, Gg26.out.2⟩)
                  refine wpAnyH_ready (rs := [6]) (by kernel_rfl) (by simp) ?_
                  refine AllReadyH.cons rfl (fun KK0 hK => ?_) AllReadyH.nil
                  rw [if_pos (by kernel_rfl)]
                  refine store_row2 41 (.tmp 25) (.tmp 96) rfl g25 _ rfl rfl _ _ K25.out (by kernel_rfl) rfl (by simp [Value.oneCell']) (fun wn kb ON => ?_)
                  replace K25 := Lib.hid kb
                  replace K26 := Lib.hid (ON.blk K26.out (fun e => HNE.out.2.2 e.symm))
                  replace OU := Lib.hid (rd_only OU.out ON (fun b off e hn_ => NUg25.out b off e hn_))
                  replace OV := Lib.hid (rd_only OV.out ON (fun b off e hn_ => NVg25.out b off e hn_))
                  replace bq := Lib.hid (bq.out.trans (ON.below bq.out.size (fun k hk e => by have := HNE.out; omega)))
                  clear ON kb
                  refine hK.out _ _ (KEEP.out _ bq.out) (fun hHeld5 => ?_)
                  clear hHeld4 hK KK0
                  try simp only [Act.put]
                  try simp only [List.setIfInBounds_toArray]
                  try simp only [List.set_cons_succ]
                  try simp only [List.set_cons_zero]
                  refine wpAnyH_ready (rs := [7]) (by kernel_rfl) (by simp) ?_
                  refine AllReadyH.cons rfl (fun KK0 hK => ?_) AllReadyH.nil
                  rw [if_pos (by kernel_rfl)]
                  refine store_row2 41 (.tmp 26) (.tmp 98) rfl g26 _ rfl rfl _ _ K26.out (by kernel_rfl) rfl (by simp [Value.oneCell']) (fun wm kb ON => ?_)
                  replace K26 := Lib.hid kb
                  replace K25 := Lib.hid (ON.blk K25.out (fun e => HNE.out.2.2 e))
                  replace OU := Lib.hid (rd_only OU.out ON (fun b off e hn_ => NUg26.out b off e hn_))
                  replace OV := Lib.hid (rd_only OV.out ON (fun b off e hn_ => NVg26.out b off e hn_))
                  replace bq := Lib.hid (bq.out.trans (ON.below bq.out.size (fun k hk e => by have := HNE.out; omega)))
                  clear ON kb
                  refine hK.out _ _ (KEEP.out _ bq.out) (fun hHeld6 => ?_)
                  clear hHeld5 hK KK0
                  refine wpAnyH_done (by kernel_rfl) ?_ _
                  try simp only [Act.put, List.getElem_toArray, List.getElem_cons_succ, List.getElem_cons_zero]
                  try simp only [Act.put]
                  try simp only [List.setIfInBounds_toArray]
                  try simp only [List.set_cons_succ]
                  try simp only [List.set_cons_zero]
                  go_wp2_with fail
                  go_meet
                  case rel => exact ⟨g25, g26, Fu, fu, Fv, fv, rfl, rfl, K25, K26, OU, OV, bq, HNE, NUg26, NVg26⟩
                refine AllReadyH.cons rfl (fun KK0 hK => ?_) AllReadyH.nil
                · go_simp
                  obtain ⟨g26, hg26⟩ : ∃ g, wq.heap.size = g := ⟨_, rfl⟩
                  have K26 : Hid (Blk (wq.alloc zO) g26 41 #[.int .i64 0, .int .i64 0, .int .i64 0, .slice none 0 0, .slice none 0 0, .slice none 0 0, .slice none 0 0, .slice none 0 0, .slice none 0 0, .int .i64 0, .int .i64 0]) := Lib.hid (by rw [← hg26]; exact Blk.new _ _ _)
                  have Gg26 : Hid (W0.heap.size ≤ g26 ∧ g25 ≠ g26) := Lib.hid (by rw [← hg26]; exact ⟨bq.out.size, fun e => by have := K25.out.lt; omega⟩)
                  have NUg26 : Hid (∀ b off, Fu = some ⟨b, off, none⟩ → 0 < yx.fl.length → b ≠ g26) := Lib.hid (fun b off e hn_ e2 => by have k1 := rd_lt OU.out (by decide) hn_ e; omega)
                  replace OU := Lib.hid (OU.out.alloc zO)
                  replace K25 := Lib.hid (K25.out.alloc zO)
                  replace bq := Lib.hid (bl_alloc bq.out zO)
                  rw [hg26]
                  generalize (wq.alloc zO) = wq at *
                  refine hK.out _ _ (KEEP.out _ bq.out) (fun hHeld3 => ?_)
                  clear hHeld2 hK KK0
                  try simp only [Act.put]
                  try simp only [List.setIfInBounds_toArray]
                  try simp only [List.set_cons_succ]
                  try simp only [List.set_cons_zero]
                  refine wpAnyH_ready (rs := [3]) (by kernel_rfl) (by simp) ?_
                  refine AllReadyH.cons rfl (fun KK0 hK => ?_) AllReadyH.nil
                  rw [if_pos (by kernel_rfl)]
                  refine Model.calls_wp _ _ _ (HRV.out _ bq.out) (Model.run_call _ _ _ rfl rfl Tryz.func16 (by kernel_rfl) (by kernel_rfl) _ (by kernel_rfl)) ?_
                  rintro e wq ⟨Fv, fv, rfl, of_, b_⟩
                  refine ⟨_, rfl, ?_⟩
                  have NVg25 : Hid (∀ b off, Fv = some ⟨b, off, none⟩ → 0 < yy.fl.length → b ≠ g25) := Lib.hid (fun b off e _ e2 => by have k1 := of_.base b (by rw [e]; rfl); have k2 := K25.out.lt; omega)
                  have NVg26 : Hid (∀ b off, Fv = some ⟨b, off, none⟩ → 0 < yy.fl.length → b ≠ g26) := Lib.hid (fun b off e _ e2 => by have k1 := of_.base b (by rw [e]; rfl); have k2 := K26.out.lt; omega)
                  replace OU := Lib.hid (OU.out.below b_)
                  replace K25 := Lib.hid (K25.out.below b_)
                  replace K26 := Lib.hid (K26.out.below b_)
                  have rd_ := (own_cap of_).2.2
                  have OV := Lib.hid rd_
                  clear of_ rd_
                  replace bq := Lib.hid (bl_trans bq.out b_)
                  clear b_
                  refine hK.out _ _ (KEEP.out _ bq.out) (fun hHeld4 => ?_)
                  clear hHeld3 hK KK0
                  try simp only [Act.put]
                  try simp only [List.setIfInBounds_toArray]
                  try simp only [List.set_cons_succ]
                  try simp only [List.set_cons_zero]
                  have HNE : Hid (W0.heap.size ≤ g25 ∧ W0.heap.size ≤ g26 ∧ g25 ≠ g26) := Lib.hid (by first | exact ⟨Gg25.out.1, Gg26.out, Gg25.out.2⟩ | exact ⟨Gg25.out, Gg26.out.1, Gg26.out.2⟩)
                  refine wpAnyH_ready (rs := [6]) (by kernel_rfl) (by simp) ?_
                  refine AllReadyH.cons rfl (fun KK0 hK => ?_) AllReadyH.nil
                  rw [if_pos (by kernel_rfl)]
                  refine store_row2 41 (.tmp 25) (.tmp 96) rfl g25 _ rfl rfl _ _ K25.out (by kernel_rfl) rfl (by simp [Value.oneCell']) (fun wn kb ON => ?_)
                  replace K25 := Lib.hid kb
                  replace K26 := Lib.hid (ON.blk K26.out (fun e => HNE.out.2.2 e.symm))
                  replace OU := Lib.hid (rd_only OU.out ON (fun b off e hn_ => NUg25.out b off e hn_))
                  replace OV := Lib.hid (rd_only OV.out ON (fun b off e hn_ => NVg25.out b off e hn_))
                  replace bq := Lib.hid (bq.out.trans (ON.below bq.out.size (fun k hk e => by have := HNE.out; omega)))
                  clear ON kb
                  refine hK.out _ _ (KEEP.out _ bq.out) (fun hHeld5 => ?_)
                  clear hHeld4 hK KK0
                  try simp only [Act.put]
                  try simp only [List.setIfInBounds_toArray]
                  try simp only [List.set_cons_succ]
                  try simp only [List.set_cons_zero]
                  refine wpAnyH_ready (rs := [7]) (by kernel_rfl) (by simp) ?_
                  refine AllReadyH.cons rfl (fun KK0 hK => ?_) AllReadyH.nil
                  rw [if_pos (by kernel_rfl)]
                  refine store_row2 41 (.tmp 26) (.tmp 98) rfl g26 _ rfl rfl _ _ K26.out (by kernel_rfl) rfl (by simp [Value.oneCell']) (fun wm kb ON => ?_)
                  replace K26 := Lib.hid kb
                  replace K25 := Lib.hid (ON.blk K25.out (fun e => HNE.out.2.2 e))
                  replace OU := Lib.hid (rd_only OU.out ON (fun b off e hn_ => NUg26.out b off e hn_))
                  replace OV := Lib.hid (rd_only OV.out ON (fun b off e hn_ => NVg26.out b off e hn_))
                  replace bq := Lib.hid (bq.out.trans (ON.below bq.out.size (fun k hk e => by have := HNE.out; omega)))
                  clear ON kb
                  refine hK.out _ _ (KEEP.out _ bq.out) (fun hHeld6 => ?_)
                  clear hHeld5 hK KK0
                  refine wpAnyH_done (by kernel_rfl) ?_ _
                  try simp only [Act.put, List.getElem_toArray, List.getElem_cons_succ, List.getElem_cons_zero]
                  try simp only [Act.put]
                  try simp only [List.setIfInBounds_toArray]
                  try simp only [List.set_cons_succ]
                  try simp only [List.set_cons_zero]
                  go_wp2_with fail
                  go_meet
                  case rel => exact ⟨g25, g26, Fu, fu, Fv, fv, rfl, rfl, K25, K26, OU, OV, bq, HNE, NUg26, NVg26⟩
              refine AllReadyH.cons rfl (fun KK0 hK => ?_) AllReadyH.nil
              · go_simp
                obtain ⟨g26, hg26⟩ : ∃ g, wq.heap.size = g := ⟨_, rfl⟩
                have K26 : Hid (Blk (wq.alloc zO) g26 41 #[.int .i64 0, .int .i64 0, .int .i64 0, .slice none 0 0, .slice none 0 0, .slice none 0 0, .slice none 0 0, .slice none 0 0, .slice none 0 0, .int .i64 0, .int .i64 0]) := Lib.hid (by rw [← hg26]; exact Blk.new _ _ _)
                have Gg26 : Hid (W0.heap.size ≤ g26) := Lib.hid (by rw [← hg26]; exact bq.out.size)
                have NUg26 : Hid (∀ b off, Fu = some ⟨b, off, none⟩ → 0 < yx.fl.length → b ≠ g26) := Lib.hid (fun b off e hn_ e2 => by have k1 := rd_lt OU.out (by decide) hn_ e; omega)
                replace OU := Lib.hid (OU.out.alloc zO)
                replace bq := Lib.hid (bl_alloc bq.out zO)
                rw [hg26]
                generalize (wq.alloc zO) = wq at *
                refine hK.out _ _ (KEEP.out _ bq.out) (fun hHeld2 => ?_)
                clear hHeld1 hK KK0
                try simp only [Act.put]
                try simp only [List.setIfInBounds_toArray]
                try simp only [List.set_cons_succ]
                try simp only [List.set_cons_zero]
                refine wpAnyH_ready (rs := [3, 4]) (by kernel_rfl) (by simp) ?_
                refine AllReadyH.cons rfl (fun KK0 hK => ?_) ?_
                · rw [if_pos (by kernel_rfl)]
                  refine Model.calls_wp _ _ _ (HRV.out _ bq.out) (Model.run_call _ _ _ rfl rfl Tryz.func16 (by kernel_rfl) (by kernel_rfl) _ (by kernel_rfl)) ?_
                  rintro e wq ⟨Fv, fv, rfl, of_, b_⟩
                  refine ⟨_, rfl, ?_⟩
                  have NVg26 : Hid (∀ b off, Fv = some ⟨b, off, none⟩ → 0 < yy.fl.length → b ≠ g26) := Lib.hid (fun b off e _ e2 => by have k1 := of_.base b (by rw [e]; rfl); have k2 := K26.out.lt; omega)
                  replace OU := Lib.hid (OU.out.below b_)
                  replace K26 := Lib.hid (K26.out.below b_)
                  have rd_ := (own_cap of_).2.2
                  have OV := Lib.hid rd_
                  clear of_ rd_
                  replace bq := Lib.hid (bl_trans bq.out b_)
                  clear b_
                  refine hK.out _ _ (KEEP.out _ bq.out) (fun hHeld3 => ?_)
                  clear hHeld2 hK KK0
                  try simp only [Act.put]
                  try simp only [List.setIfInBounds_toArray]
                  try simp only [List.set_cons_succ]
                  try simp only [List.set_cons_zero]
                  refine wpAnyH_ready (rs := [4]) (by kernel_rfl) (by simp) ?_
                  refine AllReadyH.cons rfl (fun KK0 hK => ?_) AllReadyH.nil
                  go_simp
                  obtain ⟨g25, hg25⟩ : ∃ g, wq.heap.size = g := ⟨_, rfl⟩
                  have K25 : Hid (Blk (wq.alloc zO) g25 41 #[.int .i64 0, .int .i64 0, .int .i64 0, .slice none 0 0, .slice none 0 0, .slice none 0 0, .slice none 0 0, .slice none 0 0, .slice none 0 0, .int .i64 0, .int .i64 0]) := Lib.hid (by rw [← hg25]; exact Blk.new _ _ _)
                  have Gg25 : Hid (W0.heap.size ≤ g25 ∧ g25 ≠ g26) := Lib.hid (by rw [← hg25]; exact ⟨bq.out.size, fun e => by have := K26.out.lt; omega⟩)
                  have NUg25 : Hid (∀ b off, Fu = some ⟨b, off, none⟩ → 0 < yx.fl.length → b ≠ g25) := Lib.hid (fun b off e hn_ e2 => by have k1 := rd_lt OU.out (by decide) hn_ e; omega)
                  have NVg25 : Hid (∀ b off, Fv = some ⟨b, off, none⟩ → 0 < yy.fl.length → b ≠ g25) := Lib.hid (fun b off e hn_ e2 => by have k1 := rd_lt OV.out (by decide) hn_ e; omega)
                  replace OU := Lib.hid (OU.out.alloc zO)
                  replace OV := Lib.hid (OV.out.alloc zO)
                  replace K26 := Lib.hid (K26.out.alloc zO)
                  replace bq := Lib.hid (bl_alloc bq.out zO)
                  rw [hg25]
                  generalize (wq.alloc zO) = wq at *
                  refine hK.out _ _ (KEEP.out _ bq.out) (fun hHeld4 => ?_)
                  clear hHeld3 hK KK0
                  try simp only [Act.put]
                  try simp only [List.setIfInBounds_toArray]
                  try simp only [List.set_cons_succ]
                  try simp only [List.set_cons_zero]
                  have HNE : Hid (W0.heap.size ≤ g25 ∧ W0.heap.size ≤ g26 ∧ g25 ≠ g26) := Lib.hid (by first | exact ⟨Gg25.out.1, Gg26.out, Gg25.out.2⟩ | exact ⟨Gg25.out, Gg26.out.1, Gg26.out.2⟩)
                  refine wpAnyH_ready (rs := [6]) (by kernel_rfl) (by simp) ?_
                  refine AllReadyH.cons rfl (fun KK0 hK => ?_) AllReadyH.nil
                  rw [if_pos (by kernel_rfl)]
                  refine store_row2 41 (.tmp 25) (.tmp 96) rfl g25 _ rfl rfl _ _ K25.out (by kernel_rfl) rfl (by simp [Value.oneCell']) (fun wn kb ON => ?_)
                  replace K25 := Lib.hid kb
                  replace K26 := Lib.hid (ON.blk K26.out (fun e => HNE.out.2.2 e.symm))
                  replace OU := Lib.hid (rd_only OU.out ON (fun b off e hn_ => NUg25.out b off e hn_))
                  replace OV := Lib.hid (rd_only OV.out ON (fun b off e hn_ => NVg25.out b off e hn_))
                  replace bq := Lib.hid (bq.out.trans (ON.below bq.out.size (fun k hk e => by have := HNE.out; omega)))
                  clear ON kb
                  refine hK.out _ _ (KEEP.out _ bq.out) (fun hHeld5 => ?_)
                  clear hHeld4 hK KK0
                  try simp only [Act.put]
                  try simp only [List.setIfInBounds_toArray]
                  try simp only [List.set_cons_succ]
                  try simp only [List.set_cons_zero]
                  refine wpAnyH_ready (rs := [7]) (by kernel_rfl) (by simp) ?_
                  refine AllReadyH.cons rfl (fun KK0 hK => ?_) AllReadyH.nil
                  rw [if_pos (by kernel_rfl)]
                  refine store_row2 41 (.tmp 26) (.tmp 98) rfl g26 _ rfl rfl _ _ K26.out (by kernel_rfl) rfl (by simp [Value.oneCell']) (fun wm kb ON => ?_)
                  replace K26 := Lib.hid kb
                  replace K25 := Lib.hid (ON.blk K25.out (fun e => HNE.out.2.2 e))
                  replace OU := Lib.hid (rd_only OU.out ON (fun b off e hn_ => NUg26.out b off e hn_))
                  replace OV := Lib.hid (rd_only OV.out ON (fun b off e hn_ => NVg26.out b off e hn_))
                  replace bq := Lib.hid (bq.out.trans (ON.below bq.out.size (fun k hk e => by have := HNE.out; omega)))
                  clear ON kb
                  refine hK.out _ _ (KEEP.out _ bq.out) (fun hHeld6 => ?_)
                  clear hHeld5 hK KK0
                  refine wpAnyH_done (by kernel_rfl) ?_ _
                  try simp only [Act.put, List.getElem_toArray, List.getElem_cons_succ, List.getElem_cons_zero]
                  try simp only [Act.put]
                  try simp only [List.setIfInBounds_toArray]
                  try simp only [List.set_cons_succ]
                  try simp only [List.set_cons_zero]
                  go_wp2_with fail
                  go_meet
                  case rel => exact ⟨g25, g26, Fu, fu, Fv, fv, rfl, rfl, K25, K26, OU, OV, bq, HNE, NUg26, NVg26⟩
                refine AllReadyH.cons rfl (fun KK0 hK => ?_) AllReadyH.nil
                · go_simp
                  obtain ⟨g25, hg25⟩ : ∃ g, wq.heap.size = g := ⟨_, rfl⟩
                  have K25 : Hid (Blk (wq.alloc zO) g25 41 #[.int .i64 0, .int .i64 0, .int .i64 0, .slice none 0 0, .slice none 0 0, .slice none 0 0, .slice none 0 0, .slice none 0 0, .slice none 0 0, .int .i64 0, .int .i64 0]) := Lib.hid (by rw [← hg25]; exact Blk.new _ _ _)
                  have Gg25 : Hid (W0.heap.size ≤ g25 ∧ g25 ≠ g26) := Lib.hid (by rw [← hg25]; exact ⟨bq.out.size, fun e => by have := K26.out.lt; omega⟩)
                  have NUg25 : Hid (∀ b off, Fu = some ⟨b, off, none⟩ → 0 < yx.fl.length → b ≠ g25) := Lib.hid (fun b off e hn_ e2 => by have k1 := rd_lt OU.out (by decide) hn_ e; omega)
                  replace OU := Lib.hid (OU.out.alloc zO)
                  replace K26 := Lib.hid (K26.out.alloc zO)
                  replace bq := Lib.hid (bl_alloc bq.out zO)
                  rw [hg25]
                  generalize (wq.alloc zO) = wq at *
                  refine hK.out _ _ (KEEP.out _ bq.out) (fun hHeld3 => ?_)
                  clear hHeld2 hK KK0
                  try simp only [Act.put]
                  try simp only [List.setIfInBounds_toArray]
                  try simp only [List.set_cons_succ]
                  try simp only [List.set_cons_zero]
                  refine wpAnyH_ready (rs := [3]) (by kernel_rfl) (by simp) ?_
                  refine AllReadyH.cons rfl (fun KK0 hK => ?_) AllReadyH.nil
                  rw [if_pos (by kernel_rfl)]
                  refine Model.calls_wp _ _ _ (HRV.out _ bq.out) (Model.run_call _ _ _ rfl rfl Tryz.func16 (by kernel_rfl) (by kernel_rfl) _ (by kernel_rfl)) ?_
                  rintro e wq ⟨Fv, fv, rfl, of_, b_⟩
                  refine ⟨_, rfl, ?_⟩
                  have NVg25 : Hid (∀ b off, Fv = some ⟨b, off, none⟩ → 0 < yy.fl.length → b ≠ g25) := Lib.hid (fun b off e _ e2 => by have k1 := of_.base b (by rw [e]; rfl); have k2 := K25.out.lt; omega)
                  have NVg26 : Hid (∀ b off, Fv = some ⟨b, off, none⟩ → 0 < yy.fl.length → b ≠ g26) := Lib.hid (fun b off e _ e2 => by have k1 := of_.base b (by rw [e]; rfl); have k2 := K26.out.lt; omega)
                  replace OU := Lib.hid (OU.out.below b_)
                  replace K25 := Lib.hid (K25.out.below b_)
                  replace K26 := Lib.hid (K26.out.below b_)
                  have rd_ := (own_cap of_).2.2
                  have OV := Lib.hid rd_
                  clear of_ rd_
                  replace bq := Lib.hid (bl_trans bq.out b_)
                  clear b_
                  refine hK.out _ _ (KEEP.out _ bq.out) (fun hHeld4 => ?_)
                  clear hHeld3 hK KK0
                  try simp only [Act.put]
                  try simp only [List.setIfInBounds_toArray]
                  try simp only [List.set_cons_succ]
                  try simp only [List.set_cons_zero]
                  have HNE : Hid (W0.heap.size ≤ g25 ∧ W0.heap.size ≤ g26 ∧ g25 ≠ g26) := Lib.hid (by first | exact ⟨Gg25.out.1, Gg26.out, Gg25.out.2⟩ | exact ⟨Gg25.out, Gg26.out.1, Gg26.out.2⟩)
                  refine wpAnyH_ready (rs := [6]) (by kernel_rfl) (by simp) ?_
                  refine AllReadyH.cons rfl (fun KK0 hK => ?_) AllReadyH.nil
                  rw [if_pos (by kernel_rfl)]
                  refine store_row2 41 (.tmp 25) (.tmp 96) rfl g25 _ rfl rfl _ _ K25.out (by kernel_rfl) rfl (by simp [Value.oneCell']) (fun wn kb ON => ?_)
                  replace K25 := Lib.hid kb
                  replace K26 := Lib.hid (ON.blk K26.out (fun e => HNE.out.2.2 e.symm))
                  replace OU := Lib.hid (rd_only OU.out ON (fun b off e hn_ => NUg25.out b off e hn_))
                  replace OV := Lib.hid (rd_only OV.out ON (fun b off e hn_ => NVg25.out b off e hn_))
                  replace bq := Lib.hid (bq.out.trans (ON.below bq.out.size (fun k hk e => by have := HNE.out; omega)))
                  clear ON kb
                  refine hK.out _ _ (KEEP.out _ bq.out) (fun hHeld5 => ?_)
                  clear hHeld4 hK KK0
                  try simp only [Act.put]
                  try simp only [List.setIfInBounds_toArray]
                  try simp only [List.set_cons_succ]
                  try simp only [List.set_cons_zero]
                  refine wpAnyH_ready (rs := [7]) (by kernel_rfl) (by simp) ?_
                  refine AllReadyH.cons rfl (fun KK0 hK => ?_) AllReadyH.nil
                  rw [if_pos (by kernel_rfl)]
                  refine store_row2 41 (.tmp 26) (.tmp 98) rfl g26 _ rfl rfl _ _ K26.out (by kernel_rfl) rfl (by simp [Value.oneCell']) (fun wm kb ON => ?_)
                  replace K26 := Lib.hid kb
                  replace K25 := Lib.hid (ON.blk K25.out (fun e => HNE.out.2.2 e))
                  replace OU := Lib.hid (rd_only OU.out ON (fun b off e hn_ => NUg26.out b off e hn_))
                  replace OV := Lib.hid (rd_only OV.out ON (fun b off e hn_ => NVg26.out b off e hn_))
                  replace bq := Lib.hid (bq.out.trans (ON.below bq.out.size (fun k hk e => by have := HNE.out; omega)))
                  clear ON kb
                  refine hK.out _ _ (KEEP.out _ bq.out) (fun hHeld6 => ?_)
                  clear hHeld5 hK KK0
                  refine wpAnyH_done (by kernel_rfl) ?_ _
                  try simp only [Act.put, List.getElem_toArray, List.getElem_cons_succ, List.getElem_cons_zero]
                  try simp only [Act.put]
                  try simp only [List.setIfInBounds_toArray]
                  try simp only [List.set_cons_succ]
                  try simp only [List.set_cons_zero]
                  go_wp2_with fail
                  go_meet
                  case rel => exact ⟨g25, g26, Fu, fu, Fv, fv, rfl, rfl, K25, K26, OU, OV, bq, HNE, NUg26, NVg26⟩
            refine AllReadyH.cons rfl (fun KK0 hK => ?_) ?_
            · go_simp
              obtain ⟨g25, hg25⟩ : ∃ g, wq.heap.size = g := ⟨_, rfl⟩
              have K25 : Hid (Blk (wq.alloc zO) g25 41 #[.int .i64 0, .int .i64 0, .int .i64 0, .slice none 0 0, .slice none 0 0, .slice none 0 0, .slice none 0 0, .slice none 0 0, .slice none 0 0, .int .i64 0, .int .i64 0]) := Lib.hid (by rw [← hg25]; exact Blk.new _ _ _)
              have Gg25 : Hid (W0.heap.size ≤ g25) := Lib.hid (by rw [← hg25]; exact bq.out.size)
              replace bq := Lib.hid (bl_alloc bq.out zO)
              rw [hg25]
              generalize (wq.alloc zO) = wq at *
              refine hK.out _ _ (KEEP.out _ bq.out) (fun hHeld1 => ?_)
              clear hHeld0 hK KK0
              try simp only [Act.put]
              try simp only [List.setIfInBounds_toArray]
              try simp only [List.set_cons_succ]
              try simp only [List.set_cons_zero]
              refine wpAnyH_ready (rs := [1, 5]) (by kernel_rfl) (by simp) ?_
              refine AllReadyH.cons rfl (fun KK0 hK => ?_) ?_
              · rw [if_pos (by kernel_rfl)]
                refine Model.calls_wp _ _ _ (HRU.out _ bq.out) (Model.run_call _ _ _ rfl rfl Tryz.func16 (by kernel_rfl) (by kernel_rfl) _ (by kernel_rfl)) ?_
                rintro e wq ⟨Fu, fu, rfl, of_, b_⟩
                refine ⟨_, rfl, ?_⟩
                have NUg25 : Hid (∀ b off, Fu = some ⟨b, off, none⟩ → 0 < yx.fl.length → b ≠ g25) := Lib.hid (fun b off e _ e2 => by have k1 := of_.base b (by rw [e]; rfl); have k2 := K25.out.lt; omega)
                replace K25 := Lib.hid (K25.out.below b_)
                have rd_ := (own_cap of_).2.2
                have OU := Lib.hid rd_
                clear of_ rd_
                replace bq := Lib.hid (bl_trans bq.out b_)
                clear b_
                refine hK.out _ _ (KEEP.out _ bq.out) (fun hHeld2 => ?_)
                clear hHeld1 hK KK0
                try simp only [Act.put]
                try simp only [List.setIfInBounds_toArray]
                try simp only [List.set_cons_succ]
                try simp only [List.set_cons_zero]
                refine wpAnyH_ready (rs := [3, 5]) (by kernel_rfl) (by simp) ?_
                refine AllReadyH.cons rfl (fun KK0 hK => ?_) ?_
                · rw [if_pos (by kernel_rfl)]
                  refine Model.calls_wp _ _ _ (HRV.out _ bq.out) (Model.run_call _ _ _ rfl rfl Tryz.func16 (by kernel_rfl) (by kernel_rfl) _ (by kernel_rfl)) ?_
                  rintro e wq ⟨Fv, fv, rfl, of_, b_⟩
                  refine ⟨_, rfl, ?_⟩
                  have NVg25 : Hid (∀ b off, Fv = some ⟨b, off, none⟩ → 0 < yy.fl.length → b ≠ g25) := Lib.hid (fun b off e _ e2 => by have k1 := of_.base b (by rw [e]; rfl); have k2 := K25.out.lt; omega)
                  replace OU := Lib.hid (OU.out.below b_)
                  replace K25 := Lib.hid (K25.out.below b_)
                  have rd_ := (own_cap of_).2.2
                  have OV := Lib.hid rd_
                  clear of_ rd_
                  replace bq := Lib.hid (bl_trans bq.out b_)
                  clear b_
                  refine hK.out _ _ (KEEP.out _ bq.out) (fun hHeld3 => ?_)
                  clear hHeld2 hK KK0
                  try simp only [Act.put]
                  try simp only [List.setIfInBounds_toArray]
                  try simp only [List.set_cons_succ]
                  try simp only [List.set_cons_zero]
                  refine wpAnyH_ready (rs := [5]) (by kernel_rfl) (by simp) ?_
                  refine AllReadyH.cons rfl (fun KK0 hK => ?_) AllReadyH.nil
                  go_simp
                  obtain ⟨g26, hg26⟩ : ∃ g, wq.heap.size = g := ⟨_, rfl⟩
                  have K26 : Hid (Blk (wq.alloc zO) g26 41 #[.int .i64 0, .int .i64 0, .int .i64 0, .slice none 0 0, .slice none 0 0, .slice none 0 0, .slice none 0 0, .slice none 0 0, .slice none 0 0, .int .i64 0, .int .i64 0]) := Lib.hid (by rw [← hg26]; exact Blk.new _ _ _)
                  have Gg26 : Hid (W0.heap.size ≤ g26 ∧ g25 ≠ g26) := Lib.hid (by rw [← hg26]; exact ⟨bq.out.size, fun e => by have := K25.out.lt; omega⟩)
                  have NUg26 : Hid (∀ b off, Fu = some ⟨b, off, none⟩ → 0 < yx.fl.length → b ≠ g26) := Lib.hid (fun b off e hn_ e2 => by have k1 := rd_lt OU.out (by decide) hn_ e; omega)
                  have NVg26 : Hid (∀ b off, Fv = some ⟨b, off, none⟩ → 0 < yy.fl.length → b ≠ g26) := Lib.hid (fun b off e hn_ e2 => by have k1 := rd_lt OV.out (by decide) hn_ e; omega)
                  replace OU := Lib.hid (OU.out.alloc zO)
                  replace OV := Lib.hid (OV.out.alloc zO)
                  replace K25 := Lib.hid (K25.out.alloc zO)
                  replace bq := Lib.hid (bl_alloc bq.out zO)
                  rw [hg26]
                  generalize (wq.alloc zO) = wq at *
                  refine hK.out _ _ (KEEP.out _ bq.out) (fun hHeld4 => ?_)
                  clear hHeld3 hK KK0
                  try simp only [Act.put]
                  try simp only [List.setIfInBounds_toArray]
                  try simp only [List.set_cons_succ]
                  try simp only [List.set_cons_zero]
                  have HNE : Hid (W0.heap.size ≤ g25 ∧ W0.heap.size ≤ g26 ∧ g25 ≠ g26) := Lib.hid (by first | exact ⟨Gg25.out.1, Gg26.out, Gg25.out.2⟩ | exact ⟨Gg25.out, Gg26.out.1, Gg26.out.2⟩)
                  refine wpAnyH_ready (rs := [6]) (by kernel_rfl) (by simp) ?_
                  refine AllReadyH.cons rfl (fun KK0 hK => ?_) AllReadyH.nil
                  rw [if_pos (by kernel_rfl)]
                  refine store_row2 41 (.tmp 25) (.tmp 96) rfl g25 _ rfl rfl _ _ K25.out (by kernel_rfl) rfl (by simp [Value.oneCell']) (fun wn kb ON => ?_)
                  replace K25 := Lib.hid kb
                  replace K26 := Lib.hid (ON.blk K26.out (fun e => HNE.out.2.2 e.symm))
                  replace OU := Lib.hid (rd_only OU.out ON (fun b off e hn_ => NUg25.out b off e hn_))
                  replace OV := Lib.hid (rd_only OV.out ON (fun b off e hn_ => NVg25.out b off e hn_))
                  replace bq := Lib.hid (bq.out.trans (ON.below bq.out.size (fun k hk e => by have := HNE.out; omega)))
                  clear ON kb
                  refine hK.out _ _ (KEEP.out _ bq.out) (fun hHeld5 => ?_)
                  clear hHeld4 hK KK0
                  try simp only [Act.put]
                  try simp only [List.setIfInBounds_toArray]
                  try simp only [List.set_cons_succ]
                  try simp only [List.set_cons_zero]
                  refine wpAnyH_ready (rs := [7]) (by kernel_rfl) (by simp) ?_
                  refine AllReadyH.cons rfl (fun KK0 hK => ?_) AllReadyH.nil
                  rw [if_pos (by kernel_rfl)]
                  refine store_row2 41 (.tmp 26) (.tmp 98) rfl g26 _ rfl rfl _ _ K26.out (by kernel_rfl) rfl (by simp [Value.oneCell']) (fun wm kb ON => ?_)
                  replace K26 := Lib.hid kb
                  replace K25 := Lib.hid (ON.blk K25.out (fun e => HNE.out.2.2 e))
                  replace OU := Lib.hid (rd_only OU.out ON (fun b off e hn_ => NUg26.out b off e hn_))
                  replace OV := Lib.hid (rd_only OV.out ON (fun b off e hn_ => NVg26.out b off e hn_))
                  replace bq := Lib.hid (bq.out.trans (ON.below bq.out.size (fun k hk e => by have := HNE.out; omega)))
                  clear ON kb
                  refine hK.out _ _ (KEEP.out _ bq.out) (fun hHeld6 => ?_)
                  clear hHeld5 hK KK0
                  refine wpAnyH_done (by kernel_rfl) ?_ _
                  try simp only [Act.put, List.getElem_toArray, List.getElem_cons_succ, List.getElem_cons_zero]
                  try simp only [Act.put]
                  try simp only [List.setIfInBounds_toArray]
                  try simp only [List.set_cons_succ]
                  try simp only [List.set_cons_zero]
                  go_wp2_with fail
                  go_meet
                  case rel => exact ⟨g25, g26, Fu, fu, Fv, fv, rfl, rfl, K25, K26, OU, OV, bq, HNE, NUg26, NVg26⟩
                refine AllReadyH.cons rfl (fun KK0 hK => ?_) AllReadyH.nil
                · go_simp
                  obtain ⟨g26, hg26⟩ : ∃ g, wq.heap.size = g := ⟨_, rfl⟩
                  have K26 : Hid (Blk (wq.alloc zO) g26 41 #[.int .i64 0, .int .i64 0, .int .i64 0, .slice none 0 0, .slice none 0 0, .slice none 0 0, .slice none 0 0, .slice none 0 0, .slice none 0 0, .int .i64 0, .int .i64 0]) := Lib.hid (by rw [← hg26]; exact Blk.new _ _ _)
                  have Gg26 : Hid (W0.heap.size ≤ g26 ∧ g25 ≠ g26) := Lib.hid (by rw [← hg26]; exact ⟨bq.out.size, fun e => by have := K25.out.lt; omega⟩)
                  have NUg26 : Hid (∀ b off, Fu = some ⟨b, off, none⟩ → 0 < yx.fl.length → b ≠ g26) := Lib.hid (fun b off e hn_ e2 => by have k1 := rd_lt OU.out (by decide) hn_ e; omega)
                  replace OU := Lib.hid (OU.out.alloc zO)
                  replace K25 := Lib.hid (K25.out.alloc zO)
                  replace bq := Lib.hid (bl_alloc bq.out zO)
                  rw [hg26]
                  generalize (wq.alloc zO) = wq at *
                  refine hK.out _ _ (KEEP.out _ bq.out) (fun hHeld3 => ?_)
                  clear hHeld2 hK KK0
                  try simp only [Act.put]
                  try simp only [List.setIfInBounds_toArray]
                  try simp only [List.set_cons_succ]
                  try simp only [List.set_cons_zero]
                  refine wpAnyH_ready (rs := [3]) (by kernel_rfl) (by simp) ?_
                  refine AllReadyH.cons rfl (fun KK0 hK => ?_) AllReadyH.nil
                  rw [if_pos (by kernel_rfl)]
                  refine Model.calls_wp _ _ _ (HRV.out _ bq.out) (Model.run_call _ _ _ rfl rfl Tryz.func16 (by kernel_rfl) (by kernel_rfl) _ (by kernel_rfl)) ?_
                  rintro e wq ⟨Fv, fv, rfl, of_, b_⟩
                  refine ⟨_, rfl, ?_⟩
                  have NVg25 : Hid (∀ b off, Fv = some ⟨b, off, none⟩ → 0 < yy.fl.length → b ≠ g25) := Lib.hid (fun b off e _ e2 => by have k1 := of_.base b (by rw [e]; rfl); have k2 := K25.out.lt; omega)
                  have NVg26 : Hid (∀ b off, Fv = some ⟨b, off, none⟩ → 0 < yy.fl.length → b ≠ g26) := Lib.hid (fun b off e _ e2 => by have k1 := of_.base b (by rw [e]; rfl); have k2 := K26.out.lt; omega)
                  replace OU := Lib.hid (OU.out.below b_)
                  replace K25 := Lib.hid (K25.out.below b_)
                  replace K26 := Lib.hid (K26.out.below b_)
                  have rd_ := (own_cap of_).2.2
                  have OV := Lib.hid rd_
                  clear of_ rd_
                  replace bq := Lib.hid (bl_trans bq.out b_)
                  clear b_
                  refine hK.out _ _ (KEEP.out _ bq.out) (fun hHeld4 => ?_)
                  clear hHeld3 hK KK0
                  try simp only [Act.put]
                  try simp only [List.setIfInBounds_toArray]
                  try simp only [List.set_cons_succ]
                  try simp only [List.set_cons_zero]
                  have HNE : Hid (W0.heap.size ≤ g25 ∧ W0.heap.size ≤ g26 ∧ g25 ≠ g26) := Lib.hid (by first | exact ⟨Gg25.out.1, Gg26.out, Gg25.out.2⟩ | exact ⟨Gg25.out, Gg26.out.1, Gg26.out.2⟩)
                  refine wpAnyH_ready (rs := [6]) (by kernel_rfl) (by simp) ?_
                  refine AllReadyH.cons rfl (fun KK0 hK => ?_) AllReadyH.nil
                  rw [if_pos (by kernel_rfl)]
                  refine store_row2 41 (.tmp 25) (.tmp 96) rfl g25 _ rfl rfl _ _ K25.out (by kernel_rfl) rfl (by simp [Value.oneCell']) (fun wn kb ON => ?_)
                  replace K25 := Lib.hid kb
                  replace K26 := Lib.hid (ON.blk K26.out (fun e => HNE.out.2.2 e.symm))
                  replace OU := Lib.hid (rd_only OU.out ON (fun b off e hn_ => NUg25.out b off e hn_))
                  replace OV := Lib.hid (rd_only OV.out ON (fun b off e hn_ => NVg25.out b off e hn_))
                  replace bq := Lib.hid (bq.out.trans (ON.below bq.out.size (fun k hk e => by have := HNE.out; omega)))
                  clear ON kb
                  refine hK.out _ _ (KEEP.out _ bq.out) (fun hHeld5 => ?_)
                  clear hHeld4 hK KK0
                  try simp only [Act.put]
                  try simp only [List.setIfInBounds_toArray]
                  try simp only [List.set_cons_succ]
                  try simp only [List.set_cons_zero]
                  refine wpAnyH_ready (rs := [7]) (by kernel_rfl) (by simp) ?_
                  refine AllReadyH.cons rfl (fun KK0 hK => ?_) AllReadyH.nil
                  rw [if_pos (by kernel_rfl)]
                  refine store_row2 41 (.tmp 26) (.tmp 98) rfl g26 _ rfl rfl _ _ K26.out (by kernel_rfl) rfl (by simp [Value.oneCell']) (fun wm kb ON => ?_)
                  replace K26 := Lib.hid kb
                  replace K25 := Lib.hid (ON.blk K25.out (fun e => HNE.out.2.2 e))
                  replace OU := Lib.hid (rd_only OU.out ON (fun b off e hn_ => NUg26.out b off e hn_))
                  replace OV := Lib.hid (rd_only OV.out ON (fun b off e hn_ => NVg26.out b off e hn_))
                  replace bq := Lib.hid (bq.out.trans (ON.below bq.out.size (fun k hk e => by have := HNE.out; omega)))
                  clear ON kb
                  refine hK.out _ _ (KEEP.out _ bq.out) (fun hHeld6 => ?_)
                  clear hHeld5 hK KK0
                  refine wpAnyH_done (by kernel_rfl) ?_ _
                  try simp only [Act.put, List.getElem_toArray, List.getElem_cons_succ, List.getElem_cons_zero]
                  try simp only [Act.put]
                  try simp only [List.setIfInBounds_toArray]
                  try simp only [List.set_cons_succ]
                  try simp only [List.set_cons_zero]
                  go_wp2_with fail
                  go_meet
                  case rel => exact ⟨g25, g26, Fu, fu, Fv, fv, rfl, rfl, K25, K26, OU, OV, bq, HNE, NUg26, NVg26⟩
              refine AllReadyH.cons rfl (fun KK0 hK => ?_) AllReadyH.nil
              · go_simp
                obtain ⟨g26, hg26⟩ : ∃ g, wq.heap.size = g := ⟨_, rfl⟩
                have K26 : Hid (Blk (wq.alloc zO) g26 41 #[.int .i64 0, .int .i64 0, .int .i64 0, .slice none 0 0, .slice none 0 0, .slice none 0 0, .slice none 0 0, .slice none 0 0, .slice none 0 0, .int .i64 0, .int .i64 0]) := Lib.hid (by rw [← hg26]; exact Blk.new _ _ _)
                have Gg26 : Hid (W0.heap.size ≤ g26 ∧ g25 ≠ g26) := Lib.hid (by rw [← hg26]; exact ⟨bq.out.size, fun e => by have := K25.out.lt; omega⟩)
                replace K25 := Lib.hid (K25.out.alloc zO)
                replace bq := Lib.hid (bl_alloc bq.out zO)
                rw [hg26]
                generalize (wq.alloc zO) = wq at *
                refine hK.out _ _ (KEEP.out _ bq.out) (fun hHeld2 => ?_)
                clear hHeld1 hK KK0
                try simp only [Act.put]
                try simp only [List.setIfInBounds_toArray]
                try simp only [List.set_cons_succ]
                try simp only [List.set_cons_zero]
                refine wpAnyH_ready (rs := [1]) (by kernel_rfl) (by simp) ?_
                refine AllReadyH.cons rfl (fun KK0 hK => ?_) AllReadyH.nil
                rw [if_pos (by kernel_rfl)]
                refine Model.calls_wp _ _ _ (HRU.out _ bq.out) (Model.run_call _ _ _ rfl rfl Tryz.func16 (by kernel_rfl) (by kernel_rfl) _ (by kernel_rfl)) ?_
                rintro e wq ⟨Fu, fu, rfl, of_, b_⟩
                refine ⟨_, rfl, ?_⟩
                have NUg25 : Hid (∀ b off, Fu = some ⟨b, off, none⟩ → 0 < yx.fl.length → b ≠ g25) := Lib.hid (fun b off e _ e2 => by have k1 := of_.base b (by rw [e]; rfl); have k2 := K25.out.lt; omega)
                have NUg26 : Hid (∀ b off, Fu = some ⟨b, off, none⟩ → 0 < yx.fl.length → b ≠ g26) := Lib.hid (fun b off e _ e2 => by have k1 := of_.base b (by rw [e]; rfl); have k2 := K26.out.lt; omega)
                replace K25 := Lib.hid (K25.out.below b_)
                replace K26 := Lib.hid (K26.out.below b_)
                have rd_ := (own_cap of_).2.2
                have OU := Lib.hid rd_
                clear of_ rd_
                replace bq := Lib.hid (bl_trans bq.out b_)
                clear b_
                refine hK.out _ _ (KEEP.out _ bq.out) (fun hHeld3 => ?_)
                clear hHeld2 hK KK0
                try simp only [Act.put]
                try simp only [List.setIfInBounds_toArray]
                try simp only [List.set_cons_succ]
                try simp only [List.set_cons_zero]
                refine wpAnyH_ready (rs := [3]) (by kernel_rfl) (by simp) ?_
                refine AllReadyH.cons rfl (fun KK0 hK => ?_) AllReadyH.nil
                rw [if_pos (by kernel_rfl)]
                refine Model.calls_wp _ _ _ (HRV.out _ bq.out) (Model.run_call _ _ _ rfl rfl Tryz.func16 (by kernel_rfl) (by kernel_rfl) _ (by kernel_rfl)) ?_
                rintro e wq ⟨Fv, fv, rfl, of_, b_⟩
                refine ⟨_, rfl, ?_⟩
                have NVg25 : Hid (∀ b off, Fv = some ⟨b, off, none⟩ → 0 < yy.fl.length → b ≠ g25) := Lib.hid (fun b off e _ e2 => by have k1 := of_.base b (by rw [e]; rfl); have k2 := K25.out.lt; omega)
                have NVg26 : Hid (∀ b off, Fv = some ⟨b, off, none⟩ → 0 < yy.fl.length → b ≠ g26) := Lib.hid (fun b off e _ e2 => by have k1 := of_.base b (by rw [e]; rfl); have k2 := K26.out.lt; omega)
                replace OU := Lib.hid (OU.out.below b_)
                replace K25 := Lib.hid (K25.out.below b_)
                replace K26 := Lib.hid (K26.out.below b_)
                have rd_ := (own_cap of_).2.2
                have OV := Lib.hid rd_
                clear of_ rd_
                replace bq := Lib.hid (bl_trans bq.out b_)
                clear b_
                refine hK.out _ _ (KEEP.out _ bq.out) (fun hHeld4 => ?_)
                clear hHeld3 hK KK0
                try simp only [Act.put]
                try simp only [List.setIfInBounds_toArray]
                try simp only [List.set_cons_succ]
                try simp only [List.set_cons_zero]
                have HNE : Hid (W0.heap.size ≤ g25 ∧ W0.heap.size ≤ g26 ∧ g25 ≠ g26) := Lib.hid (by first | exact ⟨Gg25.out.1, Gg26.out, Gg25.out.2⟩ | exact ⟨Gg25.out, Gg26.out.1, Gg26.out.2⟩)
                refine wpAnyH_ready (rs := [6]) (by kernel_rfl) (by simp) ?_
                refine AllReadyH.cons rfl (fun KK0 hK => ?_) AllReadyH.nil
                rw [if_pos (by kernel_rfl)]
                refine store_row2 41 (.tmp 25) (.tmp 96) rfl g25 _ rfl rfl _ _ K25.out (by kernel_rfl) rfl (by simp [Value.oneCell']) (fun wn kb ON => ?_)
                replace K25 := Lib.hid kb
                replace K26 := Lib.hid (ON.blk K26.out (fun e => HNE.out.2.2 e.symm))
                replace OU := Lib.hid (rd_only OU.out ON (fun b off e hn_ => NUg25.out b off e hn_))
                replace OV := Lib.hid (rd_only OV.out ON (fun b off e hn_ => NVg25.out b off e hn_))
                replace bq := Lib.hid (bq.out.trans (ON.below bq.out.size (fun k hk e => by have := HNE.out; omega)))
                clear ON kb
                refine hK.out _ _ (KEEP.out _ bq.out) (fun hHeld5 => ?_)
                clear hHeld4 hK KK0
                try simp only [Act.put]
                try simp only [List.setIfInBounds_toArray]
                try simp only [List.set_cons_succ]
                try simp only [List.set_cons_zero]
                refine wpAnyH_ready (rs := [7]) (by kernel_rfl) (by simp) ?_
                refine AllReadyH.cons rfl (fun KK0 hK => ?_) AllReadyH.nil
                rw [if_pos (by kernel_rfl)]
                refine store_row2 41 (.tmp 26) (.tmp 98) rfl g26 _ rfl rfl _ _ K26.out (by kernel_rfl) rfl (by simp [Value.oneCell']) (fun wm kb ON => ?_)
                replace K26 := Lib.hid kb
                replace K25 := Lib.hid (ON.blk K25.out (fun e => HNE.out.2.2 e))
                replace OU := Lib.hid (rd_only OU.out ON (fun b off e hn_ => NUg26.out b off e hn_))
                replace OV := Lib.hid (rd_only OV.out ON (fun b off e hn_ => NVg26.out b off e hn_))
                replace bq := Lib.hid (bq.out.trans (ON.below bq.out.size (fun k hk e => by have := HNE.out; omega)))
                clear ON kb
                refine hK.out _ _ (KEEP.out _ bq.out) (fun hHeld6 => ?_)
                clear hHeld5 hK KK0
                refine wpAnyH_done (by kernel_rfl) ?_ _
                try simp only [Act.put, List.getElem_toArray, List.getElem_cons_succ, List.getElem_cons_zero]
                try simp only [Act.put]
                try simp only [List.setIfInBounds_toArray]
                try simp only [List.set_cons_succ]
                try simp only [List.set_cons_zero]
                go_wp2_with fail
                go_meet
                case rel => exact ⟨g25, g26, Fu, fu, Fv, fv, rfl, rfl, K25, K26, OU, OV, bq, HNE, NUg26, NVg26⟩
            refine AllReadyH.cons rfl (fun KK0 hK => ?_) AllReadyH.nil
            · go_simp
              obtain ⟨g26, hg26⟩ : ∃ g, wq.heap.size = g := ⟨_, rfl⟩
              have K26 : Hid (Blk (wq.alloc zO) g26 41 #[.int .i64 0, .int .i64 0, .int .i64 0, .slice none 0 0, .slice none 0 0, .slice none 0 0, .slice none 0 0, .slice none 0 0, .slice none 0 0, .int .i64 0, .int .i64 0]) := Lib.hid (by rw [← hg26]; exact Blk.new _ _ _)
              have Gg26 : Hid (W0.heap.size ≤ g26) := Lib.hid (by rw [← hg26]; exact bq.out.size)
              replace bq := Lib.hid (bl_alloc bq.out zO)
              rw [hg26]
              generalize (wq.alloc zO) = wq at *
              refine hK.out _ _ (KEEP.out _ bq.out) (fun hHeld1 => ?_)
              clear hHeld0 hK KK0
              try simp only [Act.put]
              try simp only [List.setIfInBounds_toArray]
              try simp only [List.set_cons_succ]
              try simp only [List.set_cons_zero]
              refine wpAnyH_ready (rs := [1, 4]) (by kernel_rfl) (by simp) ?_
              refine AllReadyH.cons rfl (fun KK0 hK => ?_) ?_
              · rw [if_pos (by kernel_rfl)]
                refine Model.calls_wp _ _ _ (HRU.out _ bq.out) (Model.run_call _ _ _ rfl rfl Tryz.func16 (by kernel_rfl) (by kernel_rfl) _ (by kernel_rfl)) ?_
                rintro e wq ⟨Fu, fu, rfl, of_, b_⟩
                refine ⟨_, rfl, ?_⟩
                have NUg26 : Hid (∀ b off, Fu = some ⟨b, off, none⟩ → 0 < yx.fl.length → b ≠ g26) := Lib.hid (fun b off e _ e2 => by have k1 := of_.base b (by rw [e]; rfl); have k2 := K26.out.lt; omega)
                replace K26 := Lib.hid (K26.out.below b_)
                have rd_ := (own_cap of_).2.2
                have OU := Lib.hid rd_
                clear of_ rd_
                replace bq := Lib.hid (bl_trans bq.out b_)
                clear b_
                refine hK.out _ _ (KEEP.out _ bq.out) (fun hHeld2 => ?_)
                clear hHeld1 hK KK0
                try simp only [Act.put]
                try simp only [List.setIfInBounds_toArray]
                try simp only [List.set_cons_succ]
                try simp only [List.set_cons_zero]
                refine wpAnyH_ready (rs := [3, 4]) (by kernel_rfl) (by simp) ?_
                refine AllReadyH.cons rfl (fun KK0 hK => ?_) ?_
                · rw [if_pos (by kernel_rfl)]
                  refine Model.calls_wp _ _ _ (HRV.out _ bq.out) (Model.run_call _ _ _ rfl rfl Tryz.func16 (by kernel_rfl) (by kernel_rfl) _ (by kernel_rfl)) ?_
                  rintro e wq ⟨Fv, fv, rfl, of_, b_⟩
                  refine ⟨_, rfl, ?_⟩
                  have NVg26 : Hid (∀ b off, Fv = some ⟨b, off, none⟩ → 0 < yy.fl.length → b ≠ g26) := Lib.hid (fun b off e _ e2 => by have k1 := of_.base b (by rw [e]; rfl); have k2 := K26.out.lt; omega)
                  replace OU := Lib.hid (OU.out.below b_)
                  replace K26 := Lib.hid (K26.out.below b_)
                  have rd_ := (own_cap of_).2.2
                  have OV := Lib.hid rd_
                  clear of_ rd_
                  replace bq := Lib.hid (bl_trans bq.out b_)
                  clear b_
                  refine hK.out _ _ (KEEP.out _ bq.out) (fun hHeld3 => ?_)
                  clear hHeld2 hK KK0
                  try simp only [Act.put]
                  try simp only [List.setIfInBounds_toArray]
                  try simp only [List.set_cons_succ]
                  try simp only [List.set_cons_zero]
                  refine wpAnyH_ready (rs := [4]) (by kernel_rfl) (by simp) ?_
                  refine AllReadyH.cons rfl (fun KK0 hK => ?_) AllReadyH.nil
                  go_simp
                  obtain ⟨g25, hg25⟩ : ∃ g, wq.heap.size = g := ⟨_, rfl⟩
                  have K25 : Hid (Blk (wq.alloc zO) g25 41 #[.int .i64 0, .int .i64 0, .int .i64 0, .slice none 0 0, .slice none 0 0, .slice none 0 0, .slice none 0 0, .slice none 0 0, .slice none 0 0, .int .i64 0, .int .i64 0]) := Lib.hid (by rw [← hg25]; exact Blk.new _ _ _)
                  have Gg25 : Hid (W0.heap.size ≤ g25 ∧ g25 ≠ g26) := Lib.hid (by rw [← hg25]; exact ⟨bq.out.size, fun e => by have := K26.out.lt; omega⟩)
                  have NUg25 : Hid (∀ b off, Fu = some ⟨b, off, none⟩ → 0 < yx.fl.length → b ≠ g25) := Lib.hid (fun b off e hn_ e2 => by have k1 := rd_lt OU.out (by decide) hn_ e; omega)
                  have NVg25 : Hid (∀ b off, Fv = some ⟨b, off, none⟩ → 0 < yy.fl.length → b ≠ g25) := Lib.hid (fun b off e hn_ e2 => by have k1 := rd_lt OV.out (by decide) hn_ e; omega)
                  replace OU := Lib.hid (OU.out.alloc zO)
                  replace OV := Lib.hid (OV.out.alloc zO)
                  replace K26 := Lib.hid (K26.out.alloc zO)
                  replace bq := Lib.hid (bl_alloc bq.out zO)
                  rw [hg25]
                  generalize (wq.alloc zO) = wq at *
                  refine hK.out _ _ (KEEP.out _ bq.out) (fun hHeld4 => ?_)
                  clear hHeld3 hK KK0
                  try simp only [Act.put]
                  try simp only [List.setIfInBounds_toArray]
                  try simp only [List.set_cons_succ]
                  try simp only [List.set_cons_zero]
                  have HNE : Hid (W0.heap.size ≤ g25 ∧ W0.heap.size ≤ g26 ∧ g25 ≠ g26) := Lib.hid (by first | exact ⟨Gg25.out.1, Gg26.out, Gg25.out.2⟩ | exact ⟨Gg25.out, Gg26.out.1, Gg26.out.2⟩)
                  refine wpAnyH_ready (rs := [6]) (by kernel_rfl) (by simp) ?_
                  refine AllReadyH.cons rfl (fun KK0 hK => ?_) AllReadyH.nil
                  rw [if_pos (by kernel_rfl)]
                  refine store_row2 41 (.tmp 25) (.tmp 96) rfl g25 _ rfl rfl _ _ K25.out (by kernel_rfl) rfl (by simp [Value.oneCell']) (fun wn kb ON => ?_)
                  replace K25 := Lib.hid kb
                  replace K26 := Lib.hid (ON.blk K26.out (fun e => HNE.out.2.2 e.symm))
                  replace OU := Lib.hid (rd_only OU.out ON (fun b off e hn_ => NUg25.out b off e hn_))
                  replace OV := Lib.hid (rd_only OV.out ON (fun b off e hn_ => NVg25.out b off e hn_))
                  replace bq := Lib.hid (bq.out.trans (ON.below bq.out.size (fun k hk e => by have := HNE.out; omega)))
                  clear ON kb
                  refine hK.out _ _ (KEEP.out _ bq.out) (fun hHeld5 => ?_)
                  clear hHeld4 hK KK0
                  try simp only [Act.put]
                  try simp only [List.setIfInBounds_toArray]
                  try simp only [List.set_cons_succ]
                  try simp only [List.set_cons_zero]
                  refine wpAnyH_ready (rs := [7]) (by kernel_rfl) (by simp) ?_
                  refine AllReadyH.cons rfl (fun KK0 hK => ?_) AllReadyH.nil
                  rw [if_pos (by kernel_rfl)]
                  refine store_row2 41 (.tmp 26) (.tmp 98) rfl g26 _ rfl rfl _ _ K26.out (by kernel_rfl) rfl (by simp [Value.oneCell']) (fun wm kb ON => ?_)
                  replace K26 := Lib.hid kb
                  replace K25 := Lib.hid (ON.blk K25.out (fun e => HNE.out.2.2 e))
                  replace OU := Lib.hid (rd_only OU.out ON (fun b off e hn_ => NUg26.out b off e hn_))
                  replace OV := Lib.hid (rd_only OV.out ON (fun b off e hn_ => NVg26.out b off e hn_))
                  replace bq := Lib.hid (bq.out.trans (ON.below bq.out.size (fun k hk e => by have := HNE.out; omega)))
                  clear ON kb
                  refine hK.out _ _ (KEEP.out _ bq.out) (fun hHeld6 => ?_)
                  clear hHeld5 hK KK0
                  refine wpAnyH_done (by kernel_rfl) ?_ _
                  try simp only [Act.put, List.getElem_toArray, List.getElem_cons_succ, List.getElem_cons_zero]
                  try simp only [Act.put]
                  try simp only [List.setIfInBounds_toArray]
                  try simp only [List.set_cons_succ]
                  try simp only [List.set_cons_zero]
                  go_wp2_with fail
                  go_meet
                  case rel => exact ⟨g25, g26, Fu, fu, Fv, fv, rfl, rfl, K25, K26, OU, OV, bq, HNE, NUg26, NVg26⟩
                refine AllReadyH.cons rfl (fun KK0 hK => ?_) AllReadyH.nil
                · go_simp
                  obtain ⟨g25, hg25⟩ : ∃ g, wq.heap.size = g := ⟨_, rfl⟩
                  have K25 : Hid (Blk (wq.alloc zO) g25 41 #[.int .i64 0, .int .i64 0, .int .i64 0, .slice none 0 0, .slice none 0 0, .slice none 0 0, .slice none 0 0, .slice none 0 0, .slice none 0 0, .int .i64 0, .int .i64 0]) := Lib.hid (by rw [← hg25]; exact Blk.new _ _ _)
                  have Gg25 : Hid (W0.heap.size ≤ g25 ∧ g25 ≠ g26) := Lib.hid (by rw [← hg25]; exact ⟨bq.out.size, fun e => by have := K26.out.lt; omega⟩)
                  have NUg25 : Hid (∀ b off, Fu = some ⟨b, off, none⟩ → 0 < yx.fl.length → b ≠ g25) := Lib.hid (fun b off e hn_ e2 => by have k1 := rd_lt OU.out (by decide) hn_ e; omega)
                  replace OU := Lib.hid (OU.out.alloc zO)
                  replace K26 := Lib.hid (K26.out.alloc zO)
                  replace bq := Lib.hid (bl_alloc bq.out zO)
                  rw [hg25]
                  generalize (wq.alloc zO) = wq at *
                  refine hK.out _ _ (KEEP.out _ bq.out) (fun hHeld3 => ?_)
                  clear hHeld2 hK KK0
                  try simp only [Act.put]
                  try simp only [List.setIfInBounds_toArray]
                  try simp only [List.set_cons_succ]
                  try simp only [List.set_cons_zero]
                  refine wpAnyH_ready (rs := [3]) (by kernel_rfl) (by simp) ?_
                  refine AllReadyH.cons rfl (fun KK0 hK => ?_) AllReadyH.nil
                  rw [if_pos (by kernel_rfl)]
                  refine Model.calls_wp _ _ _ (HRV.out _ bq.out) (Model.run_call _ _ _ rfl rfl Tryz.func16 (by kernel_rfl) (by kernel_rfl) _ (by kernel_rfl)) ?_
                  rintro e wq ⟨Fv, fv, rfl, of_, b_⟩
                  refine ⟨_, rfl, ?_⟩
                  have NVg25 : Hid (∀ b off, Fv = some ⟨b, off, none⟩ → 0 < yy.fl.length → b ≠ g25) := Lib.hid (fun b off e _ e2 => by have k1 := of_.base b (by rw [e]; rfl); have k2 := K25.out.lt; omega)
                  have NVg26 : Hid (∀ b off, Fv = some ⟨b, off, none⟩ → 0 < yy.fl.length → b ≠ g26) := Lib.hid (fun b off e _ e2 => by have k1 := of_.base b (by rw [e]; rfl); have k2 := K26.out.lt; omega)
                  replace OU := Lib.hid (OU.out.below b_)
                  replace K25 := Lib.hid (K25.out.below b_)
                  replace K26 := Lib.hid (K26.out.below b_)
                  have rd_ := (own_cap of_).2.2
                  have OV := Lib.hid rd_
                  clear of_ rd_
                  replace bq := Lib.hid (bl_trans bq.out b_)
                  clear b_
                  refine hK.out _ _ (KEEP.out _ bq.out) (fun hHeld4 => ?_)
                  clear hHeld3 hK KK0
                  try simp only [Act.put]
                  try simp only [List.setIfInBounds_toArray]
                  try simp only [List.set_cons_succ]
                  try simp only [List.set_cons_zero]
                  have HNE : Hid (W0.heap.size ≤ g25 ∧ W0.heap.size ≤ g26 ∧ g25 ≠ g26) := Lib.hid (by first | exact ⟨Gg25.out.1, Gg26.out, Gg25.out.2⟩ | exact ⟨Gg25.out, Gg26.out.1, Gg26.out.2⟩)
                  refine wpAnyH_ready (rs := [6]) (by kernel_rfl) (by simp) ?_
                  refine AllReadyH.cons rfl (fun KK0 hK => ?_) AllReadyH.nil
                  rw [if_pos (by kernel_rfl)]
                  refine store_row2 41 (.tmp 25) (.tmp 96) rfl g25 _ rfl rfl _ _ K25.out (by kernel_rfl) rfl (by simp [Value.oneCell']) (fun wn kb ON => ?_)
                  replace K25 := Lib.hid kb
                  replace K26 := Lib.hid (ON.blk K26.out (fun e => HNE.out.2.2 e.symm))
                  replace OU := Lib.hid (rd_only OU.out ON (fun b off e hn_ => NUg25.out b off e hn_))
                  replace OV := Lib.hid (rd_only OV.out ON (fun b off e hn_ => NVg25.out b off e hn_))
                  replace bq := Lib.hid (bq.out.trans (ON.below bq.out.size (fun k hk e => by have := HNE.out; omega)))
                  clear ON kb
                  refine hK.out _ _ (KEEP.out _ bq.out) (fun hHeld5 => ?_)
                  clear hHeld4 hK KK0
                  try simp only [Act.put]
                  try simp only [List.setIfInBounds_toArray]
                  try simp only [List.set_cons_succ]
                  try simp only [List.set_cons_zero]
                  refine wpAnyH_ready (rs := [7]) (by kernel_rfl) (by simp) ?_
                  refine AllReadyH.cons rfl (fun KK0 hK => ?_) AllReadyH.nil
                  rw [if_pos (by kernel_rfl)]
                  refine store_row2 41 (.tmp 26) (.tmp 98) rfl g26 _ rfl rfl _ _ K26.out (by kernel_rfl) rfl (by simp [Value.oneCell']) (fun wm kb ON => ?_)
                  replace K26 := Lib.hid kb
                  replace K25 := Lib.hid (ON.blk K25.out (fun e => HNE.out.2.2 e))
                  replace OU := Lib.hid (rd_only OU.out ON (fun b off e hn_ => NUg26.out b off e hn_))
                  replace OV := Lib.hid (rd_only OV.out ON (fun b off e hn_ => NVg26.out b off e hn_))
                  replace bq := Lib.hid (bq.out.trans (ON.below bq.out.size (fun k hk e => by have := HNE.out; omega)))
                  clear ON kb
                  refine hK.out _ _ (KEEP.out _ bq.out) (fun hHeld6 => ?_)
                  clear hHeld5 hK KK0
                  refine wpAnyH_done (by kernel_rfl) ?_ _
                  try simp only [Act.put, List.getElem_toArray, List.getElem_cons_succ, List.getElem_cons_zero]
                  try simp only [Act.put]
                  try simp only [List.setIfInBounds_toArray]
                  try simp only [List.set_cons_succ]
                  try simp only [List.set_cons_zero]
                  go_wp2_with fail
                  go_meet
                  case rel => exact ⟨g25, g26, Fu, fu, Fv, fv, rfl, rfl, K25, K26, OU, OV, bq, HNE, NUg26, NVg26⟩
              refine AllReadyH.cons rfl (fun KK0 hK => ?_) AllReadyH.nil
              · go_simp
                obtain ⟨g25, hg25⟩ : ∃ g, wq.heap.size = g := ⟨_, rfl⟩
                have K25 : Hid (Blk (wq.alloc zO) g25 41 #[.int .i64 0, .int .i64 0, .int .i64 0, .slice none 0 0, .slice none 0 0, .slice none 0 0, .slice none 0 0, .slice none 0 0, .slice none 0 0, .int .i64 0, .int .i64 0]) := Lib.hid (by rw [← hg25]; exact Blk.new _ _ _)
                have Gg25 : Hid (W0.heap.size ≤ g25 ∧ g25 ≠ g26) := Lib.hid (by rw [← hg25]; exact ⟨bq.out.size, fun e => by have := K26.out.lt; omega⟩)
                replace K26 := Lib.hid (K26.out.alloc zO)
                replace bq := Lib.hid (bl_alloc bq.out zO)
                rw [hg25]
                generalize (wq.alloc zO) = wq at *
                refine hK.out _ _ (KEEP.out _ bq.out) (fun hHeld2 => ?_)
                clear hHeld1 hK KK0
                try simp only [Act.put]
                try simp only [List.setIfInBounds_toArray]
                try simp only [List.set_cons_succ]
                try simp only [List.set_cons_zero]
                refine wpAnyH_ready (rs := [1]) (by kernel_rfl) (by simp) ?_
                refine AllReadyH.cons rfl (fun KK0 hK => ?_) AllReadyH.nil
                rw [if_pos (by kernel_rfl)]
                refine Model.calls_wp _ _ _ (HRU.out _ bq.out) (Model.run_call _ _ _ rfl rfl Tryz.func16 (by kernel_rfl) (by kernel_rfl) _ (by kernel_rfl)) ?_
                rintro e wq ⟨Fu, fu, rfl, of_, b_⟩
                refine ⟨_, rfl, ?_⟩
                have NUg25 : Hid (∀ b off, Fu = some ⟨b, off, none⟩ → 0 < yx.fl.length → b ≠ g25) := Lib.hid (fun b off e _ e2 => by have k1 := of_.base b (by rw [e]; rfl); have k2 := K25.out.lt; omega)
                have NUg26 : Hid (∀ b off, Fu = some ⟨b, off, none⟩ → 0 < yx.fl.length → b ≠ g26) := Lib.hid (fun b off e _ e2 => by have k1 := of_.base b (by rw [e]; rfl); have k2 := K26.out.lt; omega)
                replace K25 := Lib.hid (K25.out.below b_)
                replace K26 := Lib.hid (K26.out.below b_)
                have rd_ := (own_cap of_).2.2
                have OU := Lib.hid rd_
                clear of_ rd_
                replace bq := Lib.hid (bl_trans bq.out b_)
                clear b_
                refine hK.out _ _ (KEEP.out _ bq.out) (fun hHeld3 => ?_)
                clear hHeld2 hK KK0
                try simp only [Act.put]
                try simp only [List.setIfInBounds_toArray]
                try simp only [List.set_cons_succ]
                try simp only [List.set_cons_zero]
                refine wpAnyH_ready (rs := [3]) (by kernel_rfl) (by simp) ?_
                refine AllReadyH.cons rfl (fun KK0 hK => ?_) AllReadyH.nil
                rw [if_pos (by kernel_rfl)]
                refine Model.calls_wp _ _ _ (HRV.out _ bq.out) (Model.run_call _ _ _ rfl rfl Tryz.func16 (by kernel_rfl) (by kernel_rfl) _ (by kernel_rfl)) ?_
                rintro e wq ⟨Fv, fv, rfl, of_, b_⟩
                refine ⟨_, rfl, ?_⟩
                have NVg25 : Hid (∀ b off, Fv = some ⟨b, off, none⟩ → 0 < yy.fl.length → b ≠ g25) := Lib.hid (fun b off e _ e2 => by have k1 := of_.base b (by rw [e]; rfl); have k2 := K25.out.lt; omega)
                have NVg26 : Hid (∀ b off, Fv = some ⟨b, off, none⟩ → 0 < yy.fl.length → b ≠ g26) := Lib.hid (fun b off e _ e2 => by have k1 := of_.base b (by rw [e]; rfl); have k2 := K26.out.lt; omega)
                replace OU := Lib.hid (OU.out.below b_)
                replace K25 := Lib.hid (K25.out.below b_)
                replace K26 := Lib.hid (K26.out.below b_)
                have rd_ := (own_cap of_).2.2
                have OV := Lib.hid rd_
                clear of_ rd_
                replace bq := Lib.hid (bl_trans bq.out b_)
                clear b_
                refine hK.out _ _ (KEEP.out _ bq.out) (fun hHeld4 => ?_)
                clear hHeld3 hK KK0
                try simp only [Act.put]
                try simp only [List.setIfInBounds_toArray]
                try simp only [List.set_cons_succ]
                try simp only [List.set_cons_zero]
                have HNE : Hid (W0.heap.size ≤ g25 ∧ W0.heap.size ≤ g26 ∧ g25 ≠ g26) := Lib.hid (by first | exact ⟨Gg25.out.1, Gg26.out, Gg25.out.2⟩ | exact ⟨Gg25.out, Gg26.out.1, Gg26.out.2⟩)
                refine wpAnyH_ready (rs := [6]) (by kernel_rfl) (by simp) ?_
                refine AllReadyH.cons rfl (fun KK0 hK => ?_) AllReadyH.nil
                rw [if_pos (by kernel_rfl)]
                refine store_row2 41 (.tmp 25) (.tmp 96) rfl g25 _ rfl rfl _ _ K25.out (by kernel_rfl) rfl (by simp [Value.oneCell']) (fun wn kb ON => ?_)
                replace K25 := Lib.hid kb
                replace K26 := Lib.hid (ON.blk K26.out (fun e => HNE.out.2.2 e.symm))
                replace OU := Lib.hid (rd_only OU.out ON (fun b off e hn_ => NUg25.out b off e hn_))
                replace OV := Lib.hid (rd_only OV.out ON (fun b off e hn_ => NVg25.out b off e hn_))
                replace bq := Lib.hid (bq.out.trans (ON.below bq.out.size (fun k hk e => by have := HNE.out; omega)))
                clear ON kb
                refine hK.out _ _ (KEEP.out _ bq.out) (fun hHeld5 => ?_)
                clear hHeld4 hK KK0
                try simp only [Act.put]
                try simp only [List.setIfInBounds_toArray]
                try simp only [List.set_cons_succ]
                try simp only [List.set_cons_zero]
                refine wpAnyH_ready (rs := [7]) (by kernel_rfl) (by simp) ?_
                refine AllReadyH.cons rfl (fun KK0 hK => ?_) AllReadyH.nil
                rw [if_pos (by kernel_rfl)]
                refine store_row2 41 (.tmp 26) (.tmp 98) rfl g26 _ rfl rfl _ _ K26.out (by kernel_rfl) rfl (by simp [Value.oneCell']) (fun wm kb ON => ?_)
                replace K26 := Lib.hid kb
                replace K25 := Lib.hid (ON.blk K25.out (fun e => HNE.out.2.2 e))
                replace OU := Lib.hid (rd_only OU.out ON (fun b off e hn_ => NUg26.out b off e hn_))
                replace OV := Lib.hid (rd_only OV.out ON (fun b off e hn_ => NVg26.out b off e hn_))
                replace bq := Lib.hid (bq.out.trans (ON.below bq.out.size (fun k hk e => by have := HNE.out; omega)))
                clear ON kb
                refine hK.out _ _ (KEEP.out _ bq.out) (fun hHeld6 => ?_)
                clear hHeld5 hK KK0
                refine wpAnyH_done (by kernel_rfl) ?_ _
                try simp only [Act.put, List.getElem_toArray, List.getElem_cons_succ, List.getElem_cons_zero]
                try simp only [Act.put]
                try simp only [List.setIfInBounds_toArray]
                try simp only [List.set_cons_succ]
                try simp only [List.set_cons_zero]
                go_wp2_with fail
                go_meet
                case rel => exact ⟨g25, g26, Fu, fu, Fv, fv, rfl, rfl, K25, K26, OU, OV, bq, HNE, NUg26, NVg26⟩
          case rest =>
            obtain ⟨g25, g26, Fu, fu, Fv, fv, rfl, rfl, KU, KV, OU, OV, bq, HNE, NU, NV⟩ := hcut
            have u0 := KU.out.cell 0 _ rfl
            have v0 := KV.out.cell 0 _ rfl
            have vf := KV.out.frozen 0
            obtain ⟨W2, hW2⟩ : ∃ W2, wc.setCell ⟨g26, 0, none⟩ (.int .i64 T9.who) = W2 := ⟨_, rfl⟩
            have KU2 : Hid (Blk W2 g25 41 #[.int .i64 T9.who, .int .i64 T9.snap, .int .i64 T9.pc, .slice yx.R T9.regs.length yx.rc, .slice yx.P T9.path.length yx.pc, .slice yx.D T9.reads.length yx.dc, .slice yx.L T9.log.list.length yx.lc, .slice yx.M T9.log.marks.length yx.mc, .slice Fu yx.fl.length fu, .int .i64 T9.kind, .int .i64 T9.why]) := Lib.hid (by rw [← hW2]; exact KU.out.beside (fun e => HNE.out.2.2 e.symm) 0 _)
            have KV2 : Hid (Blk W2 g26 41 #[.int .i64 T9.who, .int .i64 T9.snap, .int .i64 T9.pc, .slice yy.R T9.regs.length yy.rc, .slice yy.P T9.path.length yy.pc, .slice yy.D T9.reads.length yy.dc, .slice yy.L T9.log.list.length yy.lc, .slice yy.M T9.log.marks.length yy.mc, .slice Fv yy.fl.length fv, .int .i64 T9.kind, .int .i64 T9.why]) := Lib.hid (by rw [← hW2]; exact KV.out.set_ 0 (.int .i64 T9.who))
            have OU2 : Hid (Rd W2 4 Fu yx.fl.length (frs yx.fl)) := Lib.hid (by rw [← hW2]; exact rd_only OU.out (Only.set_ (S := fun k => k = g26) g26 0 _ rfl) (fun b off e hn_ => NU.out b off e hn_))
            have OV2 : Hid (Rd W2 4 Fv yy.fl.length (frs yy.fl)) := Lib.hid (by rw [← hW2]; exact rd_only OV.out (Only.set_ (S := fun k => k = g26) g26 0 _ rfl) (fun b off e hn_ => NV.out b off e hn_))
            have b2 : Hid (Below W0.heap.size W0 W2) := Lib.hid (by rw [← hW2]; exact bl_set bq.out HNE.out.2.1 _)
            go_upto_region 13 with fail
            try rw [hW2]
            clear u0 v0 vf hW2 KU KV OU OV bq NU NV
            have SP := SPre.mk_ (HA0.out.below bb.out) hnc HLM.out (by omega) (HH0.out.below bb.out) (by omega) (HR0.out.below bb.out) (by omega) HOx.out HI9.out
            have H8 : Hid (∀ f ∈ T9.frames, f.regs.length ≤ 1000000) := Lib.hid (frames8 HOx.out SP.r8)
            clear SP
            have KWz : Hid (Blk W2 w.heap.size 51 #[.slice HA hn hc, .slice RA rn rc]) := Lib.hid (KW.out.below b2.out)
            have KZz : Hid (Blk W2 v6.heap.size 34 #[.int .i64 T9.who, .int .i64 T9.snap, .int .i64 T9.pc, .slice yz.R T9.regs.length yz.rc, .slice yz.P T9.path.length yz.pc, .slice yz.D T9.reads.length yz.dc, .slice yz.L T9.log.list.length yz.lc, .slice yz.M T9.log.marks.length yz.mc, .slice yz.F yz.fl.length yz.fc, .int .i64 T9.kind, .int .i64 T9.why]) := Lib.hid (HKz.out.below b2.out)
            have HCPz := Lib.hid (HCP.out.below b2.out)
            have HHz := Lib.hid (HH0.out.below (bl_trans bb.out b2.out))
            have TU : Hid (TRd W2 T9 { yx with F := Fu, fc := fu }) := Lib.hid (trd_frames HOx.out b2.out OU2.out)
            have TV : Hid (TRd W2 T9 { yy with F := Fv, fc := fv }) := Lib.hid (trd_same (o := other) (trd_frames HOy.out b2.out OV2.out))
            have TZ : Hid (TRd W2 T9 yz) := Lib.hid (HOz.out.below b2.out)
            have SMz := Lib.hid (HI9.out.small HOz.out)
            have HSA : Hid (∀ W : World, Below W2.heap.size W2 W → Calls Tryz.prog 15 #[.agg #[.int .i64 T9.who, .int .i64 T9.snap, .int .i64 T9.pc, .slice yx.R T9.regs.length yx.rc, .slice yx.P T9.path.length yx.pc, .slice yx.D T9.reads.length yx.dc, .slice yx.L T9.log.list.length yx.lc, .slice yx.M T9.log.marks.length yx.mc, .slice Fu yx.fl.length fu, .int .i64 T9.kind, .int .i64 T9.why], .agg #[.int .i64 T9.who, .int .i64 T9.snap, .int .i64 T9.pc, .slice yy.R T9.regs.length yy.rc, .slice yy.P T9.path.length yy.pc, .slice yy.D T9.reads.length yy.dc, .slice yy.L T9.log.list.length yy.lc, .slice yy.M T9.log.marks.length yy.mc, .slice Fv yy.fl.length fv, .int .i64 T9.kind, .int .i64 T9.why]] W (RetB W true)) := Lib.hid (fun W hW => same11 T9 { yx with F := Fu, fc := fu } { yy with F := Fv, fc := fv } W (TU.out.below hW) (TV.out.below hW) (by rw [SMx.out.regs]; decide) (Nat.le_trans SMx.out.path (by decide)) (Nat.le_trans SMx.out.reads (by decide)) (Nat.le_trans SMx.out.list (by decide)) (Nat.le_trans SMx.out.marks (by decide)) (Nat.le_trans SMx.out.fl (by decide)) H8.out)
            have HSB : Hid (∀ (W : World) (F : Option Addr) (fc : Nat), Below W2.heap.size W2 W → Rd W 4 F yz.fl.length (frs yz.fl) → Calls Tryz.prog 15 #[.agg #[.int .i64 T9.who, .int .i64 T9.snap, .int .i64 T9.pc, .slice yx.R T9.regs.length yx.rc, .slice yx.P T9.path.length yx.pc, .slice yx.D T9.reads.length yx.dc, .slice yx.L T9.log.list.length yx.lc, .slice yx.M T9.log.marks.length yx.mc, .slice Fu yx.fl.length fu, .int .i64 T9.kind, .int .i64 T9.why], .agg #[.int .i64 T9.who, .int .i64 T9.snap, .int .i64 T9.pc, .slice yz.R T9.regs.length yz.rc, .slice yz.P T9.path.length yz.pc, .slice yz.D T9.reads.length yz.dc, .slice yz.L T9.log.list.length yz.lc, .slice yz.M T9.log.marks.length yz.mc, .slice F yz.fl.length fc, .int .i64 T9.kind, .int .i64 T9.why]] W (RetB W true)) := Lib.hid (fun W F fc hW hF => same11 T9 { yx with F := Fu, fc := fu } { yz with F := F, fc := fc } W (TU.out.below hW) (trd_frames TZ.out hW hF) (by rw [SMx.out.regs]; decide) (Nat.le_trans SMx.out.path (by decide)) (Nat.le_trans SMx.out.reads (by decide)) (Nat.le_trans SMx.out.list (by decide)) (Nat.le_trans SMx.out.marks (by decide)) (Nat.le_trans SMx.out.fl (by decide)) H8.out)
            have HRZ : Hid (∀ W : World, Below W2.heap.size W2 W → Calls Tryz.prog 16 #[.agg #[.int .i64 T9.who, .int .i64 T9.snap, .int .i64 T9.pc, .slice yz.R T9.regs.length yz.rc, .slice yz.P T9.path.length yz.pc, .slice yz.D T9.reads.length yz.dc, .slice yz.L T9.log.list.length yz.lc, .slice yz.M T9.log.marks.length yz.mc, .slice yz.F yz.fl.length yz.fc, .int .i64 T9.kind, .int .i64 T9.why]] W (fun e w' => ∃ (F : Option Addr) (fc : Nat), e = .returned (.agg #[.int .i64 T9.who, .int .i64 T9.snap, .int .i64 T9.pc, .slice yz.R T9.regs.length yz.rc, .slice yz.P T9.path.length yz.pc, .slice yz.D T9.reads.length yz.dc, .slice yz.L T9.log.list.length yz.lc, .slice yz.M T9.log.marks.length yz.mc, .slice F yz.fl.length fc, .int .i64 T9.kind, .int .i64 T9.why]) ∧ Own W w' 98 4 (.slice F yz.fl.length fc) yz.fl.length (frs yz.fl) ∧ Below W.heap.size W w')) := Lib.hid (fun W hW => (ref_t T9 yz W (TZ.out.below hW) (Nat.le_trans SMz.out.fl (by decide))).mono (fun e w' ⟨F, fc, h1, h2, h3⟩ => ⟨F, fc, h1, h2, h3⟩))
            have KEEQ : Hid (∀ W, Below W2.heap.size W2 W → W.cell? ⟨w.heap.size, 0, none⟩ = some (.slice HA hn hc) ∧ W.cell? ⟨g25, 0, none⟩ = some (.int .i64 T9.who) ∧ W.cell? ⟨g25, 1, none⟩ = some (.int .i64 T9.snap) ∧ W.cell? ⟨g25, 2, none⟩ = some (.int .i64 T9.pc) ∧ W.cell? ⟨g25, 3, none⟩ = some (.slice yx.R T9.regs.length yx.rc) ∧ W.cell? ⟨g25, 4, none⟩ = some (.slice yx.P T9.path.length yx.pc) ∧ W.cell? ⟨g25, 5, none⟩ = some (.slice yx.D T9.reads.length yx.dc) ∧ W.cell? ⟨g25, 6, none⟩ = some (.slice yx.L T9.log.list.length yx.lc) ∧ W.cell? ⟨g25, 7, none⟩ = some (.slice yx.M T9.log.marks.length yx.mc) ∧ W.cell? ⟨g25, 8, none⟩ = some (.slice Fu yx.fl.length fu) ∧ W.cell? ⟨g25, 9, none⟩ = some (.int .i64 T9.kind) ∧ W.cell? ⟨g25, 10, none⟩ = some (.int .i64 T9.why) ∧ W.cell? ⟨g26, 0, none⟩ = some (.int .i64 T9.who) ∧ W.cell? ⟨g26, 1, none⟩ = some (.int .i64 T9.snap) ∧ W.cell? ⟨g26, 2, none⟩ = some (.int .i64 T9.pc) ∧ W.cell? ⟨g26, 3, none⟩ = some (.slice yy.R T9.regs.length yy.rc) ∧ W.cell? ⟨g26, 4, none⟩ = some (.slice yy.P T9.path.length yy.pc) ∧ W.cell? ⟨g26, 5, none⟩ = some (.slice yy.D T9.reads.length yy.dc) ∧ W.cell? ⟨g26, 6, none⟩ = some (.slice yy.L T9.log.list.length yy.lc) ∧ W.cell? ⟨g26, 7, none⟩ = some (.slice yy.M T9.log.marks.length yy.mc) ∧ W.cell? ⟨g26, 8, none⟩ = some (.slice Fv yy.fl.length fv) ∧ W.cell? ⟨g26, 9, none⟩ = some (.int .i64 T9.kind) ∧ W.cell? ⟨g26, 10, none⟩ = some (.int .i64 T9.why) ∧ W.cell? ⟨v6.heap.size, 0, none⟩ = some (.int .i64 T9.who) ∧ W.cell? ⟨v6.heap.size, 1, none⟩ = some (.int .i64 T9.snap) ∧ W.cell? ⟨v6.heap.size, 2, none⟩ = some (.int .i64 T9.pc) ∧ W.cell? ⟨v6.heap.size, 3, none⟩ = some (.slice yz.R T9.regs.length yz.rc) ∧ W.cell? ⟨v6.heap.size, 4, none⟩ = some (.slice yz.P T9.path.length yz.pc) ∧ W.cell? ⟨v6.heap.size, 5, none⟩ = some (.slice yz.D T9.reads.length yz.dc) ∧ W.cell? ⟨v6.heap.size, 6, none⟩ = some (.slice yz.L T9.log.list.length yz.lc) ∧ W.cell? ⟨v6.heap.size, 7, none⟩ = some (.slice yz.M T9.log.marks.length yz.mc) ∧ W.cell? ⟨v6.heap.size, 8, none⟩ = some (.slice yz.F yz.fl.length yz.fc) ∧ W.cell? ⟨v6.heap.size, 9, none⟩ = some (.int .i64 T9.kind) ∧ W.cell? ⟨v6.heap.size, 10, none⟩ = some (.int .i64 T9.why)) := Lib.hid (fun W hW => by have k0 := KWz.out.below hW; have k1 := KU2.out.below hW; have k2 := KV2.out.below hW; have k3 := KZz.out.below hW; exact ⟨k0.cell 0 _ rfl, k1.cell 0 _ rfl, k1.cell 1 _ rfl, k1.cell 2 _ rfl, k1.cell 3 _ rfl, k1.cell 4 _ rfl, k1.cell 5 _ rfl, k1.cell 6 _ rfl, k1.cell 7 _ rfl, k1.cell 8 _ rfl, k1.cell 9 _ rfl, k1.cell 10 _ rfl, k2.cell 0 _ rfl, k2.cell 1 _ rfl, k2.cell 2 _ rfl, k2.cell 3 _ rfl, k2.cell 4 _ rfl, k2.cell 5 _ rfl, k2.cell 6 _ rfl, k2.cell 7 _ rfl, k2.cell 8 _ rfl, k2.cell 9 _ rfl, k2.cell 10 _ rfl, k3.cell 0 _ rfl, k3.cell 1 _ rfl, k3.cell 2 _ rfl, k3.cell 3 _ rfl, k3.cell 4 _ rfl, k3.cell 5 _ rfl, k3.cell 6 _ rfl, k3.cell 7 _ rfl, k3.cell 8 _ rfl, k3.cell 9 _ rfl, k3.cell 10 _ rfl⟩)
            have bq : Hid (Below W2.heap.size W2 W2.drew) := Lib.hid (Below.refl _ _).drew
            try simp only [List.append_eq, List.cons_append, List.nil_append]
            refine wp_region_held_drew (S := fun (W : World) => W.cell? ⟨w.heap.size, 0, none⟩ = some (.slice HA hn hc) ∧ W.cell? ⟨g25, 0, none⟩ = some (.int .i64 T9.who) ∧ W.cell? ⟨g25, 1, none⟩ = some (.int .i64 T9.snap) ∧ W.cell? ⟨g25, 2, none⟩ = some (.int .i64 T9.pc) ∧ W.cell? ⟨g25, 3, none⟩ = some (.slice yx.R T9.regs.length yx.rc) ∧ W.cell? ⟨g25, 4, none⟩ = some (.slice yx.P T9.path.length yx.pc) ∧ W.cell? ⟨g25, 5, none⟩ = some (.slice yx.D T9.reads.length yx.dc) ∧ W.cell? ⟨g25, 6, none⟩ = some (.slice yx.L T9.log.list.length yx.lc) ∧ W.cell? ⟨g25, 7, none⟩ = some (.slice yx.M T9.log.marks.length yx.mc) ∧ W.cell? ⟨g25, 8, none⟩ = some (.slice Fu yx.fl.length fu) ∧ W.cell? ⟨g25, 9, none⟩ = some (.int .i64 T9.kind) ∧ W.cell? ⟨g25, 10, none⟩ = some (.int .i64 T9.why) ∧ W.cell? ⟨g26, 0, none⟩ = some (.int .i64 T9.who) ∧ W.cell? ⟨g26, 1, none⟩ = some (.int .i64 T9.snap) ∧ W.cell? ⟨g26, 2, none⟩ = some (.int .i64 T9.pc) ∧ W.cell? ⟨g26, 3, none⟩ = some (.slice yy.R T9.regs.length yy.rc) ∧ W.cell? ⟨g26, 4, none⟩ = some (.slice yy.P T9.path.length yy.pc) ∧ W.cell? ⟨g26, 5, none⟩ = some (.slice yy.D T9.reads.length yy.dc) ∧ W.cell? ⟨g26, 6, none⟩ = some (.slice yy.L T9.log.list.length yy.lc) ∧ W.cell? ⟨g26, 7, none⟩ = some (.slice yy.M T9.log.marks.length yy.mc) ∧ W.cell? ⟨g26, 8, none⟩ = some (.slice Fv yy.fl.length fv) ∧ W.cell? ⟨g26, 9, none⟩ = some (.int .i64 T9.kind) ∧ W.cell? ⟨g26, 10, none⟩ = some (.int .i64 T9.why) ∧ W.cell? ⟨v6.heap.size, 0, none⟩ = some (.int .i64 T9.who) ∧ W.cell? ⟨v6.heap.size, 1, none⟩ = some (.int .i64 T9.snap) ∧ W.cell? ⟨v6.heap.size, 2, none⟩ = some (.int .i64 T9.pc) ∧ W.cell? ⟨v6.heap.size, 3, none⟩ = some (.slice yz.R T9.regs.length yz.rc) ∧ W.cell? ⟨v6.heap.size, 4, none⟩ = some (.slice yz.P T9.path.length yz.pc) ∧ W.cell? ⟨v6.heap.size, 5, none⟩ = some (.slice yz.D T9.reads.length yz.dc) ∧ W.cell? ⟨v6.heap.size, 6, none⟩ = some (.slice yz.L T9.log.list.length yz.lc) ∧ W.cell? ⟨v6.heap.size, 7, none⟩ = some (.slice yz.M T9.log.marks.length yz.mc) ∧ W.cell? ⟨v6.heap.size, 8, none⟩ = some (.slice yz.F yz.fl.length yz.fc) ∧ W.cell? ⟨v6.heap.size, 9, none⟩ = some (.int .i64 T9.kind) ∧ W.cell? ⟨v6.heap.size, 10, none⟩ = some (.int .i64 T9.why)) (by kernel_rfl) (KEEQ.out _ bq.out) (fun hHeld0 => ?_)
            refine wpAnyH_take (i := 0) (v := .slice HB hn hd) rfl (by kernel_rfl) (by kernel_rfl) (by kernel_rfl) (fun _ _ _ h => h) (Or.inl ⟨by kernel_rfl, fun W hS => by go_simp⟩) hHeld0 ?_
            try simp only [Act.put]
            try simp only [List.setIfInBounds_toArray]
            try simp only [List.set_cons_succ]
            try simp only [List.set_cons_zero]
            refine wpAnyH_take (i := 1) (v := .pointer (some ⟨w.heap.size, 0, none⟩)) rfl (by kernel_rfl) (by kernel_rfl) (by kernel_rfl) (fun _ _ _ h => h) (Or.inl ⟨by kernel_rfl, fun W hS => by go_simp⟩) hHeld0 ?_
            try simp only [Act.put]
            try simp only [List.setIfInBounds_toArray]
            try simp only [List.set_cons_succ]
            try simp only [List.set_cons_zero]
            refine wpAnyH_take (i := 2) (v := .slice HA hn hc) rfl (by kernel_rfl) (by kernel_rfl) (by kernel_rfl) (fun _ _ _ h => h) (Or.inl ⟨by kernel_rfl, fun W hS => by obtain ⟨k_0, k_1, k_2, k_3, k_4, k_5, k_6, k_7, k_8, k_9, k_10, k_11, k_12, k_13, k_14, k_15, k_16, k_17, k_18, k_19, k_20, k_21, k_22, k_23, k_24, k_25, k_26, k_27, k_28, k_29, k_30, k_31, k_32, k_33⟩ := hS; go_simp⟩) hHeld0 ?_
            try simp only [Act.put]
            try simp only [List.setIfInBounds_toArray]
            try simp only [List.set_cons_succ]
            try simp only [List.set_cons_zero]
            refine wpAnyH_ready (rs := [3]) (by kernel_rfl) (by simp) ?_
            refine AllReadyH.cons rfl (fun KK0 hK => ?_) AllReadyH.nil
            rw [if_pos (by kernel_rfl)]
            refine Model.calls_wp 27 #[.slice HB hn hd, .slice HA hn hc] _ (Heap.same_b h h _ _ _ _ _ _ _ true (HCPz.out.below bq.out) (HHz.out.below bq.out) (by omega) (by omega) (by simp)) (Model.run_call _ _ _ rfl rfl Tryz.func27 (by kernel_rfl) (by kernel_rfl) _ (by kernel_rfl)) ?_
            rintro e wq ⟨rfl, b_⟩
            refine ⟨_, rfl, ?_⟩
            replace bq := Lib.hid (bl_trans bq.out b_)
            clear b_
            refine hK.out _ _ (KEEQ.out _ bq.out) (fun hHeld1 => ?_)
            clear hHeld0 hK KK0
            try simp only [Act.put]
            try simp only [List.setIfInBounds_toArray]
            try simp only [List.set_cons_succ]
            try simp only [List.set_cons_zero]
            refine wpAnyH_take (i := 4) (v := .bool true) rfl (by kernel_rfl) (by kernel_rfl) (by kernel_rfl) (fun _ _ _ h => h) (Or.inl ⟨by kernel_rfl, fun W hS => by go_simp⟩) hHeld1 ?_
            try simp only [Act.put]
            try simp only [List.setIfInBounds_toArray]
            try simp only [List.set_cons_succ]
            try simp only [List.set_cons_zero]
            refine wpAnyH_take (i := 5) (v := .int .i64 f2) rfl (by kernel_rfl) (by kernel_rfl) (by kernel_rfl) (fun _ _ _ h => h) (Or.inl ⟨by kernel_rfl, fun W hS => by go_simp⟩) hHeld1 ?_
            try simp only [Act.put]
            try simp only [List.setIfInBounds_toArray]
            try simp only [List.set_cons_succ]
            try simp only [List.set_cons_zero]
            refine wpAnyH_take (i := 6) (v := .int .i64 f2) rfl (by kernel_rfl) (by kernel_rfl) (by kernel_rfl) (fun _ _ _ h => h) (Or.inl ⟨by kernel_rfl, fun W hS => by go_simp⟩) hHeld1 ?_
            try simp only [Act.put]
            try simp only [List.setIfInBounds_toArray]
            try simp only [List.set_cons_succ]
            try simp only [List.set_cons_zero]
            refine wpAnyH_take (i := 7) (v := .bool true) rfl (by kernel_rfl) (by kernel_rfl) (by kernel_rfl) (fun _ _ _ h => h) (Or.inl ⟨by kernel_rfl, fun W hS => by go_simp⟩) hHeld1 ?_
            try simp only [Act.put]
            try simp only [List.setIfInBounds_toArray]
            try simp only [List.set_cons_succ]
            try simp only [List.set_cons_zero]
            refine wpAnyH_take (i := 8) (v := .bool true) rfl (by kernel_rfl) (by kernel_rfl) (by kernel_rfl) (fun _ _ _ h => h) (Or.inl ⟨by kernel_rfl, fun W hS => by go_simp⟩) hHeld1 ?_
            try simp only [Act.put]
            try simp only [List.setIfInBounds_toArray]
            try simp only [List.set_cons_succ]
            try simp only [List.set_cons_zero]
            refine wpAnyH_take (i := 9) (v := .bool true) rfl (by kernel_rfl) (by kernel_rfl) (by kernel_rfl) (fun _ _ _ h => h) (Or.inl ⟨by kernel_rfl, fun W hS => by go_simp⟩) hHeld1 ?_
            try simp only [Act.put]
            try simp only [List.setIfInBounds_toArray]
            try simp only [List.set_cons_succ]
            try simp only [List.set_cons_zero]
            refine wpAnyH_take (i := 10) (v := .int .i64 f2) rfl (by kernel_rfl) (by kernel_rfl) (by kernel_rfl) (fun _ _ _ h => h) (Or.inl ⟨by kernel_rfl, fun W hS => by go_simp⟩) hHeld1 ?_
            try simp only [Act.put]
            try simp only [List.setIfInBounds_toArray]
            try simp only [List.set_cons_succ]
            try simp only [List.set_cons_zero]
            refine wpAnyH_take (i := 11) (v := .int .i64 f2) rfl (by kernel_rfl) (by kernel_rfl) (by kernel_rfl) (fun _ _ _ h => h) (Or.inl ⟨by kernel_rfl, fun W hS => by go_simp⟩) hHeld1 ?_
            try simp only [Act.put]
            try simp only [List.setIfInBounds_toArray]
            try simp only [List.set_cons_succ]
            try simp only [List.set_cons_zero]
            refine wpAnyH_take (i := 12) (v := .bool true) rfl (by kernel_rfl) (by kernel_rfl) (by kernel_rfl) (fun _ _ _ h => h) (Or.inl ⟨by kernel_rfl, fun W hS => by go_simp⟩) hHeld1 ?_
            try simp only [Act.put]
            try simp only [List.setIfInBounds_toArray]
            try simp only [List.set_cons_succ]
            try simp only [List.set_cons_zero]
            refine wpAnyH_take (i := 13) (v := .bool true) rfl (by kernel_rfl) (by kernel_rfl) (by kernel_rfl) (fun _ _ _ h => h) (Or.inl ⟨by kernel_rfl, fun W hS => by go_simp⟩) hHeld1 ?_
            try simp only [Act.put]
            try simp only [List.setIfInBounds_toArray]
            try simp only [List.set_cons_succ]
            try simp only [List.set_cons_zero]
            refine wpAnyH_take (i := 14) (v := .bool true) rfl (by kernel_rfl) (by kernel_rfl) (by kernel_rfl) (fun _ _ _ h => h) (Or.inl ⟨by kernel_rfl, fun W hS => by go_simp⟩) hHeld1 ?_
            try simp only [Act.put]
            try simp only [List.setIfInBounds_toArray]
            try simp only [List.set_cons_succ]
            try simp only [List.set_cons_zero]
            refine wpAnyH_take (i := 15) (v := .int .i64 kk) rfl (by kernel_rfl) (by kernel_rfl) (by kernel_rfl) (fun _ _ _ h => h) (Or.inl ⟨by kernel_rfl, fun W hS => by go_simp⟩) hHeld1 ?_
            try simp only [Act.put]
            try simp only [List.setIfInBounds_toArray]
            try simp only [List.set_cons_succ]
            try simp only [List.set_cons_zero]
            refine wpAnyH_take (i := 16) (v := .int .i64 kk) rfl (by kernel_rfl) (by kernel_rfl) (by kernel_rfl) (fun _ _ _ h => h) (Or.inl ⟨by kernel_rfl, fun W hS => by go_simp⟩) hHeld1 ?_
            try simp only [Act.put]
            try simp only [List.setIfInBounds_toArray]
            try simp only [List.set_cons_succ]
            try simp only [List.set_cons_zero]
            refine wpAnyH_take (i := 17) (v := .bool true) rfl (by kernel_rfl) (by kernel_rfl) (by kernel_rfl) (fun _ _ _ h => h) (Or.inl ⟨by kernel_rfl, fun W hS => by go_simp⟩) hHeld1 ?_
            try simp only [Act.put]
            try simp only [List.setIfInBounds_toArray]
            try simp only [List.set_cons_succ]
            try simp only [List.set_cons_zero]
            refine wpAnyH_take (i := 18) (v := .bool true) rfl (by kernel_rfl) (by kernel_rfl) (by kernel_rfl) (fun _ _ _ h => h) (Or.inl ⟨by kernel_rfl, fun W hS => by go_simp⟩) hHeld1 ?_
            try simp only [Act.put]
            try simp only [List.setIfInBounds_toArray]
            try simp only [List.set_cons_succ]
            try simp only [List.set_cons_zero]
            refine wpAnyH_take (i := 19) (v := .bool true) rfl (by kernel_rfl) (by kernel_rfl) (by kernel_rfl) (fun _ _ _ h => h) (Or.inl ⟨by kernel_rfl, fun W hS => by go_simp⟩) hHeld1 ?_
            try simp only [Act.put]
            try simp only [List.setIfInBounds_toArray]
            try simp only [List.set_cons_succ]
            try simp only [List.set_cons_zero]
            refine wpAnyH_take (i := 20) (v := .int .i64 kk) rfl (by kernel_rfl) (by kernel_rfl) (by kernel_rfl) (fun _ _ _ h => h) (Or.inl ⟨by kernel_rfl, fun W hS => by go_simp⟩) hHeld1 ?_
            try simp only [Act.put]
            try simp only [List.setIfInBounds_toArray]
            try simp only [List.set_cons_succ]
            try simp only [List.set_cons_zero]
            refine wpAnyH_take (i := 21) (v := .int .i64 kk) rfl (by kernel_rfl) (by kernel_rfl) (by kernel_rfl) (fun _ _ _ h => h) (Or.inl ⟨by kernel_rfl, fun W hS => by go_simp⟩) hHeld1 ?_
            try simp only [Act.put]
            try simp only [List.setIfInBounds_toArray]
            try simp only [List.set_cons_succ]
            try simp only [List.set_cons_zero]
            refine wpAnyH_take (i := 22) (v := .bool true) rfl (by kernel_rfl) (by kernel_rfl) (by kernel_rfl) (fun _ _ _ h => h) (Or.inl ⟨by kernel_rfl, fun W hS => by go_simp⟩) hHeld1 ?_
            try simp only [Act.put]
            try simp only [List.setIfInBounds_toArray]
            try simp only [List.set_cons_succ]
            try simp only [List.set_cons_zero]
            refine wpAnyH_take (i := 23) (v := .bool true) rfl (by kernel_rfl) (by kernel_rfl) (by kernel_rfl) (fun _ _ _ h => h) (Or.inl ⟨by kernel_rfl, fun W hS => by go_simp⟩) hHeld1 ?_
            try simp only [Act.put]
            try simp only [List.setIfInBounds_toArray]
            try simp only [List.set_cons_succ]
            try simp only [List.set_cons_zero]
            refine wpAnyH_take (i := 24) (v := .bool true) rfl (by kernel_rfl) (by kernel_rfl) (by kernel_rfl) (fun _ _ _ h => h) (Or.inl ⟨by kernel_rfl, fun W hS => by go_simp⟩) hHeld1 ?_
            try simp only [Act.put]
            try simp only [List.setIfInBounds_toArray]
            try simp only [List.set_cons_succ]
            try simp only [List.set_cons_zero]
            refine wpAnyH_take (i := 25) (v := .agg #[.int .i64 T9.who, .int .i64 T9.snap, .int .i64 T9.pc, .slice yx.R T9.regs.length yx.rc, .slice yx.P T9.path.length yx.pc, .slice yx.D T9.reads.length yx.dc, .slice yx.L T9.log.list.length yx.lc, .slice yx.M T9.log.marks.length yx.mc, .slice Fu yx.fl.length fu, .int .i64 T9.kind, .int .i64 T9.why]) rfl (by kernel_rfl) (by kernel_rfl) (by kernel_rfl) (fun _ _ _ h => h) (Or.inl ⟨by kernel_rfl, fun W hS => by obtain ⟨k_0, k_1, k_2, k_3, k_4, k_5, k_6, k_7, k_8, k_9, k_10, k_11, k_12, k_13, k_14, k_15, k_16, k_17, k_18, k_19, k_20, k_21, k_22, k_23, k_24, k_25, k_26, k_27, k_28, k_29, k_30, k_31, k_32, k_33⟩ := hS; go_simp⟩) hHeld1 ?_
            try simp only [Act.put]
            try simp only [List.setIfInBounds_toArray]
            try simp only [List.set_cons_succ]
            try simp only [List.set_cons_zero]
            refine wpAnyH_take (i := 26) (v := .agg #[.int .i64 T9.who, .int .i64 T9.snap, .int .i64 T9.pc, .slice yy.R T9.regs.length yy.rc, .slice yy.P T9.path.length yy.pc, .slice yy.D T9.reads.length yy.dc, .slice yy.L T9.log.list.length yy.lc, .slice yy.M T9.log.marks.length yy.mc, .slice Fv yy.fl.length fv, .int .i64 T9.kind, .int .i64 T9.why]) rfl (by kernel_rfl) (by kernel_rfl) (by kernel_rfl) (fun _ _ _ h => h) (Or.inl ⟨by kernel_rfl, fun W hS => by obtain ⟨k_0, k_1, k_2, k_3, k_4, k_5, k_6, k_7, k_8, k_9, k_10, k_11, k_12, k_13, k_14, k_15, k_16, k_17, k_18, k_19, k_20, k_21, k_22, k_23, k_24, k_25, k_26, k_27, k_28, k_29, k_30, k_31, k_32, k_33⟩ := hS; go_simp⟩) hHeld1 ?_
            try simp only [Act.put]
            try simp only [List.setIfInBounds_toArray]
            try simp only [List.set_cons_succ]
            try simp only [List.set_cons_zero]
            refine wpAnyH_ready (rs := [27]) (by kernel_rfl) (by simp) ?_
            refine AllReadyH.cons rfl (fun KK0 hK => ?_) AllReadyH.nil
            rw [if_pos (by kernel_rfl)]
            refine Model.calls_wp 15 #[.agg #[.int .i64 T9.who, .int .i64 T9.snap, .int .i64 T9.pc, .slice yx.R T9.regs.length yx.rc, .slice yx.P T9.path.length yx.pc, .slice yx.D T9.reads.length yx.dc, .slice yx.L T9.log.list.length yx.lc, .slice yx.M T9.log.marks.length yx.mc, .slice Fu yx.fl.length fu, .int .i64 T9.kind, .int .i64 T9.why], .agg #[.int .i64 T9.who, .int .i64 T9.snap, .int .i64 T9.pc, .slice yy.R T9.regs.length yy.rc, .slice yy.P T9.path.length yy.pc, .slice yy.D T9.reads.length yy.dc, .slice yy.L T9.log.list.length yy.lc, .slice yy.M T9.log.marks.length yy.mc, .slice Fv yy.fl.length fv, .int .i64 T9.kind, .int .i64 T9.why]] _ (HSA.out _ bq.out) (Model.run_call _ _ _ rfl rfl Tryz.func15 (by kernel_rfl) (by kernel_rfl) _ (by kernel_rfl)) ?_
            rintro e wq ⟨rfl, b_⟩
            refine ⟨_, rfl, ?_⟩
            replace bq := Lib.hid (bl_trans bq.out b_)
            clear b_
            refine hK.out _ _ (KEEQ.out _ bq.out) (fun hHeld2 => ?_)
            clear hHeld1 hK KK0
            try simp only [Act.put]
            try simp only [List.setIfInBounds_toArray]
            try simp only [List.set_cons_succ]
            try simp only [List.set_cons_zero]
            refine wpAnyH_take (i := 28) (v := .bool true) rfl (by kernel_rfl) (by kernel_rfl) (by kernel_rfl) (fun _ _ _ h => h) (Or.inl ⟨by kernel_rfl, fun W hS => by go_simp⟩) hHeld2 ?_
            try simp only [Act.put]
            try simp only [List.setIfInBounds_toArray]
            try simp only [List.set_cons_succ]
            try simp only [List.set_cons_zero]
            refine wpAnyH_take (i := 29) (v := undef) rfl (by kernel_rfl) (by kernel_rfl) (by kernel_rfl) (fun _ _ _ h => h) (Or.inr ⟨by kernel_rfl, rfl⟩) hHeld2 ?_
            try simp only [Act.put]
            try simp only [List.setIfInBounds_toArray]
            try simp only [List.set_cons_succ]
            try simp only [List.set_cons_zero]
            refine wpAnyH_take (i := 30) (v := undef) rfl (by kernel_rfl) (by kernel_rfl) (by kernel_rfl) (fun _ _ _ h => h) (Or.inr ⟨by kernel_rfl, rfl⟩) hHeld2 ?_
            try simp only [Act.put]
            try simp only [List.setIfInBounds_toArray]
            try simp only [List.set_cons_succ]
            try simp only [List.set_cons_zero]
            refine wpAnyH_take (i := 31) (v := .bool true) rfl (by kernel_rfl) (by kernel_rfl) (by kernel_rfl) (fun _ _ _ h => h) (Or.inl ⟨by kernel_rfl, fun W hS => by go_simp⟩) hHeld2 ?_
            try simp only [Act.put]
            try simp only [List.setIfInBounds_toArray]
            try simp only [List.set_cons_succ]
            try simp only [List.set_cons_zero]
            refine wpAnyH_take (i := 32) (v := .bool true) rfl (by kernel_rfl) (by kernel_rfl) (by kernel_rfl) (fun _ _ _ h => h) (Or.inl ⟨by kernel_rfl, fun W hS => by go_simp⟩) hHeld2 ?_
            try simp only [Act.put]
            try simp only [List.setIfInBounds_toArray]
            try simp only [List.set_cons_succ]
            try simp only [List.set_cons_zero]
            refine wpAnyH_take (i := 33) (v := .bool true) rfl (by kernel_rfl) (by kernel_rfl) (by kernel_rfl) (fun _ _ _ h => h) (Or.inl ⟨by kernel_rfl, fun W hS => by go_simp⟩) hHeld2 ?_
            try simp only [Act.put]
            try simp only [List.setIfInBounds_toArray]
            try simp only [List.set_cons_succ]
            try simp only [List.set_cons_zero]
            refine wpAnyH_take (i := 34) (v := .agg #[.int .i64 T9.who, .int .i64 T9.snap, .int .i64 T9.pc, .slice yx.R T9.regs.length yx.rc, .slice yx.P T9.path.length yx.pc, .slice yx.D T9.reads.length yx.dc, .slice yx.L T9.log.list.length yx.lc, .slice yx.M T9.log.marks.length yx.mc, .slice Fu yx.fl.length fu, .int .i64 T9.kind, .int .i64 T9.why]) rfl (by kernel_rfl) (by kernel_rfl) (by kernel_rfl) (fun _ _ _ h => h) (Or.inl ⟨by kernel_rfl, fun W hS => by obtain ⟨k_0, k_1, k_2, k_3, k_4, k_5, k_6, k_7, k_8, k_9, k_10, k_11, k_12, k_13, k_14, k_15, k_16, k_17, k_18, k_19, k_20, k_21, k_22, k_23, k_24, k_25, k_26, k_27, k_28, k_29, k_30, k_31, k_32, k_33⟩ := hS; go_simp⟩) hHeld2 ?_
            try simp only [Act.put]
            try simp only [List.setIfInBounds_toArray]
            try simp only [List.set_cons_succ]
            try simp only [List.set_cons_zero]
            refine wpAnyH_take (i := 35) (v := .agg #[.int .i64 T9.who, .int .i64 T9.snap, .int .i64 T9.pc, .slice yz.R T9.regs.length yz.rc, .slice yz.P T9.path.length yz.pc, .slice yz.D T9.reads.length yz.dc, .slice yz.L T9.log.list.length yz.lc, .slice yz.M T9.log.marks.length yz.mc, .slice yz.F yz.fl.length yz.fc, .int .i64 T9.kind, .int .i64 T9.why]) rfl (by kernel_rfl) (by kernel_rfl) (by kernel_rfl) (fun _ _ _ h => h) (Or.inl ⟨by kernel_rfl, fun W hS => by obtain ⟨k_0, k_1, k_2, k_3, k_4, k_5, k_6, k_7, k_8, k_9, k_10, k_11, k_12, k_13, k_14, k_15, k_16, k_17, k_18, k_19, k_20, k_21, k_22, k_23, k_24, k_25, k_26, k_27, k_28, k_29, k_30, k_31, k_32, k_33⟩ := hS; go_simp⟩) hHeld2 ?_
            try simp only [Act.put]
            try simp only [List.setIfInBounds_toArray]
            try simp only [List.set_cons_succ]
            try simp only [List.set_cons_zero]
            refine wpAnyH_ready (rs := [36]) (by kernel_rfl) (by simp) ?_
            refine AllReadyH.cons rfl (fun KK0 hK => ?_) AllReadyH.nil
            rw [if_pos (by kernel_rfl)]
            refine Model.calls_wp 16 #[.agg #[.int .i64 T9.who, .int .i64 T9.snap, .int .i64 T9.pc, .slice yz.R T9.regs.length yz.rc, .slice yz.P T9.path.length yz.pc, .slice yz.D T9.reads.length yz.dc, .slice yz.L T9.log.list.length yz.lc, .slice yz.M T9.log.marks.length yz.mc, .slice yz.F yz.fl.length yz.fc, .int .i64 T9.kind, .int .i64 T9.why]] _ (HRZ.out _ bq.out) (Model.run_call _ _ _ rfl rfl Tryz.func16 (by kernel_rfl) (by kernel_rfl) _ (by kernel_rfl)) ?_
            rintro e wq ⟨Fz, fz, rfl, of_, b_⟩
            refine ⟨_, rfl, ?_⟩
            have OZ := Lib.hid (own_cap of_).2.2
            clear of_
            replace bq := Lib.hid (bl_trans bq.out b_)
            clear b_
            refine hK.out _ _ (KEEQ.out _ bq.out) (fun hHeld3 => ?_)
            clear hHeld2 hK KK0
            try simp only [Act.put]
            try simp only [List.setIfInBounds_toArray]
            try simp only [List.set_cons_succ]
            try simp only [List.set_cons_zero]
            refine wpAnyH_ready (rs := [37]) (by kernel_rfl) (by simp) ?_
            refine AllReadyH.cons rfl (fun KK0 hK => ?_) AllReadyH.nil
            rw [if_pos (by kernel_rfl)]
            refine Model.calls_wp 15 #[.agg #[.int .i64 T9.who, .int .i64 T9.snap, .int .i64 T9.pc, .slice yx.R T9.regs.length yx.rc, .slice yx.P T9.path.length yx.pc, .slice yx.D T9.reads.length yx.dc, .slice yx.L T9.log.list.length yx.lc, .slice yx.M T9.log.marks.length yx.mc, .slice Fu yx.fl.length fu, .int .i64 T9.kind, .int .i64 T9.why], .agg #[.int .i64 T9.who, .int .i64 T9.snap, .int .i64 T9.pc, .slice yz.R T9.regs.length yz.rc, .slice yz.P T9.path.length yz.pc, .slice yz.D T9.reads.length yz.dc, .slice yz.L T9.log.list.length yz.lc, .slice yz.M T9.log.marks.length yz.mc, .slice Fz yz.fl.length fz, .int .i64 T9.kind, .int .i64 T9.why]] _ (HSB.out _ Fz fz bq.out OZ.out) (Model.run_call _ _ _ rfl rfl Tryz.func15 (by kernel_rfl) (by kernel_rfl) _ (by kernel_rfl)) ?_
            rintro e wq ⟨rfl, b_⟩
            refine ⟨_, rfl, ?_⟩
            replace bq := Lib.hid (bl_trans bq.out b_)
            clear b_
            refine hK.out _ _ (KEEQ.out _ bq.out) (fun hHeld4 => ?_)
            clear hHeld3 hK KK0
            try simp only [Act.put]
            try simp only [List.setIfInBounds_toArray]
            try simp only [List.set_cons_succ]
            try simp only [List.set_cons_zero]
            refine wpAnyH_take (i := 38) (v := .bool true) rfl (by kernel_rfl) (by kernel_rfl) (by kernel_rfl) (fun _ _ _ h => h) (Or.inl ⟨by kernel_rfl, fun W hS => by go_simp⟩) hHeld4 ?_
            try simp only [Act.put]
            try simp only [List.setIfInBounds_toArray]
            try simp only [List.set_cons_succ]
            try simp only [List.set_cons_zero]
            refine wpAnyH_take (i := 39) (v := .bool true) rfl (by kernel_rfl) (by kernel_rfl) (by kernel_rfl) (fun _ _ _ h => h) (Or.inl ⟨by kernel_rfl, fun W hS => by go_simp⟩) hHeld4 ?_
            try simp only [Act.put]
            try simp only [List.setIfInBounds_toArray]
            try simp only [List.set_cons_succ]
            try simp only [List.set_cons_zero]
            refine wpAnyH_ready (rs := [40]) (by kernel_rfl) (by simp) ?_
            refine AllReadyH.cons rfl (fun KK0 hK => ?_) AllReadyH.nil
            rw [if_pos (by kernel_rfl)]
            refine Model.calls_wp 11 #[] _ (awake_any _) (Model.run_call _ _ _ rfl rfl Tryz.func11 (by kernel_rfl) (by kernel_rfl) _ (by kernel_rfl)) ?_
            rintro e wq ⟨rfl, b_⟩
            refine ⟨_, rfl, ?_⟩
            replace bq := Lib.hid (bl_trans bq.out b_)
            clear b_
            refine hK.out _ _ (KEEQ.out _ bq.out) (fun hHeld5 => ?_)
            clear hHeld4 hK KK0
            try simp only [Act.put]
            try simp only [List.setIfInBounds_toArray]
            try simp only [List.set_cons_succ]
            try simp only [List.set_cons_zero]
            refine wpAnyH_take (i := 41) (v := .bool true) rfl (by kernel_rfl) (by kernel_rfl) (by kernel_rfl) (fun _ _ _ h => h) (Or.inl ⟨by kernel_rfl, fun W hS => by go_simp⟩) hHeld5 ?_
            try simp only [Act.put]
            try simp only [List.setIfInBounds_toArray]
            try simp only [List.set_cons_succ]
            try simp only [List.set_cons_zero]
            refine wpAnyH_ready (rs := [42]) (by kernel_rfl) (by simp) ?_
            refine AllReadyH.cons rfl (fun KK0 hK => ?_) AllReadyH.nil
            go_simp
            refine hK.out _ _ (KEEQ.out _ bq.out) (fun hHeld6 => ?_)
            clear hHeld5 hK KK0
            try simp only [Act.put]
            try simp only [List.setIfInBounds_toArray]
            try simp only [List.set_cons_succ]
            try simp only [List.set_cons_zero]
            refine wpAnyH_done (by kernel_rfl) ?_ _
            go_wp2
            go_ret
            exact ⟨rfl, bl_trans bb.out (bl_trans b2.out bq.out)⟩
end Go.Proofs.YtclbeboiojgejaaGreat.Attempt
