/-
  WHAT THE DOCUMENT'S ANSWER FOR LAYER 10 RETURNS: either, if part does what it should. No conditions beyond those that each theorem states.
-/
import Derived.Test.YtbeeojccadeboaaGreatModelPR
import Derived.Test.YtbeeojccadeboaaGreatModelRun
namespace Go.Proofs.YtbeeojccadeboaaGreat.Model
open Go.ChangeShapes Go.WideShapes Go.ChangeAt Go.RowKit Mem Go.Proofs.YtbeeojccadeboaaGreat.Code

theorem bl_one (f : Nat → Bool) : ∀ u ∈ bl f, u.oneCell' = true := by
  intro u hu
  unfold bl at hu
  obtain ⟨k, _, rfl⟩ := List.mem_map.1 hu; rfl
theorem bl_at_iff (f : Nat → Bool) (j : Nat) (v : Value) (h : (bl f)[j]? = some v) : j < 64 ∧ v = .bool (f j) := by
  have hj := (List.getElem?_eq_some_iff.1 h).1
  rw [bools_len] at hj
  rw [bools_at f j hj] at h
  injection h with h
  exact ⟨hj, h.symm⟩
theorem size_seen : (Tryz.prog.info? 103).map (·.size) = some 64 := by kernel_rfl
theorem Sb.rangeSeen {w : World} {g : Nat} {r : RS} (h : Sb w g r) (h8 : r.s.regs.length = 8) : w.rangeAt g 74 (bl r.s.seen) := fun j v hv => by
  obtain ⟨hj, rfl⟩ := bl_at_iff _ _ _ hv
  exact h.cell_ _ _ (sc_seen h8 j hj)
theorem Sb.thereSeen {w : World} {g : Nat} {r : RS} (h : Sb w g r) (h8 : r.s.regs.length = 8) : w.there g 74 64 := fun j hj => by
  refine ⟨?_, Blk.frozen h _⟩
  rw [h.cell_ _ _ (sc_seen h8 j hj)]; rfl
theorem sc_split (r : RS) : sc r = ([.slice r.A r.n r.c] ++ (bl r.s.wrote ++ (zs r.s.regs ++ [.slice r.P r.pn r.pc]))) ++ (bl r.s.seen ++ [.int .i64 r.s.kind, .int .i64 r.s.why]) := by unfold sc; simp
theorem Sb.putSeen {w : World} {g : Nat} {r : RS} (h : Sb w g r) (h8 : r.s.regs.length = 8) (f : Nat → Bool) : Sb (w.setCells g 74 (bl f)) g { r with s := { r.s with seen := f } } := by
  have h1 : Blk w g 105 (sc r).toArray := h
  rw [sc_split] at h1
  have h2 := setc_blk [.int .i64 r.s.kind, .int .i64 r.s.why] (bl f) (bl r.s.seen) ([.slice r.A r.n r.c] ++ (bl r.s.wrote ++ (zs r.s.regs ++ [.slice r.P r.pn r.pc]))) 74 w h1 (by
    simp only [List.length_append, bools_len, zs_count, h8, List.length_cons, List.length_nil]) (by rw [bools_len, bools_len])
  show Blk _ g _ (sc { r with s := { r.s with seen := f } }).toArray
  rw [sc_split]
  exact h2
/-- A row of one's own: a copy of the path, and one more. -/
theorem path_grown {w0 w : World} {P : Option Addr} {pn pc : Nat} {p : List Int} {x : Int} (h : Own w0 w 3 1 (.slice P (pn + 1) pc) (pn + 1) (zs p ++ [.int .i64 x])) : Rd w 1 P (pn + 1) (zs (p ++ [x])) ∧ ∀ b off, P = some ⟨b, off, none⟩ → w0.heap.size ≤ b := by
  have e : zs (p ++ [x]) = zs p ++ [.int .i64 x] := by unfold zs; rw [List.flatMap_append]; rfl
  rw [e]
  obtain ⟨_, _, h2⟩ := own_cap h
  exact ⟨h2, fun b off hb => h.base b (by rw [hb]; rfl)⟩
set_option maxRecDepth 100000 in
set_option maxHeartbeats 1500000 in
theorem either_r (f : Nat) (hf : PartR f) : EitherR f := by
  intro l A n c frm mid to r w hcode hall hfm hmt hton hn hfuel hwu hwv hst hpath z1 z2 z3 hz1 hz2 hz3
  subst hz1 hz2 hz3
  have HST := Lib.hid hst
  obtain ⟨Z, hZ0⟩ : ∃ Z, (sc rz).toArray = Z := ⟨_, rfl⟩
  have HZ := Lib.hid zero_st
  have HZS : Hid (Z.size = 140) := Lib.hid (by rw [← hZ0, List.size_toArray, sc_len rfl])
  rw [hZ0] at HZ
  clear hZ0
  obtain ⟨cr, hcr⟩ : ∃ cr, (sc r).toArray = cr := ⟨_, rfl⟩
  obtain ⟨w2, hw2⟩ : ∃ w2, w2 = (w.alloc (.cells cr 105)).alloc (.cells Z 105) := ⟨_, rfl⟩
  have HT := Lib.hid (two_blocks r w 105 cr Z hcr rfl w2 hw2)
  have HU := Lib.hid Tryz.underlying105
  have HI : Hid ((Tryz.prog.info? 105).map (·.size) = some cr.size) := Lib.hid (by rw [← hcr]; exact hi_st _ HST.out.r8)
  have HSZR : Hid (Z.size = cr.size) := Lib.hid (by rw [HZS.out, ← hcr, List.size_toArray, sc_len HST.out.r8])
  have HONR : Hid (cr.all (·.oneCell') = true) := Lib.hid (by rw [← hcr]; exact one_st _)
  have HS2 : Hid (Blk w2 w.heap.size 105 cr) := Lib.hid (Sb.blk HT.out.1 hcr)
  have HNA := Lib.hid ((rd_old HST.out.heap (by decide)).ne (g := w.heap.size + 1) (by omega))
  have HNP := Lib.hid ((rd_old HST.out.path (by decide)).ne (g := w.heap.size + 1) (by omega))
  have HW2 := Lib.hid HT.out.2.2.2
  -- the first state
  obtain ⟨w2a, hw2a⟩ : ∃ w2a, w2a = w2.alloc (.cells Z 105) := ⟨_, rfl⟩
  have HZ2a : Hid (Blk w2a w2.heap.size 105 Z) := Lib.hid (by rw [hw2a]; exact Blk.new _ _ _)
  have HB2a : Hid (Below w2.heap.size w2 w2a) := Lib.hid (by rw [hw2a]; exact bl_alloc (Below.refl _ _) _)
  obtain ⟨w3, hw3⟩ : ∃ w3, w3 = w2a.setRow w2.heap.size cr := ⟨_, rfl⟩
  have HS3 : Hid (Sb w3 w2.heap.size r) := Lib.hid (by rw [hw3]; unfold Sb; rw [hcr]; exact setRow_blk HZ2a.out)
  have HB3 : Hid (Below w2.heap.size w2 w3) := Lib.hid (by rw [hw3]; exact below_setRow HB2a.out (Nat.le_refl _) _)
  have HBW3 : Hid (Below w.heap.size w w3) := Lib.hid (bl_trans HT.out.2.2.1 HB3.out)
  have p73 : w3.cell? ⟨w.heap.size, 73, none⟩ = some (.slice r.P r.pn r.pc) := by
    have h1 : Sb w3 w.heap.size r := Blk.below HT.out.1 HB3.out
    exact h1.cell_ 73 _ (sc_path HST.out.r8)
  have HP3 : Hid (Rd w3 1 r.P r.pn (zs r.s.path)) := Lib.hid (HST.out.path.below HBW3.out)
  have hpn : r.pn ≤ 1000 := by have h1 := HST.out.path.1; rw [zs_count] at h1; omega
  -- what is behind the first append
  have HF1 : Hid (∀ (w5 : World) (P5 : Option Addr) (pc5 : Nat), Own w3 w5 3 1 (.slice P5 (r.pn + 1) pc5) (r.pn + 1) (zs r.s.path ++ [.int .i64 1]) → ∃ (r1 : RS) (cr1 : Array Value), (sc r1).toArray = cr1 ∧ Blk (w5.setCell ⟨w2.heap.size, 73, none⟩ (.slice P5 (r.pn + 1) pc5)) w2.heap.size 105 cr1 ∧
      (Tryz.prog.info? 105).map (·.size) = some cr1.size ∧ Below w.heap.size w (w5.setCell ⟨w2.heap.size, 73, none⟩ (.slice P5 (r.pn + 1) pc5)) ∧ Below w2.heap.size w2 (w5.setCell ⟨w2.heap.size, 73, none⟩ (.slice P5 (r.pn + 1) pc5)) ∧
      (r1.A = r.A ∧ r1.n = r.n ∧ ∀ b off, r1.P = some ⟨b, off, none⟩ → w3.heap.size ≤ b) ∧
      ∀ y1 y2 : Int, y1 = ((frm : Nat) : Int) → y2 = ((mid : Nat) : Int) → Calls Tryz.prog 42 #[.slice A n c, .int .i64 y1, .int .i64 y2, .agg cr1] (w5.setCell ⟨w2.heap.size, 73, none⟩ (.slice P5 (r.pn + 1) pc5)) (RetSt (w5.setCell ⟨w2.heap.size, 73, none⟩ (.slice P5 (r.pn + 1) pc5)) r1 (part (seg (ss l) frm mid) (onPath r.s 1)))) := Lib.hid (by
    intro w5 P5 pc5 ho
    obtain ⟨hrd, hfresh⟩ := path_grown ho
    have h1 : Sb w5 w2.heap.size r := Blk.below HS3.out ho.2
    have h2 := h1.set_ 73 (.slice P5 (r.pn + 1) pc5) (sc_set_path HST.out.r8 P5 (r.pn + 1) pc5 (r.s.path ++ [1]))
    obtain ⟨r1, hr1⟩ : ∃ r1 : RS, r1 = { r with s := onPath r.s 1, P := P5, pn := r.pn + 1, pc := pc5 } := ⟨_, rfl⟩
    have h3 : Sb (w5.setCell ⟨w2.heap.size, 73, none⟩ (.slice P5 (r.pn + 1) pc5)) w2.heap.size r1 := by rw [hr1]; exact h2
    have e1 : r1.s = onPath r.s 1 := by rw [hr1]
    have hs := HW2.out
    have hg2 := HS3.out.lt
    have hbel : Below w2.heap.size w2 (w5.setCell ⟨w2.heap.size, 73, none⟩ (.slice P5 (r.pn + 1) pc5)) := bl_set (bl_trans HB3.out ho.2) (p := ⟨w2.heap.size, 73, none⟩) (Nat.le_refl _) _
    have hbelw := bl_trans HT.out.2.2.1 hbel
    have hst1 : StR (w5.setCell ⟨w2.heap.size, 73, none⟩ (.slice P5 (r.pn + 1) pc5)) r1 := by
      rw [hr1]
      exact ⟨HST.out.r8, HST.out.heap.below hbelw, HST.out.n64, hrd.set_other (fun bb oo e => by have := hfresh bb oo e; omega) 73 _⟩
    refine ⟨r1, _, rfl, h3, hi_st _ hst1.r8, hbelw, hbel, ⟨by rw [hr1], by rw [hr1], by rw [hr1]; exact hfresh⟩, fun y1 y2 hy1 hy2 => ?_⟩
    have h4 := hf l A n c frm mid r1 _ ⟨hcode.below hbelw, hall, hfm, by omega, hn, by omega, hwu, hst1, by rw [e1]; show (r.s.path ++ [1]).length + _ ≤ _; rw [List.length_append, List.length_singleton]; omega⟩ y1 y2 hy1 hy2
    rw [e1] at h4
    exact h4)
  have HE : Hid (eitherS (seg (ss l) frm mid) (seg (ss l) mid to) r.s = if (part (seg (ss l) frm mid) (onPath r.s 1)).kind = 2 then part (seg (ss l) mid to) (saw (onPath r.s 2) (part (seg (ss l) frm mid) (onPath r.s 1)).seen) else part (seg (ss l) frm mid) (onPath r.s 1)) := Lib.hid rfl
  obtain ⟨U, hU⟩ : ∃ U, part (seg (ss l) frm mid) (onPath r.s 1) = U := ⟨_, rfl⟩
  rw [hU] at HE HF1
  have HF := Lib.hid hf
  have HCODE := Lib.hid hcode
  have HALL := Lib.hid hall
  have HWV := Lib.hid hwv
  have HNUM := Lib.hid (And.intro hfm (And.intro hmt (And.intro hton (And.intro hn (And.intro hfuel hpath)))))
  have p73e := cell_kept_up p73 (bl_alloc (Below.refl w3.heap.size w3) (.cells #[] 3))
  have HCR := Lib.hid hcr
  rw [hcr]
  clear hcr hst hU hf hcode hall hwu hwv hfm hmt hton hfuel hpath
  go_enter Tryz.func90, Tryz.ntmps90
  go_wp2_with (first
    | (refine box_row rfl 105 _ rfl cr rfl ?_)
    | (refine alloc_row rfl 105 rfl Z HZ.out ?_; rw [← hw2]; clear hw2)
    | (refine wpList_load_row rfl 105 _ rfl w.heap.size rfl 105 cr (0, 0) _ HS2.out HU.out rfl HI.out ?_)
    | (refine alloc_row rfl 105 rfl Z HZ.out ?_; rw [← hw2a]; clear hw2a)
    | (refine wpList_store_row rfl 105 _ _ rfl w2.heap.size cr rfl rfl 105 Z HZ2a.out HI.out HSZR.out HONR.out ?_; rw [← hw3]; clear hw3)
    | (at_builtin; refine append_rd rfl _ _ 26 rfl Mem.tInt w3 (.slice (some ⟨w3.heap.size, 0, none⟩) 0 0) 0 [] rfl (Own.empty w3 _ _) r.P r.pn r.pc (zs r.s.path) rfl (HP3.out.alloc _) (zs_one _) (by omega) (by omega) ?_; intro v4 w4 ho4 hg4; have HO4 := Lib.hid ho4; clear ho4 hg4)
    | (at_builtin; refine append_rd rfl _ _ 26 rfl Mem.tInt w3 v4 (0 + r.pn) ([] ++ zs r.s.path) rfl (HO4.out.alloc _) _ 1 1 [.int .i64 1] rfl (Rd.built _ 1 1 [.int .i64 1] _ rfl) (one_cons rfl one_nil) (by omega) (by omega) ?_; intro v5 w5 ho5 hg5; rw [Nat.zero_add, List.nil_append] at ho5; obtain ⟨P5, pc5, rfl, -⟩ := ho5.form; have HO5 := Lib.hid ho5; have s5 : Sb w5 w2.heap.size r := Blk.below HS3.out ho5.2; have c5 := s5.cell_ 73 _ (sc_path HST.out.r8); have z5 := Blk.frozen s5 73; obtain ⟨r1, cr1, -, hs1, hI1, hbw1, hb1, he1, hcall1⟩ := HF1.out w5 P5 pc5 ho5; have HS6 := Lib.hid hs1; have HI6 := Lib.hid hI1; have HBW6 := Lib.hid hbw1; have HB6 := Lib.hid hb1; have HE6 := Lib.hid he1; have HC6 := Lib.hid hcall1; clear ho5 hg5 s5 hs1 hI1 hbw1 hb1 he1 hcall1)
    | (refine wpList_load_row rfl 105 _ rfl w2.heap.size rfl 105 cr1 (0, 0) _ HS6.out HU.out rfl HI6.out ?_))
  refine (HC6.out _ _ ?_ ?_).mono ?_
  · omega
  · omega
  rintro e w7 ⟨r2, rfl, hs2, st2, b7, fa2, fp2⟩
  generalize w5.setCell ⟨w2.heap.size, 73, none⟩ (.slice P5 (r.pn + 1) pc5) = w6 at *
  clear c5 z5 p73 p73e
  obtain ⟨ce, hce⟩ : ∃ ce, (sc r2).toArray = ce := ⟨_, rfl⟩
  rw [hce]
  have HIE : Hid ((Tryz.prog.info? 105).map (·.size) = some ce.size) := Lib.hid (by rw [← hce]; exact hi_st _ st2.r8)
  have HSZE : Hid (Z.size = ce.size) := Lib.hid (by rw [HZS.out, ← hce, List.size_toArray, sc_len st2.r8])
  have HONE : Hid (ce.all (·.oneCell') = true) := Lib.hid (by rw [← hce]; exact one_st _)
  obtain ⟨w7a, hw7a⟩ : ∃ w7a, w7a = w7.alloc (.cells Z 105) := ⟨_, rfl⟩
  have HZ7 : Hid (Blk w7a w7.heap.size 105 Z) := Lib.hid (by rw [hw7a]; exact Blk.new _ _ _)
  have hb7a : Below w7.heap.size w7 w7a := by rw [hw7a]; exact bl_alloc (Below.refl _ _) _
  obtain ⟨w8, hw8⟩ : ∃ w8, w8 = w7a.setRow w7.heap.size ce := ⟨_, rfl⟩
  have HS8 : Hid (Sb w8 w7.heap.size r2) := Lib.hid (by rw [hw8]; unfold Sb; rw [hce]; exact setRow_blk HZ7.out)
  have HC8 : Hid (Blk w8 w7.heap.size 105 ce) := Lib.hid (Sb.blk HS8.out hce)
  have hb8 : Below w7.heap.size w7 w8 := by rw [hw8]; exact below_setRow hb7a (Nat.le_refl _) _
  have HB8 : Hid (Below w2.heap.size w2 w8) := Lib.hid (bl_trans HB6.out (bl_trans b7 hb8))
  have HBW8 : Hid (Below w.heap.size w w8) := Lib.hid (bl_trans HBW6.out (bl_trans b7 hb8))
  have HST8 := Lib.hid (st2.below hb8)
  have HR2 := Lib.hid hs2
  have HZ8 : Hid (Blk w8 (w.heap.size + 1) 105 Z) := Lib.hid (HT.out.2.1.below HB8.out)
  have hg1 : w.heap.size + 1 < w6.heap.size := by have h1 := HB6.out.size; have h2 := HW2.out; omega
  have HFA : Hid (Fresh w r.A r.n r2.A r2.n) := Lib.hid (by rw [HE6.out.1, HE6.out.2.1] at fa2; exact (Fresh.refl w r.A r.n).trans fa2 HBW6.out.size)
  have HFP : Hid (Fresh w r.P r.pn r2.P r2.pn) := Lib.hid (Fresh.trans (.inr (fun b off e => by have h1 := HE6.out.2.2 b off e; have h2 := HBW3.out.size; omega)) fp2 HBW6.out.size)
  have HNA2 : Hid (∀ b off, r2.A = some ⟨b, off, none⟩ → 0 < r2.n → b ≠ w.heap.size + 1) := Lib.hid (by rw [HE6.out.1, HE6.out.2.1] at fa2; exact fa2.ne HNA.out hg1)
  have HNP2 : Hid (∀ b off, r2.P = some ⟨b, off, none⟩ → 0 < r2.pn → b ≠ w.heap.size + 1) := Lib.hid (fp2.ne (fun b off e _ => by have h1 := HE6.out.2.2 b off e; have h2 := HB3.out.size; have h3 := HW2.out; omega) hg1)
  have yk : w8.cell? ⟨w7.heap.size, 138, none⟩ = some (.int .i64 U.kind) := by
    rw [← hs2]
    exact HS8.out.cell_ 138 _ (sc_kind st2.r8).1
  by_cases hk : U.kind = 2
  · rw [hk] at yk
    obtain ⟨sl, hsl⟩ : ∃ sl, bl U.seen = sl := ⟨_, rfl⟩
    -- the second state
    obtain ⟨w8a, hw8a⟩ : ∃ w8a, w8a = w8.alloc (.cells Z 105) := ⟨_, rfl⟩
    have HZ8a : Hid (Blk w8a w8.heap.size 105 Z) := Lib.hid (by rw [hw8a]; exact Blk.new _ _ _)
    have hb8a : Below w8.heap.size w8 w8a := by rw [hw8a]; exact bl_alloc (Below.refl _ _) _
    obtain ⟨w9, hw9⟩ : ∃ w9, w9 = w8a.setRow w8.heap.size cr := ⟨_, rfl⟩
    have HS9 : Hid (Sb w9 w8.heap.size r) := Lib.hid (by rw [hw9]; unfold Sb; rw [HCR.out]; exact setRow_blk HZ8a.out)
    have hb9 : Below w8.heap.size w8 w9 := by rw [hw9]; exact below_setRow hb8a (Nat.le_refl _) _
    have HB9 : Hid (Below w2.heap.size w2 w9) := Lib.hid (bl_trans HB8.out hb9)
    have HBW9 : Hid (Below w.heap.size w w9) := Lib.hid (bl_trans HBW8.out hb9)
    have HS8r : Hid (Blk w8 w.heap.size 105 cr) := Lib.hid (HS2.out.below HB8.out)
    have p73 : w9.cell? ⟨w.heap.size, 73, none⟩ = some (.slice r.P r.pn r.pc) := by
      have h1 : Sb w9 w.heap.size r := Blk.below HT.out.1 HB9.out
      exact h1.cell_ 73 _ (sc_path HST.out.r8)
    have p73e := cell_kept_up p73 (bl_alloc (Below.refl w9.heap.size w9) (.cells #[] 3))
    have HP9 : Hid (Rd w9 1 r.P r.pn (zs r.s.path)) := Lib.hid (HST.out.path.below HBW9.out)
    have HA2 : Hid (w7.heap.size < w8.heap.size ∧ w8.heap.size < w9.heap.size) := Lib.hid ⟨HC8.out.lt, HS9.out.lt⟩
    have HSN : Hid (bl r2.s.seen = sl) := Lib.hid (by rw [hs2, hsl])
    have HUS := Lib.hid Tryz.underlying103
    have HIS : Hid ((Tryz.prog.info? 103).map (·.size) = some sl.length) := Lib.hid (by rw [size_seen, ← hsl, bools_len])
    have HIA : Hid ((Tryz.prog.info? 103).map (·.size) = some sl.toArray.size) := Lib.hid (by rw [size_seen, List.size_toArray, ← hsl, bools_len])
    have HON : Hid (sl.toArray.all (·.oneCell') = true) := Lib.hid (by
      rw [← hsl]
      rw [Array.all_eq_true_iff_forall_mem]
      intro u hu
      exact bl_one _ u (by simpa using hu))
    have hsz : sl.toArray.size = 64 := by rw [List.size_toArray, ← hsl, bools_len]
    have HF2 : Hid (∀ (w10 : World) (P5 : Option Addr) (pc5 : Nat), Own w9 w10 3 1 (.slice P5 (r.pn + 1) pc5) (r.pn + 1) (zs r.s.path ++ [.int .i64 2]) → ∃ (r3 : RS) (cr3 : Array Value),
        (w10.setCell ⟨w8.heap.size, 73, none⟩ (.slice P5 (r.pn + 1) pc5)).rangeAt w7.heap.size 74 sl ∧ (w10.setCell ⟨w8.heap.size, 73, none⟩ (.slice P5 (r.pn + 1) pc5)).there w8.heap.size 74 sl.toArray.size ∧
        Blk ((w10.setCell ⟨w8.heap.size, 73, none⟩ (.slice P5 (r.pn + 1) pc5)).setCells w8.heap.size 74 sl) w8.heap.size 105 cr3 ∧ (Tryz.prog.info? 105).map (·.size) = some cr3.size ∧
        Below w.heap.size w ((w10.setCell ⟨w8.heap.size, 73, none⟩ (.slice P5 (r.pn + 1) pc5)).setCells w8.heap.size 74 sl) ∧ Below w2.heap.size w2 ((w10.setCell ⟨w8.heap.size, 73, none⟩ (.slice P5 (r.pn + 1) pc5)).setCells w8.heap.size 74 sl) ∧
        (r3.A = r.A ∧ r3.n = r.n ∧ ∀ b off, r3.P = some ⟨b, off, none⟩ → w9.heap.size ≤ b) ∧
        ∀ y1 y2 : Int, y1 = ((mid : Nat) : Int) → y2 = ((to : Nat) : Int) → Calls Tryz.prog 42 #[.slice A n c, .int .i64 y1, .int .i64 y2, .agg cr3] ((w10.setCell ⟨w8.heap.size, 73, none⟩ (.slice P5 (r.pn + 1) pc5)).setCells w8.heap.size 74 sl) (RetSt ((w10.setCell ⟨w8.heap.size, 73, none⟩ (.slice P5 (r.pn + 1) pc5)).setCells w8.heap.size 74 sl) r3 (part (seg (ss l) mid to) (saw (onPath r.s 2) U.seen)))) := Lib.hid (by
      intro w10 P5 pc5 ho
      subst hsl
      obtain ⟨hrd, hfresh⟩ := path_grown ho
      have hs := HA2.out
      have hs2' := HW2.out
      have h1 : Sb w10 w8.heap.size r := Blk.below HS9.out ho.2
      have h2 := h1.set_ 73 (.slice P5 (r.pn + 1) pc5) (sc_set_path HST.out.r8 P5 (r.pn + 1) pc5 (r.s.path ++ [2]))
      have h3 := Sb.putSeen h2 HST.out.r8 U.seen
      obtain ⟨r3, hr3⟩ : ∃ r3 : RS, r3 = { r with s := saw (onPath r.s 2) U.seen, P := P5, pn := r.pn + 1, pc := pc5 } := ⟨_, rfl⟩
      have h4 : Sb ((w10.setCell ⟨w8.heap.size, 73, none⟩ (.slice P5 (r.pn + 1) pc5)).setCells w8.heap.size 74 (bl U.seen)) w8.heap.size r3 := by rw [hr3]; exact h3
      have e1 : r3.s = saw (onPath r.s 2) U.seen := by rw [hr3]
      have hne7 : w8.heap.size ≠ w7.heap.size := by omega
      have h7 : Sb (w10.setCell ⟨w8.heap.size, 73, none⟩ (.slice P5 (r.pn + 1) pc5)) w7.heap.size r2 := (Blk.below (Blk.below HS8.out hb9) ho.2).beside hne7 _ _
      have hrg := h7.rangeSeen HST8.out.r8
      rw [HSN.out] at hrg
      have hth := Sb.thereSeen h2 HST.out.r8
      have hbel : Below w2.heap.size w2 ((w10.setCell ⟨w8.heap.size, 73, none⟩ (.slice P5 (r.pn + 1) pc5)).setCells w8.heap.size 74 (bl U.seen)) :=
        setc_ind (g := w8.heap.size) (fun q => Below w2.heap.size w2 q) (fun q i u hh => bl_set hh (p := ⟨w8.heap.size, i, none⟩) (by have := HB8.out.size; exact this) u) _ 74 _ (bl_set (bl_trans HB9.out ho.2) (p := ⟨w8.heap.size, 73, none⟩) (by have := HB8.out.size; exact this) _)
      have hbelw := bl_trans HT.out.2.2.1 hbel
      have hrd3 : Rd ((w10.setCell ⟨w8.heap.size, 73, none⟩ (.slice P5 (r.pn + 1) pc5)).setCells w8.heap.size 74 (bl U.seen)) 1 P5 (r.pn + 1) (zs (r.s.path ++ [2])) :=
        setc_ind (g := w8.heap.size) (fun q => Rd q 1 P5 (r.pn + 1) (zs (r.s.path ++ [2]))) (fun q i u hh => hh.set_other (fun bb oo e => by have := hfresh bb oo e; omega) i u) _ 74 _ (hrd.set_other (fun bb oo e => by have := hfresh bb oo e; omega) 73 _)
      have hst3 : StR ((w10.setCell ⟨w8.heap.size, 73, none⟩ (.slice P5 (r.pn + 1) pc5)).setCells w8.heap.size 74 (bl U.seen)) r3 := by
        rw [hr3]
        exact ⟨HST.out.r8, HST.out.heap.below hbelw, HST.out.n64, hrd3⟩
      refine ⟨r3, _, hrg, by rw [hsz]; exact hth, h4, hi_st _ hst3.r8, hbelw, hbel, ⟨by rw [hr3], by rw [hr3], by rw [hr3]; exact hfresh⟩, fun y1 y2 hy1 hy2 => ?_⟩
      obtain ⟨n1, n2, n3, n4, n5, n6⟩ := HNUM.out
      have h5 := HF.out l A n c mid to r3 _ ⟨HCODE.out.below hbelw, HALL.out, n2, n3, n4, by omega, HWV.out, hst3, by rw [e1]; show (r.s.path ++ [2]).length + _ ≤ _; rw [List.length_append, List.length_singleton]; omega⟩ y1 y2 hy1 hy2
      rw [e1] at h5
      exact h5)
    clear hs2 st2 b7 fa2 fp2 hce hb7a hb8 hg1 hb8a hb9 hsz hsl
    go_wp2_with (first
      | (refine alloc_row rfl 105 rfl Z HZ.out ?_; rw [← hw7a]; clear hw7a)
      | (refine wpList_store_row rfl 105 _ _ rfl w7.heap.size ce rfl rfl 105 Z HZ7.out HIE.out HSZE.out HONE.out ?_; rw [← hw8]; clear hw8)
      | (refine wpList_load_row rfl 105 _ rfl w.heap.size rfl 105 cr (0, 0) _ HS8r.out HU.out rfl HI.out ?_)
      | (refine alloc_row rfl 105 rfl Z HZ.out ?_; rw [← hw8a]; clear hw8a)
      | (refine wpList_store_row rfl 105 _ _ rfl w8.heap.size cr rfl rfl 105 Z HZ8a.out HI.out HSZR.out HONR.out ?_; rw [← hw9]; clear hw9)
      | (at_builtin; refine append_rd rfl _ _ 26 rfl Mem.tInt w9 (.slice (some ⟨w9.heap.size, 0, none⟩) 0 0) 0 [] rfl (Own.empty w9 _ _) r.P r.pn r.pc (zs r.s.path) rfl (HP9.out.alloc _) (zs_one _) (by omega) (by omega) ?_; intro v10 w10 ho10 hg10; have HO10 := Lib.hid ho10; clear ho10 hg10)
      | (at_builtin; refine append_rd rfl _ _ 26 rfl Mem.tInt w9 v10 (0 + r.pn) ([] ++ zs r.s.path) rfl (HO10.out.alloc _) _ 1 1 [.int .i64 2] rfl (Rd.built _ 1 1 [.int .i64 2] _ rfl) (one_cons rfl one_nil) (by omega) (by omega) ?_; intro v11 w11 ho11 hg11; rw [Nat.zero_add, List.nil_append] at ho11; obtain ⟨P6, pc6, rfl, -⟩ := ho11.form; have HO11 := Lib.hid ho11; have s11 : Sb w11 w8.heap.size r := Blk.below HS9.out ho11.2; have c11 := s11.cell_ 73 _ (sc_path HST.out.r8); have z11 := Blk.frozen s11 73; obtain ⟨r3, cr3, hrg3, hth3, hs3, hI3, hbw3, hb3, he3, hcall3⟩ := HF2.out w11 P6 pc6 ho11; have HRG3 := Lib.hid hrg3; have HTH3 := Lib.hid hth3; have HS12 := Lib.hid hs3; have HI12 := Lib.hid hI3; have HBW12 := Lib.hid hbw3; have HB12 := Lib.hid hb3; have HE12 := Lib.hid he3; have HC12 := Lib.hid hcall3; clear ho11 hg11 s11 hrg3 hth3 hs3 hI3 hbw3 hb3 he3 hcall3)
      | (refine wpList_load_mid rfl 103 _ rfl w7.heap.size 74 rfl sl _ HRG3.out HUS.out rfl HIS.out ?_)
      | (refine wpList_store_mid rfl 103 _ _ rfl w8.heap.size 74 sl.toArray rfl rfl HTH3.out HIA.out HON.out ?_; rw [List.toList_toArray])
      | (refine wpList_load_row rfl 105 _ rfl w8.heap.size rfl 105 cr3 (0, 0) _ HS12.out HU.out rfl HI12.out ?_))
    refine (HC12.out _ _ ?_ ?_).mono ?_
    · omega
    · omega
    rintro e w13 ⟨r4, rfl, hs4, st4, b4, fa4, fp4⟩
    generalize (w11.setCell ⟨w8.heap.size, 73, none⟩ (.slice P6 (r.pn + 1) pc6)).setCells w8.heap.size 74 sl = w12 at *
    clear c11 z11
    obtain ⟨cf, hcf⟩ : ∃ cf, (sc r4).toArray = cf := ⟨_, rfl⟩
    rw [hcf]
    have HIF : Hid ((Tryz.prog.info? 105).map (·.size) = some cf.size) := Lib.hid (by rw [← hcf]; exact hi_st _ st4.r8)
    have HSZF : Hid (Z.size = cf.size) := Lib.hid (by rw [HZS.out, ← hcf, List.size_toArray, sc_len st4.r8])
    have HONF : Hid (cf.all (·.oneCell') = true) := Lib.hid (by rw [← hcf]; exact one_st _)
    have HZ13 : Hid (Blk w13 (w.heap.size + 1) 105 Z) := Lib.hid (HT.out.2.1.below (bl_trans HB12.out b4))
    have HBW13 := Lib.hid (bl_trans HBW12.out b4)
    have hg1 : w.heap.size + 1 < w12.heap.size := by have h1 := HB12.out.size; have h2 := HW2.out; omega
    have HPF : Hid (RetSt w r (eitherS (seg (ss l) frm mid) (seg (ss l) mid to) r.s) (.returned (.agg cf)) (w13.setRow (w.heap.size + 1) cf)) := Lib.hid (by
      have fa := fa4
      rw [HE12.out.1, HE12.out.2.1] at fa
      refine ⟨r4, by rw [hcf], by rw [HE.out, if_pos hk, hs4], st4.setRow_ cf (fa.ne HNA.out hg1) (fp4.ne (fun b off e _ => by have h1 := HE12.out.2.2 b off e; have h2 := HB9.out.size; have h3 := HW2.out; omega) hg1), below_setRow HBW13.out (by omega) _, (Fresh.refl w r.A r.n).trans fa HBW12.out.size, Fresh.trans (.inr (fun b off e => by have h1 := HE12.out.2.2 b off e; have h2 := HBW9.out.size; omega)) fp4 HBW12.out.size⟩)
    clear hs4 st4 b4 fa4 fp4 hcf hg1
    go_wp2_with (refine wpList_store_row rfl 105 _ _ rfl (w.heap.size + 1) cf rfl rfl 105 Z HZ13.out HIF.out HSZF.out HONF.out ?_)
    (try simp only [Exit.inBlock, Exit.then])
    exact bodyPost_ret (results_cell_row Tryz.results90 _ _ (w.heap.size + 1) 105 cf (0, 0) _ rfl (setRow_blk HZ13.out) HU.out rfl HIF.out) rfl HPF.out
  · have q : (U.kind != 2) = true := by simp [hk]
    have HP9 : Hid (RetSt w r (eitherS (seg (ss l) frm mid) (seg (ss l) mid to) r.s) (.returned (.agg ce)) (w8.setRow (w.heap.size + 1) ce)) := Lib.hid ⟨r2, by rw [hce], by rw [HE.out, if_neg hk, hs2], HST8.out.setRow_ ce HNA2.out HNP2.out, below_setRow HBW8.out (by omega) _, HFA.out, HFP.out⟩
    clear hs2 st2 b7 fa2 fp2 hce hb7a hb8 hg1
    go_wp2_with (first
      | (refine alloc_row rfl 105 rfl Z HZ.out ?_; rw [← hw7a]; clear hw7a)
      | (refine wpList_store_row rfl 105 _ _ rfl w7.heap.size ce rfl rfl 105 Z HZ7.out HIE.out HSZE.out HONE.out ?_; rw [← hw8]; clear hw8)
      | (refine wpList_load_row rfl 105 _ rfl w7.heap.size rfl 105 ce (0, 0) _ HC8.out HU.out rfl HIE.out ?_)
      | (refine wpList_store_row rfl 105 _ _ rfl (w.heap.size + 1) ce rfl rfl 105 Z HZ8.out HIE.out HSZE.out HONE.out ?_))
    (try simp only [Exit.inBlock, Exit.then])
    exact bodyPost_ret (results_cell_row Tryz.results90 _ _ (w.heap.size + 1) 105 ce (0, 0) _ rfl (setRow_blk HZ8.out) HU.out rfl HIE.out) rfl HP9.out
end Go.Proofs.YtbeeojccadeboaaGreat.Model
