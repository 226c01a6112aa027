/-
  WHAT THE DOCUMENT'S ANSWER FOR LAYER 10 RETURNS: part, at an Either, if either does what it should. No conditions beyond those that each theorem states.
-/
import Derived.Test.YtbeeojccadeboaaGreatModelPR
namespace Go.Proofs.YtbeeojccadeboaaGreat.Model
open Go.ChangeShapes Go.WideShapes Go.ChangeAt Go.RowKit Mem Go.Proofs.YtbeeojccadeboaaGreat.Code

set_option maxRecDepth 100000 in
set_option maxHeartbeats 4000000 in
theorem part_either0_r (f : Nat) (hf : PartR f) (l : List Raw) (A : Option Addr) (n c frm to : Nat) (r : RS) (w : World) (hp : PrR w A n l frm to (f + 1) r) (hlt : frm < to) (x : Step) (T : Option Addr) (tn tc : Nat) (hx : l[frm]? = some ⟨x, T, tn, tc⟩) (hd : x.d = 7) (he : EitherR f) (hk : ∀ (U V : List Step), U = seg (ss l) (frm + 1) (frm + 1 + x.a.toNat) → V = seg (ss l) (frm + 1 + x.a.toNat) (frm + 1 + x.a.toNat + x.b.toNat) → (eitherS U V r.s).kind ≠ 1) :
    Calls Tryz.prog 42 #[.slice A n c, .int .i64 (frm : Int), .int .i64 (to : Int), .agg (sc r).toArray] w (RetSt w r (part (seg (ss l) frm to) r.s)) := by
  have HST := Lib.hid hp.st
  obtain ⟨hseg, hone, hwt⟩ := hp.step hlt _ hx
  have hto := hp.ton
  have hn := hp.n1000
  obtain ⟨b, off, ⟨⟨sd, sa, sb, st⟩, T', tn', tc'⟩, rfl, hx', c0, c1, c2, c3, hrd, _⟩ := hp.code.at_ frm (by omega)
  rw [hx] at hx'
  injection hx' with hx'
  injection hx' with i1 i2 i3 i4
  subst i1 i2 i3 i4
  simp only at c0 c1 c2 c3 hrd hd hseg hone hwt hk
  subst hd
  have hwf := hp.well
  rw [hseg] at hwf
  obtain ⟨ka, kb, hka, hkb, hab, wu, wv, wr, hspec⟩ := parts_st _ _ hone rfl hwf
  simp only at hka hkb
  subst hka hkb
  obtain ⟨Z, hZ0⟩ : ∃ Z, (sc rz).toArray = Z := ⟨_, rfl⟩
  have HZ := Lib.hid zero_st
  have HZS : Hid (Z.size = 140) := Lib.hid (by rw [← hZ0, List.size_toArray, sc_len rfl])
  rw [hZ0] at HZ
  clear hZ0
  obtain ⟨cr, hcr⟩ : ∃ cr, (sc r).toArray = cr := ⟨_, rfl⟩
  obtain ⟨w2, hw2⟩ : ∃ w2, w2 = (w.alloc (.cells cr 105)).alloc (.cells Z 105) := ⟨_, rfl⟩
  have HT := Lib.hid (two_blocks r w 105 cr Z hcr rfl w2 hw2)
  have HU := Lib.hid Tryz.underlying105
  have HI : Hid ((Tryz.prog.info? 105).map (·.size) = some cr.size) := Lib.hid (by rw [← hcr]; exact hi_st _ HST.out.r8)
  have HFA := Lib.hid (Fresh.refl w r.A r.n)
  have HFP := Lib.hid (Fresh.refl w r.P r.pn)
  have HNA := Lib.hid ((rd_old HST.out.heap (by decide)).ne (g := w.heap.size + 1) (by omega))
  have HNP := Lib.hid ((rd_old HST.out.path (by decide)).ne (g := w.heap.size + 1) (by omega))
  have d0 := cell_kept_up c0 HT.out.2.2.1
  have d1 := cell_kept_up c1 HT.out.2.2.1
  have d2 := cell_kept_up c2 HT.out.2.2.1
  have d3 := cell_kept_up c3 HT.out.2.2.1
  obtain ⟨w3, hw3⟩ : ∃ w3, w3 = w2.alloc (.cells #[.int .i64 7, .int .i64 (ka : Int), .int .i64 (kb : Int), .slice T tn tc] 112) := ⟨_, rfl⟩
  have HB3 : Hid (Blk w3 w2.heap.size 112 #[.int .i64 7, .int .i64 (ka : Int), .int .i64 (kb : Int), .slice T tn tc]) := Lib.hid (by rw [hw3]; exact Blk.new _ _ _)
  have HW3 : Hid (Below w2.heap.size w2 w3) := Lib.hid (by rw [hw3]; exact bl_alloc (Below.refl _ _) _)
  have HS3 : Hid (Blk w3 w.heap.size 105 cr) := Lib.hid (by have := Blk.below HT.out.1 HW3.out; rw [hcr] at this; exact this)
  have hbw : Below w.heap.size w w3 := bl_trans HT.out.2.2.1 HW3.out
  have BW := Lib.hid hbw
  have HZW : Hid (Blk w3 (w.heap.size + 1) 105 Z) := Lib.hid (HT.out.2.1.below HW3.out)
  have x1 := HB3.out.cell 1 _ rfl
  have x2 := HB3.out.cell 2 _ rfl
  have x3 := HB3.out.cell 3 _ rfl
  obtain ⟨N1, hN1⟩ : ∃ N1, frm + 1 = N1 := ⟨_, rfl⟩
  have hwr1 : IntKind.i64.wrap ((frm : Int) + 1) = (N1 : Int) := by rw [IntKind.wrap_i64]; omega
  have hsl : (seg (ss l) (frm + 1) to).length = to - (frm + 1) := seg_len _ _ _ (by rw [ss_len, hp.code.len]; exact hto)
  rw [hsl, hN1] at hab
  obtain ⟨N2, hN2⟩ : ∃ N2, N1 + ka = N2 := ⟨_, rfl⟩
  obtain ⟨N3, hN3⟩ : ∃ N3, N2 + kb = N3 := ⟨_, rfl⟩
  have hwr2 : IntKind.i64.wrap ((N1 : Int) + (ka : Int)) = (N2 : Int) := by rw [IntKind.wrap_i64]; omega
  have hwr3 : IntKind.i64.wrap ((N2 : Int) + (kb : Int)) = (N3 : Int) := by rw [IntKind.wrap_i64]; omega
  have eU : (seg (ss l) (frm + 1) to).take ka = seg (ss l) N1 N2 := by rw [hN1, seg_take _ _ _ _ (by omega), hN2]
  have eV : ((seg (ss l) (frm + 1) to).drop ka).take kb = seg (ss l) N2 N3 := by rw [seg_drop, hN1, hN2, seg_take _ _ _ _ (by omega), hN3]
  have eR : (seg (ss l) (frm + 1) to).drop (ka + kb) = seg (ss l) N3 to := by rw [seg_drop, hN1, ← Nat.add_assoc, hN2, hN3]
  rw [eU, eV, eR] at hspec
  rw [eU] at wu
  rw [eV] at wv
  rw [eR] at wr
  have hk1 := hk (seg (ss l) N1 N2) (seg (ss l) N2 N3) (by rw [Int.toNat_natCast, hN1, hN2]) (by rw [Int.toNat_natCast, Int.toNat_natCast, hN1, hN2, hN3])
  obtain ⟨E, hE⟩ : ∃ E, eitherS (seg (ss l) N1 N2) (seg (ss l) N2 N3) r.s = E := ⟨_, rfl⟩
  have hpl := either_path (seg (ss l) N1 N2) (seg (ss l) N2 N3) r.s
  have hl1 : (seg (ss l) N1 N2).length = N2 - N1 := seg_len _ _ _ (by rw [ss_len, hp.code.len]; omega)
  have hl2 : (seg (ss l) N2 N3).length = N3 - N2 := seg_len _ _ _ (by rw [ss_len, hp.code.len]; omega)
  rw [hE] at hk1 hpl
  have hpath := hp.path
  have HSP : Hid (part (seg (ss l) frm to) r.s = E) := Lib.hid (by rw [hseg, hspec r.s, hE, if_neg hk1])
  have HEI : Hid (∀ W, Below w3.heap.size w3 W → ∀ z1 z2 z3 : Int, z1 = ((N1 : Nat) : Int) → z2 = ((N2 : Nat) : Int) → z3 = ((N3 : Nat) : Int) → Calls Tryz.prog 90 #[.slice (some ⟨b, off, none⟩) n c, .int .i64 z1, .int .i64 z2, .int .i64 z3, .agg cr] W (RetSt W r E)) := Lib.hid (fun W hW z1 z2 z3 h1 h2 h3 => by
    have hx1 := he l (some ⟨b, off, none⟩) n c N1 N2 N3 r W (hp.code.below (bl_trans hbw hW)) hp.all (by omega) (by omega) (by omega) hn (by have := hp.fuel; omega) wu wv (HST.out.below (bl_trans hbw hW)) (by omega) z1 z2 z3 h1 h2 h3
    rw [hE, hcr] at hx1
    exact hx1)
  have HNX : Hid (∀ (W : World) (r6 : RS), Below w.heap.size w W → StR W r6 → r6.s = E → ∀ z : Int, z = ((N3 : Nat) : Int) → Calls Tryz.prog 42 #[.slice (some ⟨b, off, none⟩) n c, .int .i64 z, .int .i64 (to : Int), .agg (sc r6).toArray] W (RetSt W r6 (part (seg (ss l) N3 to) r6.s))) := Lib.hid (fun W r6 hW h1 h2 z hz =>
    hf l (some ⟨b, off, none⟩) n c N3 to r6 W ⟨hp.code.below hW, hp.all, by omega, hp.ton, hp.n1000, by have := hp.fuel; omega, wr, h1, by rw [h2]; omega⟩ z (to : Int) hz rfl)
  have HKE : Hid (E.kind ≠ 1) := Lib.hid hk1
  have HGA := Lib.hid ((rd_old HST.out.heap (by decide)).ne (g := w.heap.size) (Nat.le_refl _))
  have HGP := Lib.hid ((rd_old HST.out.path (by decide)).ne (g := w.heap.size) (Nat.le_refl _))
  have HL3 := Lib.hid (And.intro HS3.out.lt HZW.out.lt)
  have hgne : w2.heap.size ≠ w.heap.size := by have := HT.out.2.2.2; omega
  have HGN := Lib.hid hgne
  have hdec : ¬ ((to : Int) ≤ (frm : Int)) := by omega
  rw [hcr]
  clear c0 c1 c2 c3 hx hcr hseg hone hwt hbw hrd hf hp he hk hk1 hwf hab wu wv wr hspec hsl eU eV eR hE hpl hl1 hl2 hpath hgne
  subst hw3
  go_enter Tryz.func42, Tryz.ntmps42
  go_wp2_with (first
    | (refine box_row rfl 105 _ rfl cr rfl ?_)
    | (refine alloc_row rfl 105 rfl Z HZ.out ?_; rw [← hw2]; clear hw2)
    | (refine wpList_load_row rfl 105 _ rfl w.heap.size rfl 105 cr (0, 0) _ HS3.out HU.out rfl HI.out ?_))
  refine (HEI.out _ (Below.refl _ _) _ _ _ ?_ ?_ ?_).mono ?_
  · omega
  · omega
  · omega
  rintro e w6 ⟨r6, rfl, hs6, st6, b6, fa6, fp6⟩
  obtain ⟨ce6, hce6⟩ : ∃ ce6, (sc r6).toArray = ce6 := ⟨_, rfl⟩
  rw [hce6]
  have HS6 := Lib.hid (HS3.out.below b6)
  have HI6 : Hid ((Tryz.prog.info? 105).map (·.size) = some ce6.size) := Lib.hid (by rw [← hce6]; exact hi_st _ st6.r8)
  have HSZ6 : Hid (cr.size = ce6.size) := Lib.hid (by have h1 := HI6.out; rw [HI.out] at h1; injection h1)
  have HON6 : Hid (ce6.all (·.oneCell') = true) := Lib.hid (by rw [← hce6]; exact one_st _)
  obtain ⟨w7, hw7⟩ : ∃ w7, w7 = w6.setRow w.heap.size ce6 := ⟨_, rfl⟩
  have HS7 : Hid (Blk w7 w.heap.size 105 ce6) := Lib.hid (by rw [hw7]; exact setRow_blk HS6.out)
  have HB7 : Hid (Blk w7 w2.heap.size 112 #[.int .i64 7, .int .i64 (ka : Int), .int .i64 (kb : Int), .slice T tn tc]) := Lib.hid (by rw [hw7]; exact (setRow_other w6 _ _ _ HGN.out).trans (HB3.out.below b6))
  have HZ7 : Hid (Blk w7 (w.heap.size + 1) 105 Z) := Lib.hid (by rw [hw7]; exact (setRow_other w6 _ _ _ (by omega)).trans (HZW.out.below b6))
  have HBW7 : Hid (Below w.heap.size w w7) := Lib.hid (by rw [hw7]; exact below_setRow (bl_trans BW.out b6) (Nat.le_refl _) _)
  have HST7 : Hid (StR w7 r6) := Lib.hid (by rw [hw7]; exact st6.setRow_ ce6 (fa6.ne HGA.out HL3.out.1) (fp6.ne HGP.out HL3.out.1))
  have HFA := Lib.hid (HFA.out.trans fa6 BW.out.size)
  have HFP := Lib.hid (HFP.out.trans fp6 BW.out.size)
  have HNA := Lib.hid (fa6.ne HNA.out HL3.out.2)
  have HNP := Lib.hid (fp6.ne HNP.out HL3.out.2)
  have HR6 := Lib.hid hs6
  have y2 := HB7.out.cell 2 _ rfl
  have yk : w7.cell? ⟨w.heap.size, 138, none⟩ = some (.int .i64 E.kind) := by
    rw [← hs6]
    exact HS7.out.cell 138 _ (by rw [← hce6, List.getElem?_toArray]; exact (sc_kind st6.r8).1)
  have q : (E.kind != 1) = true := by have h1 := HKE.out; simp [h1]
  have hk7 := HKE.out
  have HSZ7 : Hid (Z.size = ce6.size) := Lib.hid (by rw [HZS.out, ← hce6, List.size_toArray, sc_len st6.r8])
  have HP9 : Hid (RetSt w r (part (seg (ss l) frm to) r.s) (.returned (.agg ce6)) (w7.setRow (w.heap.size + 1) ce6)) := Lib.hid ⟨r6, by rw [hce6], by rw [hs6, HSP.out], HST7.out.setRow_ ce6 HNA.out HNP.out, below_setRow HBW7.out (by omega) _, HFA.out, HFP.out⟩
  clear hs6 st6 b6 fa6 fp6 hce6 x1 x2 x3
  go_wp2_with (first
    | (refine wpList_store_row rfl 105 _ _ rfl w.heap.size ce6 rfl rfl 105 cr HS6.out HI6.out HSZ6.out HON6.out ?_; rw [← hw7]; clear hw7)
    | (refine wpList_load_row rfl 105 _ rfl w.heap.size rfl 105 ce6 (0, 0) _ HS7.out HU.out rfl HI6.out ?_)
    | (refine wpList_store_row rfl 105 _ _ rfl (w.heap.size + 1) ce6 rfl rfl 105 Z HZ7.out HI6.out HSZ7.out HON6.out ?_))
  (try simp only [Exit.inBlock, Exit.then])
  exact bodyPost_ret (results_cell_row Tryz.results42 _ _ (w.heap.size + 1) 105 ce6 (0, 0) _ rfl (setRow_blk HZ7.out) HU.out rfl HI6.out) rfl HP9.out
set_option maxRecDepth 100000 in
set_option maxHeartbeats 4000000 in
theorem part_either1_r (f : Nat) (hf : PartR f) (l : List Raw) (A : Option Addr) (n c frm to : Nat) (r : RS) (w : World) (hp : PrR w A n l frm to (f + 1) r) (hlt : frm < to) (x : Step) (T : Option Addr) (tn tc : Nat) (hx : l[frm]? = some ⟨x, T, tn, tc⟩) (hd : x.d = 7) (he : EitherR f) (hk : ∀ (U V : List Step), U = seg (ss l) (frm + 1) (frm + 1 + x.a.toNat) → V = seg (ss l) (frm + 1 + x.a.toNat) (frm + 1 + x.a.toNat + x.b.toNat) → (eitherS U V r.s).kind = 1) :
    Calls Tryz.prog 42 #[.slice A n c, .int .i64 (frm : Int), .int .i64 (to : Int), .agg (sc r).toArray] w (RetSt w r (part (seg (ss l) frm to) r.s)) := by
  have HST := Lib.hid hp.st
  obtain ⟨hseg, hone, hwt⟩ := hp.step hlt _ hx
  have hto := hp.ton
  have hn := hp.n1000
  obtain ⟨b, off, ⟨⟨sd, sa, sb, st⟩, T', tn', tc'⟩, rfl, hx', c0, c1, c2, c3, hrd, _⟩ := hp.code.at_ frm (by omega)
  rw [hx] at hx'
  injection hx' with hx'
  injection hx' with i1 i2 i3 i4
  subst i1 i2 i3 i4
  simp only at c0 c1 c2 c3 hrd hd hseg hone hwt hk
  subst hd
  have hwf := hp.well
  rw [hseg] at hwf
  obtain ⟨ka, kb, hka, hkb, hab, wu, wv, wr, hspec⟩ := parts_st _ _ hone rfl hwf
  simp only at hka hkb
  subst hka hkb
  obtain ⟨Z, hZ0⟩ : ∃ Z, (sc rz).toArray = Z := ⟨_, rfl⟩
  have HZ := Lib.hid zero_st
  have HZS : Hid (Z.size = 140) := Lib.hid (by rw [← hZ0, List.size_toArray, sc_len rfl])
  rw [hZ0] at HZ
  clear hZ0
  obtain ⟨cr, hcr⟩ : ∃ cr, (sc r).toArray = cr := ⟨_, rfl⟩
  obtain ⟨w2, hw2⟩ : ∃ w2, w2 = (w.alloc (.cells cr 105)).alloc (.cells Z 105) := ⟨_, rfl⟩
  have HT := Lib.hid (two_blocks r w 105 cr Z hcr rfl w2 hw2)
  have HU := Lib.hid Tryz.underlying105
  have HI : Hid ((Tryz.prog.info? 105).map (·.size) = some cr.size) := Lib.hid (by rw [← hcr]; exact hi_st _ HST.out.r8)
  have HFA := Lib.hid (Fresh.refl w r.A r.n)
  have HFP := Lib.hid (Fresh.refl w r.P r.pn)
  have HNA := Lib.hid ((rd_old HST.out.heap (by decide)).ne (g := w.heap.size + 1) (by omega))
  have HNP := Lib.hid ((rd_old HST.out.path (by decide)).ne (g := w.heap.size + 1) (by omega))
  have d0 := cell_kept_up c0 HT.out.2.2.1
  have d1 := cell_kept_up c1 HT.out.2.2.1
  have d2 := cell_kept_up c2 HT.out.2.2.1
  have d3 := cell_kept_up c3 HT.out.2.2.1
  obtain ⟨w3, hw3⟩ : ∃ w3, w3 = w2.alloc (.cells #[.int .i64 7, .int .i64 (ka : Int), .int .i64 (kb : Int), .slice T tn tc] 112) := ⟨_, rfl⟩
  have HB3 : Hid (Blk w3 w2.heap.size 112 #[.int .i64 7, .int .i64 (ka : Int), .int .i64 (kb : Int), .slice T tn tc]) := Lib.hid (by rw [hw3]; exact Blk.new _ _ _)
  have HW3 : Hid (Below w2.heap.size w2 w3) := Lib.hid (by rw [hw3]; exact bl_alloc (Below.refl _ _) _)
  have HS3 : Hid (Blk w3 w.heap.size 105 cr) := Lib.hid (by have := Blk.below HT.out.1 HW3.out; rw [hcr] at this; exact this)
  have hbw : Below w.heap.size w w3 := bl_trans HT.out.2.2.1 HW3.out
  have BW := Lib.hid hbw
  have HZW : Hid (Blk w3 (w.heap.size + 1) 105 Z) := Lib.hid (HT.out.2.1.below HW3.out)
  have x1 := HB3.out.cell 1 _ rfl
  have x2 := HB3.out.cell 2 _ rfl
  have x3 := HB3.out.cell 3 _ rfl
  obtain ⟨N1, hN1⟩ : ∃ N1, frm + 1 = N1 := ⟨_, rfl⟩
  have hwr1 : IntKind.i64.wrap ((frm : Int) + 1) = (N1 : Int) := by rw [IntKind.wrap_i64]; omega
  have hsl : (seg (ss l) (frm + 1) to).length = to - (frm + 1) := seg_len _ _ _ (by rw [ss_len, hp.code.len]; exact hto)
  rw [hsl, hN1] at hab
  obtain ⟨N2, hN2⟩ : ∃ N2, N1 + ka = N2 := ⟨_, rfl⟩
  obtain ⟨N3, hN3⟩ : ∃ N3, N2 + kb = N3 := ⟨_, rfl⟩
  have hwr2 : IntKind.i64.wrap ((N1 : Int) + (ka : Int)) = (N2 : Int) := by rw [IntKind.wrap_i64]; omega
  have hwr3 : IntKind.i64.wrap ((N2 : Int) + (kb : Int)) = (N3 : Int) := by rw [IntKind.wrap_i64]; omega
  have eU : (seg (ss l) (frm + 1) to).take ka = seg (ss l) N1 N2 := by rw [hN1, seg_take _ _ _ _ (by omega), hN2]
  have eV : ((seg (ss l) (frm + 1) to).drop ka).take kb = seg (ss l) N2 N3 := by rw [seg_drop, hN1, hN2, seg_take _ _ _ _ (by omega), hN3]
  have eR : (seg (ss l) (frm + 1) to).drop (ka + kb) = seg (ss l) N3 to := by rw [seg_drop, hN1, ← Nat.add_assoc, hN2, hN3]
  rw [eU, eV, eR] at hspec
  rw [eU] at wu
  rw [eV] at wv
  rw [eR] at wr
  have hk1 := hk (seg (ss l) N1 N2) (seg (ss l) N2 N3) (by rw [Int.toNat_natCast, hN1, hN2]) (by rw [Int.toNat_natCast, Int.toNat_natCast, hN1, hN2, hN3])
  obtain ⟨E, hE⟩ : ∃ E, eitherS (seg (ss l) N1 N2) (seg (ss l) N2 N3) r.s = E := ⟨_, rfl⟩
  have hpl := either_path (seg (ss l) N1 N2) (seg (ss l) N2 N3) r.s
  have hl1 : (seg (ss l) N1 N2).length = N2 - N1 := seg_len _ _ _ (by rw [ss_len, hp.code.len]; omega)
  have hl2 : (seg (ss l) N2 N3).length = N3 - N2 := seg_len _ _ _ (by rw [ss_len, hp.code.len]; omega)
  rw [hE] at hk1 hpl
  have hpath := hp.path
  have HSP : Hid (part (seg (ss l) frm to) r.s = part (seg (ss l) N3 to) E) := Lib.hid (by rw [hseg, hspec r.s, hE, if_pos hk1])
  have HEI : Hid (∀ W, Below w3.heap.size w3 W → ∀ z1 z2 z3 : Int, z1 = ((N1 : Nat) : Int) → z2 = ((N2 : Nat) : Int) → z3 = ((N3 : Nat) : Int) → Calls Tryz.prog 90 #[.slice (some ⟨b, off, none⟩) n c, .int .i64 z1, .int .i64 z2, .int .i64 z3, .agg cr] W (RetSt W r E)) := Lib.hid (fun W hW z1 z2 z3 h1 h2 h3 => by
    have hx1 := he l (some ⟨b, off, none⟩) n c N1 N2 N3 r W (hp.code.below (bl_trans hbw hW)) hp.all (by omega) (by omega) (by omega) hn (by have := hp.fuel; omega) wu wv (HST.out.below (bl_trans hbw hW)) (by omega) z1 z2 z3 h1 h2 h3
    rw [hE, hcr] at hx1
    exact hx1)
  have HNX : Hid (∀ (W : World) (r6 : RS), Below w.heap.size w W → StR W r6 → r6.s = E → ∀ z : Int, z = ((N3 : Nat) : Int) → Calls Tryz.prog 42 #[.slice (some ⟨b, off, none⟩) n c, .int .i64 z, .int .i64 (to : Int), .agg (sc r6).toArray] W (RetSt W r6 (part (seg (ss l) N3 to) r6.s))) := Lib.hid (fun W r6 hW h1 h2 z hz =>
    hf l (some ⟨b, off, none⟩) n c N3 to r6 W ⟨hp.code.below hW, hp.all, by omega, hp.ton, hp.n1000, by have := hp.fuel; omega, wr, h1, by rw [h2]; omega⟩ z (to : Int) hz rfl)
  have HKE : Hid (E.kind = 1) := Lib.hid hk1
  have HGA := Lib.hid ((rd_old HST.out.heap (by decide)).ne (g := w.heap.size) (Nat.le_refl _))
  have HGP := Lib.hid ((rd_old HST.out.path (by decide)).ne (g := w.heap.size) (Nat.le_refl _))
  have HL3 := Lib.hid (And.intro HS3.out.lt HZW.out.lt)
  have hgne : w2.heap.size ≠ w.heap.size := by have := HT.out.2.2.2; omega
  have HGN := Lib.hid hgne
  have hdec : ¬ ((to : Int) ≤ (frm : Int)) := by omega
  rw [hcr]
  clear c0 c1 c2 c3 hx hcr hseg hone hwt hbw hrd hf hp he hk hk1 hwf hab wu wv wr hspec hsl eU eV eR hE hpl hl1 hl2 hpath hgne
  subst hw3
  go_enter Tryz.func42, Tryz.ntmps42
  go_wp2_with (first
    | (refine box_row rfl 105 _ rfl cr rfl ?_)
    | (refine alloc_row rfl 105 rfl Z HZ.out ?_; rw [← hw2]; clear hw2)
    | (refine wpList_load_row rfl 105 _ rfl w.heap.size rfl 105 cr (0, 0) _ HS3.out HU.out rfl HI.out ?_))
  refine (HEI.out _ (Below.refl _ _) _ _ _ ?_ ?_ ?_).mono ?_
  · omega
  · omega
  · omega
  rintro e w6 ⟨r6, rfl, hs6, st6, b6, fa6, fp6⟩
  obtain ⟨ce6, hce6⟩ : ∃ ce6, (sc r6).toArray = ce6 := ⟨_, rfl⟩
  rw [hce6]
  have HS6 := Lib.hid (HS3.out.below b6)
  have HI6 : Hid ((Tryz.prog.info? 105).map (·.size) = some ce6.size) := Lib.hid (by rw [← hce6]; exact hi_st _ st6.r8)
  have HSZ6 : Hid (cr.size = ce6.size) := Lib.hid (by have h1 := HI6.out; rw [HI.out] at h1; injection h1)
  have HON6 : Hid (ce6.all (·.oneCell') = true) := Lib.hid (by rw [← hce6]; exact one_st _)
  obtain ⟨w7, hw7⟩ : ∃ w7, w7 = w6.setRow w.heap.size ce6 := ⟨_, rfl⟩
  have HS7 : Hid (Blk w7 w.heap.size 105 ce6) := Lib.hid (by rw [hw7]; exact setRow_blk HS6.out)
  have HB7 : Hid (Blk w7 w2.heap.size 112 #[.int .i64 7, .int .i64 (ka : Int), .int .i64 (kb : Int), .slice T tn tc]) := Lib.hid (by rw [hw7]; exact (setRow_other w6 _ _ _ HGN.out).trans (HB3.out.below b6))
  have HZ7 : Hid (Blk w7 (w.heap.size + 1) 105 Z) := Lib.hid (by rw [hw7]; exact (setRow_other w6 _ _ _ (by omega)).trans (HZW.out.below b6))
  have HBW7 : Hid (Below w.heap.size w w7) := Lib.hid (by rw [hw7]; exact below_setRow (bl_trans BW.out b6) (Nat.le_refl _) _)
  have HST7 : Hid (StR w7 r6) := Lib.hid (by rw [hw7]; exact st6.setRow_ ce6 (fa6.ne HGA.out HL3.out.1) (fp6.ne HGP.out HL3.out.1))
  have HFA := Lib.hid (HFA.out.trans fa6 BW.out.size)
  have HFP := Lib.hid (HFP.out.trans fp6 BW.out.size)
  have HNA := Lib.hid (fa6.ne HNA.out HL3.out.2)
  have HNP := Lib.hid (fp6.ne HNP.out HL3.out.2)
  have HR6 := Lib.hid hs6
  have y2 := HB7.out.cell 2 _ rfl
  have yk : w7.cell? ⟨w.heap.size, 138, none⟩ = some (.int .i64 E.kind) := by
    rw [← hs6]
    exact HS7.out.cell 138 _ (by rw [← hce6, List.getElem?_toArray]; exact (sc_kind st6.r8).1)
  have hk7 := HKE.out
  rw [hk7] at yk
  have HN : Hid (∀ z : Int, z = ((N3 : Nat) : Int) → Calls Tryz.prog 42 #[.slice (some ⟨b, off, none⟩) n c, .int .i64 z, .int .i64 (to : Int), .agg ce6] w7 (RetSt w7 r6 (part (seg (ss l) N3 to) r6.s))) := Lib.hid (fun z hz => by rw [← hce6]; exact HNX.out w7 r6 HBW7.out HST7.out HR6.out z hz)
  have BW := HBW7
  have HZW := HZ7
  clear hs6 st6 b6 fa6 fp6 hce6 x1 x2 x3 hk7
  go_wp2_with (first
    | (refine wpList_store_row rfl 105 _ _ rfl w.heap.size ce6 rfl rfl 105 cr HS6.out HI6.out HSZ6.out HON6.out ?_; rw [← hw7]; clear hw7)
    | (refine wpList_load_row rfl 105 _ rfl w.heap.size rfl 105 ce6 (0, 0) _ HS7.out HU.out rfl HI6.out ?_))
  refine (HN.out _ ?_).mono ?_
  · omega
  rintro e w9 ⟨r9, rfl, hs9, st9, b9, fa9, fp9⟩
  have HB9 := Lib.hid (bl_trans BW.out b9)
  have HZ9 : Hid (Blk w9 (w.heap.size + 1) 105 Z) := Lib.hid (HZW.out.below b9)
  obtain ⟨ce, hce⟩ : ∃ ce, (sc r9).toArray = ce := ⟨_, rfl⟩
  have HI9 : Hid ((Tryz.prog.info? 105).map (·.size) = some ce.size) := Lib.hid (by rw [← hce]; exact hi_st _ st9.r8)
  have HSZ9 : Hid (Z.size = ce.size) := Lib.hid (by rw [HZS.out, ← hce, List.size_toArray, sc_len st9.r8])
  have HON9 : Hid (ce.all (·.oneCell') = true) := Lib.hid (by rw [← hce]; exact one_st _)
  have HP9 : Hid (RetSt w r (part (seg (ss l) frm to) r.s) (.returned (.agg ce)) (w9.setRow (w.heap.size + 1) ce)) := Lib.hid ⟨r9, by rw [hce], by rw [hs9, HR6.out, HSP.out], st9.setRow_ ce (fa9.ne HNA.out HZW.out.lt) (fp9.ne HNP.out HZW.out.lt), below_setRow HB9.out (by omega) _, HFA.out.trans fa9 BW.out.size, HFP.out.trans fp9 BW.out.size⟩
  rw [hce]
  clear hs9 st9 hce b9 fa9 fp9
  go_wp2_with (refine wpList_store_row rfl 105 _ _ rfl (w.heap.size + 1) ce rfl rfl 105 Z HZ9.out HI9.out HSZ9.out HON9.out ?_)
  (try simp only [Exit.inBlock, Exit.then])
  exact bodyPost_ret (results_cell_row Tryz.results42 _ _ (w.heap.size + 1) 105 ce (0, 0) _ rfl (setRow_blk HZ9.out) HU.out rfl HI9.out) rfl HP9.out
end Go.Proofs.YtbeeojccadeboaaGreat.Model
