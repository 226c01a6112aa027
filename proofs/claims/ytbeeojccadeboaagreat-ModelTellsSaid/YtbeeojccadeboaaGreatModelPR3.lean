/-
  WHAT THE DOCUMENT'S ANSWER FOR LAYER 10 RETURNS: part, at a Load of a cell that is Live. No conditions beyond those that each theorem states.
-/
import Derived.Test.YtbeeojccadeboaaGreatModelPR
import Derived.Test.YtbeeojccadeboaaGreatHeapA
namespace Go.Proofs.YtbeeojccadeboaaGreat.Model
open Go.ChangeShapes Go.WideShapes Go.ChangeAt Go.RowKit Mem Go.Proofs.YtbeeojccadeboaaGreat.Code

set_option maxRecDepth 100000 in
set_option maxHeartbeats 4000000 in
theorem part_load0_r (f : Nat) (hf : PartR f) (l : List Raw) (A : Option Addr) (n c frm to : Nat) (r : RS) (w : World) (hp : PrR w A n l frm to (f + 1) r) (hlt : frm < to) (x : Step) (T : Option Addr) (tn tc : Nat) (hx : l[frm]? = some ⟨x, T, tn, tc⟩) (hd : x.d = 1) (hl : Heap.liveAt r.s.h x.b = true) (hw : r.s.wrote x.b.toNat = false) :
    Calls Tryz.prog 42 #[.slice A n c, .int .i64 (frm : Int), .int .i64 (to : Int), .agg (sc r).toArray] w (RetSt w r (part (seg (ss l) frm to) r.s)) := by
  have HST := Lib.hid hp.st
  obtain ⟨hseg, hone, hwt⟩ := hp.step hlt _ hx
  have hto := hp.ton
  have hn := hp.n1000
  obtain ⟨b, off, ⟨⟨sd, sa, sb, st⟩, T', tn', tc'⟩, rfl, hx', c0, c1, c2, c3, hrd, _⟩ := hp.code.at_ frm (by omega)
  rw [hx] at hx'
  injection hx' with hx'
  injection hx' with i1 i2 i3 i4
  subst i1 i2 i3 i4
  simp only at c0 c1 c2 c3 hrd hd hseg hone hwt hl hw
  subst hd
  obtain ⟨a0, a7, b0, b63⟩ := pr_load _ hone rfl
  simp only at a0 a7 b0 b63
  obtain ⟨ra, hra⟩ : ∃ ra : Nat, sa = (ra : Int) := ⟨sa.toNat, by omega⟩
  subst hra
  obtain ⟨kb, hkb⟩ : ∃ kb : Nat, sb = (kb : Int) := ⟨sb.toNat, by omega⟩
  subst hkb
  obtain ⟨Z, hZ0⟩ : ∃ Z, (sc rz).toArray = Z := ⟨_, rfl⟩
  have HZ := Lib.hid zero_st
  have HZS : Hid (Z.size = 140) := Lib.hid (by rw [← hZ0, List.size_toArray, sc_len rfl])
  rw [hZ0] at HZ
  clear hZ0
  obtain ⟨cr, hcr⟩ : ∃ cr, (sc r).toArray = cr := ⟨_, rfl⟩
  obtain ⟨w2, hw2⟩ : ∃ w2, w2 = (w.alloc (.cells cr 105)).alloc (.cells Z 105) := ⟨_, rfl⟩
  have HT := Lib.hid (two_blocks r w 105 cr Z hcr rfl w2 hw2)
  have HU := Lib.hid Tryz.underlying105
  have HI : Hid ((Tryz.prog.info? 105).map (·.size) = some cr.size) := Lib.hid (by rw [← hcr]; exact hi_st _ HST.out.r8)
  have HFA := Lib.hid (Fresh.refl w r.A r.n)
  have HFP := Lib.hid (Fresh.refl w r.P r.pn)
  have HNA := Lib.hid ((rd_old HST.out.heap (by decide)).ne (g := w.heap.size + 1) (by omega))
  have HNP := Lib.hid ((rd_old HST.out.path (by decide)).ne (g := w.heap.size + 1) (by omega))
  have d0 := cell_kept_up c0 HT.out.2.2.1
  have d1 := cell_kept_up c1 HT.out.2.2.1
  have d2 := cell_kept_up c2 HT.out.2.2.1
  have d3 := cell_kept_up c3 HT.out.2.2.1
  obtain ⟨w3, hw3⟩ : ∃ w3, w3 = w2.alloc (.cells #[.int .i64 1, .int .i64 (ra : Int), .int .i64 (kb : Int), .slice T tn tc] 112) := ⟨_, rfl⟩
  have HB3 : Hid (Blk w3 w2.heap.size 112 #[.int .i64 1, .int .i64 (ra : Int), .int .i64 (kb : Int), .slice T tn tc]) := Lib.hid (by rw [hw3]; exact Blk.new _ _ _)
  have HW3 : Hid (Below w2.heap.size w2 w3) := Lib.hid (by rw [hw3]; exact bl_alloc (Below.refl _ _) _)
  have HS3 : Hid (Blk w3 w.heap.size 105 cr) := Lib.hid (by have := Blk.below HT.out.1 HW3.out; rw [hcr] at this; exact this)
  have hbw : Below w.heap.size w w3 := bl_trans HT.out.2.2.1 HW3.out
  have BW := Lib.hid hbw
  have HZW : Hid (Blk w3 (w.heap.size + 1) 105 Z) := Lib.hid (HT.out.2.1.below HW3.out)
  have x1 := HB3.out.cell 1 _ rfl
  have x2 := HB3.out.cell 2 _ rfl
  have x3 := HB3.out.cell 3 _ rfl
  obtain ⟨N1, hN1⟩ : ∃ N1, frm + 1 = N1 := ⟨_, rfl⟩
  have hwr1 : IntKind.i64.wrap ((frm : Int) + 1) = (N1 : Int) := by rw [IntKind.wrap_i64]; omega
  rw [Int.toNat_natCast] at hw
  obtain ⟨_, hk1, y, hy, _⟩ := Heap.live_in r.s.h _ hl
  rw [Int.toNat_natCast] at hk1 hy
  have hrn : r.s.h.length = r.n := by have h1 := HST.out.heap.1; rw [Heap.cs_len] at h1; omega
  obtain ⟨hb, ho, ⟨lv, v⟩, hA, hx2, e0, e1⟩ := Heap.at_cell (HST.out.heap.below hbw) kb (by omega)
  have hval : Heap.valAt r.s.h (kb : Int) = v := by rw [Heap.val_at r.s.h kb _ hx2]
  simp only at e0 e1
  obtain ⟨yr, hyr⟩ : ∃ yr, r.s.regs[ra]? = some yr := ⟨_, List.getElem?_eq_getElem (by rw [HST.out.r8]; omega)⟩
  obtain ⟨r5, hr5⟩ : ∃ r5 : RS, r5 = { r with s := loaded r.s (ra : Int) (kb : Int) } := ⟨_, rfl⟩
  obtain ⟨cr5, hcr5⟩ : ∃ cr5, (sc r5).toArray = cr5 := ⟨_, rfl⟩
  have HSP : Hid (part (seg (ss l) frm to) r.s = part (seg (ss l) N1 to) r5.s) := Lib.hid (by rw [hseg, part_load _ _ _ rfl, hl, if_pos rfl, hN1, hr5])
  have hst5 : ∀ W, Below w3.heap.size w3 W → StR W r5 := fun W hW => by
    have h1 := HST.out.below (bl_trans hbw hW)
    rw [hr5]
    exact ⟨by show (r.s.regs.set _ _).length = 8; rw [List.length_set]; exact h1.r8, h1.heap, h1.n64, h1.path⟩
  have hI5 : (Tryz.prog.info? 105).map (·.size) = some cr5.size := by rw [← hcr5]; exact hi_st _ (hst5 w3 (Below.refl _ _)).r8
  have HI5 := Lib.hid hI5
  rw [hN1] at hwt
  have hpp : r5.s.path = r.s.path := by rw [hr5]; rfl
  have HN_N1 : Hid (∀ W, Below w3.heap.size w3 W → ∀ z : Int, z = ((N1 : Nat) : Int) → Calls Tryz.prog 42 #[.slice (some ⟨b, off, none⟩) n c, .int .i64 z, .int .i64 (to : Int), .agg cr5] W (RetSt W r5 (part (seg (ss l) N1 to) r5.s))) :=
    Lib.hid (fun W hW z hz => by rw [← hcr5]; exact hp.next hf (bl_trans hbw hW) r5 N1 c (by omega) (by omega) hwt (hst5 _ hW) (by rw [hpp]; have := hp.path; omega) z _ hz rfl)
  have HL : Hid (Calls Tryz.prog 62 #[.slice r.A r.n r.c, .int .i64 (kb : Int)] w3 fun e w' => e = .returned (.bool true) ∧ w3 = w') := Lib.hid (by have h1 := Heap.live_any r.s.h r.A r.n r.c (kb : Int) w3 (HST.out.heap.below hbw) (by have := HST.out.n64; omega); rw [hl] at h1; exact h1)
  have HSb : Hid (Sb w3 w.heap.size r) := Lib.hid (Blk.below HT.out.1 HW3.out)
  obtain ⟨Wx, hWx⟩ : ∃ Wx, Wx = w3.setCell ⟨w.heap.size, 74 + kb, none⟩ (.bool true) := ⟨_, rfl⟩
  have HSx : Hid (Sb Wx w.heap.size { r with s := { r.s with seen := upd r.s.seen kb } }) := Lib.hid (by rw [hWx]; exact HSb.out.set_ _ _ (sc_set_seen HST.out.r8 kb (by omega)))
  have hgne : w2.heap.size ≠ w.heap.size := by have := HT.out.2.2.2; omega
  have HBx : Hid (Blk Wx w2.heap.size 112 #[.int .i64 1, .int .i64 (ra : Int), .int .i64 (kb : Int), .slice T tn tc]) := Lib.hid (by rw [hWx]; exact HB3.out.beside (Ne.symm hgne) _ _)
  have BWx := Lib.hid (show Below w.heap.size w Wx by rw [hWx]; exact bl_set hbw (Nat.le_refl _) _)
  have HZx : Hid (Blk Wx (w.heap.size + 1) 105 Z) := Lib.hid (by rw [hWx]; exact HZW.out.beside (by omega) _ _)
  have hbl3 : hb ≠ w.heap.size := by have h2 := (rd_old HST.out.heap (by decide)).ne (g := w.heap.size) (Nat.le_refl _) hb ho hA (by omega); exact h2
  have f1 : Wx.cell? ⟨hb, ho + kb * 2 + 1, none⟩ = some (.int .i64 v) := by rw [hWx, cell_set_ne (Ne.symm hbl3)]; exact e1
  have s74 := HSb.out.cell_ _ _ (sc_seen HST.out.r8 kb (by omega))
  have z74 := Blk.frozen HSb.out (74 + kb)
  have HS5 : Hid (Blk (Wx.drew.setCell ⟨w.heap.size, 65 + ra, none⟩ (.int .i64 v)) w.heap.size 105 cr5) := Lib.hid (Sb.blk (r := r5) (by
    have h1 : Sb Wx.drew w.heap.size { r with s := { r.s with seen := upd r.s.seen kb } } := HSx.out
    have h2 := sc_set_reg (r := { r with s := { r.s with seen := upd r.s.seen kb } }) ra (by show ra < r.s.regs.length; rw [HST.out.r8]; omega) v
    have h3 : r5 = { { r with s := { r.s with seen := upd r.s.seen kb } } with s := { { r.s with seen := upd r.s.seen kb } with regs := r.s.regs.set ra v } } := by
      rw [hr5]
      unfold loaded
      rw [Int.toNat_natCast, Int.toNat_natCast, hw, hval]
      simp
    rw [h3]
    exact h1.set_ _ _ h2) hcr5)
  have BW5 := Lib.hid (bl_set BWx.out.drew (p := ⟨w.heap.size, 65 + ra, none⟩) (Nat.le_refl _) (.int .i64 v))
  have HZ5 : Hid (Blk (Wx.drew.setCell ⟨w.heap.size, 65 + ra, none⟩ (.int .i64 v)) (w.heap.size + 1) 105 Z) := Lib.hid ((show Blk Wx.drew _ _ _ from HZx.out).beside (by omega) _ _)
  have hB5 : Below w3.heap.size w3 w3 := Below.refl _ _
  have g1 : Wx.drew.cell? ⟨w2.heap.size, 1, none⟩ = some (.int .i64 (ra : Int)) := HBx.out.cell 1 _ rfl
  have g2 : Wx.drew.cell? ⟨w2.heap.size, 2, none⟩ = some (.int .i64 (kb : Int)) := HBx.out.cell 2 _ rfl
  have g0 : Wx.drew.cell? ⟨w.heap.size, 0, none⟩ = some (.slice (some ⟨hb, ho, none⟩) r.n r.c) := by have h1 := HSx.out.cell_ 0 _ (sc_heap (r := { r with s := { r.s with seen := upd r.s.seen kb } })); rw [← hA]; exact h1
  have g65 : Wx.drew.cell? ⟨w.heap.size, 65 + ra, none⟩ = some (.int .i64 yr) := HSx.out.cell_ _ _ (sc_reg (r := { r with s := { r.s with seen := upd r.s.seen kb } }) HST.out.r8 ra yr hyr)
  have gz : Wx.drew.frozen? ⟨w.heap.size, 65 + ra, none⟩ = false := Blk.frozen HSx.out (65 + ra)
  have gh : Wx.drew.cell? ⟨hb, ho + kb * 2 + 1, none⟩ = some (.int .i64 v) := f1
  have HN := Lib.hid (fun (z : Int) (hz : z = ((N1 : Nat) : Int)) => hf l (some ⟨b, off, none⟩) n c N1 to r5 (Wx.drew.setCell ⟨w.heap.size, 65 + ra, none⟩ (.int .i64 v)) ⟨hp.code.below BW5.out, hp.all, by omega, hp.ton, hp.n1000, by have := hp.fuel; omega, hwt, by
    have h1 := HST.out.below BW5.out
    rw [hr5]
    exact ⟨by show (r.s.regs.set _ _).length = 8; rw [List.length_set]; exact h1.r8, h1.heap, h1.n64, h1.path⟩, by rw [hpp]; have := hp.path; omega⟩ z (to : Int) hz rfl)
  have p0 : w3.cell? ⟨w.heap.size, 0, none⟩ = some (.slice r.A r.n r.c) := HSb.out.cell_ 0 _ sc_heap
  have p1 : w3.cell? ⟨w.heap.size, 1 + kb, none⟩ = some (.bool false) := by have h1 := HSb.out.cell_ _ _ (sc_wrote (r := r) kb (by omega)); rw [hw] at h1; exact h1
  have HG := Lib.hid (And.intro g1 (And.intro g2 (And.intro g0 (And.intro g65 (And.intro gz gh)))))
  have HWX := Lib.hid hWx
  have HP01 := Lib.hid (And.intro p0 p1)
  have HST7 := Lib.hid (And.intro s74 z74)
  have hr8 : ¬ ((8 : Int) ≤ (ra : Int)) := by omega
  have hr64 : ¬ ((64 : Int) ≤ (kb : Int)) := by omega
  have hkn : ¬ ((r.n : Int) ≤ (kb : Int)) := by omega
  have hdec : ¬ ((to : Int) ≤ (frm : Int)) := by omega
  have HFA : Hid (Fresh w r.A r.n r5.A r5.n) := Lib.hid (by rw [hr5]; exact Fresh.refl _ _ _)
  have HFP : Hid (Fresh w r.P r.pn r5.P r5.pn) := Lib.hid (by rw [hr5]; exact Fresh.refl _ _ _)
  have HNA : Hid (∀ b off, r5.A = some ⟨b, off, none⟩ → 0 < r5.n → b ≠ w.heap.size + 1) := Lib.hid (by rw [hr5]; exact HNA.out)
  have HNP : Hid (∀ b off, r5.P = some ⟨b, off, none⟩ → 0 < r5.pn → b ≠ w.heap.size + 1) := Lib.hid (by rw [hr5]; exact HNP.out)
  have BW := BW5
  have HZW := HZ5
  rw [hcr]
  rw [hcr5] at HN
  clear c0 c1 c2 c3 hx hcr hseg hone hwt hbw hrd hf hp hl hw hk1 hy hrn hx2 hval hyr hr5 hst5 hI5 hpp e0 e1 f1 hB5 g1 g2 g0 g65 gz gh hWx hgne hbl3 hcr5 a0 a7 b0 b63
  have p0l := p0
  rw [hw3] at p0l
  have HX := Lib.hid (And.intro x1 (And.intro x2 x3))
  have HA := Lib.hid hA
  clear p0 p1 x1 x2 x3 hA s74 z74
  go_enter Tryz.func42, Tryz.ntmps42
  go_wp2_with (first
    | (refine box_row rfl 105 _ rfl cr rfl ?_)
    | (refine alloc_row rfl 105 rfl Z HZ.out ?_; rw [← hw2]; clear hw2))
  rw [← hw3]
  clear hw3 p0l d0 d1 d2 d3
  refine HL.out.mono ?_
  rintro e w' ⟨rfl, rfl⟩
  obtain ⟨p0, p1⟩ := HP01.out
  obtain ⟨x1, x2, x3⟩ := HX.out
  rw [HA.out] at p0
  obtain ⟨s74, z74⟩ := HST7.out
  go_wp2_with fail
  rw [← HWX.out]
  obtain ⟨g1, g2, g0, g65, gz, gh⟩ := HG.out
  clear HWX p0 p1 x1 x2 x3
  go_still_tail 11, (by kernel_rfl)
  go_wp2_with (refine wpList_load_row rfl 105 _ rfl w.heap.size rfl 105 cr5 (0, 0) _ HS5.out HU.out rfl HI5.out ?_)
  refine (HN.out _ ?_).mono ?_
  · omega
  rintro e w9 ⟨r9, rfl, hs9, st9, b9, fa9, fp9⟩
  have HB9 := Lib.hid (bl_trans BW.out b9)
  have HZ9 : Hid (Blk w9 (w.heap.size + 1) 105 Z) := Lib.hid (HZW.out.below b9)
  obtain ⟨ce, hce⟩ : ∃ ce, (sc r9).toArray = ce := ⟨_, rfl⟩
  have HI9 : Hid ((Tryz.prog.info? 105).map (·.size) = some ce.size) := Lib.hid (by rw [← hce]; exact hi_st _ st9.r8)
  have HSZ9 : Hid (Z.size = ce.size) := Lib.hid (by rw [HZS.out, ← hce, List.size_toArray, sc_len st9.r8])
  have HON9 : Hid (ce.all (·.oneCell') = true) := Lib.hid (by rw [← hce]; exact one_st _)
  have HP9 : Hid (RetSt w r (part (seg (ss l) frm to) r.s) (.returned (.agg ce)) (w9.setRow (w.heap.size + 1) ce)) := Lib.hid ⟨r9, by rw [hce], by rw [hs9, HSP.out], st9.setRow_ ce (fa9.ne HNA.out HZW.out.lt) (fp9.ne HNP.out HZW.out.lt), below_setRow HB9.out (by omega) _, HFA.out.trans fa9 BW.out.size, HFP.out.trans fp9 BW.out.size⟩
  rw [hce]
  clear hs9 st9 hce b9 fa9 fp9
  go_wp2_with (refine wpList_store_row rfl 105 _ _ rfl (w.heap.size + 1) ce rfl rfl 105 Z HZ9.out HI9.out HSZ9.out HON9.out ?_)
  (try simp only [Exit.inBlock, Exit.then])
  exact bodyPost_ret (results_cell_row Tryz.results42 _ _ (w.heap.size + 1) 105 ce (0, 0) _ rfl (setRow_blk HZ9.out) HU.out rfl HI9.out) rfl HP9.out
set_option maxRecDepth 100000 in
set_option maxHeartbeats 4000000 in
theorem part_load1_r (f : Nat) (hf : PartR f) (l : List Raw) (A : Option Addr) (n c frm to : Nat) (r : RS) (w : World) (hp : PrR w A n l frm to (f + 1) r) (hlt : frm < to) (x : Step) (T : Option Addr) (tn tc : Nat) (hx : l[frm]? = some ⟨x, T, tn, tc⟩) (hd : x.d = 1) (hl : Heap.liveAt r.s.h x.b = true) (hw : r.s.wrote x.b.toNat = true) :
    Calls Tryz.prog 42 #[.slice A n c, .int .i64 (frm : Int), .int .i64 (to : Int), .agg (sc r).toArray] w (RetSt w r (part (seg (ss l) frm to) r.s)) := by
  have HST := Lib.hid hp.st
  obtain ⟨hseg, hone, hwt⟩ := hp.step hlt _ hx
  have hto := hp.ton
  have hn := hp.n1000
  obtain ⟨b, off, ⟨⟨sd, sa, sb, st⟩, T', tn', tc'⟩, rfl, hx', c0, c1, c2, c3, hrd, _⟩ := hp.code.at_ frm (by omega)
  rw [hx] at hx'
  injection hx' with hx'
  injection hx' with i1 i2 i3 i4
  subst i1 i2 i3 i4
  simp only at c0 c1 c2 c3 hrd hd hseg hone hwt hl hw
  subst hd
  obtain ⟨a0, a7, b0, b63⟩ := pr_load _ hone rfl
  simp only at a0 a7 b0 b63
  obtain ⟨ra, hra⟩ : ∃ ra : Nat, sa = (ra : Int) := ⟨sa.toNat, by omega⟩
  subst hra
  obtain ⟨kb, hkb⟩ : ∃ kb : Nat, sb = (kb : Int) := ⟨sb.toNat, by omega⟩
  subst hkb
  obtain ⟨Z, hZ0⟩ : ∃ Z, (sc rz).toArray = Z := ⟨_, rfl⟩
  have HZ := Lib.hid zero_st
  have HZS : Hid (Z.size = 140) := Lib.hid (by rw [← hZ0, List.size_toArray, sc_len rfl])
  rw [hZ0] at HZ
  clear hZ0
  obtain ⟨cr, hcr⟩ : ∃ cr, (sc r).toArray = cr := ⟨_, rfl⟩
  obtain ⟨w2, hw2⟩ : ∃ w2, w2 = (w.alloc (.cells cr 105)).alloc (.cells Z 105) := ⟨_, rfl⟩
  have HT := Lib.hid (two_blocks r w 105 cr Z hcr rfl w2 hw2)
  have HU := Lib.hid Tryz.underlying105
  have HI : Hid ((Tryz.prog.info? 105).map (·.size) = some cr.size) := Lib.hid (by rw [← hcr]; exact hi_st _ HST.out.r8)
  have HFA := Lib.hid (Fresh.refl w r.A r.n)
  have HFP := Lib.hid (Fresh.refl w r.P r.pn)
  have HNA := Lib.hid ((rd_old HST.out.heap (by decide)).ne (g := w.heap.size + 1) (by omega))
  have HNP := Lib.hid ((rd_old HST.out.path (by decide)).ne (g := w.heap.size + 1) (by omega))
  have d0 := cell_kept_up c0 HT.out.2.2.1
  have d1 := cell_kept_up c1 HT.out.2.2.1
  have d2 := cell_kept_up c2 HT.out.2.2.1
  have d3 := cell_kept_up c3 HT.out.2.2.1
  obtain ⟨w3, hw3⟩ : ∃ w3, w3 = w2.alloc (.cells #[.int .i64 1, .int .i64 (ra : Int), .int .i64 (kb : Int), .slice T tn tc] 112) := ⟨_, rfl⟩
  have HB3 : Hid (Blk w3 w2.heap.size 112 #[.int .i64 1, .int .i64 (ra : Int), .int .i64 (kb : Int), .slice T tn tc]) := Lib.hid (by rw [hw3]; exact Blk.new _ _ _)
  have HW3 : Hid (Below w2.heap.size w2 w3) := Lib.hid (by rw [hw3]; exact bl_alloc (Below.refl _ _) _)
  have HS3 : Hid (Blk w3 w.heap.size 105 cr) := Lib.hid (by have := Blk.below HT.out.1 HW3.out; rw [hcr] at this; exact this)
  have hbw : Below w.heap.size w w3 := bl_trans HT.out.2.2.1 HW3.out
  have BW := Lib.hid hbw
  have HZW : Hid (Blk w3 (w.heap.size + 1) 105 Z) := Lib.hid (HT.out.2.1.below HW3.out)
  have x1 := HB3.out.cell 1 _ rfl
  have x2 := HB3.out.cell 2 _ rfl
  have x3 := HB3.out.cell 3 _ rfl
  obtain ⟨N1, hN1⟩ : ∃ N1, frm + 1 = N1 := ⟨_, rfl⟩
  have hwr1 : IntKind.i64.wrap ((frm : Int) + 1) = (N1 : Int) := by rw [IntKind.wrap_i64]; omega
  rw [Int.toNat_natCast] at hw
  obtain ⟨_, hk1, y, hy, _⟩ := Heap.live_in r.s.h _ hl
  rw [Int.toNat_natCast] at hk1 hy
  have hrn : r.s.h.length = r.n := by have h1 := HST.out.heap.1; rw [Heap.cs_len] at h1; omega
  obtain ⟨hb, ho, ⟨lv, v⟩, hA, hx2, e0, e1⟩ := Heap.at_cell (HST.out.heap.below hbw) kb (by omega)
  have hval : Heap.valAt r.s.h (kb : Int) = v := by rw [Heap.val_at r.s.h kb _ hx2]
  simp only at e0 e1
  obtain ⟨yr, hyr⟩ : ∃ yr, r.s.regs[ra]? = some yr := ⟨_, List.getElem?_eq_getElem (by rw [HST.out.r8]; omega)⟩
  obtain ⟨r5, hr5⟩ : ∃ r5 : RS, r5 = { r with s := loaded r.s (ra : Int) (kb : Int) } := ⟨_, rfl⟩
  obtain ⟨cr5, hcr5⟩ : ∃ cr5, (sc r5).toArray = cr5 := ⟨_, rfl⟩
  have HSP : Hid (part (seg (ss l) frm to) r.s = part (seg (ss l) N1 to) r5.s) := Lib.hid (by rw [hseg, part_load _ _ _ rfl, hl, if_pos rfl, hN1, hr5])
  have hst5 : ∀ W, Below w3.heap.size w3 W → StR W r5 := fun W hW => by
    have h1 := HST.out.below (bl_trans hbw hW)
    rw [hr5]
    exact ⟨by show (r.s.regs.set _ _).length = 8; rw [List.length_set]; exact h1.r8, h1.heap, h1.n64, h1.path⟩
  have hI5 : (Tryz.prog.info? 105).map (·.size) = some cr5.size := by rw [← hcr5]; exact hi_st _ (hst5 w3 (Below.refl _ _)).r8
  have HI5 := Lib.hid hI5
  rw [hN1] at hwt
  have hpp : r5.s.path = r.s.path := by rw [hr5]; rfl
  have HN_N1 : Hid (∀ W, Below w3.heap.size w3 W → ∀ z : Int, z = ((N1 : Nat) : Int) → Calls Tryz.prog 42 #[.slice (some ⟨b, off, none⟩) n c, .int .i64 z, .int .i64 (to : Int), .agg cr5] W (RetSt W r5 (part (seg (ss l) N1 to) r5.s))) :=
    Lib.hid (fun W hW z hz => by rw [← hcr5]; exact hp.next hf (bl_trans hbw hW) r5 N1 c (by omega) (by omega) hwt (hst5 _ hW) (by rw [hpp]; have := hp.path; omega) z _ hz rfl)
  have HL : Hid (Calls Tryz.prog 62 #[.slice r.A r.n r.c, .int .i64 (kb : Int)] w3 fun e w' => e = .returned (.bool true) ∧ w3 = w') := Lib.hid (by have h1 := Heap.live_any r.s.h r.A r.n r.c (kb : Int) w3 (HST.out.heap.below hbw) (by have := HST.out.n64; omega); rw [hl] at h1; exact h1)
  have HSb : Hid (Sb w3 w.heap.size r) := Lib.hid (Blk.below HT.out.1 HW3.out)
  obtain ⟨Wx, hWx⟩ : ∃ Wx, Wx = w3 := ⟨_, rfl⟩
  have HSx : Hid (Sb Wx w.heap.size r) := Lib.hid (by rw [hWx]; exact HSb.out)
  have HBx : Hid (Blk Wx w2.heap.size 112 #[.int .i64 1, .int .i64 (ra : Int), .int .i64 (kb : Int), .slice T tn tc]) := Lib.hid (by rw [hWx]; exact HB3.out)
  have BWx := Lib.hid (show Below w.heap.size w Wx by rw [hWx]; exact hbw)
  have HZx : Hid (Blk Wx (w.heap.size + 1) 105 Z) := Lib.hid (by rw [hWx]; exact HZW.out)
  have f1 : Wx.cell? ⟨hb, ho + kb * 2 + 1, none⟩ = some (.int .i64 v) := by rw [hWx]; exact e1
  have HS5 : Hid (Blk (Wx.drew.setCell ⟨w.heap.size, 65 + ra, none⟩ (.int .i64 v)) w.heap.size 105 cr5) := Lib.hid (Sb.blk (r := r5) (by
    have h1 : Sb Wx.drew w.heap.size r := HSx.out
    have h2 := sc_set_reg (r := r) ra (by show ra < r.s.regs.length; rw [HST.out.r8]; omega) v
    have h3 : r5 = { r with s := { r.s with regs := r.s.regs.set ra v } } := by
      rw [hr5]
      unfold loaded
      rw [Int.toNat_natCast, Int.toNat_natCast, hw, hval]
      simp
    rw [h3]
    exact h1.set_ _ _ h2) hcr5)
  have BW5 := Lib.hid (bl_set BWx.out.drew (p := ⟨w.heap.size, 65 + ra, none⟩) (Nat.le_refl _) (.int .i64 v))
  have HZ5 : Hid (Blk (Wx.drew.setCell ⟨w.heap.size, 65 + ra, none⟩ (.int .i64 v)) (w.heap.size + 1) 105 Z) := Lib.hid ((show Blk Wx.drew _ _ _ from HZx.out).beside (by omega) _ _)
  have hB5 : Below w3.heap.size w3 w3 := Below.refl _ _
  have g1 : Wx.drew.cell? ⟨w2.heap.size, 1, none⟩ = some (.int .i64 (ra : Int)) := HBx.out.cell 1 _ rfl
  have g2 : Wx.drew.cell? ⟨w2.heap.size, 2, none⟩ = some (.int .i64 (kb : Int)) := HBx.out.cell 2 _ rfl
  have g0 : Wx.drew.cell? ⟨w.heap.size, 0, none⟩ = some (.slice (some ⟨hb, ho, none⟩) r.n r.c) := by have h1 := HSx.out.cell_ 0 _ (sc_heap (r := r)); rw [← hA]; exact h1
  have g65 : Wx.drew.cell? ⟨w.heap.size, 65 + ra, none⟩ = some (.int .i64 yr) := HSx.out.cell_ _ _ (sc_reg (r := r) HST.out.r8 ra yr hyr)
  have gz : Wx.drew.frozen? ⟨w.heap.size, 65 + ra, none⟩ = false := Blk.frozen HSx.out (65 + ra)
  have gh : Wx.drew.cell? ⟨hb, ho + kb * 2 + 1, none⟩ = some (.int .i64 v) := f1
  have HN := Lib.hid (fun (z : Int) (hz : z = ((N1 : Nat) : Int)) => hf l (some ⟨b, off, none⟩) n c N1 to r5 (Wx.drew.setCell ⟨w.heap.size, 65 + ra, none⟩ (.int .i64 v)) ⟨hp.code.below BW5.out, hp.all, by omega, hp.ton, hp.n1000, by have := hp.fuel; omega, hwt, by
    have h1 := HST.out.below BW5.out
    rw [hr5]
    exact ⟨by show (r.s.regs.set _ _).length = 8; rw [List.length_set]; exact h1.r8, h1.heap, h1.n64, h1.path⟩, by rw [hpp]; have := hp.path; omega⟩ z (to : Int) hz rfl)
  have p0 : w3.cell? ⟨w.heap.size, 0, none⟩ = some (.slice r.A r.n r.c) := HSb.out.cell_ 0 _ sc_heap
  have p1 : w3.cell? ⟨w.heap.size, 1 + kb, none⟩ = some (.bool true) := by have h1 := HSb.out.cell_ _ _ (sc_wrote (r := r) kb (by omega)); rw [hw] at h1; exact h1
  have HG := Lib.hid (And.intro g1 (And.intro g2 (And.intro g0 (And.intro g65 (And.intro gz gh)))))
  have HWX := Lib.hid hWx
  have HP01 := Lib.hid (And.intro p0 p1)
  have hr8 : ¬ ((8 : Int) ≤ (ra : Int)) := by omega
  have hr64 : ¬ ((64 : Int) ≤ (kb : Int)) := by omega
  have hkn : ¬ ((r.n : Int) ≤ (kb : Int)) := by omega
  have hdec : ¬ ((to : Int) ≤ (frm : Int)) := by omega
  have HFA : Hid (Fresh w r.A r.n r5.A r5.n) := Lib.hid (by rw [hr5]; exact Fresh.refl _ _ _)
  have HFP : Hid (Fresh w r.P r.pn r5.P r5.pn) := Lib.hid (by rw [hr5]; exact Fresh.refl _ _ _)
  have HNA : Hid (∀ b off, r5.A = some ⟨b, off, none⟩ → 0 < r5.n → b ≠ w.heap.size + 1) := Lib.hid (by rw [hr5]; exact HNA.out)
  have HNP : Hid (∀ b off, r5.P = some ⟨b, off, none⟩ → 0 < r5.pn → b ≠ w.heap.size + 1) := Lib.hid (by rw [hr5]; exact HNP.out)
  have BW := BW5
  have HZW := HZ5
  rw [hcr]
  rw [hcr5] at HN
  clear c0 c1 c2 c3 hx hcr hseg hone hwt hbw hrd hf hp hl hw hk1 hy hrn hx2 hval hyr hr5 hst5 hI5 hpp e0 e1 f1 hB5 g1 g2 g0 g65 gz gh hWx hcr5 a0 a7 b0 b63
  have p0l := p0
  rw [hw3] at p0l
  have HX := Lib.hid (And.intro x1 (And.intro x2 x3))
  have HA := Lib.hid hA
  clear p0 p1 x1 x2 x3 hA
  go_enter Tryz.func42, Tryz.ntmps42
  go_wp2_with (first
    | (refine box_row rfl 105 _ rfl cr rfl ?_)
    | (refine alloc_row rfl 105 rfl Z HZ.out ?_; rw [← hw2]; clear hw2))
  rw [← hw3]
  clear hw3 p0l d0 d1 d2 d3
  refine HL.out.mono ?_
  rintro e w' ⟨rfl, rfl⟩
  obtain ⟨p0, p1⟩ := HP01.out
  obtain ⟨x1, x2, x3⟩ := HX.out
  rw [HA.out] at p0
  go_wp2_with fail
  rw [← HWX.out]
  obtain ⟨g1, g2, g0, g65, gz, gh⟩ := HG.out
  clear HWX p0 p1 x1 x2 x3
  go_still_tail 11, (by kernel_rfl)
  go_wp2_with (refine wpList_load_row rfl 105 _ rfl w.heap.size rfl 105 cr5 (0, 0) _ HS5.out HU.out rfl HI5.out ?_)
  refine (HN.out _ ?_).mono ?_
  · omega
  rintro e w9 ⟨r9, rfl, hs9, st9, b9, fa9, fp9⟩
  have HB9 := Lib.hid (bl_trans BW.out b9)
  have HZ9 : Hid (Blk w9 (w.heap.size + 1) 105 Z) := Lib.hid (HZW.out.below b9)
  obtain ⟨ce, hce⟩ : ∃ ce, (sc r9).toArray = ce := ⟨_, rfl⟩
  have HI9 : Hid ((Tryz.prog.info? 105).map (·.size) = some ce.size) := Lib.hid (by rw [← hce]; exact hi_st _ st9.r8)
  have HSZ9 : Hid (Z.size = ce.size) := Lib.hid (by rw [HZS.out, ← hce, List.size_toArray, sc_len st9.r8])
  have HON9 : Hid (ce.all (·.oneCell') = true) := Lib.hid (by rw [← hce]; exact one_st _)
  have HP9 : Hid (RetSt w r (part (seg (ss l) frm to) r.s) (.returned (.agg ce)) (w9.setRow (w.heap.size + 1) ce)) := Lib.hid ⟨r9, by rw [hce], by rw [hs9, HSP.out], st9.setRow_ ce (fa9.ne HNA.out HZW.out.lt) (fp9.ne HNP.out HZW.out.lt), below_setRow HB9.out (by omega) _, HFA.out.trans fa9 BW.out.size, HFP.out.trans fp9 BW.out.size⟩
  rw [hce]
  clear hs9 st9 hce b9 fa9 fp9
  go_wp2_with (refine wpList_store_row rfl 105 _ _ rfl (w.heap.size + 1) ce rfl rfl 105 Z HZ9.out HI9.out HSZ9.out HON9.out ?_)
  (try simp only [Exit.inBlock, Exit.then])
  exact bodyPost_ret (results_cell_row Tryz.results42 _ _ (w.heap.size + 1) 105 ce (0, 0) _ rfl (setRow_blk HZ9.out) HU.out rfl HI9.out) rfl HP9.out
end Go.Proofs.YtbeeojccadeboaaGreat.Model
