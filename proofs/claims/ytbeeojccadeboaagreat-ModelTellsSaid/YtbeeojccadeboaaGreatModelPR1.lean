/-
  WHAT THE DOCUMENT'S ANSWER FOR LAYER 10 RETURNS: part, where it ends: Retry, Fail, a Load or a Store of a cell that is not Live. No conditions beyond those that each theorem states.
-/
import Derived.Test.YtbeeojccadeboaaGreatModelPR
import Derived.Test.YtbeeojccadeboaaGreatHeapA
namespace Go.Proofs.YtbeeojccadeboaaGreat.Model
open Go.ChangeShapes Go.WideShapes Go.ChangeAt Go.RowKit Mem Go.Proofs.YtbeeojccadeboaaGreat.Code

set_option maxRecDepth 100000 in
set_option maxHeartbeats 4000000 in
theorem part_retry_r (f : Nat) (_hf : PartR f) (l : List Raw) (A : Option Addr) (n c frm to : Nat) (r : RS) (w : World) (hp : PrR w A n l frm to (f + 1) r) (hlt : frm < to) (x : Step) (T : Option Addr) (tn tc : Nat) (hx : l[frm]? = some ⟨x, T, tn, tc⟩) (hd : x.d = 5) :
    Calls Tryz.prog 42 #[.slice A n c, .int .i64 (frm : Int), .int .i64 (to : Int), .agg (sc r).toArray] w (RetSt w r (part (seg (ss l) frm to) r.s)) := by
  have HST := Lib.hid hp.st
  obtain ⟨hseg, hone, hwt⟩ := hp.step hlt _ hx
  have hto := hp.ton
  have hn := hp.n1000
  obtain ⟨b, off, ⟨⟨sd, sa, sb, st⟩, T', tn', tc'⟩, rfl, hx', c0, c1, c2, c3, hrd, _⟩ := hp.code.at_ frm (by omega)
  rw [hx] at hx'
  injection hx' with hx'
  injection hx' with i1 i2 i3 i4
  subst i1 i2 i3 i4
  simp only at c0 c1 c2 c3 hrd hd hseg hone hwt 
  subst hd
  obtain ⟨Z, hZ0⟩ : ∃ Z, (sc rz).toArray = Z := ⟨_, rfl⟩
  have HZ := Lib.hid zero_st
  have HZS : Hid (Z.size = 140) := Lib.hid (by rw [← hZ0, List.size_toArray, sc_len rfl])
  rw [hZ0] at HZ
  clear hZ0
  obtain ⟨cr, hcr⟩ : ∃ cr, (sc r).toArray = cr := ⟨_, rfl⟩
  obtain ⟨w2, hw2⟩ : ∃ w2, w2 = (w.alloc (.cells cr 105)).alloc (.cells Z 105) := ⟨_, rfl⟩
  have HT := Lib.hid (two_blocks r w 105 cr Z hcr rfl w2 hw2)
  have HU := Lib.hid Tryz.underlying105
  have HI : Hid ((Tryz.prog.info? 105).map (·.size) = some cr.size) := Lib.hid (by rw [← hcr]; exact hi_st _ HST.out.r8)
  have HFA := Lib.hid (Fresh.refl w r.A r.n)
  have HFP := Lib.hid (Fresh.refl w r.P r.pn)
  have HNA := Lib.hid ((rd_old HST.out.heap (by decide)).ne (g := w.heap.size + 1) (by omega))
  have HNP := Lib.hid ((rd_old HST.out.path (by decide)).ne (g := w.heap.size + 1) (by omega))
  have d0 := cell_kept_up c0 HT.out.2.2.1
  have d1 := cell_kept_up c1 HT.out.2.2.1
  have d2 := cell_kept_up c2 HT.out.2.2.1
  have d3 := cell_kept_up c3 HT.out.2.2.1
  obtain ⟨w3, hw3⟩ : ∃ w3, w3 = w2.alloc (.cells #[.int .i64 5, .int .i64 sa, .int .i64 sb, .slice T tn tc] 112) := ⟨_, rfl⟩
  have HB3 : Hid (Blk w3 w2.heap.size 112 #[.int .i64 5, .int .i64 sa, .int .i64 sb, .slice T tn tc]) := Lib.hid (by rw [hw3]; exact Blk.new _ _ _)
  have HW3 : Hid (Below w2.heap.size w2 w3) := Lib.hid (by rw [hw3]; exact bl_alloc (Below.refl _ _) _)
  have HS3 : Hid (Blk w3 w.heap.size 105 cr) := Lib.hid (by have := Blk.below HT.out.1 HW3.out; rw [hcr] at this; exact this)
  have hbw : Below w.heap.size w w3 := bl_trans HT.out.2.2.1 HW3.out
  have BW := Lib.hid hbw
  have HZW : Hid (Blk w3 (w.heap.size + 1) 105 Z) := Lib.hid (HT.out.2.1.below HW3.out)
  have x1 := HB3.out.cell 1 _ rfl
  have x2 := HB3.out.cell 2 _ rfl
  have x3 := HB3.out.cell 3 _ rfl
  have HSP : Hid (part (seg (ss l) frm to) r.s = ended r.s 2 0) := Lib.hid (by rw [hseg, part_retry _ _ _ rfl])
  have HC : Hid (Calls Tryz.prog 88 #[.agg cr, .int .i64 2, .int .i64 0] w3 (RetSt w3 r (ended r.s 2 0))) := Lib.hid (by rw [← hcr]; exact ended_st r 2 0 w3 (HST.out.below hbw))
  have hdec : ¬ ((to : Int) ≤ (frm : Int)) := by omega
  rw [hcr]
  clear c0 c1 c2 c3 hx hcr hseg hone hwt hbw hrd _hf hp
  subst hw3
  go_enter Tryz.func42, Tryz.ntmps42
  go_wp2_with (first
    | (refine box_row rfl 105 _ rfl cr rfl ?_)
    | (refine alloc_row rfl 105 rfl Z HZ.out ?_; rw [← hw2]; clear hw2)
    | (refine wpList_load_row rfl 105 _ rfl w.heap.size rfl 105 cr (0, 0) _ HS3.out HU.out rfl HI.out ?_))
  refine HC.out.mono ?_
  rintro e w9 ⟨r9, rfl, hs9, st9, b9, fa9, fp9⟩
  have HB9 := Lib.hid (bl_trans BW.out b9)
  have HZ9 : Hid (Blk w9 (w.heap.size + 1) 105 Z) := Lib.hid (HZW.out.below b9)
  obtain ⟨ce, hce⟩ : ∃ ce, (sc r9).toArray = ce := ⟨_, rfl⟩
  have HI9 : Hid ((Tryz.prog.info? 105).map (·.size) = some ce.size) := Lib.hid (by rw [← hce]; exact hi_st _ st9.r8)
  have HSZ9 : Hid (Z.size = ce.size) := Lib.hid (by rw [HZS.out, ← hce, List.size_toArray, sc_len st9.r8])
  have HON9 : Hid (ce.all (·.oneCell') = true) := Lib.hid (by rw [← hce]; exact one_st _)
  have HP9 : Hid (RetSt w r (part (seg (ss l) frm to) r.s) (.returned (.agg ce)) (w9.setRow (w.heap.size + 1) ce)) := Lib.hid ⟨r9, by rw [hce], by rw [hs9, HSP.out], st9.setRow_ ce (fa9.ne HNA.out HZW.out.lt) (fp9.ne HNP.out HZW.out.lt), below_setRow HB9.out (by omega) _, HFA.out.trans fa9 BW.out.size, HFP.out.trans fp9 BW.out.size⟩
  rw [hce]
  clear hs9 st9 hce b9 fa9 fp9
  go_wp2_with (refine wpList_store_row rfl 105 _ _ rfl (w.heap.size + 1) ce rfl rfl 105 Z HZ9.out HI9.out HSZ9.out HON9.out ?_)
  (try simp only [Exit.inBlock, Exit.then])
  exact bodyPost_ret (results_cell_row Tryz.results42 _ _ (w.heap.size + 1) 105 ce (0, 0) _ rfl (setRow_blk HZ9.out) HU.out rfl HI9.out) rfl HP9.out
set_option maxRecDepth 100000 in
set_option maxHeartbeats 4000000 in
theorem part_fail_r (f : Nat) (_hf : PartR f) (l : List Raw) (A : Option Addr) (n c frm to : Nat) (r : RS) (w : World) (hp : PrR w A n l frm to (f + 1) r) (hlt : frm < to) (x : Step) (T : Option Addr) (tn tc : Nat) (hx : l[frm]? = some ⟨x, T, tn, tc⟩) (hd : x.d = 6) :
    Calls Tryz.prog 42 #[.slice A n c, .int .i64 (frm : Int), .int .i64 (to : Int), .agg (sc r).toArray] w (RetSt w r (part (seg (ss l) frm to) r.s)) := by
  have HST := Lib.hid hp.st
  obtain ⟨hseg, hone, hwt⟩ := hp.step hlt _ hx
  have hto := hp.ton
  have hn := hp.n1000
  obtain ⟨b, off, ⟨⟨sd, sa, sb, st⟩, T', tn', tc'⟩, rfl, hx', c0, c1, c2, c3, hrd, _⟩ := hp.code.at_ frm (by omega)
  rw [hx] at hx'
  injection hx' with hx'
  injection hx' with i1 i2 i3 i4
  subst i1 i2 i3 i4
  simp only at c0 c1 c2 c3 hrd hd hseg hone hwt 
  subst hd
  obtain ⟨Z, hZ0⟩ : ∃ Z, (sc rz).toArray = Z := ⟨_, rfl⟩
  have HZ := Lib.hid zero_st
  have HZS : Hid (Z.size = 140) := Lib.hid (by rw [← hZ0, List.size_toArray, sc_len rfl])
  rw [hZ0] at HZ
  clear hZ0
  obtain ⟨cr, hcr⟩ : ∃ cr, (sc r).toArray = cr := ⟨_, rfl⟩
  obtain ⟨w2, hw2⟩ : ∃ w2, w2 = (w.alloc (.cells cr 105)).alloc (.cells Z 105) := ⟨_, rfl⟩
  have HT := Lib.hid (two_blocks r w 105 cr Z hcr rfl w2 hw2)
  have HU := Lib.hid Tryz.underlying105
  have HI : Hid ((Tryz.prog.info? 105).map (·.size) = some cr.size) := Lib.hid (by rw [← hcr]; exact hi_st _ HST.out.r8)
  have HFA := Lib.hid (Fresh.refl w r.A r.n)
  have HFP := Lib.hid (Fresh.refl w r.P r.pn)
  have HNA := Lib.hid ((rd_old HST.out.heap (by decide)).ne (g := w.heap.size + 1) (by omega))
  have HNP := Lib.hid ((rd_old HST.out.path (by decide)).ne (g := w.heap.size + 1) (by omega))
  have d0 := cell_kept_up c0 HT.out.2.2.1
  have d1 := cell_kept_up c1 HT.out.2.2.1
  have d2 := cell_kept_up c2 HT.out.2.2.1
  have d3 := cell_kept_up c3 HT.out.2.2.1
  obtain ⟨w3, hw3⟩ : ∃ w3, w3 = w2.alloc (.cells #[.int .i64 6, .int .i64 sa, .int .i64 sb, .slice T tn tc] 112) := ⟨_, rfl⟩
  have HB3 : Hid (Blk w3 w2.heap.size 112 #[.int .i64 6, .int .i64 sa, .int .i64 sb, .slice T tn tc]) := Lib.hid (by rw [hw3]; exact Blk.new _ _ _)
  have HW3 : Hid (Below w2.heap.size w2 w3) := Lib.hid (by rw [hw3]; exact bl_alloc (Below.refl _ _) _)
  have HS3 : Hid (Blk w3 w.heap.size 105 cr) := Lib.hid (by have := Blk.below HT.out.1 HW3.out; rw [hcr] at this; exact this)
  have hbw : Below w.heap.size w w3 := bl_trans HT.out.2.2.1 HW3.out
  have BW := Lib.hid hbw
  have HZW : Hid (Blk w3 (w.heap.size + 1) 105 Z) := Lib.hid (HT.out.2.1.below HW3.out)
  have x1 := HB3.out.cell 1 _ rfl
  have x2 := HB3.out.cell 2 _ rfl
  have x3 := HB3.out.cell 3 _ rfl
  have HSP : Hid (part (seg (ss l) frm to) r.s = ended r.s 3 sa) := Lib.hid (by rw [hseg, part_fail _ _ _ rfl])
  have HC : Hid (Calls Tryz.prog 88 #[.agg cr, .int .i64 3, .int .i64 sa] w3 (RetSt w3 r (ended r.s 3 sa))) := Lib.hid (by rw [← hcr]; exact ended_st r 3 sa w3 (HST.out.below hbw))
  have hdec : ¬ ((to : Int) ≤ (frm : Int)) := by omega
  rw [hcr]
  clear c0 c1 c2 c3 hx hcr hseg hone hwt hbw hrd _hf hp
  subst hw3
  go_enter Tryz.func42, Tryz.ntmps42
  go_wp2_with (first
    | (refine box_row rfl 105 _ rfl cr rfl ?_)
    | (refine alloc_row rfl 105 rfl Z HZ.out ?_; rw [← hw2]; clear hw2)
    | (refine wpList_load_row rfl 105 _ rfl w.heap.size rfl 105 cr (0, 0) _ HS3.out HU.out rfl HI.out ?_))
  refine HC.out.mono ?_
  rintro e w9 ⟨r9, rfl, hs9, st9, b9, fa9, fp9⟩
  have HB9 := Lib.hid (bl_trans BW.out b9)
  have HZ9 : Hid (Blk w9 (w.heap.size + 1) 105 Z) := Lib.hid (HZW.out.below b9)
  obtain ⟨ce, hce⟩ : ∃ ce, (sc r9).toArray = ce := ⟨_, rfl⟩
  have HI9 : Hid ((Tryz.prog.info? 105).map (·.size) = some ce.size) := Lib.hid (by rw [← hce]; exact hi_st _ st9.r8)
  have HSZ9 : Hid (Z.size = ce.size) := Lib.hid (by rw [HZS.out, ← hce, List.size_toArray, sc_len st9.r8])
  have HON9 : Hid (ce.all (·.oneCell') = true) := Lib.hid (by rw [← hce]; exact one_st _)
  have HP9 : Hid (RetSt w r (part (seg (ss l) frm to) r.s) (.returned (.agg ce)) (w9.setRow (w.heap.size + 1) ce)) := Lib.hid ⟨r9, by rw [hce], by rw [hs9, HSP.out], st9.setRow_ ce (fa9.ne HNA.out HZW.out.lt) (fp9.ne HNP.out HZW.out.lt), below_setRow HB9.out (by omega) _, HFA.out.trans fa9 BW.out.size, HFP.out.trans fp9 BW.out.size⟩
  rw [hce]
  clear hs9 st9 hce b9 fa9 fp9
  go_wp2_with (refine wpList_store_row rfl 105 _ _ rfl (w.heap.size + 1) ce rfl rfl 105 Z HZ9.out HI9.out HSZ9.out HON9.out ?_)
  (try simp only [Exit.inBlock, Exit.then])
  exact bodyPost_ret (results_cell_row Tryz.results42 _ _ (w.heap.size + 1) 105 ce (0, 0) _ rfl (setRow_blk HZ9.out) HU.out rfl HI9.out) rfl HP9.out
set_option maxRecDepth 100000 in
set_option maxHeartbeats 4000000 in
theorem part_dead_r (f : Nat) (_hf : PartR f) (l : List Raw) (A : Option Addr) (n c frm to : Nat) (r : RS) (w : World) (hp : PrR w A n l frm to (f + 1) r) (hlt : frm < to) (x : Step) (T : Option Addr) (tn tc : Nat) (hx : l[frm]? = some ⟨x, T, tn, tc⟩) (hd : x.d = 1) (hl : Heap.liveAt r.s.h x.b = false) :
    Calls Tryz.prog 42 #[.slice A n c, .int .i64 (frm : Int), .int .i64 (to : Int), .agg (sc r).toArray] w (RetSt w r (part (seg (ss l) frm to) r.s)) := by
  have HST := Lib.hid hp.st
  obtain ⟨hseg, hone, hwt⟩ := hp.step hlt _ hx
  have hto := hp.ton
  have hn := hp.n1000
  obtain ⟨b, off, ⟨⟨sd, sa, sb, st⟩, T', tn', tc'⟩, rfl, hx', c0, c1, c2, c3, hrd, _⟩ := hp.code.at_ frm (by omega)
  rw [hx] at hx'
  injection hx' with hx'
  injection hx' with i1 i2 i3 i4
  subst i1 i2 i3 i4
  simp only at c0 c1 c2 c3 hrd hd hseg hone hwt hl
  subst hd
  obtain ⟨Z, hZ0⟩ : ∃ Z, (sc rz).toArray = Z := ⟨_, rfl⟩
  have HZ := Lib.hid zero_st
  have HZS : Hid (Z.size = 140) := Lib.hid (by rw [← hZ0, List.size_toArray, sc_len rfl])
  rw [hZ0] at HZ
  clear hZ0
  obtain ⟨cr, hcr⟩ : ∃ cr, (sc r).toArray = cr := ⟨_, rfl⟩
  obtain ⟨w2, hw2⟩ : ∃ w2, w2 = (w.alloc (.cells cr 105)).alloc (.cells Z 105) := ⟨_, rfl⟩
  have HT := Lib.hid (two_blocks r w 105 cr Z hcr rfl w2 hw2)
  have HU := Lib.hid Tryz.underlying105
  have HI : Hid ((Tryz.prog.info? 105).map (·.size) = some cr.size) := Lib.hid (by rw [← hcr]; exact hi_st _ HST.out.r8)
  have HFA := Lib.hid (Fresh.refl w r.A r.n)
  have HFP := Lib.hid (Fresh.refl w r.P r.pn)
  have HNA := Lib.hid ((rd_old HST.out.heap (by decide)).ne (g := w.heap.size + 1) (by omega))
  have HNP := Lib.hid ((rd_old HST.out.path (by decide)).ne (g := w.heap.size + 1) (by omega))
  have d0 := cell_kept_up c0 HT.out.2.2.1
  have d1 := cell_kept_up c1 HT.out.2.2.1
  have d2 := cell_kept_up c2 HT.out.2.2.1
  have d3 := cell_kept_up c3 HT.out.2.2.1
  obtain ⟨w3, hw3⟩ : ∃ w3, w3 = w2.alloc (.cells #[.int .i64 1, .int .i64 sa, .int .i64 sb, .slice T tn tc] 112) := ⟨_, rfl⟩
  have HB3 : Hid (Blk w3 w2.heap.size 112 #[.int .i64 1, .int .i64 sa, .int .i64 sb, .slice T tn tc]) := Lib.hid (by rw [hw3]; exact Blk.new _ _ _)
  have HW3 : Hid (Below w2.heap.size w2 w3) := Lib.hid (by rw [hw3]; exact bl_alloc (Below.refl _ _) _)
  have HS3 : Hid (Blk w3 w.heap.size 105 cr) := Lib.hid (by have := Blk.below HT.out.1 HW3.out; rw [hcr] at this; exact this)
  have hbw : Below w.heap.size w w3 := bl_trans HT.out.2.2.1 HW3.out
  have BW := Lib.hid hbw
  have HZW : Hid (Blk w3 (w.heap.size + 1) 105 Z) := Lib.hid (HT.out.2.1.below HW3.out)
  have x1 := HB3.out.cell 1 _ rfl
  have x2 := HB3.out.cell 2 _ rfl
  have x3 := HB3.out.cell 3 _ rfl
  have HSP : Hid (part (seg (ss l) frm to) r.s = ended r.s 4 sb) := Lib.hid (by rw [hseg, part_load _ _ _ rfl, hl]; rfl)
  have HC : Hid (Calls Tryz.prog 88 #[.agg cr, .int .i64 4, .int .i64 sb] w3 (RetSt w3 r (ended r.s 4 sb))) := Lib.hid (by rw [← hcr]; exact ended_st r 4 sb w3 (HST.out.below hbw))
  have HL : Hid (Calls Tryz.prog 62 #[.slice r.A r.n r.c, .int .i64 sb] w3 fun e w' => e = .returned (.bool false) ∧ w3 = w') := Lib.hid (by have h1 := Heap.live_any r.s.h r.A r.n r.c sb w3 (HST.out.heap.below hbw) (by have := HST.out.n64; omega); rw [hl] at h1; exact h1)
  have p0 : w3.cell? ⟨w.heap.size, 0, none⟩ = some (.slice r.A r.n r.c) := HS3.out.cell 0 _ (by rw [← hcr, List.getElem?_toArray]; exact sc_heap)
  have hdec : ¬ ((to : Int) ≤ (frm : Int)) := by omega
  rw [hcr]
  clear c0 c1 c2 c3 hx hcr hseg hone hwt hbw hrd _hf hp hl
  subst hw3
  go_enter Tryz.func42, Tryz.ntmps42
  go_wp2_with (first
    | (refine box_row rfl 105 _ rfl cr rfl ?_)
    | (refine alloc_row rfl 105 rfl Z HZ.out ?_; rw [← hw2]; clear hw2)
    | (refine wpList_load_row rfl 105 _ rfl w.heap.size rfl 105 cr (0, 0) _ HS3.out HU.out rfl HI.out ?_))
  refine HL.out.mono ?_
  rintro e w' ⟨rfl, rfl⟩
  go_wp2_with (first | (refine wpList_load_row rfl 105 _ rfl w.heap.size rfl 105 cr (0, 0) _ HS3.out HU.out rfl HI.out ?_))
  refine HC.out.mono ?_
  rintro e w9 ⟨r9, rfl, hs9, st9, b9, fa9, fp9⟩
  have HB9 := Lib.hid (bl_trans BW.out b9)
  have HZ9 : Hid (Blk w9 (w.heap.size + 1) 105 Z) := Lib.hid (HZW.out.below b9)
  obtain ⟨ce, hce⟩ : ∃ ce, (sc r9).toArray = ce := ⟨_, rfl⟩
  have HI9 : Hid ((Tryz.prog.info? 105).map (·.size) = some ce.size) := Lib.hid (by rw [← hce]; exact hi_st _ st9.r8)
  have HSZ9 : Hid (Z.size = ce.size) := Lib.hid (by rw [HZS.out, ← hce, List.size_toArray, sc_len st9.r8])
  have HON9 : Hid (ce.all (·.oneCell') = true) := Lib.hid (by rw [← hce]; exact one_st _)
  have HP9 : Hid (RetSt w r (part (seg (ss l) frm to) r.s) (.returned (.agg ce)) (w9.setRow (w.heap.size + 1) ce)) := Lib.hid ⟨r9, by rw [hce], by rw [hs9, HSP.out], st9.setRow_ ce (fa9.ne HNA.out HZW.out.lt) (fp9.ne HNP.out HZW.out.lt), below_setRow HB9.out (by omega) _, HFA.out.trans fa9 BW.out.size, HFP.out.trans fp9 BW.out.size⟩
  rw [hce]
  clear hs9 st9 hce b9 fa9 fp9
  go_wp2_with (refine wpList_store_row rfl 105 _ _ rfl (w.heap.size + 1) ce rfl rfl 105 Z HZ9.out HI9.out HSZ9.out HON9.out ?_)
  (try simp only [Exit.inBlock, Exit.then])
  exact bodyPost_ret (results_cell_row Tryz.results42 _ _ (w.heap.size + 1) 105 ce (0, 0) _ rfl (setRow_blk HZ9.out) HU.out rfl HI9.out) rfl HP9.out
set_option maxRecDepth 100000 in
set_option maxHeartbeats 4000000 in
theorem part_none_r (f : Nat) (_hf : PartR f) (l : List Raw) (A : Option Addr) (n c frm to : Nat) (r : RS) (w : World) (hp : PrR w A n l frm to (f + 1) r) (hlt : frm < to) (x : Step) (T : Option Addr) (tn tc : Nat) (hx : l[frm]? = some ⟨x, T, tn, tc⟩) (hd : x.d = 3) (hl : Heap.liveAt r.s.h x.a = false) :
    Calls Tryz.prog 42 #[.slice A n c, .int .i64 (frm : Int), .int .i64 (to : Int), .agg (sc r).toArray] w (RetSt w r (part (seg (ss l) frm to) r.s)) := by
  have HST := Lib.hid hp.st
  obtain ⟨hseg, hone, hwt⟩ := hp.step hlt _ hx
  have hto := hp.ton
  have hn := hp.n1000
  obtain ⟨b, off, ⟨⟨sd, sa, sb, st⟩, T', tn', tc'⟩, rfl, hx', c0, c1, c2, c3, hrd, _⟩ := hp.code.at_ frm (by omega)
  rw [hx] at hx'
  injection hx' with hx'
  injection hx' with i1 i2 i3 i4
  subst i1 i2 i3 i4
  simp only at c0 c1 c2 c3 hrd hd hseg hone hwt hl
  subst hd
  obtain ⟨Z, hZ0⟩ : ∃ Z, (sc rz).toArray = Z := ⟨_, rfl⟩
  have HZ := Lib.hid zero_st
  have HZS : Hid (Z.size = 140) := Lib.hid (by rw [← hZ0, List.size_toArray, sc_len rfl])
  rw [hZ0] at HZ
  clear hZ0
  obtain ⟨cr, hcr⟩ : ∃ cr, (sc r).toArray = cr := ⟨_, rfl⟩
  obtain ⟨w2, hw2⟩ : ∃ w2, w2 = (w.alloc (.cells cr 105)).alloc (.cells Z 105) := ⟨_, rfl⟩
  have HT := Lib.hid (two_blocks r w 105 cr Z hcr rfl w2 hw2)
  have HU := Lib.hid Tryz.underlying105
  have HI : Hid ((Tryz.prog.info? 105).map (·.size) = some cr.size) := Lib.hid (by rw [← hcr]; exact hi_st _ HST.out.r8)
  have HFA := Lib.hid (Fresh.refl w r.A r.n)
  have HFP := Lib.hid (Fresh.refl w r.P r.pn)
  have HNA := Lib.hid ((rd_old HST.out.heap (by decide)).ne (g := w.heap.size + 1) (by omega))
  have HNP := Lib.hid ((rd_old HST.out.path (by decide)).ne (g := w.heap.size + 1) (by omega))
  have d0 := cell_kept_up c0 HT.out.2.2.1
  have d1 := cell_kept_up c1 HT.out.2.2.1
  have d2 := cell_kept_up c2 HT.out.2.2.1
  have d3 := cell_kept_up c3 HT.out.2.2.1
  obtain ⟨w3, hw3⟩ : ∃ w3, w3 = w2.alloc (.cells #[.int .i64 3, .int .i64 sa, .int .i64 sb, .slice T tn tc] 112) := ⟨_, rfl⟩
  have HB3 : Hid (Blk w3 w2.heap.size 112 #[.int .i64 3, .int .i64 sa, .int .i64 sb, .slice T tn tc]) := Lib.hid (by rw [hw3]; exact Blk.new _ _ _)
  have HW3 : Hid (Below w2.heap.size w2 w3) := Lib.hid (by rw [hw3]; exact bl_alloc (Below.refl _ _) _)
  have HS3 : Hid (Blk w3 w.heap.size 105 cr) := Lib.hid (by have := Blk.below HT.out.1 HW3.out; rw [hcr] at this; exact this)
  have hbw : Below w.heap.size w w3 := bl_trans HT.out.2.2.1 HW3.out
  have BW := Lib.hid hbw
  have HZW : Hid (Blk w3 (w.heap.size + 1) 105 Z) := Lib.hid (HT.out.2.1.below HW3.out)
  have x1 := HB3.out.cell 1 _ rfl
  have x2 := HB3.out.cell 2 _ rfl
  have x3 := HB3.out.cell 3 _ rfl
  have HSP : Hid (part (seg (ss l) frm to) r.s = ended r.s 4 sa) := Lib.hid (by rw [hseg, part_store _ _ _ rfl, hl]; rfl)
  have HC : Hid (Calls Tryz.prog 88 #[.agg cr, .int .i64 4, .int .i64 sa] w3 (RetSt w3 r (ended r.s 4 sa))) := Lib.hid (by rw [← hcr]; exact ended_st r 4 sa w3 (HST.out.below hbw))
  have HL : Hid (Calls Tryz.prog 62 #[.slice r.A r.n r.c, .int .i64 sa] w3 fun e w' => e = .returned (.bool false) ∧ w3 = w') := Lib.hid (by have h1 := Heap.live_any r.s.h r.A r.n r.c sa w3 (HST.out.heap.below hbw) (by have := HST.out.n64; omega); rw [hl] at h1; exact h1)
  have p0 : w3.cell? ⟨w.heap.size, 0, none⟩ = some (.slice r.A r.n r.c) := HS3.out.cell 0 _ (by rw [← hcr, List.getElem?_toArray]; exact sc_heap)
  have hdec : ¬ ((to : Int) ≤ (frm : Int)) := by omega
  rw [hcr]
  clear c0 c1 c2 c3 hx hcr hseg hone hwt hbw hrd _hf hp hl
  subst hw3
  go_enter Tryz.func42, Tryz.ntmps42
  go_wp2_with (first
    | (refine box_row rfl 105 _ rfl cr rfl ?_)
    | (refine alloc_row rfl 105 rfl Z HZ.out ?_; rw [← hw2]; clear hw2)
    | (refine wpList_load_row rfl 105 _ rfl w.heap.size rfl 105 cr (0, 0) _ HS3.out HU.out rfl HI.out ?_))
  refine HL.out.mono ?_
  rintro e w' ⟨rfl, rfl⟩
  go_wp2_with (first | (refine wpList_load_row rfl 105 _ rfl w.heap.size rfl 105 cr (0, 0) _ HS3.out HU.out rfl HI.out ?_))
  refine HC.out.mono ?_
  rintro e w9 ⟨r9, rfl, hs9, st9, b9, fa9, fp9⟩
  have HB9 := Lib.hid (bl_trans BW.out b9)
  have HZ9 : Hid (Blk w9 (w.heap.size + 1) 105 Z) := Lib.hid (HZW.out.below b9)
  obtain ⟨ce, hce⟩ : ∃ ce, (sc r9).toArray = ce := ⟨_, rfl⟩
  have HI9 : Hid ((Tryz.prog.info? 105).map (·.size) = some ce.size) := Lib.hid (by rw [← hce]; exact hi_st _ st9.r8)
  have HSZ9 : Hid (Z.size = ce.size) := Lib.hid (by rw [HZS.out, ← hce, List.size_toArray, sc_len st9.r8])
  have HON9 : Hid (ce.all (·.oneCell') = true) := Lib.hid (by rw [← hce]; exact one_st _)
  have HP9 : Hid (RetSt w r (part (seg (ss l) frm to) r.s) (.returned (.agg ce)) (w9.setRow (w.heap.size + 1) ce)) := Lib.hid ⟨r9, by rw [hce], by rw [hs9, HSP.out], st9.setRow_ ce (fa9.ne HNA.out HZW.out.lt) (fp9.ne HNP.out HZW.out.lt), below_setRow HB9.out (by omega) _, HFA.out.trans fa9 BW.out.size, HFP.out.trans fp9 BW.out.size⟩
  rw [hce]
  clear hs9 st9 hce b9 fa9 fp9
  go_wp2_with (refine wpList_store_row rfl 105 _ _ rfl (w.heap.size + 1) ce rfl rfl 105 Z HZ9.out HI9.out HSZ9.out HON9.out ?_)
  (try simp only [Exit.inBlock, Exit.then])
  exact bodyPost_ret (results_cell_row Tryz.results42 _ _ (w.heap.size + 1) 105 ce (0, 0) _ rfl (setRow_blk HZ9.out) HU.out rfl HI9.out) rfl HP9.out
end Go.Proofs.YtbeeojccadeboaaGreat.Model
