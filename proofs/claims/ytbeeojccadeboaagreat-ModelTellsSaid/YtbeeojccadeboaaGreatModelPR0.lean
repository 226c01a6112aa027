/-
  WHAT THE DOCUMENT'S ANSWER FOR LAYER 10 RETURNS: part, at its end. No conditions beyond those that each theorem states.
-/
import Derived.Test.YtbeeojccadeboaaGreatModelPR
namespace Go.Proofs.YtbeeojccadeboaaGreat.Model
open Go.ChangeShapes Go.WideShapes Go.ChangeAt Go.RowKit Mem Go.Proofs.YtbeeojccadeboaaGreat.Code

set_option maxRecDepth 100000 in
set_option maxHeartbeats 4000000 in
theorem part_end_r (A : Option Addr) (n c frm to : Nat) (r : RS) (w : World) (l : List Raw) (hst : StR w r) (hle : to ≤ frm) :
    Calls Tryz.prog 42 #[.slice A n c, .int .i64 (frm : Int), .int .i64 (to : Int), .agg (sc r).toArray] w (RetSt w r (part (seg (ss l) frm to) r.s)) := by
  have HST := Lib.hid hst
  have HSP : Hid (part (seg (ss l) frm to) r.s = ended r.s 1 0) := Lib.hid (by rw [seg_nil _ _ _ hle, part_nil])
  obtain ⟨Z, hZ0⟩ : ∃ Z, (sc rz).toArray = Z := ⟨_, rfl⟩
  have HZ := Lib.hid zero_st
  have HZS : Hid (Z.size = 140) := Lib.hid (by rw [← hZ0, List.size_toArray, sc_len rfl])
  rw [hZ0] at HZ
  clear hZ0
  obtain ⟨cr, hcr⟩ : ∃ cr, (sc r).toArray = cr := ⟨_, rfl⟩
  obtain ⟨w2, hw2⟩ : ∃ w2, w2 = (w.alloc (.cells cr 105)).alloc (.cells Z 105) := ⟨_, rfl⟩
  have HT := Lib.hid (two_blocks r w 105 cr Z hcr rfl w2 hw2)
  have HU := Lib.hid Tryz.underlying105
  have HI : Hid ((Tryz.prog.info? 105).map (·.size) = some cr.size) := Lib.hid (by rw [← hcr]; exact hi_st _ HST.out.r8)
  have HFA := Lib.hid (Fresh.refl w r.A r.n)
  have HFP := Lib.hid (Fresh.refl w r.P r.pn)
  have HNA := Lib.hid ((rd_old HST.out.heap (by decide)).ne (g := w.heap.size + 1) (by omega))
  have HNP := Lib.hid ((rd_old HST.out.path (by decide)).ne (g := w.heap.size + 1) (by omega))
  have BW : Hid (Below w.heap.size w w2) := Lib.hid HT.out.2.2.1
  have HZW : Hid (Blk w2 (w.heap.size + 1) 105 Z) := Lib.hid HT.out.2.1
  have HS2 : Hid (Blk w2 w.heap.size 105 cr) := Lib.hid (by have := HT.out.1; unfold Sb at this; rw [hcr] at this; exact this)
  have HC : Hid (Calls Tryz.prog 88 #[.agg cr, .int .i64 1, .int .i64 0] w2 (RetSt w2 r (ended r.s 1 0))) := Lib.hid (by rw [← hcr]; exact ended_st r 1 0 w2 (HST.out.below BW.out))
  have hdec : (to : Int) ≤ (frm : Int) := by omega
  rw [hcr]
  clear hcr hst hle
  go_enter Tryz.func42, Tryz.ntmps42
  go_wp2_with (first
    | (refine box_row rfl 105 _ rfl cr rfl ?_)
    | (refine alloc_row rfl 105 rfl Z HZ.out ?_; rw [← hw2]; clear hw2)
    | (refine wpList_load_row rfl 105 _ rfl w.heap.size rfl 105 cr (0, 0) _ HS2.out HU.out rfl HI.out ?_))
  refine HC.out.mono ?_
  rintro e w9 ⟨r9, rfl, hs9, st9, b9, fa9, fp9⟩
  have HB9 := Lib.hid (bl_trans BW.out b9)
  have HZ9 : Hid (Blk w9 (w.heap.size + 1) 105 Z) := Lib.hid (HZW.out.below b9)
  obtain ⟨ce, hce⟩ : ∃ ce, (sc r9).toArray = ce := ⟨_, rfl⟩
  have HI9 : Hid ((Tryz.prog.info? 105).map (·.size) = some ce.size) := Lib.hid (by rw [← hce]; exact hi_st _ st9.r8)
  have HSZ9 : Hid (Z.size = ce.size) := Lib.hid (by rw [HZS.out, ← hce, List.size_toArray, sc_len st9.r8])
  have HON9 : Hid (ce.all (·.oneCell') = true) := Lib.hid (by rw [← hce]; exact one_st _)
  have HP9 : Hid (RetSt w r (part (seg (ss l) frm to) r.s) (.returned (.agg ce)) (w9.setRow (w.heap.size + 1) ce)) := Lib.hid ⟨r9, by rw [hce], by rw [hs9, HSP.out], st9.setRow_ ce (fa9.ne HNA.out HZW.out.lt) (fp9.ne HNP.out HZW.out.lt), below_setRow HB9.out (by omega) _, HFA.out.trans fa9 BW.out.size, HFP.out.trans fp9 BW.out.size⟩
  rw [hce]
  clear hs9 st9 hce b9 fa9 fp9
  go_wp2_with (refine wpList_store_row rfl 105 _ _ rfl (w.heap.size + 1) ce rfl rfl 105 Z HZ9.out HI9.out HSZ9.out HON9.out ?_)
  (try simp only [Exit.inBlock, Exit.then])
  exact bodyPost_ret (results_cell_row Tryz.results42 _ _ (w.heap.size + 1) 105 ce (0, 0) _ rfl (setRow_blk HZ9.out) HU.out rfl HI9.out) rfl HP9.out
end Go.Proofs.YtbeeojccadeboaaGreat.Model
