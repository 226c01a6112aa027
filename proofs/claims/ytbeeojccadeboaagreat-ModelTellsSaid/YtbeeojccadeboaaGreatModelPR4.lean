/-
  WHAT THE DOCUMENT'S ANSWER FOR LAYER 10 RETURNS: part, at a Set. No conditions beyond those that each theorem states.
-/
import Derived.Test.YtbeeojccadeboaaGreatModelPR
namespace Go.Proofs.YtbeeojccadeboaaGreat.Model
open Go.ChangeShapes Go.WideShapes Go.ChangeAt Go.RowKit Mem Go.Proofs.YtbeeojccadeboaaGreat.Code

set_option maxRecDepth 100000 in
set_option maxHeartbeats 4000000 in
theorem part_set_r (f : Nat) (hf : PartR f) (l : List Raw) (A : Option Addr) (n c frm to : Nat) (r : RS) (w : World) (hp : PrR w A n l frm to (f + 1) r) (hlt : frm < to) (x : Step) (T : Option Addr) (tn tc : Nat) (hx : l[frm]? = some ⟨x, T, tn, tc⟩) (hd : x.d = 2) :
    Calls Tryz.prog 42 #[.slice A n c, .int .i64 (frm : Int), .int .i64 (to : Int), .agg (sc r).toArray] w (RetSt w r (part (seg (ss l) frm to) r.s)) := by
  have HST := Lib.hid hp.st
  obtain ⟨hseg, hone, hwt⟩ := hp.step hlt _ hx
  have hto := hp.ton
  have hn := hp.n1000
  obtain ⟨b, off, ⟨⟨sd, sa, sb, st⟩, T', tn', tc'⟩, rfl, hx', c0, c1, c2, c3, hrd, _⟩ := hp.code.at_ frm (by omega)
  rw [hx] at hx'
  injection hx' with hx'
  injection hx' with i1 i2 i3 i4
  subst i1 i2 i3 i4
  simp only at c0 c1 c2 c3 hrd hd hseg hone hwt 
  subst hd
  obtain ⟨a0, a7⟩ := pr_set _ hone rfl
  simp only at a0 a7
  obtain ⟨ra, hra⟩ : ∃ ra : Nat, sa = (ra : Int) := ⟨sa.toNat, by omega⟩
  subst hra
  obtain ⟨Z, hZ0⟩ : ∃ Z, (sc rz).toArray = Z := ⟨_, rfl⟩
  have HZ := Lib.hid zero_st
  have HZS : Hid (Z.size = 140) := Lib.hid (by rw [← hZ0, List.size_toArray, sc_len rfl])
  rw [hZ0] at HZ
  clear hZ0
  obtain ⟨cr, hcr⟩ : ∃ cr, (sc r).toArray = cr := ⟨_, rfl⟩
  obtain ⟨w2, hw2⟩ : ∃ w2, w2 = (w.alloc (.cells cr 105)).alloc (.cells Z 105) := ⟨_, rfl⟩
  have HT := Lib.hid (two_blocks r w 105 cr Z hcr rfl w2 hw2)
  have HU := Lib.hid Tryz.underlying105
  have HI : Hid ((Tryz.prog.info? 105).map (·.size) = some cr.size) := Lib.hid (by rw [← hcr]; exact hi_st _ HST.out.r8)
  have HFA := Lib.hid (Fresh.refl w r.A r.n)
  have HFP := Lib.hid (Fresh.refl w r.P r.pn)
  have HNA := Lib.hid ((rd_old HST.out.heap (by decide)).ne (g := w.heap.size + 1) (by omega))
  have HNP := Lib.hid ((rd_old HST.out.path (by decide)).ne (g := w.heap.size + 1) (by omega))
  have d0 := cell_kept_up c0 HT.out.2.2.1
  have d1 := cell_kept_up c1 HT.out.2.2.1
  have d2 := cell_kept_up c2 HT.out.2.2.1
  have d3 := cell_kept_up c3 HT.out.2.2.1
  obtain ⟨w3, hw3⟩ : ∃ w3, w3 = w2.alloc (.cells #[.int .i64 2, .int .i64 (ra : Int), .int .i64 sb, .slice T tn tc] 112) := ⟨_, rfl⟩
  have HB3 : Hid (Blk w3 w2.heap.size 112 #[.int .i64 2, .int .i64 (ra : Int), .int .i64 sb, .slice T tn tc]) := Lib.hid (by rw [hw3]; exact Blk.new _ _ _)
  have HW3 : Hid (Below w2.heap.size w2 w3) := Lib.hid (by rw [hw3]; exact bl_alloc (Below.refl _ _) _)
  have HS3 : Hid (Blk w3 w.heap.size 105 cr) := Lib.hid (by have := Blk.below HT.out.1 HW3.out; rw [hcr] at this; exact this)
  have hbw : Below w.heap.size w w3 := bl_trans HT.out.2.2.1 HW3.out
  have BW := Lib.hid hbw
  have HZW : Hid (Blk w3 (w.heap.size + 1) 105 Z) := Lib.hid (HT.out.2.1.below HW3.out)
  have x1 := HB3.out.cell 1 _ rfl
  have x2 := HB3.out.cell 2 _ rfl
  have x3 := HB3.out.cell 3 _ rfl
  obtain ⟨N1, hN1⟩ : ∃ N1, frm + 1 = N1 := ⟨_, rfl⟩
  have hwr1 : IntKind.i64.wrap ((frm : Int) + 1) = (N1 : Int) := by rw [IntKind.wrap_i64]; omega
  have hrk : reckonsB st = true := one_reck _ hone (by simp)
  have htn : tn ≤ 1000000 := by have h1 := term_short st hrk; have h2 := Term.ops_len hrd; omega
  obtain ⟨tv, htv⟩ : ∃ tv, tellM r.s st = tv := ⟨_, rfl⟩
  have HCT : Hid (∀ W, Below w3.heap.size w3 W → Calls Tryz.prog 89 #[.agg cr, .slice T tn tc] W fun e w' => e = .returned (.int .i64 tv) ∧ Below W.heap.size W w') :=
    Lib.hid (fun W hW => by rw [← hcr]; exact tell_r r st T tn tc W tv HST.out.r8 ((HST.out.heap.below hbw).below hW) (by have := HST.out.n64; omega) ((hrd.below hbw).below hW) htn htv)
  obtain ⟨yr, hyr⟩ : ∃ yr, r.s.regs[ra]? = some yr := ⟨_, List.getElem?_eq_getElem (by rw [HST.out.r8]; omega)⟩
  obtain ⟨r5, hr5⟩ : ∃ r5 : RS, r5 = { r with s := setTo r.s (ra : Int) tv } := ⟨_, rfl⟩
  obtain ⟨cr5, hcr5⟩ : ∃ cr5, (sc r5).toArray = cr5 := ⟨_, rfl⟩
  have HSP : Hid (part (seg (ss l) frm to) r.s = part (seg (ss l) N1 to) r5.s) := Lib.hid (by rw [hseg, part_set _ _ _ rfl, htv, hN1, hr5])
  have hst5 : ∀ W, Below w.heap.size w W → StR W r5 := fun W hW => by
    have h1 := HST.out.below hW
    rw [hr5]
    exact ⟨by show (r.s.regs.set _ _).length = 8; rw [List.length_set]; exact h1.r8, h1.heap, h1.n64, h1.path⟩
  have HI5 : Hid ((Tryz.prog.info? 105).map (·.size) = some cr5.size) := Lib.hid (by rw [← hcr5]; exact hi_st _ (hst5 w3 hbw).r8)
  rw [hN1] at hwt
  have hpp : r5.s.path = r.s.path := by rw [hr5]; rfl
  have HSb : Hid (Sb w3 w.heap.size r) := Lib.hid (Blk.below HT.out.1 HW3.out)
  have HS5 : Hid (∀ W, Below w3.heap.size w3 W → Blk (W.setCell ⟨w.heap.size, 65 + ra, none⟩ (.int .i64 tv)) w.heap.size 105 cr5) := Lib.hid (fun W hW => Sb.blk (r := r5) (by
    have h1 : Sb W w.heap.size r := Blk.below HSb.out hW
    have h2 := sc_set_reg (r := r) ra (by rw [HST.out.r8]; omega) tv
    have h3 : r5 = { r with s := { r.s with regs := r.s.regs.set ra tv } } := by
      rw [hr5]
      unfold setTo
      rw [Int.toNat_natCast]
    rw [h3]
    exact h1.set_ _ _ h2) hcr5)
  have HN : Hid (∀ W, Below w.heap.size w W → ∀ z : Int, z = ((N1 : Nat) : Int) → Calls Tryz.prog 42 #[.slice (some ⟨b, off, none⟩) n c, .int .i64 z, .int .i64 (to : Int), .agg cr5] W (RetSt W r5 (part (seg (ss l) N1 to) r5.s))) := Lib.hid (fun W hW z hz => by
    rw [← hcr5]
    exact hf l (some ⟨b, off, none⟩) n c N1 to r5 W ⟨hp.code.below hW, hp.all, by omega, hp.ton, hp.n1000, by have := hp.fuel; omega, hwt, hst5 W hW, by rw [hpp]; have := hp.path; omega⟩ z (to : Int) hz rfl)
  have HG : Hid (w3.drew.heap[w.heap.size]? = some (.cells cr 105 (0, 0))) := Lib.hid HS3.out
  have HR65 : Hid (∀ W, Below w3.heap.size w3 W → W.cell? ⟨w.heap.size, 65 + ra, none⟩ = some (.int .i64 yr) ∧ W.frozen? ⟨w.heap.size, 65 + ra, none⟩ = false) := Lib.hid (fun W hW => ⟨Sb.cell_ (Blk.below HSb.out hW) _ _ (sc_reg (r := r) HST.out.r8 ra yr hyr), Blk.frozen (Blk.below HSb.out hW) (65 + ra)⟩)
  have bq : Hid (Below w3.heap.size w3 w3.drew) := Lib.hid (Below.refl _ _).drew
  have hgne : w.heap.size ≠ w2.heap.size := by have := HT.out.2.2.2; omega
  have HGN := Lib.hid hgne
  have hr8 : ¬ ((8 : Int) ≤ (ra : Int)) := by omega
  have hdec : ¬ ((to : Int) ≤ (frm : Int)) := by omega
  have HFA : Hid (Fresh w r.A r.n r5.A r5.n) := Lib.hid (by rw [hr5]; exact Fresh.refl _ _ _)
  have HFP : Hid (Fresh w r.P r.pn r5.P r5.pn) := Lib.hid (by rw [hr5]; exact Fresh.refl _ _ _)
  have HNA : Hid (∀ b off, r5.A = some ⟨b, off, none⟩ → 0 < r5.n → b ≠ w.heap.size + 1) := Lib.hid (by rw [hr5]; exact HNA.out)
  have HNP : Hid (∀ b off, r5.P = some ⟨b, off, none⟩ → 0 < r5.pn → b ≠ w.heap.size + 1) := Lib.hid (by rw [hr5]; exact HNP.out)
  rw [hcr]
  clear c0 c1 c2 c3 hx hcr hseg hone hwt hbw hrd hf hp hrk htn htv hyr hr5 hst5 hpp hcr5 a0 a7 x1 x2 x3 hgne
  go_enter Tryz.func42, Tryz.ntmps42
  go_wp2_with (first
    | (refine box_row rfl 105 _ rfl cr rfl ?_)
    | (refine alloc_row rfl 105 rfl Z HZ.out ?_; rw [← hw2]; clear hw2))
  rw [← hw3]
  clear hw3 d0 d1 d2 d3
  refine wp_region_held_drew (S := fun (W : World) => W.cell? ⟨w2.heap.size, 1, none⟩ = some (.int .i64 (ra : Int)) ∧ W.cell? ⟨w2.heap.size, 3, none⟩ = some (.slice T tn tc)) (by kernel_rfl) ⟨(HB3.out.below bq.out).cell 1 _ rfl, (HB3.out.below bq.out).cell 3 _ rfl⟩ (fun hHeld => ?_)
  refine wpAnyH_take (i := 0) (v := .pointer (some ⟨w2.heap.size, 1, none⟩)) rfl (by kernel_rfl) (by kernel_rfl) (by kernel_rfl) (fun _ _ _ h => h) (Or.inl ⟨by rfl, fun W hS => by go_simp⟩) hHeld ?_
  try simp only [Act.put]
  try simp only [List.setIfInBounds_toArray]
  try simp only [List.set_cons_succ]
  try simp only [List.set_cons_zero]
  refine wpAnyH_take (i := 1) (v := .int .i64 (ra : Int)) rfl (by kernel_rfl) (by kernel_rfl) (by kernel_rfl) (fun _ _ _ h => h) (Or.inl ⟨by rfl, fun W hS => by have k1 := hS.1; go_simp⟩) hHeld ?_
  try simp only [Act.put]
  try simp only [List.setIfInBounds_toArray]
  try simp only [List.set_cons_succ]
  try simp only [List.set_cons_zero]
  refine wpAnyH_take (i := 3) (v := .pointer (some ⟨w2.heap.size, 3, none⟩)) rfl (by kernel_rfl) (by kernel_rfl) (by kernel_rfl) (fun _ _ _ h => h) (Or.inl ⟨by rfl, fun W hS => by go_simp⟩) hHeld ?_
  try simp only [Act.put]
  try simp only [List.setIfInBounds_toArray]
  try simp only [List.set_cons_succ]
  try simp only [List.set_cons_zero]
  refine wpAnyH_take (i := 4) (v := .slice T tn tc) rfl (by kernel_rfl) (by kernel_rfl) (by kernel_rfl) (fun _ _ _ h => h) (Or.inl ⟨by rfl, fun W hS => by have k3 := hS.2; go_simp⟩) hHeld ?_
  try simp only [Act.put]
  try simp only [List.setIfInBounds_toArray]
  try simp only [List.set_cons_succ]
  try simp only [List.set_cons_zero]
  refine wpAnyH_take (i := 6) (v := .pointer (some ⟨w.heap.size, 65, none⟩)) rfl (by kernel_rfl) (by kernel_rfl) (by kernel_rfl) (fun _ _ _ h => h) (Or.inl ⟨by rfl, fun W hS => by go_simp⟩) hHeld ?_
  try simp only [Act.put]
  try simp only [List.setIfInBounds_toArray]
  try simp only [List.set_cons_succ]
  try simp only [List.set_cons_zero]
  refine wpAnyH_ready (rs := [2]) (by kernel_rfl) (by simp) ?_
  refine AllReadyH.cons rfl (fun K hK => ?_) AllReadyH.nil
  refine load_step (by rfl) 105 (.tmp 7) rfl w.heap.size rfl 105 cr (0, 0) _ HG.out HU.out rfl HI.out ?_
  refine hK.out _ _ hHeld (fun _ => ?_)
  try simp only [Act.put]
  try simp only [List.setIfInBounds_toArray]
  try simp only [List.set_cons_succ]
  try simp only [List.set_cons_zero]
  clear hK K
  refine wpAnyH_ready (rs := [5]) (by kernel_rfl) (by simp) ?_
  refine AllReadyH.cons rfl (fun K hK => ?_) AllReadyH.nil
  refine calls_step (by rfl) 89 #[.agg cr, .slice T tn tc] (.int .i64 tv) (fun w' => Below w3.drew.heap.size w3.drew w') (HCT.out _ bq.out) ?_ ?_
  · focus (go_simp; done)
  intro w4 hb4
  have HB4 := Lib.hid (bl_trans bq.out hb4)
  obtain ⟨ky, kz⟩ := HR65.out _ HB4.out
  refine hK.out _ _ ⟨(HB3.out.below HB4.out).cell 1 _ rfl, (HB3.out.below HB4.out).cell 3 _ rfl⟩ (fun hHeld4 => ?_)
  try simp only [Act.put]
  try simp only [List.setIfInBounds_toArray]
  try simp only [List.set_cons_succ]
  try simp only [List.set_cons_zero]
  clear hK K
  refine wpAnyH_take (i := 7) (v := .pointer (some ⟨w.heap.size, 65 + ra, none⟩)) rfl (by kernel_rfl) (by kernel_rfl) (by kernel_rfl) (fun _ _ _ h => h) (Or.inl ⟨by rfl, fun W hS => by go_simp⟩) hHeld4 ?_
  try simp only [Act.put]
  try simp only [List.setIfInBounds_toArray]
  try simp only [List.set_cons_succ]
  try simp only [List.set_cons_zero]
  refine wpAnyH_ready (rs := [8]) (by kernel_rfl) (by simp) ?_
  refine AllReadyH.cons rfl (fun K hK => ?_) AllReadyH.nil
  go_simp
  refine hK.out _ _ ⟨?_, ?_⟩ (fun _ => ?_)
  · rw [cell_set_ne HGN.out]; exact hHeld4.1
  · rw [cell_set_ne HGN.out]; exact hHeld4.2
  clear hK K
  refine wpAnyH_done (by kernel_rfl) ?_ _
  have HS6 := Lib.hid (HS5.out w4 HB4.out)
  have BW := Lib.hid (bl_set (bl_trans BW.out HB4.out) (p := ⟨w.heap.size, 65 + ra, none⟩) (Nat.le_refl _) (.int .i64 tv))
  have HZW : Hid (Blk (w4.setCell ⟨w.heap.size, 65 + ra, none⟩ (.int .i64 tv)) (w.heap.size + 1) 105 Z) := Lib.hid ((HZW.out.below HB4.out).beside (by omega) _ _)
  generalize w4.setCell ⟨w.heap.size, 65 + ra, none⟩ (.int .i64 tv) = w5 at *
  clear ky kz hHeld4 hHeld
  go_wp2_with (refine wpList_load_row rfl 105 _ rfl w.heap.size rfl 105 cr5 (0, 0) _ HS6.out HU.out rfl HI5.out ?_)
  refine (HN.out _ BW.out _ ?_).mono ?_
  · omega
  rintro e w9 ⟨r9, rfl, hs9, st9, b9, fa9, fp9⟩
  have HB9 := Lib.hid (bl_trans BW.out b9)
  have HZ9 : Hid (Blk w9 (w.heap.size + 1) 105 Z) := Lib.hid (HZW.out.below b9)
  obtain ⟨ce, hce⟩ : ∃ ce, (sc r9).toArray = ce := ⟨_, rfl⟩
  have HI9 : Hid ((Tryz.prog.info? 105).map (·.size) = some ce.size) := Lib.hid (by rw [← hce]; exact hi_st _ st9.r8)
  have HSZ9 : Hid (Z.size = ce.size) := Lib.hid (by rw [HZS.out, ← hce, List.size_toArray, sc_len st9.r8])
  have HON9 : Hid (ce.all (·.oneCell') = true) := Lib.hid (by rw [← hce]; exact one_st _)
  have HP9 : Hid (RetSt w r (part (seg (ss l) frm to) r.s) (.returned (.agg ce)) (w9.setRow (w.heap.size + 1) ce)) := Lib.hid ⟨r9, by rw [hce], by rw [hs9, HSP.out], st9.setRow_ ce (fa9.ne HNA.out HZW.out.lt) (fp9.ne HNP.out HZW.out.lt), below_setRow HB9.out (by omega) _, HFA.out.trans fa9 BW.out.size, HFP.out.trans fp9 BW.out.size⟩
  rw [hce]
  clear hs9 st9 hce b9 fa9 fp9
  go_wp2_with (refine wpList_store_row rfl 105 _ _ rfl (w.heap.size + 1) ce rfl rfl 105 Z HZ9.out HI9.out HSZ9.out HON9.out ?_)
  (try simp only [Exit.inBlock, Exit.then])
  exact bodyPost_ret (results_cell_row Tryz.results42 _ _ (w.heap.size + 1) 105 ce (0, 0) _ rfl (setRow_blk HZ9.out) HU.out rfl HI9.out) rfl HP9.out
end Go.Proofs.YtbeeojccadeboaaGreat.Model
