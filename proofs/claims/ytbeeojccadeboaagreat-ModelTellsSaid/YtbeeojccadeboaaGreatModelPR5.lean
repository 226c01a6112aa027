/-
  WHAT THE DOCUMENT'S ANSWER FOR LAYER 10 RETURNS: part, at a Store of a cell that is Live. No conditions beyond those that each theorem states.
-/
import Derived.Test.YtbeeojccadeboaaGreatModelPR
import Derived.Test.YtbeeojccadeboaaGreatHeapA
namespace Go.Proofs.YtbeeojccadeboaaGreat.Model
open Go.ChangeShapes Go.WideShapes Go.ChangeAt Go.RowKit Mem Go.Proofs.YtbeeojccadeboaaGreat.Code

theorem own_frozen {w0 w : World} {e size n cap g : Nat} {xs : List Value} (h : Own w0 w e size (.slice (some ⟨g, 0, none⟩) n cap) n xs) (i : Nat) : w.frozen? ⟨g, i, none⟩ = false := by
  rcases h.1.2 with ⟨hv, _⟩ | ⟨g1, cap1, cur, hv, _, hh, _⟩
  · cases hv
  · injection hv with e1
    injection e1 with e1
    injection e1 with e1
    subst e1
    simp [World.frozen?, hh]
set_option maxRecDepth 100000 in
set_option maxHeartbeats 4000000 in
theorem part_store_r (f : Nat) (hf : PartR f) (l : List Raw) (A : Option Addr) (n c frm to : Nat) (r : RS) (w : World) (hp : PrR w A n l frm to (f + 1) r) (hlt : frm < to) (x : Step) (T : Option Addr) (tn tc : Nat) (hx : l[frm]? = some ⟨x, T, tn, tc⟩) (hd : x.d = 3) (hl : Heap.liveAt r.s.h x.a = true) :
    Calls Tryz.prog 42 #[.slice A n c, .int .i64 (frm : Int), .int .i64 (to : Int), .agg (sc r).toArray] w (RetSt w r (part (seg (ss l) frm to) r.s)) := by
  have HST := Lib.hid hp.st
  obtain ⟨hseg, hone, hwt⟩ := hp.step hlt _ hx
  have hto := hp.ton
  have hn := hp.n1000
  obtain ⟨b, off, ⟨⟨sd, sa, sb, st⟩, T', tn', tc'⟩, rfl, hx', c0, c1, c2, c3, hrd, _⟩ := hp.code.at_ frm (by omega)
  rw [hx] at hx'
  injection hx' with hx'
  injection hx' with i1 i2 i3 i4
  subst i1 i2 i3 i4
  simp only at c0 c1 c2 c3 hrd hd hseg hone hwt hl
  subst hd
  obtain ⟨a0, a63⟩ := pr_store _ hone rfl
  simp only at a0 a63
  obtain ⟨ra, hra⟩ : ∃ ra : Nat, sa = (ra : Int) := ⟨sa.toNat, by omega⟩
  subst hra
  obtain ⟨Z, hZ0⟩ : ∃ Z, (sc rz).toArray = Z := ⟨_, rfl⟩
  have HZ := Lib.hid zero_st
  have HZS : Hid (Z.size = 140) := Lib.hid (by rw [← hZ0, List.size_toArray, sc_len rfl])
  rw [hZ0] at HZ
  clear hZ0
  obtain ⟨cr, hcr⟩ : ∃ cr, (sc r).toArray = cr := ⟨_, rfl⟩
  obtain ⟨w2, hw2⟩ : ∃ w2, w2 = (w.alloc (.cells cr 105)).alloc (.cells Z 105) := ⟨_, rfl⟩
  have HT := Lib.hid (two_blocks r w 105 cr Z hcr rfl w2 hw2)
  have HU := Lib.hid Tryz.underlying105
  have HI : Hid ((Tryz.prog.info? 105).map (·.size) = some cr.size) := Lib.hid (by rw [← hcr]; exact hi_st _ HST.out.r8)
  have HFA := Lib.hid (Fresh.refl w r.A r.n)
  have HFP := Lib.hid (Fresh.refl w r.P r.pn)
  have HNA := Lib.hid ((rd_old HST.out.heap (by decide)).ne (g := w.heap.size + 1) (by omega))
  have HNP := Lib.hid ((rd_old HST.out.path (by decide)).ne (g := w.heap.size + 1) (by omega))
  have d0 := cell_kept_up c0 HT.out.2.2.1
  have d1 := cell_kept_up c1 HT.out.2.2.1
  have d2 := cell_kept_up c2 HT.out.2.2.1
  have d3 := cell_kept_up c3 HT.out.2.2.1
  obtain ⟨w3, hw3⟩ : ∃ w3, w3 = w2.alloc (.cells #[.int .i64 3, .int .i64 (ra : Int), .int .i64 sb, .slice T tn tc] 112) := ⟨_, rfl⟩
  have HB3 : Hid (Blk w3 w2.heap.size 112 #[.int .i64 3, .int .i64 (ra : Int), .int .i64 sb, .slice T tn tc]) := Lib.hid (by rw [hw3]; exact Blk.new _ _ _)
  have HW3 : Hid (Below w2.heap.size w2 w3) := Lib.hid (by rw [hw3]; exact bl_alloc (Below.refl _ _) _)
  have HS3 : Hid (Blk w3 w.heap.size 105 cr) := Lib.hid (by have := Blk.below HT.out.1 HW3.out; rw [hcr] at this; exact this)
  have hbw : Below w.heap.size w w3 := bl_trans HT.out.2.2.1 HW3.out
  have BW := Lib.hid hbw
  have HZW : Hid (Blk w3 (w.heap.size + 1) 105 Z) := Lib.hid (HT.out.2.1.below HW3.out)
  have x1 := HB3.out.cell 1 _ rfl
  have x2 := HB3.out.cell 2 _ rfl
  have x3 := HB3.out.cell 3 _ rfl
  obtain ⟨N1, hN1⟩ : ∃ N1, frm + 1 = N1 := ⟨_, rfl⟩
  have hwr1 : IntKind.i64.wrap ((frm : Int) + 1) = (N1 : Int) := by rw [IntKind.wrap_i64]; omega
  have hrk : reckonsB st = true := one_reck _ hone (by simp)
  have htn : tn ≤ 1000000 := by have h1 := term_short st hrk; have h2 := Term.ops_len hrd; omega
  obtain ⟨tv, htv⟩ : ∃ tv, tellM r.s st = tv := ⟨_, rfl⟩
  have HCT : Hid (∀ W, Below w3.heap.size w3 W → Calls Tryz.prog 89 #[.agg cr, .slice T tn tc] W fun e w' => e = .returned (.int .i64 tv) ∧ Below W.heap.size W w') :=
    Lib.hid (fun W hW => by rw [← hcr]; exact tell_r r st T tn tc W tv HST.out.r8 ((HST.out.heap.below hbw).below hW) (by have := HST.out.n64; omega) ((hrd.below hbw).below hW) htn htv)
  obtain ⟨_, hk1, y, hy, _⟩ := Heap.live_in r.s.h _ hl
  rw [Int.toNat_natCast] at hk1 hy
  have hrn : r.s.h.length = r.n := by have h1 := HST.out.heap.1; rw [Heap.cs_len] at h1; omega
  have HSPP : Hid (part (seg (ss l) frm to) r.s = part (seg (ss l) N1 to) (stored r.s (ra : Int) tv)) := Lib.hid (by rw [hseg, part_store _ _ _ rfl, hl, if_pos rfl, htv, hN1])
  rw [hN1] at hwt
  have HSb : Hid (Sb w3 w.heap.size r) := Lib.hid (Blk.below HT.out.1 HW3.out)
  have hset : ((Heap.cs r.s.h).set (ra * 2) (.bool true)).set (ra * 2 + 1) (.int .i64 tv) = Heap.cs (Heap.setAt r.s.h (ra : Int) ⟨true, tv⟩) := by
    have h1 := Heap.cs_set r.s.h ra ⟨true, tv⟩
    unfold Heap.setAt
    rw [if_neg (by omega), Int.toNat_natCast]
    exact h1
  have HSET := Lib.hid hset
  have HRN : Hid (Rd w3 2 r.A r.n (Heap.cs r.s.h)) := Lib.hid (HST.out.heap.below hbw)
  -- what follows the store
  have HEND : Hid (∀ (W : World) (gh cap : Nat), Below w3.heap.size w3 W → Own w3 W 80 2 (.slice (some ⟨gh, 0, none⟩) r.n cap) r.n (Heap.cs (Heap.setAt r.s.h (ra : Int) ⟨true, tv⟩)) → ∃ (r5 : RS) (cr5 : Array Value),
      Blk ((W.setCell ⟨w.heap.size, 0, none⟩ (.slice (some ⟨gh, 0, none⟩) r.n cap)).setCell ⟨w.heap.size, 1 + ra, none⟩ (.bool true)) w.heap.size 105 cr5 ∧
      (Tryz.prog.info? 105).map (·.size) = some cr5.size ∧ r5.s = stored r.s (ra : Int) tv ∧
      Below w.heap.size w ((W.setCell ⟨w.heap.size, 0, none⟩ (.slice (some ⟨gh, 0, none⟩) r.n cap)).setCell ⟨w.heap.size, 1 + ra, none⟩ (.bool true)) ∧
      Blk ((W.setCell ⟨w.heap.size, 0, none⟩ (.slice (some ⟨gh, 0, none⟩) r.n cap)).setCell ⟨w.heap.size, 1 + ra, none⟩ (.bool true)) (w.heap.size + 1) 105 Z ∧
      (Fresh w r.A r.n r5.A r5.n ∧ Fresh w r.P r.pn r5.P r5.pn ∧ (∀ b off, r5.A = some ⟨b, off, none⟩ → 0 < r5.n → b ≠ w.heap.size + 1) ∧ (∀ b off, r5.P = some ⟨b, off, none⟩ → 0 < r5.pn → b ≠ w.heap.size + 1)) ∧
      ∀ z : Int, z = ((N1 : Nat) : Int) → Calls Tryz.prog 42 #[.slice (some ⟨b, off, none⟩) n c, .int .i64 z, .int .i64 (to : Int), .agg cr5] ((W.setCell ⟨w.heap.size, 0, none⟩ (.slice (some ⟨gh, 0, none⟩) r.n cap)).setCell ⟨w.heap.size, 1 + ra, none⟩ (.bool true)) (RetSt ((W.setCell ⟨w.heap.size, 0, none⟩ (.slice (some ⟨gh, 0, none⟩) r.n cap)).setCell ⟨w.heap.size, 1 + ra, none⟩ (.bool true)) r5 (part (seg (ss l) N1 to) r5.s))) := Lib.hid (by
    intro W gh cap hW ho
    have hgh : w3.heap.size ≤ gh := ho.base gh rfl
    have hs3 := HS3.out.lt
    have hz3 := HZW.out.lt
    have h1 : Sb W w.heap.size r := Blk.below HSb.out hW
    have h2 := h1.set_ 0 (.slice (some ⟨gh, 0, none⟩) r.n cap) (sc_set_heap (some ⟨gh, 0, none⟩) r.n cap (Heap.setAt r.s.h (ra : Int) ⟨true, tv⟩))
    have h3 := h2.set_ (1 + ra) (.bool true) (sc_set_wrote ra (by omega))
    have hbel : Below w.heap.size w ((W.setCell ⟨w.heap.size, 0, none⟩ (.slice (some ⟨gh, 0, none⟩) r.n cap)).setCell ⟨w.heap.size, 1 + ra, none⟩ (.bool true)) := bl_set (bl_set (bl_trans hbw hW) (p := ⟨w.heap.size, 0, none⟩) (Nat.le_refl _) _) (p := ⟨w.heap.size, 1 + ra, none⟩) (Nat.le_refl _) _
    have hnes : ∀ bb oo, (some (⟨gh, 0, none⟩ : Addr)) = some ⟨bb, oo, none⟩ → bb ≠ w.heap.size := fun bb oo e => by injection e with e; injection e with e; omega
    have hrd := ((own_rd ho).set_other hnes 0 (.slice (some ⟨gh, 0, none⟩) r.n cap)).set_other hnes (1 + ra) (.bool true)
    obtain ⟨r5, hr5⟩ : ∃ r5 : RS, r5 = { r with s := stored r.s (ra : Int) tv, A := some ⟨gh, 0, none⟩, n := r.n, c := cap } := ⟨_, rfl⟩
    have h4 : Sb ((W.setCell ⟨w.heap.size, 0, none⟩ (.slice (some ⟨gh, 0, none⟩) r.n cap)).setCell ⟨w.heap.size, 1 + ra, none⟩ (.bool true)) w.heap.size r5 := by
      rw [hr5]
      unfold stored
      rw [Int.toNat_natCast]
      exact h3
    have e1 : r5.s = stored r.s (ra : Int) tv := by rw [hr5]
    have e2 : r5.A = some ⟨gh, 0, none⟩ := by rw [hr5]
    have e3 : r5.n = r.n := by rw [hr5]
    have e4 : r5.P = r.P := by rw [hr5]
    have e5 : r5.pn = r.pn := by rw [hr5]
    have e6 : r5.s.regs.length = 8 := by rw [e1]; exact HST.out.r8
    have e7 : r5.s.path = r.s.path := by rw [e1]; rfl
    have e8 : r5.s.h = Heap.setAt r.s.h (ra : Int) ⟨true, tv⟩ := by rw [e1]; rfl
    have hst5 : StR ((W.setCell ⟨w.heap.size, 0, none⟩ (.slice (some ⟨gh, 0, none⟩) r.n cap)).setCell ⟨w.heap.size, 1 + ra, none⟩ (.bool true)) r5 :=
      ⟨e6, by rw [e2, e3, e8]; exact hrd, by rw [e3]; exact HST.out.n64, by rw [e4, e5, e7]; exact HST.out.path.below hbel⟩
    clear hr5
    refine ⟨r5, (sc r5).toArray, h4, hi_st _ e6, e1, hbel, ?_, ⟨.inr fun bb oo e => ?_, by rw [e4, e5]; exact Fresh.refl _ _ _, fun bb oo e _ => ?_, by rw [e4, e5]; exact HNP.out⟩, ?_⟩
    · exact ((HZW.out.below hW).beside (by omega) _ _).beside (by omega) _ _
    · rw [e2] at e
      injection e with e; injection e with e; have := hbw.size; omega
    · rw [e2] at e
      injection e with e; injection e with e; omega
    · intro z hz
      exact hf l (some ⟨b, off, none⟩) n c N1 to r5 _ ⟨hp.code.below hbel, hp.all, by omega, hp.ton, hp.n1000, by have := hp.fuel; omega, hwt, hst5, by rw [e7]; have := hp.path; omega⟩ z (to : Int) hz rfl)
  have HL : Hid (Calls Tryz.prog 62 #[.slice r.A r.n r.c, .int .i64 (ra : Int)] w3 fun e w' => e = .returned (.bool true) ∧ w3 = w') := Lib.hid (by have h1 := Heap.live_any r.s.h r.A r.n r.c (ra : Int) w3 (HST.out.heap.below hbw) (by have := HST.out.n64; omega); rw [hl] at h1; exact h1)
  have HP0 : Hid (∀ W, Below w3.heap.size w3 W → W.cell? ⟨w.heap.size, 0, none⟩ = some (.slice r.A r.n r.c) ∧ W.cell? ⟨w.heap.size, 1 + ra, none⟩ = some (.bool (r.s.wrote ra))) := Lib.hid (fun W hW => ⟨Sb.cell_ (Blk.below HSb.out hW) 0 _ (sc_heap (r := r)), Sb.cell_ (Blk.below HSb.out hW) _ _ (sc_wrote (r := r) ra (by omega))⟩)
  have HFZ : Hid (∀ W, Below w3.heap.size w3 W → ∀ i, W.frozen? ⟨w.heap.size, i, none⟩ = false) := Lib.hid (fun W hW i => Blk.frozen (Blk.below HSb.out hW) i)
  have HP1 : Hid (∀ (W : World) (v : Value), Below w3.heap.size w3 W → (W.setCell ⟨w.heap.size, 0, none⟩ v).cell? ⟨w.heap.size, 1 + ra, none⟩ = some (.bool (r.s.wrote ra)) ∧ ∀ i, (W.setCell ⟨w.heap.size, 0, none⟩ v).frozen? ⟨w.heap.size, i, none⟩ = false) := Lib.hid (fun W v hW => by
    have h1 : Blk W w.heap.size 105 (sc r).toArray := Blk.below HSb.out hW
    have h2 := h1.set_ 0 v
    exact ⟨h2.cell (1 + ra) _ (by rw [Array.getElem?_setIfInBounds_ne (by omega), List.getElem?_toArray]; exact sc_wrote ra (by omega)), fun i => h2.frozen i⟩)
  have hn0 : 0 < r.n := by omega
  have hn64 := HST.out.n64
  have hkn : ¬ ((r.n : Int) ≤ (ra : Int)) := by omega
  have hr64 : ¬ ((64 : Int) ≤ (ra : Int)) := by omega
  have hdec : ¬ ((to : Int) ≤ (frm : Int)) := by omega
  have p0l := (HP0.out w3 (Below.refl _ _)).1
  rw [hw3] at p0l
  have hgne : w.heap.size ≠ w2.heap.size := by have := HT.out.2.2.2; omega
  have HGN := Lib.hid hgne
  have HS23 := Lib.hid (And.intro HS3.out.lt HB3.out.lt)
  rw [hcr]
  clear c0 c1 c2 c3 hx hcr hseg hone hwt hbw hrd hf hp hl hrk htn htv hk1 hy hrn hset a0 a63 x1 x2 x3 hgne
  go_enter Tryz.func42, Tryz.ntmps42
  go_wp2_with (first
    | (refine box_row rfl 105 _ rfl cr rfl ?_)
    | (refine alloc_row rfl 105 rfl Z HZ.out ?_; rw [← hw2]; clear hw2))
  rw [← hw3]
  clear hw3 d0 d1 d2 d3 p0l
  refine HL.out.mono ?_
  rintro e w' ⟨rfl, rfl⟩
  have p0 := (HP0.out w3 (Below.refl _ _)).1
  go_wp2_with (at_builtin; refine append_rd rfl _ _ 23 rfl Heap.tCell w3 (.slice none 0 0) 0 [] rfl (Own.nil_ (Below.refl _ _)) r.A r.n r.c (Heap.cs r.s.h) rfl HRN.out (Heap.cs_one r.s.h) (by omega) (by omega) ?_; intro v5 w5 ho5 hg5; rw [Nat.zero_add, List.nil_append] at ho5; obtain ⟨gh, cap, rfl⟩ := own_lay ho5 (by omega); have HO5 := Lib.hid ho5; clear ho5 hg5)
  have B5 := Lib.hid HO5.out.2
  have bq : Hid (Below w3.heap.size w3 w5.drew) := Lib.hid B5.out.drew
  have HG : Hid (w5.drew.heap[w.heap.size]? = some (.cells cr 105 (0, 0))) := Lib.hid (HS3.out.below bq.out)
  have hgh := HO5.out.base gh rfl
  have hgg : gh ≠ w2.heap.size := by have := HS23.out.2; omega
  have HGG := Lib.hid hgg
  clear p0 hgh hgg
  refine wp_region_held_drew (S := fun (W : World) => W.cell? ⟨w2.heap.size, 1, none⟩ = some (.int .i64 (ra : Int)) ∧ W.cell? ⟨w2.heap.size, 3, none⟩ = some (.slice T tn tc)) (by kernel_rfl) ⟨(HB3.out.below bq.out).cell 1 _ rfl, (HB3.out.below bq.out).cell 3 _ rfl⟩ (fun hHeld => ?_)
  refine wpAnyH_take (i := 0) (v := .slice (some ⟨gh, 0, none⟩) r.n cap) rfl (by kernel_rfl) (by kernel_rfl) (by kernel_rfl) (fun _ _ _ h => h) (Or.inl ⟨by rfl, fun W hS => by go_simp⟩) hHeld ?_
  try simp only [Act.put]
  try simp only [List.setIfInBounds_toArray]
  try simp only [List.set_cons_succ]
  try simp only [List.set_cons_zero]
  refine wpAnyH_take (i := 1) (v := .pointer (some ⟨w2.heap.size, 1, none⟩)) rfl (by kernel_rfl) (by kernel_rfl) (by kernel_rfl) (fun _ _ _ h => h) (Or.inl ⟨by rfl, fun W hS => by go_simp⟩) hHeld ?_
  try simp only [Act.put]
  try simp only [List.setIfInBounds_toArray]
  try simp only [List.set_cons_succ]
  try simp only [List.set_cons_zero]
  refine wpAnyH_take (i := 2) (v := .int .i64 (ra : Int)) rfl (by kernel_rfl) (by kernel_rfl) (by kernel_rfl) (fun _ _ _ h => h) (Or.inl ⟨by rfl, fun W hS => by have k1 := hS.1; go_simp⟩) hHeld ?_
  try simp only [Act.put]
  try simp only [List.setIfInBounds_toArray]
  try simp only [List.set_cons_succ]
  try simp only [List.set_cons_zero]
  refine wpAnyH_take (i := 4) (v := .pointer (some ⟨w2.heap.size, 3, none⟩)) rfl (by kernel_rfl) (by kernel_rfl) (by kernel_rfl) (fun _ _ _ h => h) (Or.inl ⟨by rfl, fun W hS => by go_simp⟩) hHeld ?_
  try simp only [Act.put]
  try simp only [List.setIfInBounds_toArray]
  try simp only [List.set_cons_succ]
  try simp only [List.set_cons_zero]
  refine wpAnyH_take (i := 5) (v := .slice T tn tc) rfl (by kernel_rfl) (by kernel_rfl) (by kernel_rfl) (fun _ _ _ h => h) (Or.inl ⟨by rfl, fun W hS => by have k3 := hS.2; go_simp⟩) hHeld ?_
  try simp only [Act.put]
  try simp only [List.setIfInBounds_toArray]
  try simp only [List.set_cons_succ]
  try simp only [List.set_cons_zero]
  refine wpAnyH_ready (rs := [3]) (by kernel_rfl) (by simp) ?_
  refine AllReadyH.cons rfl (fun K hK => ?_) AllReadyH.nil
  refine load_step (by rfl) 105 (.tmp 7) rfl w.heap.size rfl 105 cr (0, 0) _ HG.out HU.out rfl HI.out ?_
  refine hK.out _ _ hHeld (fun _ => ?_)
  try simp only [Act.put]
  try simp only [List.setIfInBounds_toArray]
  try simp only [List.set_cons_succ]
  try simp only [List.set_cons_zero]
  clear hK K
  refine wpAnyH_ready (rs := [6]) (by kernel_rfl) (by simp) ?_
  refine AllReadyH.cons rfl (fun K hK => ?_) AllReadyH.nil
  refine calls_step (by rfl) 89 #[.agg cr, .slice T tn tc] (.int .i64 tv) (fun w' => Below w5.drew.heap.size w5.drew w') (HCT.out _ bq.out) ?_ ?_
  · focus (go_simp; done)
  intro w6 hb6
  have B6 := Lib.hid (bl_trans bq.out hb6)
  have HO6 := Lib.hid ((HO5.out.below (show Below w5.heap.size w5 w5.drew from (Below.refl _ _).drew)).below hb6)
  obtain ⟨hb7, ho7, ⟨lv7, v7⟩, hA7, _, e0, e1⟩ := Heap.at_cell (own_rd HO6.out) ra (by omega)
  injection hA7 with hA7
  injection hA7 with hA7 hA8
  subst hA7 hA8
  simp only [Nat.zero_add] at e0 e1
  have ez := own_frozen HO6.out
  refine hK.out _ _ ⟨(HB3.out.below B6.out).cell 1 _ rfl, (HB3.out.below B6.out).cell 3 _ rfl⟩ (fun hHeld6 => ?_)
  try simp only [Act.put]
  try simp only [List.setIfInBounds_toArray]
  try simp only [List.set_cons_succ]
  try simp only [List.set_cons_zero]
  clear hK K
  refine wpAnyH_take (i := 7) (v := .agg #[.bool true, .int .i64 tv]) rfl (by kernel_rfl) (by kernel_rfl) (by kernel_rfl) (fun _ _ _ h => h) (Or.inl ⟨by rfl, fun W hS => by go_simp⟩) hHeld6 ?_
  try simp only [Act.put]
  try simp only [List.setIfInBounds_toArray]
  try simp only [List.set_cons_succ]
  try simp only [List.set_cons_zero]
  refine wpAnyH_take (i := 8) (v := .pointer (some ⟨gh, ra * 2, none⟩)) rfl (by kernel_rfl) (by kernel_rfl) (by kernel_rfl) (fun _ _ _ h => h) (Or.inl ⟨by rfl, fun W hS => by go_simp⟩) hHeld6 ?_
  try simp only [Act.put]
  try simp only [List.setIfInBounds_toArray]
  try simp only [List.set_cons_succ]
  try simp only [List.set_cons_zero]
  refine wpAnyH_ready (rs := [9]) (by kernel_rfl) (by simp) ?_
  refine AllReadyH.cons rfl (fun K hK => ?_) AllReadyH.nil
  go_simp
  refine hK.out _ _ ⟨?_, ?_⟩ (fun _ => ?_)
  · rw [cell_set_ne HGG.out, cell_set_ne HGG.out]; exact hHeld6.1
  · rw [cell_set_ne HGG.out, cell_set_ne HGG.out]; exact hHeld6.2
  clear hK K
  refine wpAnyH_done (by kernel_rfl) ?_ _
  have HO7 : Hid (Own w3 ((w6.setCell ⟨gh, ra * 2, none⟩ (.bool true)).setCell ⟨gh, ra * 2 + 1, none⟩ (.int .i64 tv)) 80 2 (.slice (some ⟨gh, 0, none⟩) r.n cap) r.n (Heap.cs (Heap.setAt r.s.h (ra : Int) ⟨true, tv⟩))) := Lib.hid (by
    have h1 := own_set (own_set HO6.out (ra * 2) (.bool true)) (ra * 2 + 1) (.int .i64 tv)
    rw [HSET.out] at h1
    exact h1)
  have B7 : Hid (Below w3.heap.size w3 ((w6.setCell ⟨gh, ra * 2, none⟩ (.bool true)).setCell ⟨gh, ra * 2 + 1, none⟩ (.int .i64 tv))) := Lib.hid HO7.out.2
  generalize (w6.setCell ⟨gh, ra * 2, none⟩ (.bool true)).setCell ⟨gh, ra * 2 + 1, none⟩ (.int .i64 tv) = w7 at *
  obtain ⟨r5, cr5, hs5, hI5, hr5, hbel5, hz5, ⟨fa5, fp5, na5, np5⟩, hn5⟩ := HEND.out w7 gh cap B7.out HO7.out
  have HS5 := Lib.hid hs5
  have HI5 := Lib.hid hI5
  have HSP : Hid (part (seg (ss l) frm to) r.s = part (seg (ss l) N1 to) r5.s) := Lib.hid (by rw [HSPP.out, hr5])
  have BW := Lib.hid hbel5
  have HZW := Lib.hid hz5
  have HFA := Lib.hid fa5
  have HFP := Lib.hid fp5
  have HNA := Lib.hid na5
  have HNP := Lib.hid np5
  have HN := Lib.hid hn5
  have y1 : w7.cell? ⟨w2.heap.size, 1, none⟩ = some (.int .i64 (ra : Int)) := (HB3.out.below B7.out).cell 1 _ rfl
  have y1' : (w7.setCell ⟨w.heap.size, 0, none⟩ (.slice (some ⟨gh, 0, none⟩) r.n cap)).cell? ⟨w2.heap.size, 1, none⟩ = some (.int .i64 (ra : Int)) := by rw [cell_set_ne HGN.out]; exact y1
  obtain ⟨y0, y2⟩ := HP0.out w7 B7.out
  have yz := HFZ.out w7 B7.out
  clear hs5 hI5 hr5 hbel5 hz5 fa5 fp5 na5 np5 hn5 e0 e1 ez hHeld6 hHeld hb6
  have hgne := HGN.out
  have hgne' := Ne.symm HGN.out
  obtain ⟨y3, y4⟩ := HP1.out w7 (.slice (some ⟨gh, 0, none⟩) r.n cap) B7.out
  go_wp2_with (refine wpList_load_row rfl 105 _ rfl w.heap.size rfl 105 cr5 (0, 0) _ HS5.out HU.out rfl HI5.out ?_)
  refine (HN.out _ ?_).mono ?_
  · omega
  rintro e w9 ⟨r9, rfl, hs9, st9, b9, fa9, fp9⟩
  have HB9 := Lib.hid (bl_trans BW.out b9)
  have HZ9 : Hid (Blk w9 (w.heap.size + 1) 105 Z) := Lib.hid (HZW.out.below b9)
  obtain ⟨ce, hce⟩ : ∃ ce, (sc r9).toArray = ce := ⟨_, rfl⟩
  have HI9 : Hid ((Tryz.prog.info? 105).map (·.size) = some ce.size) := Lib.hid (by rw [← hce]; exact hi_st _ st9.r8)
  have HSZ9 : Hid (Z.size = ce.size) := Lib.hid (by rw [HZS.out, ← hce, List.size_toArray, sc_len st9.r8])
  have HON9 : Hid (ce.all (·.oneCell') = true) := Lib.hid (by rw [← hce]; exact one_st _)
  have HP9 : Hid (RetSt w r (part (seg (ss l) frm to) r.s) (.returned (.agg ce)) (w9.setRow (w.heap.size + 1) ce)) := Lib.hid ⟨r9, by rw [hce], by rw [hs9, HSP.out], st9.setRow_ ce (fa9.ne HNA.out HZW.out.lt) (fp9.ne HNP.out HZW.out.lt), below_setRow HB9.out (by omega) _, HFA.out.trans fa9 BW.out.size, HFP.out.trans fp9 BW.out.size⟩
  rw [hce]
  clear hs9 st9 hce b9 fa9 fp9
  go_wp2_with (refine wpList_store_row rfl 105 _ _ rfl (w.heap.size + 1) ce rfl rfl 105 Z HZ9.out HI9.out HSZ9.out HON9.out ?_)
  (try simp only [Exit.inBlock, Exit.then])
  exact bodyPost_ret (results_cell_row Tryz.results42 _ _ (w.heap.size + 1) 105 ce (0, 0) _ rfl (setRow_blk HZ9.out) HU.out rfl HI9.out) rfl HP9.out
end Go.Proofs.YtbeeojccadeboaaGreat.Model
