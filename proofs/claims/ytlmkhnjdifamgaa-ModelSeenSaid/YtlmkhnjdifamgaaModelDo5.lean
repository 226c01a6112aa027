/-
  WHAT THE LAYER model DOES, AS IT IS WRITTEN: Load of a cell that was not stored. No conditions beyond those that each theorem states.
-/
import Derived.Test.YtlmkhnjdifamgaaModelDo4
namespace Go.Proofs.Ytlmkhnjdifamgaa.Model
open Go.ChangeShapes Go.WideShapes Go.ChangeAt Go.RowKit Mem Go.Proofs.Ytlmkhnjdifamgaa.Code

section
variable {K : Nat → Nat → Prop} {w0 w : World} {g : Nat} {HA : Option Addr} {hn hc : Nat} {h : List Heap.Cell} {m : CS} {x : RL} {rest : List Raw} {B : Option Addr} {rn rc e : Nat}
set_option maxRecDepth 100000 in
set_option maxHeartbeats 1000000 in
theorem load_new {r : Raw} (hd : r.s.d = 1) (hl : Heap.liveAt h r.s.b = true) (hv : Writes.getL m.log r.s.b = none) (p : Pre K w0 w g HA hn hc h m x r rest B rn rc e) :
    Calls Try.prog 42 #[.pointer (some ⟨g, 0, none⟩), .agg #[.int .i64 r.s.d, .int .i64 r.s.a, .int .i64 r.s.b, .slice r.T r.n r.c], .slice B rn rc] w (DoPost K w0 w g (.slice HA hn hc) h m r rest e) := by
  obtain ⟨a0, a7, b0, b63⟩ := one_load r.s p.one hd
  obtain ⟨ra, hra⟩ : ∃ ra : Nat, r.s.a = (ra : Int) := ⟨r.s.a.toNat, by omega⟩
  obtain ⟨w1, hw1⟩ : ∃ w1, w1 = w.alloc (.cells #[.int .i64 r.s.d, .int .i64 (ra : Int), .int .i64 r.s.b, .slice r.T r.n r.c] 46) := ⟨_, rfl⟩
  have hb : Below w.heap.size w w1 := by rw [hw1]; exact bl_alloc (Below.refl _ _) _
  have HK : Hid (Blk w1 w.heap.size 46 #[.int .i64 r.s.d, .int .i64 (ra : Int), .int .i64 r.s.b, .slice r.T r.n r.c]) := Lib.hid (by rw [hw1]; exact Blk.new _ _ _)
  have hr := p.run.below hb
  have HR := Lib.hid hr
  have hk := p.ok.size hb.size
  obtain ⟨u, hu⟩ : ∃ u, Heap.valAt h r.s.b = u := ⟨_, rfl⟩
  have hg : Heap.getS h r.s.b = (u, 0) := by rw [p.good.get, hl, if_pos rfl, hu]
  have hgl : Writes.getS ⟨m.log, []⟩ r.s.b = (0, false) := by rw [p.good.logget, hv]; rfl
  have hlc : loadC h m r.s.a r.s.b = { { m with seen := m.seen ++ [r.s.b] } with regs := m.regs.set ra u } := by unfold loadC; rw [hv, hra, Int.toNat_natCast, hu]
  have HP : Hid (∀ W w8 x8, Below w1.heap.size w1 W → RunAt w0 w8 g (.slice HA hn hc) { m with seen := m.seen ++ [r.s.b] } x8 → KOK K w8 g x8 → Fr K W w8 → DoPost K w0 w g (.slice HA hn hc) h m r rest e (.returned (.tuple #[.slice B rn rc, .int .i64 1])) (w8.setCell ⟨g, ra, none⟩ (.int .i64 u))) := Lib.hid (fun W w8 x8 hb' hr8 hk8 hf8 => by
    refine ⟨1, rest, B, rn, rc, loadC h m r.s.a r.s.b, rfl, ⟨x8, ?_, hk8.size (by rw [set_size]; exact Nat.le_refl _), (((p.ok.fr hb).trans (hk.fr hb')).trans hf8).trans (hk8.set ra _)⟩, .inl ⟨rfl, p.more, p.cap, p.rcc, p.all, p.tail, Nat.le_refl _, p.good.load_ _ _ ⟨b0, by omega⟩, by rw [hlc]; exact p.why, ?_⟩⟩
    · rw [hlc]
      exact hr8.put_reg ra (by omega) u
    · rw [part_load _ _ _ hd, p.good.liveAll r.s.b 0, hl, if_pos rfl, load_abs p.good _ _ hl])
  have HOK := Lib.hid hk
  have hsv : x.sv.ownBlock ≠ some w.heap.size := fun e => by have := p.run.seen.lt _ e; omega
  have hsn : x.sn ≤ 24 := by have := p.good.seen; have := p.run.lens.2.2; omega
  have HC : Hid (∀ W, Below w1.heap.size w1 W → Calls Try.prog 67 #[.slice HA hn hc, .int .i64 r.s.b] W fun e w' => e = .returned (.tuple #[.int .i64 u, .int .i64 0]) ∧ Below w1.heap.size w1 w') :=
    Lib.hid (fun W hW => by
      have hr2 := hr.below hW
      refine (Heap.get_c h HA hn hc r.s.b W (u, 0) (p.heap.below hr2.bel) (by have := p.hn; omega) hg).mono ?_
      rintro e w' ⟨h1, h2⟩
      exact ⟨h1, bl_trans hW h2⟩)
  have HD : Hid (∀ W, Below w1.heap.size w1 W → Calls Try.prog 69 #[.agg #[.slice x.L x.ln x.lc, .slice x.M 0 x.mc], .int .i64 r.s.b] W fun en w' => en = .returned (.tuple #[.int .i64 0, .bool false]) ∧ Below w1.heap.size w1 w') :=
    Lib.hid (fun W hW => by
      refine (Writes.get_c ⟨m.log, []⟩ x.L x.M x.ln x.lc 0 x.mc r.s.b W (0, false) (hr.below hW).logat (by have := p.good.cnt; have := hr.lens.1; omega) (by omega) hgl).mono ?_
      rintro e w' ⟨h1, h2⟩
      exact ⟨h1, bl_trans hW h2⟩)
  obtain ⟨y, hy⟩ : ∃ y, m.regs[ra]? = some y := ⟨_, List.getElem?_eq_getElem (by have := p.run.r8; omega)⟩
  have HY := Lib.hid hy
  have HQ : Hid (∀ W, Below w1.heap.size w1 W → W.cell? ⟨g, 9, none⟩ = some (.slice x.L x.ln x.lc) ∧ W.cell? ⟨g, 10, none⟩ = some (.slice x.M 0 x.mc)) := Lib.hid (fun W hW => ⟨(hr.below hW).at8.2.1, (hr.below hW).at8.2.2.1⟩)
  have q2 := HK.out.cell 2 _ rfl
  have q11 := hr.at8.2.2.2.1
  have BD : Hid (Below w1.heap.size w1 w1.drew) := Lib.hid (Below.refl _ _).drew
  have hr8 : ¬ ((8 : Int) ≤ (ra : Int)) := by omega
  have hne : w.heap.size ≠ g := blk_ne HK.out hr.blk (by decide)
  rw [hra]
  clear hd hr hk hb p hl hg hgl hv hy a0 a7 b0 b63 hra hu hlc
  go_enter Try.func42, Try.ntmps42
  go_wp2_with fail
  rw [← hw1]
  clear hw1
  have i0 : w1.drew.cell? ⟨w.heap.size, 2, none⟩ = some (.int .i64 r.s.b) := q2
  have i1 : w1.drew.cell? ⟨g, 11, none⟩ = some (.slice HA hn hc) := q11
  go_region_held3 (fun w' => w'.cell? ⟨w.heap.size, 2, none⟩ = some (.int .i64 r.s.b) ∧ w'.cell? ⟨g, 11, none⟩ = some (.slice HA hn hc))
    (first | exact ⟨a0, a1⟩ | exact ⟨i0, i1⟩ | go_keep)
    ((go_at_call 67
      refine (HC.out _ BD.out).mono ?_
      rintro e w5 ⟨rfl, o5⟩
      have BA := Lib.hid o5
      have a0 := (HK.out.below BA.out).cell 2 _ rfl
      have a1 := (HR.out.below BA.out).at8.2.2.2.1
      clear o5))
  have BE : Hid (Below w1.heap.size w1 w5.drew) := Lib.hid BA.out.drew
  have j0 : w5.drew.cell? ⟨w.heap.size, 2, none⟩ = some (.int .i64 r.s.b) := a0
  obtain ⟨j1, j2⟩ := HQ.out _ BE.out
  clear i0 i1 a0 a1
  go_wp2_with fail
  go_region_held3 (fun w' => w'.cell? ⟨w.heap.size, 2, none⟩ = some (.int .i64 r.s.b) ∧ w'.cell? ⟨g, 9, none⟩ = some (.slice x.L x.ln x.lc) ∧ w'.cell? ⟨g, 10, none⟩ = some (.slice x.M 0 x.mc))
    (first | exact ⟨c0, c1, c2⟩ | exact ⟨j0, j1, j2⟩ | go_keep)
    ((go_at_call 69
      refine (HD.out _ BE.out).mono ?_
      rintro e w6 ⟨rfl, o6⟩
      have BF := Lib.hid o6
      have c0 := (HK.out.below BF.out).cell 2 _ rfl
      obtain ⟨c1, c2⟩ := HQ.out _ BF.out
      clear o6))
  have BG : Hid (Below w1.heap.size w1 w6.drew) := Lib.hid BF.out.drew
  obtain ⟨W, hW⟩ : ∃ W, W = (w6.alloc (.cells #[.int .i64 r.s.b] 3)).drew := ⟨_, rfl⟩
  have BW : Hid (Below w1.heap.size w1 W) := Lib.hid (by rw [hW]; exact (bl_alloc BF.out _).drew)
  have HRW : Hid (Rd W 1 (some ⟨w6.heap.size, 0, none⟩) 1 [.int .i64 r.s.b]) := Lib.hid (by rw [hW]; exact (Rd.built _ 1 1 [.int .i64 r.s.b] _ rfl).drew)
  have d2 : w6.drew.cell? ⟨w.heap.size, 2, none⟩ = some (.int .i64 r.s.b) := (HK.out.below BF.out).cell 2 _ rfl
  have d12 : w6.drew.cell? ⟨g, 12, none⟩ = some (.slice x.S x.sn x.sc) := (HR.out.below BG.out).at8.2.2.2.2.1
  have e2 : W.cell? ⟨w.heap.size, 2, none⟩ = some (.int .i64 r.s.b) := (HK.out.below BW.out).cell 2 _ rfl
  have e12 : W.cell? ⟨g, 12, none⟩ = some (.slice x.S x.sn x.sc) := (HR.out.below BW.out).at8.2.2.2.2.1
  have e12' := e12
  rw [hW] at e12'
  have e2' := e2
  rw [hW] at e2'
  clear j0 j1 j2 c0 c1 c2
  go_wp2_with fail
  refine wp_region_held_drew (S := fun (W : World) => W.cell? ⟨w.heap.size, 2, none⟩ = some (.int .i64 r.s.b)) (by kernel_rfl) d2 (fun hHeld => ?_)
  refine wpAnyH_take (i := 0) (v := .pointer (some ⟨g, 0, none⟩)) rfl (by kernel_rfl) (by kernel_rfl) (by kernel_rfl) (fun _ _ _ h => h) (Or.inl ⟨by rfl, fun W hS => by go_simp⟩) hHeld ?_
  try simp only [Act.put]
  try simp only [List.setIfInBounds_toArray]
  try simp only [List.set_cons_succ]
  try simp only [List.set_cons_zero]
  refine wpAnyH_take (i := 1) (v := .pointer (some ⟨g, 0, none⟩)) rfl (by kernel_rfl) (by kernel_rfl) (by kernel_rfl) (fun _ _ _ h => h) (Or.inl ⟨by rfl, fun W hS => by go_simp⟩) hHeld ?_
  try simp only [Act.put]
  try simp only [List.setIfInBounds_toArray]
  try simp only [List.set_cons_succ]
  try simp only [List.set_cons_zero]
  refine wpAnyH_take (i := 2) (v := .pointer (some ⟨g, 0, none⟩)) rfl (by kernel_rfl) (by kernel_rfl) (by kernel_rfl) (fun _ _ _ h => h) (Or.inl ⟨by rfl, fun W hS => by go_simp⟩) hHeld ?_
  try simp only [Act.put]
  try simp only [List.setIfInBounds_toArray]
  try simp only [List.set_cons_succ]
  try simp only [List.set_cons_zero]
  refine wpAnyH_take (i := 3) (v := .pointer (some ⟨g, 12, none⟩)) rfl (by kernel_rfl) (by kernel_rfl) (by kernel_rfl) (fun _ _ _ h => h) (Or.inl ⟨by rfl, fun W hS => by go_simp⟩) hHeld ?_
  try simp only [Act.put]
  try simp only [List.setIfInBounds_toArray]
  try simp only [List.set_cons_succ]
  try simp only [List.set_cons_zero]
  refine wpAnyH_take (i := 5) (v := .pointer (some ⟨w.heap.size, 2, none⟩)) rfl (by kernel_rfl) (by kernel_rfl) (by kernel_rfl) (fun _ _ _ h => h) (Or.inl ⟨by rfl, fun W hS => by go_simp⟩) hHeld ?_
  try simp only [Act.put]
  try simp only [List.setIfInBounds_toArray]
  try simp only [List.set_cons_succ]
  try simp only [List.set_cons_zero]
  refine wpAnyH_take (i := 6) (v := .int .i64 r.s.b) rfl (by kernel_rfl) (by kernel_rfl) (by kernel_rfl) (fun _ _ _ h => h) (Or.inl ⟨by rfl, fun W hS => by have k2 := hS; go_simp⟩) hHeld ?_
  try simp only [Act.put]
  try simp only [List.setIfInBounds_toArray]
  try simp only [List.set_cons_succ]
  try simp only [List.set_cons_zero]
  refine wpAnyH_ready (rs := [4, 7]) (by kernel_rfl) (by simp) ?_
  refine AllReadyH.cons rfl (fun KK hK => ?_) (AllReadyH.cons rfl (fun KK hK => ?_) AllReadyH.nil)
  rotate_left
  · go_simp
    refine hK.out _ _ e2' (fun hHeldN => ?_)
    try simp only [Act.put]
    try simp only [List.setIfInBounds_toArray]
    try simp only [List.set_cons_succ]
    try simp only [List.set_cons_zero]
    clear hK KK
    refine wpAnyH_ready (rs := [4]) (by kernel_rfl) (by simp) ?_
    refine AllReadyH.cons rfl (fun KK hK => ?_) AllReadyH.nil
    go_simp
    refine hK.out _ _ e2' (fun hHeldM => ?_)
    try simp only [Act.put]
    try simp only [List.setIfInBounds_toArray]
    try simp only [List.set_cons_succ]
    try simp only [List.set_cons_zero]
    clear hK KK
    refine wpAnyH_ready (rs := [8]) (by kernel_rfl) (by simp) ?_
    refine AllReadyH.cons rfl (fun KK hK => ?_) AllReadyH.nil
    refine append_moved_step (by rfl) _ _ 27 (by rfl) Mem.tInt w0 x.sv x.sn (zs m.seen) (by rfl) (by rw [← hW]; exact (HR.out.below BW.out).seen) _ 1 1 [.int .i64 r.s.b] (by rfl) (by rw [← hW]; exact HRW.out) (one_cons rfl one_nil) (by omega) (by omega) (by decide) ?_
    rw [← hW]
    intro v7 w7 ho7 hm7
    obtain ⟨S7, c7, rfl, -⟩ := ho7.form
    have HO7 := Lib.hid ho7
    have HM7 := Lib.hid hm7
    have f2 : w7.cell? ⟨w.heap.size, 2, none⟩ = some (.int .i64 r.s.b) := (hm7.blk (HK.out.below BW.out) hsv).cell 2 _ rfl
    have k7 := hm7.blk (HR.out.below BW.out).blk HR.out.gs
    have g12 := k7.cell 12 x.sv (by rw [List.getElem?_toArray]; exact rc_tail HR.out.r8 4)
    have z12 := k7.frozen 12
    clear ho7 hm7 k7
    refine hK.out _ _ f2 (fun hHeld7 => ?_)
    try simp only [Act.put]
    try simp only [List.setIfInBounds_toArray]
    try simp only [List.set_cons_succ]
    try simp only [List.set_cons_zero]
    clear hK KK
    refine wpAnyH_take (i := 9) (v := .pointer (some ⟨g, 0, none⟩)) rfl (by kernel_rfl) (by kernel_rfl) (by kernel_rfl) (fun _ _ _ h => h) (Or.inl ⟨by rfl, fun W hS => by go_simp⟩) hHeld7 ?_
    try simp only [Act.put]
    try simp only [List.setIfInBounds_toArray]
    try simp only [List.set_cons_succ]
    try simp only [List.set_cons_zero]
    refine wpAnyH_take (i := 10) (v := .pointer (some ⟨g, 12, none⟩)) rfl (by kernel_rfl) (by kernel_rfl) (by kernel_rfl) (fun _ _ _ h => h) (Or.inl ⟨by rfl, fun W hS => by go_simp⟩) hHeld7 ?_
    try simp only [Act.put]
    try simp only [List.setIfInBounds_toArray]
    try simp only [List.set_cons_succ]
    try simp only [List.set_cons_zero]
    refine wpAnyH_ready (rs := [11]) (by kernel_rfl) (by simp) ?_
    refine AllReadyH.cons rfl (fun KK hK => ?_) AllReadyH.nil
    go_simp
    refine hK.out _ _ (by rw [cell_set_ne (Ne.symm hne)]; exact f2) (fun _ => ?_)
    clear hK KK
    refine wpAnyH_done (by kernel_rfl) ?_ _
    obtain ⟨r8, k8, f8⟩ := RunAt.see (HR.out.below BW.out) (HOK.out.size BW.out.size) r.s.b HO7.out HM7.out
    have l0 : (w7.setCell ⟨g, 12, none⟩ (.slice S7 (x.sn + 1) c7)).cell? ⟨w.heap.size, 1, none⟩ = some (.int .i64 (ra : Int)) := ((HM7.out.blk (HK.out.below BW.out) hsv).beside (Ne.symm hne) 12 _).cell 1 _ rfl
    clear d2 d12 e2 e12 e12' e2' f2 g12 z12
    generalize w7.setCell ⟨g, 12, none⟩ (.slice S7 (x.sn + 1) c7) = w8 at *
    have R8 := Lib.hid (r8.below (Below.refl _ _).drew)
    have K8 := Lib.hid (k8.size (w' := w8.drew) (Nat.le_refl _))
    have F8 := Lib.hid (f8.trans (k8.fr (Below.refl _ _).drew))
    have l1 : w8.drew.cell? ⟨w.heap.size, 1, none⟩ = some (.int .i64 (ra : Int)) := l0
    have ly := R8.out.reg ra y HY.out
    have lz := R8.out.blk.frozen ra
    clear r8 k8 f8 l0
    go_wp2_with fail
    go_still_tail 8, (by kernel_rfl)
    go_wp2
    go_ret2
    exact HP.out _ _ _ BW.out R8.out K8.out F8.out
  · go_simp
    refine hK.out _ _ d2 (fun hHeldN => ?_)
    try simp only [Act.put]
    try simp only [List.setIfInBounds_toArray]
    try simp only [List.set_cons_succ]
    try simp only [List.set_cons_zero]
    clear hK KK
    refine wpAnyH_ready (rs := [7]) (by kernel_rfl) (by simp) ?_
    refine AllReadyH.cons rfl (fun KK hK => ?_) AllReadyH.nil
    go_simp
    refine hK.out _ _ e2' (fun hHeldM => ?_)
    try simp only [Act.put]
    try simp only [List.setIfInBounds_toArray]
    try simp only [List.set_cons_succ]
    try simp only [List.set_cons_zero]
    clear hK KK
    refine wpAnyH_ready (rs := [8]) (by kernel_rfl) (by simp) ?_
    refine AllReadyH.cons rfl (fun KK hK => ?_) AllReadyH.nil
    refine append_moved_step (by rfl) _ _ 27 (by rfl) Mem.tInt w0 x.sv x.sn (zs m.seen) (by rfl) (by rw [← hW]; exact (HR.out.below BW.out).seen) _ 1 1 [.int .i64 r.s.b] (by rfl) (by rw [← hW]; exact HRW.out) (one_cons rfl one_nil) (by omega) (by omega) (by decide) ?_
    rw [← hW]
    intro v7 w7 ho7 hm7
    obtain ⟨S7, c7, rfl, -⟩ := ho7.form
    have HO7 := Lib.hid ho7
    have HM7 := Lib.hid hm7
    have f2 : w7.cell? ⟨w.heap.size, 2, none⟩ = some (.int .i64 r.s.b) := (hm7.blk (HK.out.below BW.out) hsv).cell 2 _ rfl
    have k7 := hm7.blk (HR.out.below BW.out).blk HR.out.gs
    have g12 := k7.cell 12 x.sv (by rw [List.getElem?_toArray]; exact rc_tail HR.out.r8 4)
    have z12 := k7.frozen 12
    clear ho7 hm7 k7
    refine hK.out _ _ f2 (fun hHeld7 => ?_)
    try simp only [Act.put]
    try simp only [List.setIfInBounds_toArray]
    try simp only [List.set_cons_succ]
    try simp only [List.set_cons_zero]
    clear hK KK
    refine wpAnyH_take (i := 9) (v := .pointer (some ⟨g, 0, none⟩)) rfl (by kernel_rfl) (by kernel_rfl) (by kernel_rfl) (fun _ _ _ h => h) (Or.inl ⟨by rfl, fun W hS => by go_simp⟩) hHeld7 ?_
    try simp only [Act.put]
    try simp only [List.setIfInBounds_toArray]
    try simp only [List.set_cons_succ]
    try simp only [List.set_cons_zero]
    refine wpAnyH_take (i := 10) (v := .pointer (some ⟨g, 12, none⟩)) rfl (by kernel_rfl) (by kernel_rfl) (by kernel_rfl) (fun _ _ _ h => h) (Or.inl ⟨by rfl, fun W hS => by go_simp⟩) hHeld7 ?_
    try simp only [Act.put]
    try simp only [List.setIfInBounds_toArray]
    try simp only [List.set_cons_succ]
    try simp only [List.set_cons_zero]
    refine wpAnyH_ready (rs := [11]) (by kernel_rfl) (by simp) ?_
    refine AllReadyH.cons rfl (fun KK hK => ?_) AllReadyH.nil
    go_simp
    refine hK.out _ _ (by rw [cell_set_ne (Ne.symm hne)]; exact f2) (fun _ => ?_)
    clear hK KK
    refine wpAnyH_done (by kernel_rfl) ?_ _
    obtain ⟨r8, k8, f8⟩ := RunAt.see (HR.out.below BW.out) (HOK.out.size BW.out.size) r.s.b HO7.out HM7.out
    have l0 : (w7.setCell ⟨g, 12, none⟩ (.slice S7 (x.sn + 1) c7)).cell? ⟨w.heap.size, 1, none⟩ = some (.int .i64 (ra : Int)) := ((HM7.out.blk (HK.out.below BW.out) hsv).beside (Ne.symm hne) 12 _).cell 1 _ rfl
    clear d2 d12 e2 e12 e12' e2' f2 g12 z12
    generalize w7.setCell ⟨g, 12, none⟩ (.slice S7 (x.sn + 1) c7) = w8 at *
    have R8 := Lib.hid (r8.below (Below.refl _ _).drew)
    have K8 := Lib.hid (k8.size (w' := w8.drew) (Nat.le_refl _))
    have F8 := Lib.hid (f8.trans (k8.fr (Below.refl _ _).drew))
    have l1 : w8.drew.cell? ⟨w.heap.size, 1, none⟩ = some (.int .i64 (ra : Int)) := l0
    have ly := R8.out.reg ra y HY.out
    have lz := R8.out.blk.frozen ra
    clear r8 k8 f8 l0
    go_wp2_with fail
    go_still_tail 8, (by kernel_rfl)
    go_wp2
    go_ret2
    exact HP.out _ _ _ BW.out R8.out K8.out F8.out
end
end Go.Proofs.Ytlmkhnjdifamgaa.Model
