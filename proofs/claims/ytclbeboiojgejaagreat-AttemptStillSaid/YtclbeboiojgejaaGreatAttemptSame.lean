/-
  WHAT THE DOCUMENT'S COMPARISON OF TWO TRIES RETURNS, of equal ones. No conditions beyond those that each theorem states.
-/
import Derived.Test.YtclbeboiojgejaaGreatAttemptRef
import Derived.Test.YtclbeboiojgejaaGreatWritesC
import Derived.Test.YtclbeboiojgejaaGreatReadsA
import Derived.Test.YtclbeboiojgejaaGreatMemA
namespace Go.Proofs.YtclbeboiojgejaaGreat.Attempt
open Go.ChangeShapes Go.WideShapes Go.ChangeAt Go.RowKit Mem Go.Proofs.YtclbeboiojgejaaGreat.Code

theorem fill4_blk {w : World} {g : Nat} {ty : TypeId} {z0 z1 z2 z3 v0 v1 v2 v3 : Value} (h : Blk w g ty #[z0, z1, z2, z3]) : Blk ((((w.setCell ⟨g, 0, none⟩ v0).setCell ⟨g, 1, none⟩ v1).setCell ⟨g, 2, none⟩ v2).setCell ⟨g, 3, none⟩ v3) g ty #[v0, v1, v2, v3] := by
  have := (((h.set_ 0 v0).set_ 1 v1).set_ 2 v2).set_ 3 v3
  simpa using this
theorem fill4_only (w : World) (g : Nat) (v0 v1 v2 v3 : Value) : Only (fun k => k = g) w ((((w.setCell ⟨g, 0, none⟩ v0).setCell ⟨g, 1, none⟩ v1).setCell ⟨g, 2, none⟩ v2).setCell ⟨g, 3, none⟩ v3) :=
  ((((Only.refl (fun k => k = g) w).put g 0 _ rfl).put g 1 _ rfl).put g 2 _ rfl).put g 3 _ rfl
set_option maxRecDepth 100000 in
set_option maxHeartbeats 4000000 in
theorem same11 (t : Try) (x y : TL) (w : World) (hx : TRd w t x) (hy : TRd w t y) (n1 : t.regs.length ≤ 1000000) (n2 : t.path.length ≤ 1000000) (n3 : t.reads.length ≤ 1000000) (n4 : t.log.list.length ≤ 1000000) (n5 : t.log.marks.length ≤ 1000000) (n6 : x.fl.length ≤ 1000000) (n7 : ∀ f ∈ t.frames, f.regs.length ≤ 1000000) :
    Calls Tryz.prog 15 #[.agg (tvl t x).toArray, .agg (tvl t y).toArray] w (RetB w true) := by
  obtain ⟨xR, xrc, xP, xpc, xD, xdc, xL, xlc, xM, xmc, xF, xfc, xfl⟩ := x
  obtain ⟨yR, yrc, yP, ypc, yD, ydc, yL, ylc, yM, ymc, yF, yfc, yfl⟩ := y
  obtain ⟨a1, a2, a3, a4, a5, a6, a7, a8⟩ := hx
  obtain ⟨b1, b2, b3, b4, b5, b6, b7, b8⟩ := hy
  simp only at a1 a2 a3 a5 a6 a7 a8 b1 b2 b3 b5 b6 b7 b8 n6
  have hl : yfl.length = xfl.length := by have h1 := congrArg List.length a8; have h2 := congrArg List.length b8; simp at h1 h2; omega
  show Calls Tryz.prog 15 #[.agg #[.int .i64 t.who, .int .i64 t.snap, .int .i64 t.pc, .slice xR t.regs.length xrc, .slice xP t.path.length xpc, .slice xD t.reads.length xdc, .slice xL t.log.list.length xlc, .slice xM t.log.marks.length xmc, .slice xF xfl.length xfc, .int .i64 t.kind, .int .i64 t.why], .agg #[.int .i64 t.who, .int .i64 t.snap, .int .i64 t.pc, .slice yR t.regs.length yrc, .slice yP t.path.length ypc, .slice yD t.reads.length ydc, .slice yL t.log.list.length ylc, .slice yM t.log.marks.length ymc, .slice yF yfl.length yfc, .int .i64 t.kind, .int .i64 t.why]] w (RetB w true)
  rw [hl]
  rw [hl] at b6
  obtain ⟨m, hm⟩ : ∃ m, xfl.length = m := ⟨_, rfl⟩
  rw [hm] at a6 b6 n6 ⊢
  have HA : Hid (∀ W, Below w.heap.size w W → Rd W 1 xR t.regs.length (zs t.regs) ∧ Rd W 1 xP t.path.length (zs t.path) ∧ Rd W 3 xD t.reads.length (Reads.ds t.reads) ∧ Writes.LogAt W xL t.log.list.length xlc xM t.log.marks.length xmc t.log ∧ Rd W 4 xF m (frs xfl)) := Lib.hid (fun W h => ⟨a1.below h, a2.below h, a3.below h, a5.below h, a6.below h⟩)
  have HB : Hid (∀ W, Below w.heap.size w W → Rd W 1 yR t.regs.length (zs t.regs) ∧ Rd W 1 yP t.path.length (zs t.path) ∧ Rd W 3 yD t.reads.length (Reads.ds t.reads) ∧ Writes.LogAt W yL t.log.list.length ylc yM t.log.marks.length ymc t.log ∧ Rd W 4 yF m (frs yfl)) := Lib.hid (fun W h => ⟨b1.below h, b2.below h, b3.below h, b5.below h, b6.below h⟩)
  have HN : Hid (∀ (k : Nat) (r s : FRaw), xfl[k]? = some r → yfl[k]? = some s → s.f = r.f ∧ r.f.regs.length ≤ 1000000 ∧ (∀ W, Below w.heap.size w W → Rd W 1 r.A r.f.regs.length (zs r.f.regs) ∧ Rd W 1 s.A s.f.regs.length (zs s.f.regs))) := Lib.hid (fun k r s hr hs => by
    have h1 : (xfl.map FRaw.f)[k]? = some r.f := by rw [List.getElem?_map, hr]; rfl
    have h2 : (yfl.map FRaw.f)[k]? = some s.f := by rw [List.getElem?_map, hs]; rfl
    rw [a8] at h1
    rw [b8, h1] at h2
    injection h2 with h2
    refine ⟨h2.symm, n7 r.f (List.mem_reverse.1 (List.mem_of_getElem? h1)), fun W h => ⟨(a7 r (List.mem_of_getElem? hr)).below h, (b7 s (List.mem_of_getElem? hs)).below h⟩⟩)
  have HB1 : Hid (Below w.heap.size w ((w.alloc (.cells #[.int .i64 t.who, .int .i64 t.snap, .int .i64 t.pc, .slice xR t.regs.length xrc, .slice xP t.path.length xpc, .slice xD t.reads.length xdc, .slice xL t.log.list.length xlc, .slice xM t.log.marks.length xmc, .slice xF m xfc, .int .i64 t.kind, .int .i64 t.why] 41)).alloc (.cells #[.int .i64 t.who, .int .i64 t.snap, .int .i64 t.pc, .slice yR t.regs.length yrc, .slice yP t.path.length ypc, .slice yD t.reads.length ydc, .slice yL t.log.list.length ylc, .slice yM t.log.marks.length ymc, .slice yF m yfc, .int .i64 t.kind, .int .i64 t.why] 41))) := Lib.hid (bl_alloc (bl_alloc (Below.refl _ _) _) _)
  have HKx : Hid (Blk ((w.alloc (.cells #[.int .i64 t.who, .int .i64 t.snap, .int .i64 t.pc, .slice xR t.regs.length xrc, .slice xP t.path.length xpc, .slice xD t.reads.length xdc, .slice xL t.log.list.length xlc, .slice xM t.log.marks.length xmc, .slice xF m xfc, .int .i64 t.kind, .int .i64 t.why] 41)).alloc (.cells #[.int .i64 t.who, .int .i64 t.snap, .int .i64 t.pc, .slice yR t.regs.length yrc, .slice yP t.path.length ypc, .slice yD t.reads.length ydc, .slice yL t.log.list.length ylc, .slice yM t.log.marks.length ymc, .slice yF m yfc, .int .i64 t.kind, .int .i64 t.why] 41)) w.heap.size 41 #[.int .i64 t.who, .int .i64 t.snap, .int .i64 t.pc, .slice xR t.regs.length xrc, .slice xP t.path.length xpc, .slice xD t.reads.length xdc, .slice xL t.log.list.length xlc, .slice xM t.log.marks.length xmc, .slice xF m xfc, .int .i64 t.kind, .int .i64 t.why]) := Lib.hid ((Blk.new w _ _).alloc _)
  have HKy : Hid (Blk ((w.alloc (.cells #[.int .i64 t.who, .int .i64 t.snap, .int .i64 t.pc, .slice xR t.regs.length xrc, .slice xP t.path.length xpc, .slice xD t.reads.length xdc, .slice xL t.log.list.length xlc, .slice xM t.log.marks.length xmc, .slice xF m xfc, .int .i64 t.kind, .int .i64 t.why] 41)).alloc (.cells #[.int .i64 t.who, .int .i64 t.snap, .int .i64 t.pc, .slice yR t.regs.length yrc, .slice yP t.path.length ypc, .slice yD t.reads.length ydc, .slice yL t.log.list.length ylc, .slice yM t.log.marks.length ymc, .slice yF m yfc, .int .i64 t.kind, .int .i64 t.why] 41)) (w.heap.size + 1) 41 #[.int .i64 t.who, .int .i64 t.snap, .int .i64 t.pc, .slice yR t.regs.length yrc, .slice yP t.path.length ypc, .slice yD t.reads.length ydc, .slice yL t.log.list.length ylc, .slice yM t.log.marks.length ymc, .slice yF m yfc, .int .i64 t.kind, .int .i64 t.why]) := Lib.hid (by have := Blk.new (w.alloc (.cells #[.int .i64 t.who, .int .i64 t.snap, .int .i64 t.pc, .slice xR t.regs.length xrc, .slice xP t.path.length xpc, .slice xD t.reads.length xdc, .slice xL t.log.list.length xlc, .slice xM t.log.marks.length xmc, .slice xF m xfc, .int .i64 t.kind, .int .i64 t.why] 41)) 41 #[.int .i64 t.who, .int .i64 t.snap, .int .i64 t.pc, .slice yR t.regs.length yrc, .slice yP t.path.length ypc, .slice yD t.reads.length ydc, .slice yL t.log.list.length ylc, .slice yM t.log.marks.length ymc, .slice yF m yfc, .int .i64 t.kind, .int .i64 t.why]; simpa using this)
  clear a1 a2 a3 a4 a5 a6 a7 a8 b1 b2 b3 b4 b5 b6 b7 b8 hl hm n7
  go_enter Tryz.func15, Tryz.ntmps15
  go_wp2_with fail
  generalize ((w.alloc (.cells #[.int .i64 t.who, .int .i64 t.snap, .int .i64 t.pc, .slice xR t.regs.length xrc, .slice xP t.path.length xpc, .slice xD t.reads.length xdc, .slice xL t.log.list.length xlc, .slice xM t.log.marks.length xmc, .slice xF m xfc, .int .i64 t.kind, .int .i64 t.why] 41)).alloc (.cells #[.int .i64 t.who, .int .i64 t.snap, .int .i64 t.pc, .slice yR t.regs.length yrc, .slice yP t.path.length ypc, .slice yD t.reads.length ydc, .slice yL t.log.list.length ylc, .slice yM t.log.marks.length ymc, .slice yF m yfc, .int .i64 t.kind, .int .i64 t.why] 41)) = W0 at *
  have KEEP : Hid (∀ W, Below W0.heap.size W0 W → W.cell? ⟨w.heap.size, 5, none⟩ = some (.slice xD t.reads.length xdc) ∧ W.cell? ⟨w.heap.size, 6, none⟩ = some (.slice xL t.log.list.length xlc) ∧ W.cell? ⟨w.heap.size, 7, none⟩ = some (.slice xM t.log.marks.length xmc) ∧ W.cell? ⟨w.heap.size + 1, 5, none⟩ = some (.slice yD t.reads.length ydc) ∧ W.cell? ⟨w.heap.size + 1, 6, none⟩ = some (.slice yL t.log.list.length ylc) ∧ W.cell? ⟨w.heap.size + 1, 7, none⟩ = some (.slice yM t.log.marks.length ymc)) := Lib.hid (fun W hW => ⟨(HKx.out.below hW).cell 5 _ rfl, (HKx.out.below hW).cell 6 _ rfl, (HKx.out.below hW).cell 7 _ rfl, (HKy.out.below hW).cell 5 _ rfl, (HKy.out.below hW).cell 6 _ rfl, (HKy.out.below hW).cell 7 _ rfl⟩)
  have bq : Hid (Below W0.heap.size W0 W0.drew) := Lib.hid (Below.refl _ _).drew
  try simp only [List.append_eq, List.cons_append, List.nil_append]
  refine wp_region_held_drew (S := fun (W : World) => W.cell? ⟨w.heap.size, 5, none⟩ = some (.slice xD t.reads.length xdc) ∧ W.cell? ⟨w.heap.size, 6, none⟩ = some (.slice xL t.log.list.length xlc) ∧ W.cell? ⟨w.heap.size, 7, none⟩ = some (.slice xM t.log.marks.length xmc) ∧ W.cell? ⟨w.heap.size + 1, 5, none⟩ = some (.slice yD t.reads.length ydc) ∧ W.cell? ⟨w.heap.size + 1, 6, none⟩ = some (.slice yL t.log.list.length ylc) ∧ W.cell? ⟨w.heap.size + 1, 7, none⟩ = some (.slice yM t.log.marks.length ymc)) (by kernel_rfl) (KEEP.out _ bq.out) (fun hHeld0 => ?_)
  refine wpAnyH_take (i := 0) (v := .pointer (some ⟨w.heap.size, 5, none⟩)) rfl (by kernel_rfl) (by kernel_rfl) (by kernel_rfl) (fun _ _ _ h => h) (Or.inl ⟨by rfl, fun W hS => by go_simp⟩) hHeld0 ?_
  try simp only [Act.put]
  try simp only [List.setIfInBounds_toArray]
  try simp only [List.set_cons_succ]
  try simp only [List.set_cons_zero]
  refine wpAnyH_take (i := 1) (v := .slice xD t.reads.length xdc) rfl (by kernel_rfl) (by kernel_rfl) (by kernel_rfl) (fun _ _ _ h => h) (Or.inl ⟨by rfl, fun W hS => by obtain ⟨k_0, k_1, k_2, k_3, k_4, k_5⟩ := hS; go_simp⟩) hHeld0 ?_
  try simp only [Act.put]
  try simp only [List.setIfInBounds_toArray]
  try simp only [List.set_cons_succ]
  try simp only [List.set_cons_zero]
  refine wpAnyH_take (i := 2) (v := .pointer (some ⟨w.heap.size + 1, 5, none⟩)) rfl (by kernel_rfl) (by kernel_rfl) (by kernel_rfl) (fun _ _ _ h => h) (Or.inl ⟨by rfl, fun W hS => by go_simp⟩) hHeld0 ?_
  try simp only [Act.put]
  try simp only [List.setIfInBounds_toArray]
  try simp only [List.set_cons_succ]
  try simp only [List.set_cons_zero]
  refine wpAnyH_take (i := 3) (v := .slice yD t.reads.length ydc) rfl (by kernel_rfl) (by kernel_rfl) (by kernel_rfl) (fun _ _ _ h => h) (Or.inl ⟨by rfl, fun W hS => by obtain ⟨k_0, k_1, k_2, k_3, k_4, k_5⟩ := hS; go_simp⟩) hHeld0 ?_
  try simp only [Act.put]
  try simp only [List.setIfInBounds_toArray]
  try simp only [List.set_cons_succ]
  try simp only [List.set_cons_zero]
  refine wpAnyH_take (i := 5) (v := .pointer (some ⟨w.heap.size, 6, none⟩)) rfl (by kernel_rfl) (by kernel_rfl) (by kernel_rfl) (fun _ _ _ h => h) (Or.inl ⟨by rfl, fun W hS => by go_simp⟩) hHeld0 ?_
  try simp only [Act.put]
  try simp only [List.setIfInBounds_toArray]
  try simp only [List.set_cons_succ]
  try simp only [List.set_cons_zero]
  refine wpAnyH_take (i := 6) (v := .agg #[.slice xL t.log.list.length xlc, .slice xM t.log.marks.length xmc]) rfl (by kernel_rfl) (by kernel_rfl) (by kernel_rfl) (fun _ _ _ h => h) (Or.inl ⟨by rfl, fun W hS => by obtain ⟨k_0, k_1, k_2, k_3, k_4, k_5⟩ := hS; go_simp⟩) hHeld0 ?_
  try simp only [Act.put]
  try simp only [List.setIfInBounds_toArray]
  try simp only [List.set_cons_succ]
  try simp only [List.set_cons_zero]
  refine wpAnyH_take (i := 7) (v := .pointer (some ⟨w.heap.size + 1, 6, none⟩)) rfl (by kernel_rfl) (by kernel_rfl) (by kernel_rfl) (fun _ _ _ h => h) (Or.inl ⟨by rfl, fun W hS => by go_simp⟩) hHeld0 ?_
  try simp only [Act.put]
  try simp only [List.setIfInBounds_toArray]
  try simp only [List.set_cons_succ]
  try simp only [List.set_cons_zero]
  refine wpAnyH_take (i := 8) (v := .agg #[.slice yL t.log.list.length ylc, .slice yM t.log.marks.length ymc]) rfl (by kernel_rfl) (by kernel_rfl) (by kernel_rfl) (fun _ _ _ h => h) (Or.inl ⟨by rfl, fun W hS => by obtain ⟨k_0, k_1, k_2, k_3, k_4, k_5⟩ := hS; go_simp⟩) hHeld0 ?_
  try simp only [Act.put]
  try simp only [List.setIfInBounds_toArray]
  try simp only [List.set_cons_succ]
  try simp only [List.set_cons_zero]
  refine wpAnyH_ready (rs := [4]) (by kernel_rfl) (by simp) ?_
  refine AllReadyH.cons rfl (fun KK0 hK => ?_) AllReadyH.nil
  refine calls_step2 (by rfl) 36 #[.slice xD t.reads.length xdc, .slice yD t.reads.length ydc] _ (Reads.same_b t.reads t.reads xD yD _ _ _ _ _ true (HA.out _ (bl_trans HB1.out bq.out)).2.2.1 (HB.out _ (bl_trans HB1.out bq.out)).2.2.1 n3 n3 (decide_eq_true rfl)) ?_ ?_
  · focus (go_simp; done)
  rintro e wq ⟨rfl, b_⟩
  refine ⟨_, rfl, ?_⟩
  replace bq := Lib.hid (bl_trans bq.out b_)
  clear b_
  refine hK.out _ _ (KEEP.out _ bq.out) (fun hHeld1 => ?_)
  clear hHeld0 hK KK0
  try simp only [Act.put]
  try simp only [List.setIfInBounds_toArray]
  try simp only [List.set_cons_succ]
  try simp only [List.set_cons_zero]
  refine wpAnyH_ready (rs := [9]) (by kernel_rfl) (by simp) ?_
  refine AllReadyH.cons rfl (fun KK0 hK => ?_) AllReadyH.nil
  refine calls_step2 (by rfl) 37 #[.agg #[.slice xL t.log.list.length xlc, .slice xM t.log.marks.length xmc], .agg #[.slice yL t.log.list.length ylc, .slice yM t.log.marks.length ymc]] _ (Writes.same_b t.log t.log xL xM yL yM _ _ _ _ _ _ _ _ _ true (HA.out _ (bl_trans HB1.out bq.out)).2.2.2.1 (HB.out _ (bl_trans HB1.out bq.out)).2.2.2.1 n4 n5 n4 n5 (decide_eq_true rfl)) ?_ ?_
  · focus (go_simp; done)
  rintro e wq ⟨rfl, b_⟩
  refine ⟨_, rfl, ?_⟩
  replace bq := Lib.hid (bl_trans bq.out b_)
  clear b_
  refine hK.out _ _ (KEEP.out _ bq.out) (fun hHeld2 => ?_)
  clear hHeld1 hK KK0
  try simp only [Act.put]
  try simp only [List.setIfInBounds_toArray]
  try simp only [List.set_cons_succ]
  try simp only [List.set_cons_zero]
  refine wpAnyH_ready (rs := [10]) (by kernel_rfl) (by simp) ?_
  refine AllReadyH.cons rfl (fun KK0 hK => ?_) AllReadyH.nil
  go_simp
  refine hK.out _ _ (KEEP.out _ bq.out) (fun hHeld3 => ?_)
  clear hHeld2 hK KK0
  try simp only [Act.put]
  try simp only [List.setIfInBounds_toArray]
  try simp only [List.set_cons_succ]
  try simp only [List.set_cons_zero]
  refine wpAnyH_ready (rs := [11]) (by kernel_rfl) (by simp) ?_
  refine AllReadyH.cons rfl (fun KK0 hK => ?_) AllReadyH.nil
  go_simp
  refine hK.out _ _ (KEEP.out _ bq.out) (fun hHeld4 => ?_)
  clear hHeld3 hK KK0
  try simp only [Act.put]
  try simp only [List.setIfInBounds_toArray]
  try simp only [List.set_cons_succ]
  try simp only [List.set_cons_zero]
  refine wpAnyH_done (by kernel_rfl) ?_ _
  clear hHeld4 KEEP
  replace HKx := Lib.hid (HKx.out.below bq.out)
  replace HKy := Lib.hid (HKy.out.below bq.out)
  replace HB1 := Lib.hid (bl_trans HB1.out bq.out)
  clear bq
  skip
  go_wp2_with fail
  have KEEP : Hid (∀ W, Below wq.heap.size wq W → W.cell? ⟨w.heap.size, 3, none⟩ = some (.slice xR t.regs.length xrc) ∧ W.cell? ⟨w.heap.size, 4, none⟩ = some (.slice xP t.path.length xpc) ∧ W.cell? ⟨w.heap.size + 1, 3, none⟩ = some (.slice yR t.regs.length yrc) ∧ W.cell? ⟨w.heap.size + 1, 4, none⟩ = some (.slice yP t.path.length ypc)) := Lib.hid (fun W hW => ⟨(HKx.out.below hW).cell 3 _ rfl, (HKx.out.below hW).cell 4 _ rfl, (HKy.out.below hW).cell 3 _ rfl, (HKy.out.below hW).cell 4 _ rfl⟩)
  have bq : Hid (Below wq.heap.size wq wq.drew) := Lib.hid (Below.refl _ _).drew
  try simp only [List.append_eq, List.cons_append, List.nil_append]
  refine wp_region_held_drew (S := fun (W : World) => W.cell? ⟨w.heap.size, 3, none⟩ = some (.slice xR t.regs.length xrc) ∧ W.cell? ⟨w.heap.size, 4, none⟩ = some (.slice xP t.path.length xpc) ∧ W.cell? ⟨w.heap.size + 1, 3, none⟩ = some (.slice yR t.regs.length yrc) ∧ W.cell? ⟨w.heap.size + 1, 4, none⟩ = some (.slice yP t.path.length ypc)) (by kernel_rfl) (KEEP.out _ bq.out) (fun hHeld0 => ?_)
  refine wpAnyH_take (i := 0) (v := .pointer (some ⟨w.heap.size, 3, none⟩)) rfl (by kernel_rfl) (by kernel_rfl) (by kernel_rfl) (fun _ _ _ h => h) (Or.inl ⟨by rfl, fun W hS => by go_simp⟩) hHeld0 ?_
  try simp only [Act.put]
  try simp only [List.setIfInBounds_toArray]
  try simp only [List.set_cons_succ]
  try simp only [List.set_cons_zero]
  refine wpAnyH_take (i := 1) (v := .slice xR t.regs.length xrc) rfl (by kernel_rfl) (by kernel_rfl) (by kernel_rfl) (fun _ _ _ h => h) (Or.inl ⟨by rfl, fun W hS => by obtain ⟨k_0, k_1, k_2, k_3⟩ := hS; go_simp⟩) hHeld0 ?_
  try simp only [Act.put]
  try simp only [List.setIfInBounds_toArray]
  try simp only [List.set_cons_succ]
  try simp only [List.set_cons_zero]
  refine wpAnyH_take (i := 2) (v := .pointer (some ⟨w.heap.size + 1, 3, none⟩)) rfl (by kernel_rfl) (by kernel_rfl) (by kernel_rfl) (fun _ _ _ h => h) (Or.inl ⟨by rfl, fun W hS => by go_simp⟩) hHeld0 ?_
  try simp only [Act.put]
  try simp only [List.setIfInBounds_toArray]
  try simp only [List.set_cons_succ]
  try simp only [List.set_cons_zero]
  refine wpAnyH_take (i := 3) (v := .slice yR t.regs.length yrc) rfl (by kernel_rfl) (by kernel_rfl) (by kernel_rfl) (fun _ _ _ h => h) (Or.inl ⟨by rfl, fun W hS => by obtain ⟨k_0, k_1, k_2, k_3⟩ := hS; go_simp⟩) hHeld0 ?_
  try simp only [Act.put]
  try simp only [List.setIfInBounds_toArray]
  try simp only [List.set_cons_succ]
  try simp only [List.set_cons_zero]
  refine wpAnyH_take (i := 5) (v := .pointer (some ⟨w.heap.size, 4, none⟩)) rfl (by kernel_rfl) (by kernel_rfl) (by kernel_rfl) (fun _ _ _ h => h) (Or.inl ⟨by rfl, fun W hS => by go_simp⟩) hHeld0 ?_
  try simp only [Act.put]
  try simp only [List.setIfInBounds_toArray]
  try simp only [List.set_cons_succ]
  try simp only [List.set_cons_zero]
  refine wpAnyH_take (i := 6) (v := .slice xP t.path.length xpc) rfl (by kernel_rfl) (by kernel_rfl) (by kernel_rfl) (fun _ _ _ h => h) (Or.inl ⟨by rfl, fun W hS => by obtain ⟨k_0, k_1, k_2, k_3⟩ := hS; go_simp⟩) hHeld0 ?_
  try simp only [Act.put]
  try simp only [List.setIfInBounds_toArray]
  try simp only [List.set_cons_succ]
  try simp only [List.set_cons_zero]
  refine wpAnyH_take (i := 7) (v := .pointer (some ⟨w.heap.size + 1, 4, none⟩)) rfl (by kernel_rfl) (by kernel_rfl) (by kernel_rfl) (fun _ _ _ h => h) (Or.inl ⟨by rfl, fun W hS => by go_simp⟩) hHeld0 ?_
  try simp only [Act.put]
  try simp only [List.setIfInBounds_toArray]
  try simp only [List.set_cons_succ]
  try simp only [List.set_cons_zero]
  refine wpAnyH_take (i := 8) (v := .slice yP t.path.length ypc) rfl (by kernel_rfl) (by kernel_rfl) (by kernel_rfl) (fun _ _ _ h => h) (Or.inl ⟨by rfl, fun W hS => by obtain ⟨k_0, k_1, k_2, k_3⟩ := hS; go_simp⟩) hHeld0 ?_
  try simp only [Act.put]
  try simp only [List.setIfInBounds_toArray]
  try simp only [List.set_cons_succ]
  try simp only [List.set_cons_zero]
  refine wpAnyH_ready (rs := [4]) (by kernel_rfl) (by simp) ?_
  refine AllReadyH.cons rfl (fun KK0 hK => ?_) AllReadyH.nil
  refine calls_step2 (by rfl) 38 #[.slice xR t.regs.length xrc, .slice yR t.regs.length yrc] _ (numbers_b t.regs t.regs xR yR _ _ _ _ _ true (HA.out _ (bl_trans HB1.out bq.out)).1 (HB.out _ (bl_trans HB1.out bq.out)).1 n1 n1 (decide_eq_true rfl)) ?_ ?_
  · focus (go_simp; done)
  rintro e wq ⟨rfl, b_⟩
  refine ⟨_, rfl, ?_⟩
  replace bq := Lib.hid (bl_trans bq.out b_)
  clear b_
  refine hK.out _ _ (KEEP.out _ bq.out) (fun hHeld1 => ?_)
  clear hHeld0 hK KK0
  try simp only [Act.put]
  try simp only [List.setIfInBounds_toArray]
  try simp only [List.set_cons_succ]
  try simp only [List.set_cons_zero]
  refine wpAnyH_ready (rs := [9]) (by kernel_rfl) (by simp) ?_
  refine AllReadyH.cons rfl (fun KK0 hK => ?_) AllReadyH.nil
  refine calls_step2 (by rfl) 38 #[.slice xP t.path.length xpc, .slice yP t.path.length ypc] _ (numbers_b t.path t.path xP yP _ _ _ _ _ true (HA.out _ (bl_trans HB1.out bq.out)).2.1 (HB.out _ (bl_trans HB1.out bq.out)).2.1 n2 n2 (decide_eq_true rfl)) ?_ ?_
  · focus (go_simp; done)
  rintro e wq ⟨rfl, b_⟩
  refine ⟨_, rfl, ?_⟩
  replace bq := Lib.hid (bl_trans bq.out b_)
  clear b_
  refine hK.out _ _ (KEEP.out _ bq.out) (fun hHeld2 => ?_)
  clear hHeld1 hK KK0
  try simp only [Act.put]
  try simp only [List.setIfInBounds_toArray]
  try simp only [List.set_cons_succ]
  try simp only [List.set_cons_zero]
  refine wpAnyH_ready (rs := [10]) (by kernel_rfl) (by simp) ?_
  refine AllReadyH.cons rfl (fun KK0 hK => ?_) AllReadyH.nil
  go_simp
  refine hK.out _ _ (KEEP.out _ bq.out) (fun hHeld3 => ?_)
  clear hHeld2 hK KK0
  try simp only [Act.put]
  try simp only [List.setIfInBounds_toArray]
  try simp only [List.set_cons_succ]
  try simp only [List.set_cons_zero]
  refine wpAnyH_ready (rs := [11]) (by kernel_rfl) (by simp) ?_
  refine AllReadyH.cons rfl (fun KK0 hK => ?_) AllReadyH.nil
  go_simp
  refine hK.out _ _ (KEEP.out _ bq.out) (fun hHeld4 => ?_)
  clear hHeld3 hK KK0
  try simp only [Act.put]
  try simp only [List.setIfInBounds_toArray]
  try simp only [List.set_cons_succ]
  try simp only [List.set_cons_zero]
  refine wpAnyH_done (by kernel_rfl) ?_ _
  clear hHeld4 KEEP
  replace HKx := Lib.hid (HKx.out.below bq.out)
  replace HKy := Lib.hid (HKy.out.below bq.out)
  replace HB1 := Lib.hid (bl_trans HB1.out bq.out)
  clear bq
  skip
  have p8 := HKx.out.cell 8 _ rfl
  have s8 := HKy.out.cell 8 _ rfl
  go_wp2_with fail
  clear p8 s8
  go_loopw [9] (fun i wr => ∃ k : Nat, k ≤ m ∧ i = .int .i64 k ∧ Hid (Blk wr w.heap.size 41 #[.int .i64 t.who, .int .i64 t.snap, .int .i64 t.pc, .slice xR t.regs.length xrc, .slice xP t.path.length xpc, .slice xD t.reads.length xdc, .slice xL t.log.list.length xlc, .slice xM t.log.marks.length xmc, .slice xF m xfc, .int .i64 t.kind, .int .i64 t.why]) ∧ Hid (Blk wr (w.heap.size + 1) 41 #[.int .i64 t.who, .int .i64 t.snap, .int .i64 t.pc, .slice yR t.regs.length yrc, .slice yP t.path.length ypc, .slice yD t.reads.length ydc, .slice yL t.log.list.length ylc, .slice yM t.log.marks.length ymc, .slice yF m yfc, .int .i64 t.kind, .int .i64 t.why]) ∧ Hid (Below w.heap.size w wr)) (fun i _ => m - (intOf i).toNat)
  case atStart => exact ⟨0, Nat.zero_le _, rfl, HKx, HKy, HB1⟩
  case round =>
    obtain ⟨k, hk, rfl, HKx, HKy, HB1⟩ := hrel
    generalize wr = wa at *
    have p8 := HKx.out.cell 8 _ rfl
    by_cases hlt : k < m
    · obtain ⟨bx, ox, r, hXX, hr, q0, q1, q2, q3⟩ := at_frame (HA.out _ HB1.out).2.2.2.2 k hlt
      obtain ⟨by_, oy, s, hYY, hs, s0, s1, s2, s3⟩ := at_frame (HB.out _ HB1.out).2.2.2.2 k hlt
      obtain ⟨e1, e2, e3⟩ := HN.out k r s hr hs
      rw [e1] at s0 s1 s2 s3
      have HRS := Lib.hid e3
      have HEF := Lib.hid e1
      subst hXX
      subst hYY
      clear hr hs e1 e3
      go_wp2_with fail
      clear p8
      have KEEP : Hid (∀ W, Below wa.heap.size wa W → W.cell? ⟨w.heap.size, 8, none⟩ = some (.slice (some ⟨bx, ox, none⟩) m xfc) ∧ W.cell? ⟨w.heap.size + 1, 8, none⟩ = some (.slice (some ⟨by_, oy, none⟩) m yfc) ∧ W.cell? ⟨bx, ox + k * 4, none⟩ = some (.int .i64 r.f.mid) ∧ W.cell? ⟨bx, ox + k * 4 + 1, none⟩ = some (.int .i64 r.f.fin) ∧ W.cell? ⟨bx, ox + k * 4 + 2, none⟩ = some (.int .i64 r.f.long) ∧ W.cell? ⟨bx, ox + k * 4 + 3, none⟩ = some (.slice r.A r.f.regs.length r.c) ∧ W.cell? ⟨by_, oy + k * 4, none⟩ = some (.int .i64 r.f.mid) ∧ W.cell? ⟨by_, oy + k * 4 + 1, none⟩ = some (.int .i64 r.f.fin) ∧ W.cell? ⟨by_, oy + k * 4 + 2, none⟩ = some (.int .i64 r.f.long) ∧ W.cell? ⟨by_, oy + k * 4 + 3, none⟩ = some (.slice s.A r.f.regs.length s.c)) := Lib.hid (fun W hW => ⟨(HKx.out.below hW).cell 8 _ rfl, (HKy.out.below hW).cell 8 _ rfl, cell_kept_up q0 hW, cell_kept_up q1 hW, cell_kept_up q2 hW, cell_kept_up q3 hW, cell_kept_up s0 hW, cell_kept_up s1 hW, cell_kept_up s2 hW, cell_kept_up s3 hW⟩)
      clear q0 q1 q2 q3 s0 s1 s2 s3
      have bq : Hid (Below wa.heap.size wa wa.drew) := Lib.hid (Below.refl _ _).drew
      try simp only [List.append_eq, List.cons_append, List.nil_append]
      refine wp_region_held_drew (S := fun (W : World) => W.cell? ⟨w.heap.size, 8, none⟩ = some (.slice (some ⟨bx, ox, none⟩) m xfc) ∧ W.cell? ⟨w.heap.size + 1, 8, none⟩ = some (.slice (some ⟨by_, oy, none⟩) m yfc) ∧ W.cell? ⟨bx, ox + k * 4, none⟩ = some (.int .i64 r.f.mid) ∧ W.cell? ⟨bx, ox + k * 4 + 1, none⟩ = some (.int .i64 r.f.fin) ∧ W.cell? ⟨bx, ox + k * 4 + 2, none⟩ = some (.int .i64 r.f.long) ∧ W.cell? ⟨bx, ox + k * 4 + 3, none⟩ = some (.slice r.A r.f.regs.length r.c) ∧ W.cell? ⟨by_, oy + k * 4, none⟩ = some (.int .i64 r.f.mid) ∧ W.cell? ⟨by_, oy + k * 4 + 1, none⟩ = some (.int .i64 r.f.fin) ∧ W.cell? ⟨by_, oy + k * 4 + 2, none⟩ = some (.int .i64 r.f.long) ∧ W.cell? ⟨by_, oy + k * 4 + 3, none⟩ = some (.slice s.A r.f.regs.length s.c)) (by kernel_rfl) (KEEP.out _ bq.out) (fun hH0 => ?_)
      refine wpAnyH_take (i := 0) (v := .pointer (some ⟨w.heap.size, 8, none⟩)) rfl (by kernel_rfl) (by kernel_rfl) (by kernel_rfl) (fun _ _ _ h => h) (Or.inl ⟨by rfl, fun W hS => by go_simp⟩) hH0 ?_
      try simp only [Act.put]
      try simp only [List.setIfInBounds_toArray]
      try simp only [List.set_cons_succ]
      try simp only [List.set_cons_zero]
      refine wpAnyH_take (i := 1) (v := .slice (some ⟨bx, ox, none⟩) m xfc) rfl (by kernel_rfl) (by kernel_rfl) (by kernel_rfl) (fun _ _ _ h => h) (Or.inl ⟨by rfl, fun W hS => by obtain ⟨k_0, k_1, k_2, k_3, k_4, k_5, k_6, k_7, k_8, k_9⟩ := hS; go_simp⟩) hH0 ?_
      try simp only [Act.put]
      try simp only [List.setIfInBounds_toArray]
      try simp only [List.set_cons_succ]
      try simp only [List.set_cons_zero]
      refine wpAnyH_take (i := 2) (v := .int .i64 k) rfl (by kernel_rfl) (by kernel_rfl) (by kernel_rfl) (fun _ _ _ h => h) (Or.inl ⟨by rfl, fun W hS => by go_simp⟩) hH0 ?_
      try simp only [Act.put]
      try simp only [List.setIfInBounds_toArray]
      try simp only [List.set_cons_succ]
      try simp only [List.set_cons_zero]
      refine wpAnyH_take (i := 3) (v := .pointer (some ⟨bx, ox + k * 4, none⟩)) rfl (by kernel_rfl) (by kernel_rfl) (by kernel_rfl) (fun _ _ _ h => h) (Or.inl ⟨by rfl, fun W hS => by go_simp⟩) hH0 ?_
      try simp only [Act.put]
      try simp only [List.setIfInBounds_toArray]
      try simp only [List.set_cons_succ]
      try simp only [List.set_cons_zero]
      refine wpAnyH_take (i := 4) (v := .agg #[.int .i64 r.f.mid, .int .i64 r.f.fin, .int .i64 r.f.long, .slice r.A r.f.regs.length r.c]) rfl (by kernel_rfl) (by kernel_rfl) (by kernel_rfl) (fun _ _ _ h => h) (Or.inl ⟨by rfl, fun W hS => by obtain ⟨k_0, k_1, k_2, k_3, k_4, k_5, k_6, k_7, k_8, k_9⟩ := hS; go_simp⟩) hH0 ?_
      try simp only [Act.put]
      try simp only [List.setIfInBounds_toArray]
      try simp only [List.set_cons_succ]
      try simp only [List.set_cons_zero]
      refine wpAnyH_take (i := 5) (v := .pointer (some ⟨w.heap.size + 1, 8, none⟩)) rfl (by kernel_rfl) (by kernel_rfl) (by kernel_rfl) (fun _ _ _ h => h) (Or.inl ⟨by rfl, fun W hS => by go_simp⟩) hH0 ?_
      try simp only [Act.put]
      try simp only [List.setIfInBounds_toArray]
      try simp only [List.set_cons_succ]
      try simp only [List.set_cons_zero]
      refine wpAnyH_take (i := 6) (v := .slice (some ⟨by_, oy, none⟩) m yfc) rfl (by kernel_rfl) (by kernel_rfl) (by kernel_rfl) (fun _ _ _ h => h) (Or.inl ⟨by rfl, fun W hS => by obtain ⟨k_0, k_1, k_2, k_3, k_4, k_5, k_6, k_7, k_8, k_9⟩ := hS; go_simp⟩) hH0 ?_
      try simp only [Act.put]
      try simp only [List.setIfInBounds_toArray]
      try simp only [List.set_cons_succ]
      try simp only [List.set_cons_zero]
      refine wpAnyH_take (i := 7) (v := .int .i64 k) rfl (by kernel_rfl) (by kernel_rfl) (by kernel_rfl) (fun _ _ _ h => h) (Or.inl ⟨by rfl, fun W hS => by go_simp⟩) hH0 ?_
      try simp only [Act.put]
      try simp only [List.setIfInBounds_toArray]
      try simp only [List.set_cons_succ]
      try simp only [List.set_cons_zero]
      refine wpAnyH_take (i := 8) (v := .pointer (some ⟨by_, oy + k * 4, none⟩)) rfl (by kernel_rfl) (by kernel_rfl) (by kernel_rfl) (fun _ _ _ h => h) (Or.inl ⟨by rfl, fun W hS => by go_simp⟩) hH0 ?_
      try simp only [Act.put]
      try simp only [List.setIfInBounds_toArray]
      try simp only [List.set_cons_succ]
      try simp only [List.set_cons_zero]
      refine wpAnyH_take (i := 9) (v := .agg #[.int .i64 r.f.mid, .int .i64 r.f.fin, .int .i64 r.f.long, .slice s.A r.f.regs.length s.c]) rfl (by kernel_rfl) (by kernel_rfl) (by kernel_rfl) (fun _ _ _ h => h) (Or.inl ⟨by rfl, fun W hS => by obtain ⟨k_0, k_1, k_2, k_3, k_4, k_5, k_6, k_7, k_8, k_9⟩ := hS; go_simp⟩) hH0 ?_
      try simp only [Act.put]
      try simp only [List.setIfInBounds_toArray]
      try simp only [List.set_cons_succ]
      try simp only [List.set_cons_zero]
      generalize wa.drew = wb at *
      have SZ : Hid (wa.heap.size ≤ wb.heap.size) := Lib.hid bq.out.size
      refine wpAnyH_ready (rs := [10, 11]) (by kernel_rfl) (by simp) ?_
      refine AllReadyH.cons rfl (fun KK hK => ?_) (AllReadyH.cons rfl (fun KK hK => ?_) AllReadyH.nil)
      · go_simp
        have n1_ := bl_alloc bq.out (.cells #[.int .i64 0, .int .i64 0, .int .i64 0, .slice none 0 0] 98)
        refine hK.out _ _ (KEEP.out _ n1_) (fun hH1 => ?_)
        try simp only [Act.put]
        try simp only [List.setIfInBounds_toArray]
        try simp only [List.set_cons_succ]
        try simp only [List.set_cons_zero]
        clear hK KK
        have HZ1 : Hid (Blk (wb.alloc (.cells #[.int .i64 0, .int .i64 0, .int .i64 0, .slice none 0 0] 98)) wb.heap.size 98 #[.int .i64 0, .int .i64 0, .int .i64 0, .slice none 0 0]) := Lib.hid (Blk.new _ _ _)
        have hs1 : (wb.alloc (.cells #[.int .i64 0, .int .i64 0, .int .i64 0, .slice none 0 0] 98)).heap.size = wb.heap.size + 1 := by simp
        replace bq := Lib.hid n1_
        have hge : wa.heap.size ≤ wb.heap.size := SZ.out
        clear n1_
        generalize (wb.alloc (.cells #[.int .i64 0, .int .i64 0, .int .i64 0, .slice none 0 0] 98)) = Wc at *
        refine wpAnyH_ready (rs := [11]) (by kernel_rfl) (by simp) ?_
        refine AllReadyH.cons rfl (fun KK hK => ?_) AllReadyH.nil
        go_simp
        have n2_ := bl_alloc bq.out (.cells #[.int .i64 0, .int .i64 0, .int .i64 0, .slice none 0 0] 98)
        refine hK.out _ _ (KEEP.out _ n2_) (fun hH2 => ?_)
        try simp only [Act.put]
        try simp only [List.setIfInBounds_toArray]
        try simp only [List.set_cons_succ]
        try simp only [List.set_cons_zero]
        clear hK KK hH1
        have HZ2 : Hid (Blk (Wc.alloc (.cells #[.int .i64 0, .int .i64 0, .int .i64 0, .slice none 0 0] 98)) Wc.heap.size 98 #[.int .i64 0, .int .i64 0, .int .i64 0, .slice none 0 0]) := Lib.hid (Blk.new _ _ _)
        replace HZ1 := Lib.hid (HZ1.out.alloc (.cells #[.int .i64 0, .int .i64 0, .int .i64 0, .slice none 0 0] 98))
        replace bq := Lib.hid n2_
        clear n2_
        generalize (Wc.alloc (.cells #[.int .i64 0, .int .i64 0, .int .i64 0, .slice none 0 0] 98)) = Wd at *
        rw [hs1] at HZ2
        have hgg : wb.heap.size ≠ wb.heap.size + 1 := by omega
        have hge2 : wa.heap.size ≤ wb.heap.size + 1 := by omega
        clear hs1
        generalize wb.heap.size = gA at *
        have z0 := HZ1.out.cell 0 _ rfl
        have z1 := HZ1.out.cell 1 _ rfl
        have z2 := HZ1.out.cell 2 _ rfl
        have z3 := HZ1.out.cell 3 _ rfl
        have zf0 := HZ1.out.frozen 0
        have zf1 := HZ1.out.frozen 1
        have zf2 := HZ1.out.frozen 2
        have zf3 := HZ1.out.frozen 3
        have HFx : Hid (Blk ((((Wd.setCell ⟨gA, 0, none⟩ (.int .i64 r.f.mid)).setCell ⟨gA, 1, none⟩ (.int .i64 r.f.fin)).setCell ⟨gA, 2, none⟩ (.int .i64 r.f.long)).setCell ⟨gA, 3, none⟩ (.slice r.A r.f.regs.length r.c)) gA 98 #[.int .i64 r.f.mid, .int .i64 r.f.fin, .int .i64 r.f.long, .slice r.A r.f.regs.length r.c]) := Lib.hid (fill4_blk HZ1.out)
        have on1 := fill4_only Wd gA (.int .i64 r.f.mid) (.int .i64 r.f.fin) (.int .i64 r.f.long) (.slice r.A r.f.regs.length r.c)
        have n3_ : Below wa.heap.size wa ((((Wd.setCell ⟨gA, 0, none⟩ (.int .i64 r.f.mid)).setCell ⟨gA, 1, none⟩ (.int .i64 r.f.fin)).setCell ⟨gA, 2, none⟩ (.int .i64 r.f.long)).setCell ⟨gA, 3, none⟩ (.slice r.A r.f.regs.length r.c)) := bq.out.trans (on1.below bq.out.size (fun k hk e => by omega))
        have HZy := Lib.hid (on1.blk HZ2.out (fun e => absurd e (Ne.symm hgg)))
        refine wpAnyH_ready (rs := [12]) (by kernel_rfl) (by simp) ?_
        refine AllReadyH.cons rfl (fun KK hK => ?_) AllReadyH.nil
        go_simp
        refine hK.out _ _ (KEEP.out _ n3_) (fun hH3 => ?_)
        try simp only [Act.put]
        try simp only [List.setIfInBounds_toArray]
        try simp only [List.set_cons_succ]
        try simp only [List.set_cons_zero]
        clear hK KK hH2 on1 z0 zf0 z1 zf1 z2 zf2 z3 zf3
        replace bq := Lib.hid n3_
        clear n3_ HZ1 HZ2
        generalize ((((Wd.setCell ⟨gA, 0, none⟩ (.int .i64 r.f.mid)).setCell ⟨gA, 1, none⟩ (.int .i64 r.f.fin)).setCell ⟨gA, 2, none⟩ (.int .i64 r.f.long)).setCell ⟨gA, 3, none⟩ (.slice r.A r.f.regs.length r.c)) = We at *
        have z0 := HZy.out.cell 0 _ rfl
        have z1 := HZy.out.cell 1 _ rfl
        have z2 := HZy.out.cell 2 _ rfl
        have z3 := HZy.out.cell 3 _ rfl
        have zf0 := HZy.out.frozen 0
        have zf1 := HZy.out.frozen 1
        have zf2 := HZy.out.frozen 2
        have zf3 := HZy.out.frozen 3
        have HFy : Hid (Blk ((((We.setCell ⟨(gA + 1), 0, none⟩ (.int .i64 r.f.mid)).setCell ⟨(gA + 1), 1, none⟩ (.int .i64 r.f.fin)).setCell ⟨(gA + 1), 2, none⟩ (.int .i64 r.f.long)).setCell ⟨(gA + 1), 3, none⟩ (.slice s.A r.f.regs.length s.c)) (gA + 1) 98 #[.int .i64 r.f.mid, .int .i64 r.f.fin, .int .i64 r.f.long, .slice s.A r.f.regs.length s.c]) := Lib.hid (fill4_blk HZy.out)
        have on1 := fill4_only We (gA + 1) (.int .i64 r.f.mid) (.int .i64 r.f.fin) (.int .i64 r.f.long) (.slice s.A r.f.regs.length s.c)
        have n3_ : Below wa.heap.size wa ((((We.setCell ⟨(gA + 1), 0, none⟩ (.int .i64 r.f.mid)).setCell ⟨(gA + 1), 1, none⟩ (.int .i64 r.f.fin)).setCell ⟨(gA + 1), 2, none⟩ (.int .i64 r.f.long)).setCell ⟨(gA + 1), 3, none⟩ (.slice s.A r.f.regs.length s.c)) := bq.out.trans (on1.below bq.out.size (fun k hk e => by omega))
        replace HFx := Lib.hid (on1.blk HFx.out (fun e => absurd e hgg))
        refine wpAnyH_ready (rs := [13]) (by kernel_rfl) (by simp) ?_
        refine AllReadyH.cons rfl (fun KK hK => ?_) AllReadyH.nil
        go_simp
        refine hK.out _ _ (KEEP.out _ n3_) (fun _ => ?_)
        clear hK KK
        refine wpAnyH_done (by kernel_rfl) ?_ _
        clear hH3 on1 z0 zf0 z1 zf1 z2 zf2 z3 zf3
        replace bq := Lib.hid n3_
        clear n3_ HZy
        generalize ((((We.setCell ⟨(gA + 1), 0, none⟩ (.int .i64 r.f.mid)).setCell ⟨(gA + 1), 1, none⟩ (.int .i64 r.f.fin)).setCell ⟨(gA + 1), 2, none⟩ (.int .i64 r.f.long)).setCell ⟨(gA + 1), 3, none⟩ (.slice s.A r.f.regs.length s.c)) = Wf at *
        have x3 := HFx.out.cell 3 _ rfl
        have y3 := HFy.out.cell 3 _ rfl
        go_wp2_with fail
        refine (numbers_b r.f.regs r.f.regs r.A s.A _ _ r.c s.c _ true (HRS.out _ (bl_trans HB1.out bq.out)).1 (by have h1 := (HRS.out _ (bl_trans HB1.out bq.out)).2; rw [HEF.out] at h1; exact h1) e2 e2 (decide_eq_true rfl)).mono ?_
        rintro e4 Wg ⟨rfl, b_⟩
        clear x3 y3
        have x0 := (HFx.out.below b_).cell 0 _ rfl
        have x1 := (HFx.out.below b_).cell 1 _ rfl
        have x2 := (HFx.out.below b_).cell 2 _ rfl
        have y0 := (HFy.out.below b_).cell 0 _ rfl
        have y1 := (HFy.out.below b_).cell 1 _ rfl
        have y2 := (HFy.out.below b_).cell 2 _ rfl
        have HKx2 := Lib.hid (HKx.out.below (bl_trans bq.out b_))
        have HKy2 := Lib.hid (HKy.out.below (bl_trans bq.out b_))
        have HB2 := Lib.hid (bl_trans HB1.out (bl_trans bq.out b_))
        clear b_
        go_wp2
        go_roundw
        case rel => exact ⟨k + 1, by omega, by go_num, HKx2, HKy2, HB2⟩
        case measure => simp [intOf]; omega
      · go_simp
        have n1_ := bl_alloc bq.out (.cells #[.int .i64 0, .int .i64 0, .int .i64 0, .slice none 0 0] 98)
        refine hK.out _ _ (KEEP.out _ n1_) (fun hH1 => ?_)
        try simp only [Act.put]
        try simp only [List.setIfInBounds_toArray]
        try simp only [List.set_cons_succ]
        try simp only [List.set_cons_zero]
        clear hK KK
        have HZ1 : Hid (Blk (wb.alloc (.cells #[.int .i64 0, .int .i64 0, .int .i64 0, .slice none 0 0] 98)) wb.heap.size 98 #[.int .i64 0, .int .i64 0, .int .i64 0, .slice none 0 0]) := Lib.hid (Blk.new _ _ _)
        have hs1 : (wb.alloc (.cells #[.int .i64 0, .int .i64 0, .int .i64 0, .slice none 0 0] 98)).heap.size = wb.heap.size + 1 := by simp
        replace bq := Lib.hid n1_
        have hge : wa.heap.size ≤ wb.heap.size := SZ.out
        clear n1_
        generalize (wb.alloc (.cells #[.int .i64 0, .int .i64 0, .int .i64 0, .slice none 0 0] 98)) = Wc at *
        refine wpAnyH_ready (rs := [10]) (by kernel_rfl) (by simp) ?_
        refine AllReadyH.cons rfl (fun KK hK => ?_) AllReadyH.nil
        go_simp
        have n2_ := bl_alloc bq.out (.cells #[.int .i64 0, .int .i64 0, .int .i64 0, .slice none 0 0] 98)
        refine hK.out _ _ (KEEP.out _ n2_) (fun hH2 => ?_)
        try simp only [Act.put]
        try simp only [List.setIfInBounds_toArray]
        try simp only [List.set_cons_succ]
        try simp only [List.set_cons_zero]
        clear hK KK hH1
        have HZ2 : Hid (Blk (Wc.alloc (.cells #[.int .i64 0, .int .i64 0, .int .i64 0, .slice none 0 0] 98)) Wc.heap.size 98 #[.int .i64 0, .int .i64 0, .int .i64 0, .slice none 0 0]) := Lib.hid (Blk.new _ _ _)
        replace HZ1 := Lib.hid (HZ1.out.alloc (.cells #[.int .i64 0, .int .i64 0, .int .i64 0, .slice none 0 0] 98))
        replace bq := Lib.hid n2_
        clear n2_
        generalize (Wc.alloc (.cells #[.int .i64 0, .int .i64 0, .int .i64 0, .slice none 0 0] 98)) = Wd at *
        rw [hs1] at HZ2
        have hgg : wb.heap.size ≠ wb.heap.size + 1 := by omega
        have hge2 : wa.heap.size ≤ wb.heap.size + 1 := by omega
        clear hs1
        generalize wb.heap.size = gA at *
        have z0 := HZ2.out.cell 0 _ rfl
        have z1 := HZ2.out.cell 1 _ rfl
        have z2 := HZ2.out.cell 2 _ rfl
        have z3 := HZ2.out.cell 3 _ rfl
        have zf0 := HZ2.out.frozen 0
        have zf1 := HZ2.out.frozen 1
        have zf2 := HZ2.out.frozen 2
        have zf3 := HZ2.out.frozen 3
        have HFx : Hid (Blk ((((Wd.setCell ⟨(gA + 1), 0, none⟩ (.int .i64 r.f.mid)).setCell ⟨(gA + 1), 1, none⟩ (.int .i64 r.f.fin)).setCell ⟨(gA + 1), 2, none⟩ (.int .i64 r.f.long)).setCell ⟨(gA + 1), 3, none⟩ (.slice r.A r.f.regs.length r.c)) (gA + 1) 98 #[.int .i64 r.f.mid, .int .i64 r.f.fin, .int .i64 r.f.long, .slice r.A r.f.regs.length r.c]) := Lib.hid (fill4_blk HZ2.out)
        have on1 := fill4_only Wd (gA + 1) (.int .i64 r.f.mid) (.int .i64 r.f.fin) (.int .i64 r.f.long) (.slice r.A r.f.regs.length r.c)
        have n3_ : Below wa.heap.size wa ((((Wd.setCell ⟨(gA + 1), 0, none⟩ (.int .i64 r.f.mid)).setCell ⟨(gA + 1), 1, none⟩ (.int .i64 r.f.fin)).setCell ⟨(gA + 1), 2, none⟩ (.int .i64 r.f.long)).setCell ⟨(gA + 1), 3, none⟩ (.slice r.A r.f.regs.length r.c)) := bq.out.trans (on1.below bq.out.size (fun k hk e => by omega))
        have HZy := Lib.hid (on1.blk HZ1.out (fun e => absurd e (Ne.symm (Ne.symm hgg))))
        refine wpAnyH_ready (rs := [12]) (by kernel_rfl) (by simp) ?_
        refine AllReadyH.cons rfl (fun KK hK => ?_) AllReadyH.nil
        go_simp
        refine hK.out _ _ (KEEP.out _ n3_) (fun hH3 => ?_)
        try simp only [Act.put]
        try simp only [List.setIfInBounds_toArray]
        try simp only [List.set_cons_succ]
        try simp only [List.set_cons_zero]
        clear hK KK hH2 on1 z0 zf0 z1 zf1 z2 zf2 z3 zf3
        replace bq := Lib.hid n3_
        clear n3_ HZ2 HZ1
        generalize ((((Wd.setCell ⟨(gA + 1), 0, none⟩ (.int .i64 r.f.mid)).setCell ⟨(gA + 1), 1, none⟩ (.int .i64 r.f.fin)).setCell ⟨(gA + 1), 2, none⟩ (.int .i64 r.f.long)).setCell ⟨(gA + 1), 3, none⟩ (.slice r.A r.f.regs.length r.c)) = We at *
        have z0 := HZy.out.cell 0 _ rfl
        have z1 := HZy.out.cell 1 _ rfl
        have z2 := HZy.out.cell 2 _ rfl
        have z3 := HZy.out.cell 3 _ rfl
        have zf0 := HZy.out.frozen 0
        have zf1 := HZy.out.frozen 1
        have zf2 := HZy.out.frozen 2
        have zf3 := HZy.out.frozen 3
        have HFy : Hid (Blk ((((We.setCell ⟨gA, 0, none⟩ (.int .i64 r.f.mid)).setCell ⟨gA, 1, none⟩ (.int .i64 r.f.fin)).setCell ⟨gA, 2, none⟩ (.int .i64 r.f.long)).setCell ⟨gA, 3, none⟩ (.slice s.A r.f.regs.length s.c)) gA 98 #[.int .i64 r.f.mid, .int .i64 r.f.fin, .int .i64 r.f.long, .slice s.A r.f.regs.length s.c]) := Lib.hid (fill4_blk HZy.out)
        have on1 := fill4_only We gA (.int .i64 r.f.mid) (.int .i64 r.f.fin) (.int .i64 r.f.long) (.slice s.A r.f.regs.length s.c)
        have n3_ : Below wa.heap.size wa ((((We.setCell ⟨gA, 0, none⟩ (.int .i64 r.f.mid)).setCell ⟨gA, 1, none⟩ (.int .i64 r.f.fin)).setCell ⟨gA, 2, none⟩ (.int .i64 r.f.long)).setCell ⟨gA, 3, none⟩ (.slice s.A r.f.regs.length s.c)) := bq.out.trans (on1.below bq.out.size (fun k hk e => by omega))
        replace HFx := Lib.hid (on1.blk HFx.out (fun e => absurd e (Ne.symm hgg)))
        refine wpAnyH_ready (rs := [13]) (by kernel_rfl) (by simp) ?_
        refine AllReadyH.cons rfl (fun KK hK => ?_) AllReadyH.nil
        go_simp
        refine hK.out _ _ (KEEP.out _ n3_) (fun _ => ?_)
        clear hK KK
        refine wpAnyH_done (by kernel_rfl) ?_ _
        clear hH3 on1 z0 zf0 z1 zf1 z2 zf2 z3 zf3
        replace bq := Lib.hid n3_
        clear n3_ HZy
        generalize ((((We.setCell ⟨gA, 0, none⟩ (.int .i64 r.f.mid)).setCell ⟨gA, 1, none⟩ (.int .i64 r.f.fin)).setCell ⟨gA, 2, none⟩ (.int .i64 r.f.long)).setCell ⟨gA, 3, none⟩ (.slice s.A r.f.regs.length s.c)) = Wf at *
        have x3 := HFx.out.cell 3 _ rfl
        have y3 := HFy.out.cell 3 _ rfl
        go_wp2_with fail
        refine (numbers_b r.f.regs r.f.regs r.A s.A _ _ r.c s.c _ true (HRS.out _ (bl_trans HB1.out bq.out)).1 (by have h1 := (HRS.out _ (bl_trans HB1.out bq.out)).2; rw [HEF.out] at h1; exact h1) e2 e2 (decide_eq_true rfl)).mono ?_
        rintro e4 Wg ⟨rfl, b_⟩
        clear x3 y3
        have x0 := (HFx.out.below b_).cell 0 _ rfl
        have x1 := (HFx.out.below b_).cell 1 _ rfl
        have x2 := (HFx.out.below b_).cell 2 _ rfl
        have y0 := (HFy.out.below b_).cell 0 _ rfl
        have y1 := (HFy.out.below b_).cell 1 _ rfl
        have y2 := (HFy.out.below b_).cell 2 _ rfl
        have HKx2 := Lib.hid (HKx.out.below (bl_trans bq.out b_))
        have HKy2 := Lib.hid (HKy.out.below (bl_trans bq.out b_))
        have HB2 := Lib.hid (bl_trans HB1.out (bl_trans bq.out b_))
        clear b_
        go_wp2
        go_roundw
        case rel => exact ⟨k + 1, by omega, by go_num, HKx2, HKy2, HB2⟩
        case measure => simp [intOf]; omega
    · have x0 := HKx.out.cell 0 _ rfl
      have x1 := HKx.out.cell 1 _ rfl
      have x2 := HKx.out.cell 2 _ rfl
      have x9 := HKx.out.cell 9 _ rfl
      have x10 := HKx.out.cell 10 _ rfl
      have y0 := HKy.out.cell 0 _ rfl
      have y1 := HKy.out.cell 1 _ rfl
      have y2 := HKy.out.cell 2 _ rfl
      have y9 := HKy.out.cell 9 _ rfl
      have y10 := HKy.out.cell 10 _ rfl
      go_wp2
      go_ret
      exact ⟨rfl, HB1.out⟩
end Go.Proofs.YtclbeboiojgejaaGreat.Attempt
