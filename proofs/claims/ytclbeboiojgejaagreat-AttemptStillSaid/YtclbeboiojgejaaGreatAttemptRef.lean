/-
  WHAT THE LAWS OF LAYER 11 MAKE OF A TRY: Ref. No conditions beyond those that each theorem states.
-/
import Derived.Test.YtclbeboiojgejaaGreatAttG
import Derived.Test.YtclbeboiojgejaaGreatWritesC
import Derived.Test.YtclbeboiojgejaaGreatMemA
namespace Go.Proofs.YtclbeboiojgejaaGreat.Attempt
open Go.ChangeShapes Go.WideShapes Go.ChangeAt Go.RowKit Mem Go.Proofs.YtclbeboiojgejaaGreat.Code

set_option maxRecDepth 100000 in
theorem tFrameR : SliceT Tryz.prog 39 98 4 48 :=
  SliceT.mk_ (z := .agg #[.int .i64 0, .int .i64 0, .int .i64 0, .slice none 0 0]) Tryz.underlying39 (by kernel_rfl) rfl (by decide)
/-- A try as the document's: the frames lie anew, all else where it lay. -/
def RetRef (w : World) (t : Try) (x : TL) (e : Ending) (w' : World) : Prop := ∃ (F : Option Addr) (fc : Nat), e = .returned (.agg (tvl t { x with F := F, fc := fc }).toArray) ∧ Own w w' 98 4 (.slice F x.fl.length fc) x.fl.length (frs x.fl) ∧ Below w.heap.size w w'
set_option maxRecDepth 100000 in
set_option maxHeartbeats 4000000 in
theorem ref_t (t : Try) (x : TL) (w : World) (h : TRd w t x) (hm : x.fl.length ≤ 1000000) : Calls Tryz.prog 16 #[.agg (tvl t x).toArray] w (RetRef w t x) := by
  obtain ⟨PQ, hPQ⟩ : ∃ PQ, RetRef w t x = PQ := ⟨_, rfl⟩
  have HPQ := Lib.hid hPQ
  rw [hPQ]
  obtain ⟨xR, xrc, xP, xpc, xD, xdc, xL, xlc, xM, xmc, xF, xfc, xfl⟩ := x
  have hfr : Rd w 4 xF xfl.length (frs xfl) := h.frames
  have hm2 : xfl.length ≤ 1000000 := hm
  obtain ⟨m, hmm⟩ : ∃ m, xfl.length = m := ⟨_, rfl⟩
  have HMM := Lib.hid hmm
  have hm6 : m ≤ 1000000 := by omega
  have HFR := Lib.hid hfr
  have HB1 : Hid (Below w.heap.size w ((w.alloc (.cells #[.int .i64 t.who, .int .i64 t.snap, .int .i64 t.pc, .slice xR t.regs.length xrc, .slice xP t.path.length xpc, .slice xD t.reads.length xdc, .slice xL t.log.list.length xlc, .slice xM t.log.marks.length xmc, .slice xF xfl.length xfc, .int .i64 t.kind, .int .i64 t.why] 34)).alloc (.cells #[.int .i64 0, .int .i64 0, .int .i64 0, .slice none 0 0, .slice none 0 0, .slice none 0 0, .slice none 0 0, .slice none 0 0, .slice none 0 0, .int .i64 0, .int .i64 0] 41))) := Lib.hid (bl_alloc (bl_alloc (Below.refl _ _) _) _)
  have HK1 : Hid (Blk ((w.alloc (.cells #[.int .i64 t.who, .int .i64 t.snap, .int .i64 t.pc, .slice xR t.regs.length xrc, .slice xP t.path.length xpc, .slice xD t.reads.length xdc, .slice xL t.log.list.length xlc, .slice xM t.log.marks.length xmc, .slice xF xfl.length xfc, .int .i64 t.kind, .int .i64 t.why] 34)).alloc (.cells #[.int .i64 0, .int .i64 0, .int .i64 0, .slice none 0 0, .slice none 0 0, .slice none 0 0, .slice none 0 0, .slice none 0 0, .slice none 0 0, .int .i64 0, .int .i64 0] 41)) w.heap.size 34 #[.int .i64 t.who, .int .i64 t.snap, .int .i64 t.pc, .slice xR t.regs.length xrc, .slice xP t.path.length xpc, .slice xD t.reads.length xdc, .slice xL t.log.list.length xlc, .slice xM t.log.marks.length xmc, .slice xF xfl.length xfc, .int .i64 t.kind, .int .i64 t.why]) := Lib.hid ((Blk.new w _ _).alloc _)
  have HK2 : Hid (Blk ((w.alloc (.cells #[.int .i64 t.who, .int .i64 t.snap, .int .i64 t.pc, .slice xR t.regs.length xrc, .slice xP t.path.length xpc, .slice xD t.reads.length xdc, .slice xL t.log.list.length xlc, .slice xM t.log.marks.length xmc, .slice xF xfl.length xfc, .int .i64 t.kind, .int .i64 t.why] 34)).alloc (.cells #[.int .i64 0, .int .i64 0, .int .i64 0, .slice none 0 0, .slice none 0 0, .slice none 0 0, .slice none 0 0, .slice none 0 0, .slice none 0 0, .int .i64 0, .int .i64 0] 41)) (w.heap.size + 1) 41 #[.int .i64 0, .int .i64 0, .int .i64 0, .slice none 0 0, .slice none 0 0, .slice none 0 0, .slice none 0 0, .slice none 0 0, .slice none 0 0, .int .i64 0, .int .i64 0]) := Lib.hid (by have := Blk.new (w.alloc (.cells #[.int .i64 t.who, .int .i64 t.snap, .int .i64 t.pc, .slice xR t.regs.length xrc, .slice xP t.path.length xpc, .slice xD t.reads.length xdc, .slice xL t.log.list.length xlc, .slice xM t.log.marks.length xmc, .slice xF xfl.length xfc, .int .i64 t.kind, .int .i64 t.why] 34)) 41 #[.int .i64 0, .int .i64 0, .int .i64 0, .slice none 0 0, .slice none 0 0, .slice none 0 0, .slice none 0 0, .slice none 0 0, .slice none 0 0, .int .i64 0, .int .i64 0]; simpa using this)
  have HSZ : Hid (((w.alloc (.cells #[.int .i64 t.who, .int .i64 t.snap, .int .i64 t.pc, .slice xR t.regs.length xrc, .slice xP t.path.length xpc, .slice xD t.reads.length xdc, .slice xL t.log.list.length xlc, .slice xM t.log.marks.length xmc, .slice xF xfl.length xfc, .int .i64 t.kind, .int .i64 t.why] 34)).alloc (.cells #[.int .i64 0, .int .i64 0, .int .i64 0, .slice none 0 0, .slice none 0 0, .slice none 0 0, .slice none 0 0, .slice none 0 0, .slice none 0 0, .int .i64 0, .int .i64 0] 41)).heap.size = w.heap.size + 2) := Lib.hid (by simp)
  clear h hm hPQ hfr hmm
  show Calls Tryz.prog 16 #[.agg #[.int .i64 t.who, .int .i64 t.snap, .int .i64 t.pc, .slice xR t.regs.length xrc, .slice xP t.path.length xpc, .slice xD t.reads.length xdc, .slice xL t.log.list.length xlc, .slice xM t.log.marks.length xmc, .slice xF xfl.length xfc, .int .i64 t.kind, .int .i64 t.why]] w PQ
  go_enter Tryz.func16, Tryz.ntmps16
  go_wp2_with fail
  generalize ((w.alloc (.cells #[.int .i64 t.who, .int .i64 t.snap, .int .i64 t.pc, .slice xR t.regs.length xrc, .slice xP t.path.length xpc, .slice xD t.reads.length xdc, .slice xL t.log.list.length xlc, .slice xM t.log.marks.length xmc, .slice xF xfl.length xfc, .int .i64 t.kind, .int .i64 t.why] 34)).alloc (.cells #[.int .i64 0, .int .i64 0, .int .i64 0, .slice none 0 0, .slice none 0 0, .slice none 0 0, .slice none 0 0, .slice none 0 0, .slice none 0 0, .int .i64 0, .int .i64 0] 41)) = W1 at *
  have HKa := Lib.hid (HK1.out.below (Below.refl _ _).drew)
  have HRa := Lib.hid (HK2.out.below (Below.refl _ _).drew)
  have HBa := Lib.hid HB1.out.drew
  have HSZa : Hid (W1.drew.heap.size = w.heap.size + 2) := HSZ
  have f0 : (fun (W : World) => W.cell? ⟨w.heap.size, 0, none⟩ = some (.int .i64 t.who) ∧ W.cell? ⟨w.heap.size, 1, none⟩ = some (.int .i64 t.snap) ∧ W.cell? ⟨w.heap.size, 2, none⟩ = some (.int .i64 t.pc) ∧ W.cell? ⟨w.heap.size, 3, none⟩ = some (.slice xR t.regs.length xrc) ∧ W.cell? ⟨w.heap.size, 4, none⟩ = some (.slice xP t.path.length xpc) ∧ W.cell? ⟨w.heap.size, 5, none⟩ = some (.slice xD t.reads.length xdc) ∧ W.cell? ⟨w.heap.size, 6, none⟩ = some (.slice xL t.log.list.length xlc) ∧ W.cell? ⟨w.heap.size, 7, none⟩ = some (.slice xM t.log.marks.length xmc) ∧ W.cell? ⟨w.heap.size, 9, none⟩ = some (.int .i64 t.kind) ∧ W.cell? ⟨w.heap.size, 10, none⟩ = some (.int .i64 t.why)) W1.drew := ⟨HKa.out.cell 0 _ rfl, HKa.out.cell 1 _ rfl, HKa.out.cell 2 _ rfl, HKa.out.cell 3 _ rfl, HKa.out.cell 4 _ rfl, HKa.out.cell 5 _ rfl, HKa.out.cell 6 _ rfl, HKa.out.cell 7 _ rfl, HKa.out.cell 9 _ rfl, HKa.out.cell 10 _ rfl⟩
  refine wp_region_held_drew (S := fun (W : World) => W.cell? ⟨w.heap.size, 0, none⟩ = some (.int .i64 t.who) ∧ W.cell? ⟨w.heap.size, 1, none⟩ = some (.int .i64 t.snap) ∧ W.cell? ⟨w.heap.size, 2, none⟩ = some (.int .i64 t.pc) ∧ W.cell? ⟨w.heap.size, 3, none⟩ = some (.slice xR t.regs.length xrc) ∧ W.cell? ⟨w.heap.size, 4, none⟩ = some (.slice xP t.path.length xpc) ∧ W.cell? ⟨w.heap.size, 5, none⟩ = some (.slice xD t.reads.length xdc) ∧ W.cell? ⟨w.heap.size, 6, none⟩ = some (.slice xL t.log.list.length xlc) ∧ W.cell? ⟨w.heap.size, 7, none⟩ = some (.slice xM t.log.marks.length xmc) ∧ W.cell? ⟨w.heap.size, 9, none⟩ = some (.int .i64 t.kind) ∧ W.cell? ⟨w.heap.size, 10, none⟩ = some (.int .i64 t.why)) (by kernel_rfl) f0 (fun hH0 => ?_)
  clear f0
  generalize W1.drew = Wa at *
  refine wpAnyH_take (i := 0) (v := .pointer (some ⟨w.heap.size, 0, none⟩)) rfl (by kernel_rfl) (by kernel_rfl) (by kernel_rfl) (fun _ _ _ h => h) (Or.inl ⟨by rfl, fun W hS => by go_simp⟩) hH0 ?_
  try simp only [Act.put]
  try simp only [List.setIfInBounds_toArray]
  try simp only [List.set_cons_succ]
  try simp only [List.set_cons_zero]
  refine wpAnyH_take (i := 1) (v := .int .i64 t.who) rfl (by kernel_rfl) (by kernel_rfl) (by kernel_rfl) (fun _ _ _ h => h) (Or.inl ⟨by rfl, fun W hS => by obtain ⟨k0, k1, k2, k3, k4, k5, k6, k7, k9, k10⟩ := hS; go_simp⟩) hH0 ?_
  try simp only [Act.put]
  try simp only [List.setIfInBounds_toArray]
  try simp only [List.set_cons_succ]
  try simp only [List.set_cons_zero]
  refine wpAnyH_take (i := 2) (v := .pointer (some ⟨w.heap.size, 1, none⟩)) rfl (by kernel_rfl) (by kernel_rfl) (by kernel_rfl) (fun _ _ _ h => h) (Or.inl ⟨by rfl, fun W hS => by go_simp⟩) hH0 ?_
  try simp only [Act.put]
  try simp only [List.setIfInBounds_toArray]
  try simp only [List.set_cons_succ]
  try simp only [List.set_cons_zero]
  refine wpAnyH_take (i := 3) (v := .int .i64 t.snap) rfl (by kernel_rfl) (by kernel_rfl) (by kernel_rfl) (fun _ _ _ h => h) (Or.inl ⟨by rfl, fun W hS => by obtain ⟨k0, k1, k2, k3, k4, k5, k6, k7, k9, k10⟩ := hS; go_simp⟩) hH0 ?_
  try simp only [Act.put]
  try simp only [List.setIfInBounds_toArray]
  try simp only [List.set_cons_succ]
  try simp only [List.set_cons_zero]
  refine wpAnyH_take (i := 4) (v := .pointer (some ⟨w.heap.size, 2, none⟩)) rfl (by kernel_rfl) (by kernel_rfl) (by kernel_rfl) (fun _ _ _ h => h) (Or.inl ⟨by rfl, fun W hS => by go_simp⟩) hH0 ?_
  try simp only [Act.put]
  try simp only [List.setIfInBounds_toArray]
  try simp only [List.set_cons_succ]
  try simp only [List.set_cons_zero]
  refine wpAnyH_take (i := 5) (v := .int .i64 t.pc) rfl (by kernel_rfl) (by kernel_rfl) (by kernel_rfl) (fun _ _ _ h => h) (Or.inl ⟨by rfl, fun W hS => by obtain ⟨k0, k1, k2, k3, k4, k5, k6, k7, k9, k10⟩ := hS; go_simp⟩) hH0 ?_
  try simp only [Act.put]
  try simp only [List.setIfInBounds_toArray]
  try simp only [List.set_cons_succ]
  try simp only [List.set_cons_zero]
  refine wpAnyH_take (i := 6) (v := .pointer (some ⟨w.heap.size, 3, none⟩)) rfl (by kernel_rfl) (by kernel_rfl) (by kernel_rfl) (fun _ _ _ h => h) (Or.inl ⟨by rfl, fun W hS => by go_simp⟩) hH0 ?_
  try simp only [Act.put]
  try simp only [List.setIfInBounds_toArray]
  try simp only [List.set_cons_succ]
  try simp only [List.set_cons_zero]
  refine wpAnyH_take (i := 7) (v := .slice xR t.regs.length xrc) rfl (by kernel_rfl) (by kernel_rfl) (by kernel_rfl) (fun _ _ _ h => h) (Or.inl ⟨by rfl, fun W hS => by obtain ⟨k0, k1, k2, k3, k4, k5, k6, k7, k9, k10⟩ := hS; go_simp⟩) hH0 ?_
  try simp only [Act.put]
  try simp only [List.setIfInBounds_toArray]
  try simp only [List.set_cons_succ]
  try simp only [List.set_cons_zero]
  refine wpAnyH_take (i := 8) (v := .pointer (some ⟨w.heap.size, 4, none⟩)) rfl (by kernel_rfl) (by kernel_rfl) (by kernel_rfl) (fun _ _ _ h => h) (Or.inl ⟨by rfl, fun W hS => by go_simp⟩) hH0 ?_
  try simp only [Act.put]
  try simp only [List.setIfInBounds_toArray]
  try simp only [List.set_cons_succ]
  try simp only [List.set_cons_zero]
  refine wpAnyH_take (i := 9) (v := .slice xP t.path.length xpc) rfl (by kernel_rfl) (by kernel_rfl) (by kernel_rfl) (fun _ _ _ h => h) (Or.inl ⟨by rfl, fun W hS => by obtain ⟨k0, k1, k2, k3, k4, k5, k6, k7, k9, k10⟩ := hS; go_simp⟩) hH0 ?_
  try simp only [Act.put]
  try simp only [List.setIfInBounds_toArray]
  try simp only [List.set_cons_succ]
  try simp only [List.set_cons_zero]
  refine wpAnyH_take (i := 10) (v := .pointer (some ⟨w.heap.size, 5, none⟩)) rfl (by kernel_rfl) (by kernel_rfl) (by kernel_rfl) (fun _ _ _ h => h) (Or.inl ⟨by rfl, fun W hS => by go_simp⟩) hH0 ?_
  try simp only [Act.put]
  try simp only [List.setIfInBounds_toArray]
  try simp only [List.set_cons_succ]
  try simp only [List.set_cons_zero]
  refine wpAnyH_take (i := 11) (v := .slice xD t.reads.length xdc) rfl (by kernel_rfl) (by kernel_rfl) (by kernel_rfl) (fun _ _ _ h => h) (Or.inl ⟨by rfl, fun W hS => by obtain ⟨k0, k1, k2, k3, k4, k5, k6, k7, k9, k10⟩ := hS; go_simp⟩) hH0 ?_
  try simp only [Act.put]
  try simp only [List.setIfInBounds_toArray]
  try simp only [List.set_cons_succ]
  try simp only [List.set_cons_zero]
  refine wpAnyH_take (i := 12) (v := .pointer (some ⟨w.heap.size, 6, none⟩)) rfl (by kernel_rfl) (by kernel_rfl) (by kernel_rfl) (fun _ _ _ h => h) (Or.inl ⟨by rfl, fun W hS => by go_simp⟩) hH0 ?_
  try simp only [Act.put]
  try simp only [List.setIfInBounds_toArray]
  try simp only [List.set_cons_succ]
  try simp only [List.set_cons_zero]
  refine wpAnyH_take (i := 13) (v := .agg #[.slice xL t.log.list.length xlc, .slice xM t.log.marks.length xmc]) rfl (by kernel_rfl) (by kernel_rfl) (by kernel_rfl) (fun _ _ _ h => h) (Or.inl ⟨by rfl, fun W hS => by obtain ⟨k0, k1, k2, k3, k4, k5, k6, k7, k9, k10⟩ := hS; go_simp⟩) hH0 ?_
  try simp only [Act.put]
  try simp only [List.setIfInBounds_toArray]
  try simp only [List.set_cons_succ]
  try simp only [List.set_cons_zero]
  refine wpAnyH_take (i := 15) (v := .pointer (some ⟨w.heap.size, 9, none⟩)) rfl (by kernel_rfl) (by kernel_rfl) (by kernel_rfl) (fun _ _ _ h => h) (Or.inl ⟨by rfl, fun W hS => by go_simp⟩) hH0 ?_
  try simp only [Act.put]
  try simp only [List.setIfInBounds_toArray]
  try simp only [List.set_cons_succ]
  try simp only [List.set_cons_zero]
  refine wpAnyH_take (i := 16) (v := .int .i64 t.kind) rfl (by kernel_rfl) (by kernel_rfl) (by kernel_rfl) (fun _ _ _ h => h) (Or.inl ⟨by rfl, fun W hS => by obtain ⟨k0, k1, k2, k3, k4, k5, k6, k7, k9, k10⟩ := hS; go_simp⟩) hH0 ?_
  try simp only [Act.put]
  try simp only [List.setIfInBounds_toArray]
  try simp only [List.set_cons_succ]
  try simp only [List.set_cons_zero]
  refine wpAnyH_take (i := 17) (v := .pointer (some ⟨w.heap.size, 10, none⟩)) rfl (by kernel_rfl) (by kernel_rfl) (by kernel_rfl) (fun _ _ _ h => h) (Or.inl ⟨by rfl, fun W hS => by go_simp⟩) hH0 ?_
  try simp only [Act.put]
  try simp only [List.setIfInBounds_toArray]
  try simp only [List.set_cons_succ]
  try simp only [List.set_cons_zero]
  refine wpAnyH_take (i := 18) (v := .int .i64 t.why) rfl (by kernel_rfl) (by kernel_rfl) (by kernel_rfl) (fun _ _ _ h => h) (Or.inl ⟨by rfl, fun W hS => by obtain ⟨k0, k1, k2, k3, k4, k5, k6, k7, k9, k10⟩ := hS; go_simp⟩) hH0 ?_
  try simp only [Act.put]
  try simp only [List.setIfInBounds_toArray]
  try simp only [List.set_cons_succ]
  try simp only [List.set_cons_zero]
  refine wpAnyH_ready (rs := [14, 20]) (by kernel_rfl) (by simp) ?_
  refine AllReadyH.cons rfl (fun KK hK => ?_) (AllReadyH.cons rfl (fun KK hK => ?_) AllReadyH.nil)
  · refine calls_step2 (by rfl) 39 #[.agg #[.slice xL t.log.list.length xlc, .slice xM t.log.marks.length xmc]] _ (Writes.ref_c _ _ _ _ _ _ Wa) ?_ ?_
    · focus (go_simp; done)
    rintro e Wc ⟨rfl, b_⟩
    refine ⟨_, rfl, ?_⟩
    have HKc := Lib.hid (HKa.out.below b_)
    have HRc := Lib.hid (HRa.out.below b_)
    have HBc := Lib.hid (bl_trans HBa.out b_)
    have NWc : Hid (w.heap.size + 2 ≤ Wc.heap.size) := Lib.hid (by have h1 := b_.size; have h2 := HSZa.out; omega)
    clear b_
    have f1 : (fun (W : World) => W.cell? ⟨w.heap.size, 0, none⟩ = some (.int .i64 t.who) ∧ W.cell? ⟨w.heap.size, 1, none⟩ = some (.int .i64 t.snap) ∧ W.cell? ⟨w.heap.size, 2, none⟩ = some (.int .i64 t.pc) ∧ W.cell? ⟨w.heap.size, 3, none⟩ = some (.slice xR t.regs.length xrc) ∧ W.cell? ⟨w.heap.size, 4, none⟩ = some (.slice xP t.path.length xpc) ∧ W.cell? ⟨w.heap.size, 5, none⟩ = some (.slice xD t.reads.length xdc) ∧ W.cell? ⟨w.heap.size, 6, none⟩ = some (.slice xL t.log.list.length xlc) ∧ W.cell? ⟨w.heap.size, 7, none⟩ = some (.slice xM t.log.marks.length xmc) ∧ W.cell? ⟨w.heap.size, 9, none⟩ = some (.int .i64 t.kind) ∧ W.cell? ⟨w.heap.size, 10, none⟩ = some (.int .i64 t.why)) Wc := ⟨HKc.out.cell 0 _ rfl, HKc.out.cell 1 _ rfl, HKc.out.cell 2 _ rfl, HKc.out.cell 3 _ rfl, HKc.out.cell 4 _ rfl, HKc.out.cell 5 _ rfl, HKc.out.cell 6 _ rfl, HKc.out.cell 7 _ rfl, HKc.out.cell 9 _ rfl, HKc.out.cell 10 _ rfl⟩
    refine hK.out _ _ f1 (fun hH1 => ?_)
    try simp only [Act.put]
    try simp only [List.setIfInBounds_toArray]
    try simp only [List.set_cons_succ]
    try simp only [List.set_cons_zero]
    clear hK KK
    refine wpAnyH_take (i := 19) (v := .agg #[.int .i64 t.who, .int .i64 t.snap, .int .i64 t.pc, .slice xR t.regs.length xrc, .slice xP t.path.length xpc, .slice xD t.reads.length xdc, .slice xL t.log.list.length xlc, .slice xM t.log.marks.length xmc, .slice none 0 0, .int .i64 t.kind, .int .i64 t.why]) rfl (by kernel_rfl) (by kernel_rfl) (by kernel_rfl) (fun _ _ _ h => h) (Or.inl ⟨by rfl, fun W hS => by go_simp⟩) hH1 ?_
    try simp only [Act.put]
    try simp only [List.setIfInBounds_toArray]
    try simp only [List.set_cons_succ]
    try simp only [List.set_cons_zero]
    refine wpAnyH_ready (rs := [20]) (by kernel_rfl) (by simp) ?_
    refine AllReadyH.cons rfl (fun KK hK => ?_) AllReadyH.nil
    go_simp
    have f2 : (fun (W : World) => W.cell? ⟨w.heap.size, 0, none⟩ = some (.int .i64 t.who) ∧ W.cell? ⟨w.heap.size, 1, none⟩ = some (.int .i64 t.snap) ∧ W.cell? ⟨w.heap.size, 2, none⟩ = some (.int .i64 t.pc) ∧ W.cell? ⟨w.heap.size, 3, none⟩ = some (.slice xR t.regs.length xrc) ∧ W.cell? ⟨w.heap.size, 4, none⟩ = some (.slice xP t.path.length xpc) ∧ W.cell? ⟨w.heap.size, 5, none⟩ = some (.slice xD t.reads.length xdc) ∧ W.cell? ⟨w.heap.size, 6, none⟩ = some (.slice xL t.log.list.length xlc) ∧ W.cell? ⟨w.heap.size, 7, none⟩ = some (.slice xM t.log.marks.length xmc) ∧ W.cell? ⟨w.heap.size, 9, none⟩ = some (.int .i64 t.kind) ∧ W.cell? ⟨w.heap.size, 10, none⟩ = some (.int .i64 t.why)) (Wc.alloc (.cells #[.int .i64 0, .int .i64 0, .int .i64 0, .slice none 0 0, .slice none 0 0, .slice none 0 0, .slice none 0 0, .slice none 0 0, .slice none 0 0, .int .i64 0, .int .i64 0] 41)) := ⟨(HKc.out.alloc (.cells #[.int .i64 0, .int .i64 0, .int .i64 0, .slice none 0 0, .slice none 0 0, .slice none 0 0, .slice none 0 0, .slice none 0 0, .slice none 0 0, .int .i64 0, .int .i64 0] 41)).cell 0 _ rfl, (HKc.out.alloc (.cells #[.int .i64 0, .int .i64 0, .int .i64 0, .slice none 0 0, .slice none 0 0, .slice none 0 0, .slice none 0 0, .slice none 0 0, .slice none 0 0, .int .i64 0, .int .i64 0] 41)).cell 1 _ rfl, (HKc.out.alloc (.cells #[.int .i64 0, .int .i64 0, .int .i64 0, .slice none 0 0, .slice none 0 0, .slice none 0 0, .slice none 0 0, .slice none 0 0, .slice none 0 0, .int .i64 0, .int .i64 0] 41)).cell 2 _ rfl, (HKc.out.alloc (.cells #[.int .i64 0, .int .i64 0, .int .i64 0, .slice none 0 0, .slice none 0 0, .slice none 0 0, .slice none 0 0, .slice none 0 0, .slice none 0 0, .int .i64 0, .int .i64 0] 41)).cell 3 _ rfl, (HKc.out.alloc (.cells #[.int .i64 0, .int .i64 0, .int .i64 0, .slice none 0 0, .slice none 0 0, .slice none 0 0, .slice none 0 0, .slice none 0 0, .slice none 0 0, .int .i64 0, .int .i64 0] 41)).cell 4 _ rfl, (HKc.out.alloc (.cells #[.int .i64 0, .int .i64 0, .int .i64 0, .slice none 0 0, .slice none 0 0, .slice none 0 0, .slice none 0 0, .slice none 0 0, .slice none 0 0, .int .i64 0, .int .i64 0] 41)).cell 5 _ rfl, (HKc.out.alloc (.cells #[.int .i64 0, .int .i64 0, .int .i64 0, .slice none 0 0, .slice none 0 0, .slice none 0 0, .slice none 0 0, .slice none 0 0, .slice none 0 0, .int .i64 0, .int .i64 0] 41)).cell 6 _ rfl, (HKc.out.alloc (.cells #[.int .i64 0, .int .i64 0, .int .i64 0, .slice none 0 0, .slice none 0 0, .slice none 0 0, .slice none 0 0, .slice none 0 0, .slice none 0 0, .int .i64 0, .int .i64 0] 41)).cell 7 _ rfl, (HKc.out.alloc (.cells #[.int .i64 0, .int .i64 0, .int .i64 0, .slice none 0 0, .slice none 0 0, .slice none 0 0, .slice none 0 0, .slice none 0 0, .slice none 0 0, .int .i64 0, .int .i64 0] 41)).cell 9 _ rfl, (HKc.out.alloc (.cells #[.int .i64 0, .int .i64 0, .int .i64 0, .slice none 0 0, .slice none 0 0, .slice none 0 0, .slice none 0 0, .slice none 0 0, .slice none 0 0, .int .i64 0, .int .i64 0] 41)).cell 10 _ rfl⟩
    refine hK.out _ _ f2 (fun hH2 => ?_)
    try simp only [Act.put]
    try simp only [List.setIfInBounds_toArray]
    try simp only [List.set_cons_succ]
    try simp only [List.set_cons_zero]
    clear hK KK
    have HZ : Hid (Blk (Wc.alloc (.cells #[.int .i64 0, .int .i64 0, .int .i64 0, .slice none 0 0, .slice none 0 0, .slice none 0 0, .slice none 0 0, .slice none 0 0, .slice none 0 0, .int .i64 0, .int .i64 0] 41)) Wc.heap.size 41 #[.int .i64 0, .int .i64 0, .int .i64 0, .slice none 0 0, .slice none 0 0, .slice none 0 0, .slice none 0 0, .slice none 0 0, .slice none 0 0, .int .i64 0, .int .i64 0]) := Lib.hid (Blk.new _ _ _)
    replace HKc := Lib.hid (HKc.out.alloc (.cells #[.int .i64 0, .int .i64 0, .int .i64 0, .slice none 0 0, .slice none 0 0, .slice none 0 0, .slice none 0 0, .slice none 0 0, .slice none 0 0, .int .i64 0, .int .i64 0] 41))
    replace HRc := Lib.hid (HRc.out.alloc (.cells #[.int .i64 0, .int .i64 0, .int .i64 0, .slice none 0 0, .slice none 0 0, .slice none 0 0, .slice none 0 0, .slice none 0 0, .slice none 0 0, .int .i64 0, .int .i64 0] 41))
    replace HBc := Lib.hid (bl_alloc HBc.out (.cells #[.int .i64 0, .int .i64 0, .int .i64 0, .slice none 0 0, .slice none 0 0, .slice none 0 0, .slice none 0 0, .slice none 0 0, .slice none 0 0, .int .i64 0, .int .i64 0] 41))
    have NWG0 : Hid (w.heap.size + 2 ≤ Wc.heap.size) := NWc
    generalize (Wc.alloc (.cells #[.int .i64 0, .int .i64 0, .int .i64 0, .slice none 0 0, .slice none 0 0, .slice none 0 0, .slice none 0 0, .slice none 0 0, .slice none 0 0, .int .i64 0, .int .i64 0] 41)) = Wd at *
    generalize Wc.heap.size = g3 at *
    have z0 := HZ.out.cell 0 _ rfl
    have z1 := HZ.out.cell 1 _ rfl
    have z2 := HZ.out.cell 2 _ rfl
    have z3 := HZ.out.cell 3 _ rfl
    have z4 := HZ.out.cell 4 _ rfl
    have z5 := HZ.out.cell 5 _ rfl
    have z6 := HZ.out.cell 6 _ rfl
    have z7 := HZ.out.cell 7 _ rfl
    have z8 := HZ.out.cell 8 _ rfl
    have z9 := HZ.out.cell 9 _ rfl
    have z10 := HZ.out.cell 10 _ rfl
    have zf0 := HZ.out.frozen 0
    have zf1 := HZ.out.frozen 1
    have zf2 := HZ.out.frozen 2
    have zf3 := HZ.out.frozen 3
    have zf4 := HZ.out.frozen 4
    have zf5 := HZ.out.frozen 5
    have zf6 := HZ.out.frozen 6
    have zf7 := HZ.out.frozen 7
    have zf8 := HZ.out.frozen 8
    have zf9 := HZ.out.frozen 9
    have zf10 := HZ.out.frozen 10
    have hge := NWG0.out
    have HOq : Hid (Blk (((((((((((Wd.setCell ⟨g3, 0, none⟩ (.int .i64 t.who)).setCell ⟨g3, 1, none⟩ (.int .i64 t.snap)).setCell ⟨g3, 2, none⟩ (.int .i64 t.pc)).setCell ⟨g3, 3, none⟩ (.slice xR t.regs.length xrc)).setCell ⟨g3, 4, none⟩ (.slice xP t.path.length xpc)).setCell ⟨g3, 5, none⟩ (.slice xD t.reads.length xdc)).setCell ⟨g3, 6, none⟩ (.slice xL t.log.list.length xlc)).setCell ⟨g3, 7, none⟩ (.slice xM t.log.marks.length xmc)).setCell ⟨g3, 8, none⟩ (.slice none 0 0)).setCell ⟨g3, 9, none⟩ (.int .i64 t.kind)).setCell ⟨g3, 10, none⟩ (.int .i64 t.why)) g3 41 #[.int .i64 t.who, .int .i64 t.snap, .int .i64 t.pc, .slice xR t.regs.length xrc, .slice xP t.path.length xpc, .slice xD t.reads.length xdc, .slice xL t.log.list.length xlc, .slice xM t.log.marks.length xmc, .slice none 0 0, .int .i64 t.kind, .int .i64 t.why]) := Lib.hid (fill_blk HZ.out)
    have HOnq := fill_only Wd g3 (.int .i64 t.who) (.int .i64 t.snap) (.int .i64 t.pc) (.slice xR t.regs.length xrc) (.slice xP t.path.length xpc) (.slice xD t.reads.length xdc) (.slice xL t.log.list.length xlc) (.slice xM t.log.marks.length xmc) (.slice none 0 0) (.int .i64 t.kind) (.int .i64 t.why)
    have HKq := Lib.hid (HOnq.blk HKc.out (by omega))
    have HRq := Lib.hid (HOnq.blk HRc.out (by omega))
    have HBq : Hid (Below w.heap.size w (((((((((((Wd.setCell ⟨g3, 0, none⟩ (.int .i64 t.who)).setCell ⟨g3, 1, none⟩ (.int .i64 t.snap)).setCell ⟨g3, 2, none⟩ (.int .i64 t.pc)).setCell ⟨g3, 3, none⟩ (.slice xR t.regs.length xrc)).setCell ⟨g3, 4, none⟩ (.slice xP t.path.length xpc)).setCell ⟨g3, 5, none⟩ (.slice xD t.reads.length xdc)).setCell ⟨g3, 6, none⟩ (.slice xL t.log.list.length xlc)).setCell ⟨g3, 7, none⟩ (.slice xM t.log.marks.length xmc)).setCell ⟨g3, 8, none⟩ (.slice none 0 0)).setCell ⟨g3, 9, none⟩ (.int .i64 t.kind)).setCell ⟨g3, 10, none⟩ (.int .i64 t.why))) := Lib.hid (HBc.out.trans (HOnq.below HBc.out.size (fun k hk e => by omega)))
    have f3 : (fun (W : World) => W.cell? ⟨w.heap.size, 0, none⟩ = some (.int .i64 t.who) ∧ W.cell? ⟨w.heap.size, 1, none⟩ = some (.int .i64 t.snap) ∧ W.cell? ⟨w.heap.size, 2, none⟩ = some (.int .i64 t.pc) ∧ W.cell? ⟨w.heap.size, 3, none⟩ = some (.slice xR t.regs.length xrc) ∧ W.cell? ⟨w.heap.size, 4, none⟩ = some (.slice xP t.path.length xpc) ∧ W.cell? ⟨w.heap.size, 5, none⟩ = some (.slice xD t.reads.length xdc) ∧ W.cell? ⟨w.heap.size, 6, none⟩ = some (.slice xL t.log.list.length xlc) ∧ W.cell? ⟨w.heap.size, 7, none⟩ = some (.slice xM t.log.marks.length xmc) ∧ W.cell? ⟨w.heap.size, 9, none⟩ = some (.int .i64 t.kind) ∧ W.cell? ⟨w.heap.size, 10, none⟩ = some (.int .i64 t.why)) (((((((((((Wd.setCell ⟨g3, 0, none⟩ (.int .i64 t.who)).setCell ⟨g3, 1, none⟩ (.int .i64 t.snap)).setCell ⟨g3, 2, none⟩ (.int .i64 t.pc)).setCell ⟨g3, 3, none⟩ (.slice xR t.regs.length xrc)).setCell ⟨g3, 4, none⟩ (.slice xP t.path.length xpc)).setCell ⟨g3, 5, none⟩ (.slice xD t.reads.length xdc)).setCell ⟨g3, 6, none⟩ (.slice xL t.log.list.length xlc)).setCell ⟨g3, 7, none⟩ (.slice xM t.log.marks.length xmc)).setCell ⟨g3, 8, none⟩ (.slice none 0 0)).setCell ⟨g3, 9, none⟩ (.int .i64 t.kind)).setCell ⟨g3, 10, none⟩ (.int .i64 t.why)) := ⟨HKq.out.cell 0 _ rfl, HKq.out.cell 1 _ rfl, HKq.out.cell 2 _ rfl, HKq.out.cell 3 _ rfl, HKq.out.cell 4 _ rfl, HKq.out.cell 5 _ rfl, HKq.out.cell 6 _ rfl, HKq.out.cell 7 _ rfl, HKq.out.cell 9 _ rfl, HKq.out.cell 10 _ rfl⟩
    refine wpAnyH_ready (rs := [21]) (by kernel_rfl) (by simp) ?_
    refine AllReadyH.cons rfl (fun KK hK => ?_) AllReadyH.nil
    go_simp
    refine hK.out _ _ f3 (fun _ => ?_)
    clear hK KK
    refine wpAnyH_done (by kernel_rfl) ?_ _
    clear z0 zf0 z1 zf1 z2 zf2 z3 zf3 z4 zf4 z5 zf5 z6 zf6 z7 zf7 z8 zf8 z9 zf9 z10 zf10 f3 HOnq
    generalize (((((((((((Wd.setCell ⟨g3, 0, none⟩ (.int .i64 t.who)).setCell ⟨g3, 1, none⟩ (.int .i64 t.snap)).setCell ⟨g3, 2, none⟩ (.int .i64 t.pc)).setCell ⟨g3, 3, none⟩ (.slice xR t.regs.length xrc)).setCell ⟨g3, 4, none⟩ (.slice xP t.path.length xpc)).setCell ⟨g3, 5, none⟩ (.slice xD t.reads.length xdc)).setCell ⟨g3, 6, none⟩ (.slice xL t.log.list.length xlc)).setCell ⟨g3, 7, none⟩ (.slice xM t.log.marks.length xmc)).setCell ⟨g3, 8, none⟩ (.slice none 0 0)).setCell ⟨g3, 9, none⟩ (.int .i64 t.kind)).setCell ⟨g3, 10, none⟩ (.int .i64 t.why)) = Wq at *
    have NWG : Hid (w.heap.size ≤ g3) := Lib.hid (by omega)
    have NKG : Hid (¬ w.heap.size = g3) := Lib.hid (by omega)
    have NRG : Hid (¬ w.heap.size + 1 = g3) := Lib.hid (by omega)
    have c8 := HKq.out.cell 8 _ rfl
    rw [HMM.out] at c8
    go_wp2_with fail
    clear c8
    go_loopw [29] (fun i wr => ∃ (k : Nat) (F : Option Addr) (fc : Nat), k ≤ m ∧ i = .int .i64 k ∧ Hid (Blk wr g3 41 #[.int .i64 t.who, .int .i64 t.snap, .int .i64 t.pc, .slice xR t.regs.length xrc, .slice xP t.path.length xpc, .slice xD t.reads.length xdc, .slice xL t.log.list.length xlc, .slice xM t.log.marks.length xmc, .slice F k fc, .int .i64 t.kind, .int .i64 t.why]) ∧ Hid (Own w wr 98 4 (.slice F k fc) k (frs (xfl.take k))) ∧ Hid ((Value.slice F k fc).ownBlock ≠ some g3) ∧ Hid ((Value.slice F k fc).ownBlock ≠ some (w.heap.size + 1)) ∧ Hid (Below w.heap.size w wr) ∧ Hid (Blk wr (w.heap.size + 1) 41 #[.int .i64 0, .int .i64 0, .int .i64 0, .slice none 0 0, .slice none 0 0, .slice none 0 0, .slice none 0 0, .slice none 0 0, .slice none 0 0, .int .i64 0, .int .i64 0])) (fun i _ => m - (intOf i).toNat)
    case atStart => exact ⟨0, none, 0, Nat.zero_le _, rfl, HOq, Lib.hid (Own.nil_ HBq.out), Lib.hid (fun e => by cases e), Lib.hid (fun e => by cases e), HBq, HRq⟩
    case round =>
      obtain ⟨k, F, fc, hk, rfl, HB8, HOw, HN3, HN2, bb, HR8⟩ := hrel
      generalize wr = wa at *
      by_cases hlt : k < m
      · obtain ⟨b, off, r, hFF, hr, q0, q1, q2, q3⟩ := at_frame (HFR.out.below bb.out) k (by rw [HMM.out]; exact hlt)
        subst hFF
        have HT : Hid (frs (xfl.take k) ++ frc r = frs (xfl.take (k + 1))) := Lib.hid (by unfold frs; rw [flat_take xfl k r hr])
        clear hr
        have k8 := (HB8.out.alloc (.cells #[.int .i64 r.f.mid, .int .i64 r.f.fin, .int .i64 r.f.long, .slice r.A r.f.regs.length r.c] 100)).cell 8 _ rfl
        go_wp2_with (at_builtin; refine append_moved rfl _ _ 39 rfl tFrameR w (.slice F k fc) k (frs (xfl.take k)) rfl ((HOw.out.alloc _).alloc _) _ 1 1 (frc r) rfl (Rd.builtAt _ 4 1 (frc r) _ rfl (by simp)) (frc_one r) (by omega) (by omega) (by decide) ?_; intro v' w' hown' hmv; obtain ⟨F2, fc2, rfl, -, -⟩ := own_room hown'; have HMV := Lib.hid hmv; have HB9 := Lib.hid (hmv.blk ((HB8.out.alloc _).alloc _) HN3.out); have HR9 := Lib.hid (hmv.blk ((HR8.out.alloc _).alloc _) HN2.out); have HNV3 : Hid ((Value.slice F2 (k + 1) fc2).ownBlock ≠ some g3) := Lib.hid (hmv.ne ((HB8.out.alloc _).alloc _).lt HN3.out); have HNV2 : Hid ((Value.slice F2 (k + 1) fc2).ownBlock ≠ some (w.heap.size + 1)) := Lib.hid (hmv.ne ((HR8.out.alloc _).alloc _).lt HN2.out); have HOV := Lib.hid hown'; have y8 := HB9.out.cell 8 _ rfl; have yf := HB9.out.frozen 8; clear hown' hmv)
        clear y8 yf k8
        go_roundw
        case rel => exact ⟨k + 1, F2, fc2, by omega, by go_num, Lib.hid (HB9.out.set_ 8 (.slice F2 (k + 1) fc2)), Lib.hid (by rw [← HT.out]; exact HOV.out.set_ne (g := g3) NWG.out HNV3.out 8 _), HNV3, HNV2, Lib.hid (bl_set HOV.out.2 (p := ⟨g3, 8, none⟩) NWG.out _), Lib.hid ((Only.set_ (S := fun k => k = g3) (w := w') g3 8 (.slice F2 (k + 1) fc2) rfl).blk HR9.out NRG.out)⟩
        case measure => simp [intOf]; omega
      · have hkm : k = m := by omega
        rw [hkm, List.take_of_length_le (by rw [HMM.out]; exact Nat.le_refl _)] at HOw
        rw [hkm] at HB8 HN3 HN2
        have d0 := HB8.out.cell 0 _ rfl
        have d1 := HB8.out.cell 1 _ rfl
        have d2 := HB8.out.cell 2 _ rfl
        have d3 := HB8.out.cell 3 _ rfl
        have d4 := HB8.out.cell 4 _ rfl
        have d5 := HB8.out.cell 5 _ rfl
        have d6 := HB8.out.cell 6 _ rfl
        have d7 := HB8.out.cell 7 _ rfl
        have d8 := HB8.out.cell 8 _ rfl
        have d9 := HB8.out.cell 9 _ rfl
        have d10 := HB8.out.cell 10 _ rfl
        have b0 := HR8.out.cell 0 _ rfl
        have b1 := HR8.out.cell 1 _ rfl
        have b2 := HR8.out.cell 2 _ rfl
        have b3 := HR8.out.cell 3 _ rfl
        have b4 := HR8.out.cell 4 _ rfl
        have b5 := HR8.out.cell 5 _ rfl
        have b6 := HR8.out.cell 6 _ rfl
        have b7 := HR8.out.cell 7 _ rfl
        have b8 := HR8.out.cell 8 _ rfl
        have b9 := HR8.out.cell 9 _ rfl
        have b10 := HR8.out.cell 10 _ rfl
        have bf0 := HR8.out.frozen 0
        have bf1 := HR8.out.frozen 1
        have bf2 := HR8.out.frozen 2
        have bf3 := HR8.out.frozen 3
        have bf4 := HR8.out.frozen 4
        have bf5 := HR8.out.frozen 5
        have bf6 := HR8.out.frozen 6
        have bf7 := HR8.out.frozen 7
        have bf8 := HR8.out.frozen 8
        have bf9 := HR8.out.frozen 9
        have bf10 := HR8.out.frozen 10
        go_wp2_with fail
        have HE : Hid (Blk (((((((((((wa.setCell ⟨w.heap.size + 1, 0, none⟩ (.int .i64 t.who)).setCell ⟨w.heap.size + 1, 1, none⟩ (.int .i64 t.snap)).setCell ⟨w.heap.size + 1, 2, none⟩ (.int .i64 t.pc)).setCell ⟨w.heap.size + 1, 3, none⟩ (.slice xR t.regs.length xrc)).setCell ⟨w.heap.size + 1, 4, none⟩ (.slice xP t.path.length xpc)).setCell ⟨w.heap.size + 1, 5, none⟩ (.slice xD t.reads.length xdc)).setCell ⟨w.heap.size + 1, 6, none⟩ (.slice xL t.log.list.length xlc)).setCell ⟨w.heap.size + 1, 7, none⟩ (.slice xM t.log.marks.length xmc)).setCell ⟨w.heap.size + 1, 8, none⟩ (.slice F m fc)).setCell ⟨w.heap.size + 1, 9, none⟩ (.int .i64 t.kind)).setCell ⟨w.heap.size + 1, 10, none⟩ (.int .i64 t.why)) (w.heap.size + 1) 41 #[.int .i64 t.who, .int .i64 t.snap, .int .i64 t.pc, .slice xR t.regs.length xrc, .slice xP t.path.length xpc, .slice xD t.reads.length xdc, .slice xL t.log.list.length xlc, .slice xM t.log.marks.length xmc, .slice F m fc, .int .i64 t.kind, .int .i64 t.why]) := Lib.hid (fill_blk HR8.out)
        have HOn : Hid (Only (fun k => k = w.heap.size + 1) wa (((((((((((wa.setCell ⟨w.heap.size + 1, 0, none⟩ (.int .i64 t.who)).setCell ⟨w.heap.size + 1, 1, none⟩ (.int .i64 t.snap)).setCell ⟨w.heap.size + 1, 2, none⟩ (.int .i64 t.pc)).setCell ⟨w.heap.size + 1, 3, none⟩ (.slice xR t.regs.length xrc)).setCell ⟨w.heap.size + 1, 4, none⟩ (.slice xP t.path.length xpc)).setCell ⟨w.heap.size + 1, 5, none⟩ (.slice xD t.reads.length xdc)).setCell ⟨w.heap.size + 1, 6, none⟩ (.slice xL t.log.list.length xlc)).setCell ⟨w.heap.size + 1, 7, none⟩ (.slice xM t.log.marks.length xmc)).setCell ⟨w.heap.size + 1, 8, none⟩ (.slice F m fc)).setCell ⟨w.heap.size + 1, 9, none⟩ (.int .i64 t.kind)).setCell ⟨w.heap.size + 1, 10, none⟩ (.int .i64 t.why))) := Lib.hid (fill_only wa (w.heap.size + 1) _ _ _ _ _ _ _ _ _ _ _)
        clear d0 b0 bf0 d1 b1 bf1 d2 b2 bf2 d3 b3 bf3 d4 b4 bf4 d5 b5 bf5 d6 b6 bf6 d7 b7 bf7 d8 b8 bf8 d9 b9 bf9 d10 b10 bf10
        generalize (((((((((((wa.setCell ⟨w.heap.size + 1, 0, none⟩ (.int .i64 t.who)).setCell ⟨w.heap.size + 1, 1, none⟩ (.int .i64 t.snap)).setCell ⟨w.heap.size + 1, 2, none⟩ (.int .i64 t.pc)).setCell ⟨w.heap.size + 1, 3, none⟩ (.slice xR t.regs.length xrc)).setCell ⟨w.heap.size + 1, 4, none⟩ (.slice xP t.path.length xpc)).setCell ⟨w.heap.size + 1, 5, none⟩ (.slice xD t.reads.length xdc)).setCell ⟨w.heap.size + 1, 6, none⟩ (.slice xL t.log.list.length xlc)).setCell ⟨w.heap.size + 1, 7, none⟩ (.slice xM t.log.marks.length xmc)).setCell ⟨w.heap.size + 1, 8, none⟩ (.slice F m fc)).setCell ⟨w.heap.size + 1, 9, none⟩ (.int .i64 t.kind)).setCell ⟨w.heap.size + 1, 10, none⟩ (.int .i64 t.why)) = wE at *
        have r0 := HE.out.cell 0 _ rfl
        have r1 := HE.out.cell 1 _ rfl
        have r2 := HE.out.cell 2 _ rfl
        have r3 := HE.out.cell 3 _ rfl
        have r4 := HE.out.cell 4 _ rfl
        have r5 := HE.out.cell 5 _ rfl
        have r6 := HE.out.cell 6 _ rfl
        have r7 := HE.out.cell 7 _ rfl
        have r8 := HE.out.cell 8 _ rfl
        have r9 := HE.out.cell 9 _ rfl
        have r10 := HE.out.cell 10 _ rfl
        refine bodyPost_ret (v := .agg #[.int .i64 t.who, .int .i64 t.snap, .int .i64 t.pc, .slice xR t.regs.length xrc, .slice xP t.path.length xpc, .slice xD t.reads.length xdc, .slice xL t.log.list.length xlc, .slice xM t.log.marks.length xmc, .slice F m fc, .int .i64 t.kind, .int .i64 t.why]) (by simp [results, Tryz.results16, go_sem, r0, r1, r2, r3, r4, r5, r6, r7, r8, r9, r10]) rfl ?_
        have hown := Own.only1 HOw.out HOn.out (fun b hb e => HN2.out (by rw [hb, e])) (fun b e => by omega)
        have hbel : Below w.heap.size w wE := bb.out.trans (HOn.out.below bb.out.size (fun k hk e => by omega))
        rw [← HPQ.out]
        have hmx := HMM.out
        subst hmx
        exact ⟨F, fc, rfl, hown, hbel⟩
  · go_simp
    have f1 : (fun (W : World) => W.cell? ⟨w.heap.size, 0, none⟩ = some (.int .i64 t.who) ∧ W.cell? ⟨w.heap.size, 1, none⟩ = some (.int .i64 t.snap) ∧ W.cell? ⟨w.heap.size, 2, none⟩ = some (.int .i64 t.pc) ∧ W.cell? ⟨w.heap.size, 3, none⟩ = some (.slice xR t.regs.length xrc) ∧ W.cell? ⟨w.heap.size, 4, none⟩ = some (.slice xP t.path.length xpc) ∧ W.cell? ⟨w.heap.size, 5, none⟩ = some (.slice xD t.reads.length xdc) ∧ W.cell? ⟨w.heap.size, 6, none⟩ = some (.slice xL t.log.list.length xlc) ∧ W.cell? ⟨w.heap.size, 7, none⟩ = some (.slice xM t.log.marks.length xmc) ∧ W.cell? ⟨w.heap.size, 9, none⟩ = some (.int .i64 t.kind) ∧ W.cell? ⟨w.heap.size, 10, none⟩ = some (.int .i64 t.why)) (Wa.alloc (.cells #[.int .i64 0, .int .i64 0, .int .i64 0, .slice none 0 0, .slice none 0 0, .slice none 0 0, .slice none 0 0, .slice none 0 0, .slice none 0 0, .int .i64 0, .int .i64 0] 41)) := ⟨(HKa.out.alloc (.cells #[.int .i64 0, .int .i64 0, .int .i64 0, .slice none 0 0, .slice none 0 0, .slice none 0 0, .slice none 0 0, .slice none 0 0, .slice none 0 0, .int .i64 0, .int .i64 0] 41)).cell 0 _ rfl, (HKa.out.alloc (.cells #[.int .i64 0, .int .i64 0, .int .i64 0, .slice none 0 0, .slice none 0 0, .slice none 0 0, .slice none 0 0, .slice none 0 0, .slice none 0 0, .int .i64 0, .int .i64 0] 41)).cell 1 _ rfl, (HKa.out.alloc (.cells #[.int .i64 0, .int .i64 0, .int .i64 0, .slice none 0 0, .slice none 0 0, .slice none 0 0, .slice none 0 0, .slice none 0 0, .slice none 0 0, .int .i64 0, .int .i64 0] 41)).cell 2 _ rfl, (HKa.out.alloc (.cells #[.int .i64 0, .int .i64 0, .int .i64 0, .slice none 0 0, .slice none 0 0, .slice none 0 0, .slice none 0 0, .slice none 0 0, .slice none 0 0, .int .i64 0, .int .i64 0] 41)).cell 3 _ rfl, (HKa.out.alloc (.cells #[.int .i64 0, .int .i64 0, .int .i64 0, .slice none 0 0, .slice none 0 0, .slice none 0 0, .slice none 0 0, .slice none 0 0, .slice none 0 0, .int .i64 0, .int .i64 0] 41)).cell 4 _ rfl, (HKa.out.alloc (.cells #[.int .i64 0, .int .i64 0, .int .i64 0, .slice none 0 0, .slice none 0 0, .slice none 0 0, .slice none 0 0, .slice none 0 0, .slice none 0 0, .int .i64 0, .int .i64 0] 41)).cell 5 _ rfl, (HKa.out.alloc (.cells #[.int .i64 0, .int .i64 0, .int .i64 0, .slice none 0 0, .slice none 0 0, .slice none 0 0, .slice none 0 0, .slice none 0 0, .slice none 0 0, .int .i64 0, .int .i64 0] 41)).cell 6 _ rfl, (HKa.out.alloc (.cells #[.int .i64 0, .int .i64 0, .int .i64 0, .slice none 0 0, .slice none 0 0, .slice none 0 0, .slice none 0 0, .slice none 0 0, .slice none 0 0, .int .i64 0, .int .i64 0] 41)).cell 7 _ rfl, (HKa.out.alloc (.cells #[.int .i64 0, .int .i64 0, .int .i64 0, .slice none 0 0, .slice none 0 0, .slice none 0 0, .slice none 0 0, .slice none 0 0, .slice none 0 0, .int .i64 0, .int .i64 0] 41)).cell 9 _ rfl, (HKa.out.alloc (.cells #[.int .i64 0, .int .i64 0, .int .i64 0, .slice none 0 0, .slice none 0 0, .slice none 0 0, .slice none 0 0, .slice none 0 0, .slice none 0 0, .int .i64 0, .int .i64 0] 41)).cell 10 _ rfl⟩
    refine hK.out _ _ f1 (fun hH1 => ?_)
    try simp only [Act.put]
    try simp only [List.setIfInBounds_toArray]
    try simp only [List.set_cons_succ]
    try simp only [List.set_cons_zero]
    clear hK KK
    have HZb : Hid (Blk (Wa.alloc (.cells #[.int .i64 0, .int .i64 0, .int .i64 0, .slice none 0 0, .slice none 0 0, .slice none 0 0, .slice none 0 0, .slice none 0 0, .slice none 0 0, .int .i64 0, .int .i64 0] 41)) Wa.heap.size 41 #[.int .i64 0, .int .i64 0, .int .i64 0, .slice none 0 0, .slice none 0 0, .slice none 0 0, .slice none 0 0, .slice none 0 0, .slice none 0 0, .int .i64 0, .int .i64 0]) := Lib.hid (Blk.new _ _ _)
    have HKb := Lib.hid (HKa.out.alloc (.cells #[.int .i64 0, .int .i64 0, .int .i64 0, .slice none 0 0, .slice none 0 0, .slice none 0 0, .slice none 0 0, .slice none 0 0, .slice none 0 0, .int .i64 0, .int .i64 0] 41))
    have HRb := Lib.hid (HRa.out.alloc (.cells #[.int .i64 0, .int .i64 0, .int .i64 0, .slice none 0 0, .slice none 0 0, .slice none 0 0, .slice none 0 0, .slice none 0 0, .slice none 0 0, .int .i64 0, .int .i64 0] 41))
    have HBb := Lib.hid (bl_alloc HBa.out (.cells #[.int .i64 0, .int .i64 0, .int .i64 0, .slice none 0 0, .slice none 0 0, .slice none 0 0, .slice none 0 0, .slice none 0 0, .slice none 0 0, .int .i64 0, .int .i64 0] 41))
    generalize (Wa.alloc (.cells #[.int .i64 0, .int .i64 0, .int .i64 0, .slice none 0 0, .slice none 0 0, .slice none 0 0, .slice none 0 0, .slice none 0 0, .slice none 0 0, .int .i64 0, .int .i64 0] 41)) = Wb at *
    refine wpAnyH_ready (rs := [14]) (by kernel_rfl) (by simp) ?_
    refine AllReadyH.cons rfl (fun KK hK => ?_) AllReadyH.nil
    refine calls_step2 (by rfl) 39 #[.agg #[.slice xL t.log.list.length xlc, .slice xM t.log.marks.length xmc]] _ (Writes.ref_c _ _ _ _ _ _ Wb) ?_ ?_
    · focus (go_simp; done)
    rintro e Wc ⟨rfl, b_⟩
    refine ⟨_, rfl, ?_⟩
    have HKc := Lib.hid (HKb.out.below b_)
    have HRc := Lib.hid (HRb.out.below b_)
    have HBc := Lib.hid (bl_trans HBb.out b_)
    have HZ := Lib.hid (HZb.out.below b_)
    have NWG0 : Hid (w.heap.size + 2 ≤ Wa.heap.size) := Lib.hid (by have := HSZa.out; omega)
    clear b_
    have f2 : (fun (W : World) => W.cell? ⟨w.heap.size, 0, none⟩ = some (.int .i64 t.who) ∧ W.cell? ⟨w.heap.size, 1, none⟩ = some (.int .i64 t.snap) ∧ W.cell? ⟨w.heap.size, 2, none⟩ = some (.int .i64 t.pc) ∧ W.cell? ⟨w.heap.size, 3, none⟩ = some (.slice xR t.regs.length xrc) ∧ W.cell? ⟨w.heap.size, 4, none⟩ = some (.slice xP t.path.length xpc) ∧ W.cell? ⟨w.heap.size, 5, none⟩ = some (.slice xD t.reads.length xdc) ∧ W.cell? ⟨w.heap.size, 6, none⟩ = some (.slice xL t.log.list.length xlc) ∧ W.cell? ⟨w.heap.size, 7, none⟩ = some (.slice xM t.log.marks.length xmc) ∧ W.cell? ⟨w.heap.size, 9, none⟩ = some (.int .i64 t.kind) ∧ W.cell? ⟨w.heap.size, 10, none⟩ = some (.int .i64 t.why)) Wc := ⟨HKc.out.cell 0 _ rfl, HKc.out.cell 1 _ rfl, HKc.out.cell 2 _ rfl, HKc.out.cell 3 _ rfl, HKc.out.cell 4 _ rfl, HKc.out.cell 5 _ rfl, HKc.out.cell 6 _ rfl, HKc.out.cell 7 _ rfl, HKc.out.cell 9 _ rfl, HKc.out.cell 10 _ rfl⟩
    refine hK.out _ _ f2 (fun hH2 => ?_)
    try simp only [Act.put]
    try simp only [List.setIfInBounds_toArray]
    try simp only [List.set_cons_succ]
    try simp only [List.set_cons_zero]
    clear hK KK
    refine wpAnyH_take (i := 19) (v := .agg #[.int .i64 t.who, .int .i64 t.snap, .int .i64 t.pc, .slice xR t.regs.length xrc, .slice xP t.path.length xpc, .slice xD t.reads.length xdc, .slice xL t.log.list.length xlc, .slice xM t.log.marks.length xmc, .slice none 0 0, .int .i64 t.kind, .int .i64 t.why]) rfl (by kernel_rfl) (by kernel_rfl) (by kernel_rfl) (fun _ _ _ h => h) (Or.inl ⟨by rfl, fun W hS => by go_simp⟩) hH2 ?_
    try simp only [Act.put]
    try simp only [List.setIfInBounds_toArray]
    try simp only [List.set_cons_succ]
    try simp only [List.set_cons_zero]
    generalize Wa.heap.size = g3 at *
    have z0 := HZ.out.cell 0 _ rfl
    have z1 := HZ.out.cell 1 _ rfl
    have z2 := HZ.out.cell 2 _ rfl
    have z3 := HZ.out.cell 3 _ rfl
    have z4 := HZ.out.cell 4 _ rfl
    have z5 := HZ.out.cell 5 _ rfl
    have z6 := HZ.out.cell 6 _ rfl
    have z7 := HZ.out.cell 7 _ rfl
    have z8 := HZ.out.cell 8 _ rfl
    have z9 := HZ.out.cell 9 _ rfl
    have z10 := HZ.out.cell 10 _ rfl
    have zf0 := HZ.out.frozen 0
    have zf1 := HZ.out.frozen 1
    have zf2 := HZ.out.frozen 2
    have zf3 := HZ.out.frozen 3
    have zf4 := HZ.out.frozen 4
    have zf5 := HZ.out.frozen 5
    have zf6 := HZ.out.frozen 6
    have zf7 := HZ.out.frozen 7
    have zf8 := HZ.out.frozen 8
    have zf9 := HZ.out.frozen 9
    have zf10 := HZ.out.frozen 10
    have hge := NWG0.out
    have HOq : Hid (Blk (((((((((((Wc.setCell ⟨g3, 0, none⟩ (.int .i64 t.who)).setCell ⟨g3, 1, none⟩ (.int .i64 t.snap)).setCell ⟨g3, 2, none⟩ (.int .i64 t.pc)).setCell ⟨g3, 3, none⟩ (.slice xR t.regs.length xrc)).setCell ⟨g3, 4, none⟩ (.slice xP t.path.length xpc)).setCell ⟨g3, 5, none⟩ (.slice xD t.reads.length xdc)).setCell ⟨g3, 6, none⟩ (.slice xL t.log.list.length xlc)).setCell ⟨g3, 7, none⟩ (.slice xM t.log.marks.length xmc)).setCell ⟨g3, 8, none⟩ (.slice none 0 0)).setCell ⟨g3, 9, none⟩ (.int .i64 t.kind)).setCell ⟨g3, 10, none⟩ (.int .i64 t.why)) g3 41 #[.int .i64 t.who, .int .i64 t.snap, .int .i64 t.pc, .slice xR t.regs.length xrc, .slice xP t.path.length xpc, .slice xD t.reads.length xdc, .slice xL t.log.list.length xlc, .slice xM t.log.marks.length xmc, .slice none 0 0, .int .i64 t.kind, .int .i64 t.why]) := Lib.hid (fill_blk HZ.out)
    have HOnq := fill_only Wc g3 (.int .i64 t.who) (.int .i64 t.snap) (.int .i64 t.pc) (.slice xR t.regs.length xrc) (.slice xP t.path.length xpc) (.slice xD t.reads.length xdc) (.slice xL t.log.list.length xlc) (.slice xM t.log.marks.length xmc) (.slice none 0 0) (.int .i64 t.kind) (.int .i64 t.why)
    have HKq := Lib.hid (HOnq.blk HKc.out (by omega))
    have HRq := Lib.hid (HOnq.blk HRc.out (by omega))
    have HBq : Hid (Below w.heap.size w (((((((((((Wc.setCell ⟨g3, 0, none⟩ (.int .i64 t.who)).setCell ⟨g3, 1, none⟩ (.int .i64 t.snap)).setCell ⟨g3, 2, none⟩ (.int .i64 t.pc)).setCell ⟨g3, 3, none⟩ (.slice xR t.regs.length xrc)).setCell ⟨g3, 4, none⟩ (.slice xP t.path.length xpc)).setCell ⟨g3, 5, none⟩ (.slice xD t.reads.length xdc)).setCell ⟨g3, 6, none⟩ (.slice xL t.log.list.length xlc)).setCell ⟨g3, 7, none⟩ (.slice xM t.log.marks.length xmc)).setCell ⟨g3, 8, none⟩ (.slice none 0 0)).setCell ⟨g3, 9, none⟩ (.int .i64 t.kind)).setCell ⟨g3, 10, none⟩ (.int .i64 t.why))) := Lib.hid (HBc.out.trans (HOnq.below HBc.out.size (fun k hk e => by omega)))
    have f3 : (fun (W : World) => W.cell? ⟨w.heap.size, 0, none⟩ = some (.int .i64 t.who) ∧ W.cell? ⟨w.heap.size, 1, none⟩ = some (.int .i64 t.snap) ∧ W.cell? ⟨w.heap.size, 2, none⟩ = some (.int .i64 t.pc) ∧ W.cell? ⟨w.heap.size, 3, none⟩ = some (.slice xR t.regs.length xrc) ∧ W.cell? ⟨w.heap.size, 4, none⟩ = some (.slice xP t.path.length xpc) ∧ W.cell? ⟨w.heap.size, 5, none⟩ = some (.slice xD t.reads.length xdc) ∧ W.cell? ⟨w.heap.size, 6, none⟩ = some (.slice xL t.log.list.length xlc) ∧ W.cell? ⟨w.heap.size, 7, none⟩ = some (.slice xM t.log.marks.length xmc) ∧ W.cell? ⟨w.heap.size, 9, none⟩ = some (.int .i64 t.kind) ∧ W.cell? ⟨w.heap.size, 10, none⟩ = some (.int .i64 t.why)) (((((((((((Wc.setCell ⟨g3, 0, none⟩ (.int .i64 t.who)).setCell ⟨g3, 1, none⟩ (.int .i64 t.snap)).setCell ⟨g3, 2, none⟩ (.int .i64 t.pc)).setCell ⟨g3, 3, none⟩ (.slice xR t.regs.length xrc)).setCell ⟨g3, 4, none⟩ (.slice xP t.path.length xpc)).setCell ⟨g3, 5, none⟩ (.slice xD t.reads.length xdc)).setCell ⟨g3, 6, none⟩ (.slice xL t.log.list.length xlc)).setCell ⟨g3, 7, none⟩ (.slice xM t.log.marks.length xmc)).setCell ⟨g3, 8, none⟩ (.slice none 0 0)).setCell ⟨g3, 9, none⟩ (.int .i64 t.kind)).setCell ⟨g3, 10, none⟩ (.int .i64 t.why)) := ⟨HKq.out.cell 0 _ rfl, HKq.out.cell 1 _ rfl, HKq.out.cell 2 _ rfl, HKq.out.cell 3 _ rfl, HKq.out.cell 4 _ rfl, HKq.out.cell 5 _ rfl, HKq.out.cell 6 _ rfl, HKq.out.cell 7 _ rfl, HKq.out.cell 9 _ rfl, HKq.out.cell 10 _ rfl⟩
    refine wpAnyH_ready (rs := [21]) (by kernel_rfl) (by simp) ?_
    refine AllReadyH.cons rfl (fun KK hK => ?_) AllReadyH.nil
    go_simp
    refine hK.out _ _ f3 (fun _ => ?_)
    clear hK KK
    refine wpAnyH_done (by kernel_rfl) ?_ _
    clear z0 zf0 z1 zf1 z2 zf2 z3 zf3 z4 zf4 z5 zf5 z6 zf6 z7 zf7 z8 zf8 z9 zf9 z10 zf10 f3 HOnq
    generalize (((((((((((Wc.setCell ⟨g3, 0, none⟩ (.int .i64 t.who)).setCell ⟨g3, 1, none⟩ (.int .i64 t.snap)).setCell ⟨g3, 2, none⟩ (.int .i64 t.pc)).setCell ⟨g3, 3, none⟩ (.slice xR t.regs.length xrc)).setCell ⟨g3, 4, none⟩ (.slice xP t.path.length xpc)).setCell ⟨g3, 5, none⟩ (.slice xD t.reads.length xdc)).setCell ⟨g3, 6, none⟩ (.slice xL t.log.list.length xlc)).setCell ⟨g3, 7, none⟩ (.slice xM t.log.marks.length xmc)).setCell ⟨g3, 8, none⟩ (.slice none 0 0)).setCell ⟨g3, 9, none⟩ (.int .i64 t.kind)).setCell ⟨g3, 10, none⟩ (.int .i64 t.why)) = Wq at *
    have NWG : Hid (w.heap.size ≤ g3) := Lib.hid (by omega)
    have NKG : Hid (¬ w.heap.size = g3) := Lib.hid (by omega)
    have NRG : Hid (¬ w.heap.size + 1 = g3) := Lib.hid (by omega)
    have c8 := HKq.out.cell 8 _ rfl
    rw [HMM.out] at c8
    go_wp2_with fail
    clear c8
    go_loopw [29] (fun i wr => ∃ (k : Nat) (F : Option Addr) (fc : Nat), k ≤ m ∧ i = .int .i64 k ∧ Hid (Blk wr g3 41 #[.int .i64 t.who, .int .i64 t.snap, .int .i64 t.pc, .slice xR t.regs.length xrc, .slice xP t.path.length xpc, .slice xD t.reads.length xdc, .slice xL t.log.list.length xlc, .slice xM t.log.marks.length xmc, .slice F k fc, .int .i64 t.kind, .int .i64 t.why]) ∧ Hid (Own w wr 98 4 (.slice F k fc) k (frs (xfl.take k))) ∧ Hid ((Value.slice F k fc).ownBlock ≠ some g3) ∧ Hid ((Value.slice F k fc).ownBlock ≠ some (w.heap.size + 1)) ∧ Hid (Below w.heap.size w wr) ∧ Hid (Blk wr (w.heap.size + 1) 41 #[.int .i64 0, .int .i64 0, .int .i64 0, .slice none 0 0, .slice none 0 0, .slice none 0 0, .slice none 0 0, .slice none 0 0, .slice none 0 0, .int .i64 0, .int .i64 0])) (fun i _ => m - (intOf i).toNat)
    case atStart => exact ⟨0, none, 0, Nat.zero_le _, rfl, HOq, Lib.hid (Own.nil_ HBq.out), Lib.hid (fun e => by cases e), Lib.hid (fun e => by cases e), HBq, HRq⟩
    case round =>
      obtain ⟨k, F, fc, hk, rfl, HB8, HOw, HN3, HN2, bb, HR8⟩ := hrel
      generalize wr = wa at *
      by_cases hlt : k < m
      · obtain ⟨b, off, r, hFF, hr, q0, q1, q2, q3⟩ := at_frame (HFR.out.below bb.out) k (by rw [HMM.out]; exact hlt)
        subst hFF
        have HT : Hid (frs (xfl.take k) ++ frc r = frs (xfl.take (k + 1))) := Lib.hid (by unfold frs; rw [flat_take xfl k r hr])
        clear hr
        have k8 := (HB8.out.alloc (.cells #[.int .i64 r.f.mid, .int .i64 r.f.fin, .int .i64 r.f.long, .slice r.A r.f.regs.length r.c] 100)).cell 8 _ rfl
        go_wp2_with (at_builtin; refine append_moved rfl _ _ 39 rfl tFrameR w (.slice F k fc) k (frs (xfl.take k)) rfl ((HOw.out.alloc _).alloc _) _ 1 1 (frc r) rfl (Rd.builtAt _ 4 1 (frc r) _ rfl (by simp)) (frc_one r) (by omega) (by omega) (by decide) ?_; intro v' w' hown' hmv; obtain ⟨F2, fc2, rfl, -, -⟩ := own_room hown'; have HMV := Lib.hid hmv; have HB9 := Lib.hid (hmv.blk ((HB8.out.alloc _).alloc _) HN3.out); have HR9 := Lib.hid (hmv.blk ((HR8.out.alloc _).alloc _) HN2.out); have HNV3 : Hid ((Value.slice F2 (k + 1) fc2).ownBlock ≠ some g3) := Lib.hid (hmv.ne ((HB8.out.alloc _).alloc _).lt HN3.out); have HNV2 : Hid ((Value.slice F2 (k + 1) fc2).ownBlock ≠ some (w.heap.size + 1)) := Lib.hid (hmv.ne ((HR8.out.alloc _).alloc _).lt HN2.out); have HOV := Lib.hid hown'; have y8 := HB9.out.cell 8 _ rfl; have yf := HB9.out.frozen 8; clear hown' hmv)
        clear y8 yf k8
        go_roundw
        case rel => exact ⟨k + 1, F2, fc2, by omega, by go_num, Lib.hid (HB9.out.set_ 8 (.slice F2 (k + 1) fc2)), Lib.hid (by rw [← HT.out]; exact HOV.out.set_ne (g := g3) NWG.out HNV3.out 8 _), HNV3, HNV2, Lib.hid (bl_set HOV.out.2 (p := ⟨g3, 8, none⟩) NWG.out _), Lib.hid ((Only.set_ (S := fun k => k = g3) (w := w') g3 8 (.slice F2 (k + 1) fc2) rfl).blk HR9.out NRG.out)⟩
        case measure => simp [intOf]; omega
      · have hkm : k = m := by omega
        rw [hkm, List.take_of_length_le (by rw [HMM.out]; exact Nat.le_refl _)] at HOw
        rw [hkm] at HB8 HN3 HN2
        have d0 := HB8.out.cell 0 _ rfl
        have d1 := HB8.out.cell 1 _ rfl
        have d2 := HB8.out.cell 2 _ rfl
        have d3 := HB8.out.cell 3 _ rfl
        have d4 := HB8.out.cell 4 _ rfl
        have d5 := HB8.out.cell 5 _ rfl
        have d6 := HB8.out.cell 6 _ rfl
        have d7 := HB8.out.cell 7 _ rfl
        have d8 := HB8.out.cell 8 _ rfl
        have d9 := HB8.out.cell 9 _ rfl
        have d10 := HB8.out.cell 10 _ rfl
        have b0 := HR8.out.cell 0 _ rfl
        have b1 := HR8.out.cell 1 _ rfl
        have b2 := HR8.out.cell 2 _ rfl
        have b3 := HR8.out.cell 3 _ rfl
        have b4 := HR8.out.cell 4 _ rfl
        have b5 := HR8.out.cell 5 _ rfl
        have b6 := HR8.out.cell 6 _ rfl
        have b7 := HR8.out.cell 7 _ rfl
        have b8 := HR8.out.cell 8 _ rfl
        have b9 := HR8.out.cell 9 _ rfl
        have b10 := HR8.out.cell 10 _ rfl
        have bf0 := HR8.out.frozen 0
        have bf1 := HR8.out.frozen 1
        have bf2 := HR8.out.frozen 2
        have bf3 := HR8.out.frozen 3
        have bf4 := HR8.out.frozen 4
        have bf5 := HR8.out.frozen 5
        have bf6 := HR8.out.frozen 6
        have bf7 := HR8.out.frozen 7
        have bf8 := HR8.out.frozen 8
        have bf9 := HR8.out.frozen 9
        have bf10 := HR8.out.frozen 10
        go_wp2_with fail
        have HE : Hid (Blk (((((((((((wa.setCell ⟨w.heap.size + 1, 0, none⟩ (.int .i64 t.who)).setCell ⟨w.heap.size + 1, 1, none⟩ (.int .i64 t.snap)).setCell ⟨w.heap.size + 1, 2, none⟩ (.int .i64 t.pc)).setCell ⟨w.heap.size + 1, 3, none⟩ (.slice xR t.regs.length xrc)).setCell ⟨w.heap.size + 1, 4, none⟩ (.slice xP t.path.length xpc)).setCell ⟨w.heap.size + 1, 5, none⟩ (.slice xD t.reads.length xdc)).setCell ⟨w.heap.size + 1, 6, none⟩ (.slice xL t.log.list.length xlc)).setCell ⟨w.heap.size + 1, 7, none⟩ (.slice xM t.log.marks.length xmc)).setCell ⟨w.heap.size + 1, 8, none⟩ (.slice F m fc)).setCell ⟨w.heap.size + 1, 9, none⟩ (.int .i64 t.kind)).setCell ⟨w.heap.size + 1, 10, none⟩ (.int .i64 t.why)) (w.heap.size + 1) 41 #[.int .i64 t.who, .int .i64 t.snap, .int .i64 t.pc, .slice xR t.regs.length xrc, .slice xP t.path.length xpc, .slice xD t.reads.length xdc, .slice xL t.log.list.length xlc, .slice xM t.log.marks.length xmc, .slice F m fc, .int .i64 t.kind, .int .i64 t.why]) := Lib.hid (fill_blk HR8.out)
        have HOn : Hid (Only (fun k => k = w.heap.size + 1) wa (((((((((((wa.setCell ⟨w.heap.size + 1, 0, none⟩ (.int .i64 t.who)).setCell ⟨w.heap.size + 1, 1, none⟩ (.int .i64 t.snap)).setCell ⟨w.heap.size + 1, 2, none⟩ (.int .i64 t.pc)).setCell ⟨w.heap.size + 1, 3, none⟩ (.slice xR t.regs.length xrc)).setCell ⟨w.heap.size + 1, 4, none⟩ (.slice xP t.path.length xpc)).setCell ⟨w.heap.size + 1, 5, none⟩ (.slice xD t.reads.length xdc)).setCell ⟨w.heap.size + 1, 6, none⟩ (.slice xL t.log.list.length xlc)).setCell ⟨w.heap.size + 1, 7, none⟩ (.slice xM t.log.marks.length xmc)).setCell ⟨w.heap.size + 1, 8, none⟩ (.slice F m fc)).setCell ⟨w.heap.size + 1, 9, none⟩ (.int .i64 t.kind)).setCell ⟨w.heap.size + 1, 10, none⟩ (.int .i64 t.why))) := Lib.hid (fill_only wa (w.heap.size + 1) _ _ _ _ _ _ _ _ _ _ _)
        clear d0 b0 bf0 d1 b1 bf1 d2 b2 bf2 d3 b3 bf3 d4 b4 bf4 d5 b5 bf5 d6 b6 bf6 d7 b7 bf7 d8 b8 bf8 d9 b9 bf9 d10 b10 bf10
        generalize (((((((((((wa.setCell ⟨w.heap.size + 1, 0, none⟩ (.int .i64 t.who)).setCell ⟨w.heap.size + 1, 1, none⟩ (.int .i64 t.snap)).setCell ⟨w.heap.size + 1, 2, none⟩ (.int .i64 t.pc)).setCell ⟨w.heap.size + 1, 3, none⟩ (.slice xR t.regs.length xrc)).setCell ⟨w.heap.size + 1, 4, none⟩ (.slice xP t.path.length xpc)).setCell ⟨w.heap.size + 1, 5, none⟩ (.slice xD t.reads.length xdc)).setCell ⟨w.heap.size + 1, 6, none⟩ (.slice xL t.log.list.length xlc)).setCell ⟨w.heap.size + 1, 7, none⟩ (.slice xM t.log.marks.length xmc)).setCell ⟨w.heap.size + 1, 8, none⟩ (.slice F m fc)).setCell ⟨w.heap.size + 1, 9, none⟩ (.int .i64 t.kind)).setCell ⟨w.heap.size + 1, 10, none⟩ (.int .i64 t.why)) = wE at *
        have r0 := HE.out.cell 0 _ rfl
        have r1 := HE.out.cell 1 _ rfl
        have r2 := HE.out.cell 2 _ rfl
        have r3 := HE.out.cell 3 _ rfl
        have r4 := HE.out.cell 4 _ rfl
        have r5 := HE.out.cell 5 _ rfl
        have r6 := HE.out.cell 6 _ rfl
        have r7 := HE.out.cell 7 _ rfl
        have r8 := HE.out.cell 8 _ rfl
        have r9 := HE.out.cell 9 _ rfl
        have r10 := HE.out.cell 10 _ rfl
        refine bodyPost_ret (v := .agg #[.int .i64 t.who, .int .i64 t.snap, .int .i64 t.pc, .slice xR t.regs.length xrc, .slice xP t.path.length xpc, .slice xD t.reads.length xdc, .slice xL t.log.list.length xlc, .slice xM t.log.marks.length xmc, .slice F m fc, .int .i64 t.kind, .int .i64 t.why]) (by simp [results, Tryz.results16, go_sem, r0, r1, r2, r3, r4, r5, r6, r7, r8, r9, r10]) rfl ?_
        have hown := Own.only1 HOw.out HOn.out (fun b hb e => HN2.out (by rw [hb, e])) (fun b e => by omega)
        have hbel : Below w.heap.size w wE := bb.out.trans (HOn.out.below bb.out.size (fun k hk e => by omega))
        rw [← HPQ.out]
        have hmx := HMM.out
        subst hmx
        exact ⟨F, fc, rfl, hown, hbel⟩
end Go.Proofs.YtclbeboiojgejaaGreat.Attempt
