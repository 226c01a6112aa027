/-
  WHAT THE LAYER model DOES, AS IT IS WRITTEN: Store. No conditions beyond those that each theorem states.
-/
import Derived.Test.YtlmkhnjdifamgaaModelDo4
import Derived.Test.YtlmkhnjdifamgaaWritesA
namespace Go.Proofs.Ytlmkhnjdifamgaa.Model
open Go.ChangeShapes Go.WideShapes Go.ChangeAt Go.RowKit Mem Go.Proofs.Ytlmkhnjdifamgaa.Code

section
variable {K : Nat → Nat → Prop} {w0 w : World} {g : Nat} {HA : Option Addr} {hn hc : Nat} {h : List Heap.Cell} {m : CS} {x : RL} {rest : List Raw} {B : Option Addr} {rn rc e : Nat}
set_option maxRecDepth 100000 in
theorem store_bad {r : Raw} (hd : r.s.d = 3) (hl : Heap.liveAt h r.s.a = false) (p : Pre K w0 w g HA hn hc h m x r rest B rn rc e) :
    Calls Try.prog 44 #[.pointer (some ⟨g, 0, none⟩), .agg #[.int .i64 r.s.d, .int .i64 r.s.a, .int .i64 r.s.b, .slice r.T r.n r.c], .slice B rn rc] w (DoPost K w0 w g (.slice HA hn hc) h m r rest e) := by
  obtain ⟨w1, hw1⟩ : ∃ w1, w1 = w.alloc (.cells #[.int .i64 r.s.d, .int .i64 r.s.a, .int .i64 r.s.b, .slice r.T r.n r.c] 46) := ⟨_, rfl⟩
  have hb : Below w.heap.size w w1 := by rw [hw1]; exact bl_alloc (Below.refl _ _) _
  have HK : Hid (Blk w1 w.heap.size 46 #[.int .i64 r.s.d, .int .i64 r.s.a, .int .i64 r.s.b, .slice r.T r.n r.c]) := Lib.hid (by rw [hw1]; exact Blk.new _ _ _)
  have hr := p.run.below hb
  have HR := Lib.hid hr
  have hk := p.ok.size hb.size
  have hg : Heap.getS h r.s.a = (0, 3) := by rw [p.good.get, hl]; rfl
  have HP : Hid (∀ w' w2, Below w1.heap.size w1 w2 → Kept K w0 w2 w' g (.slice HA hn hc) (whyC m r.s.a) → DoPost K w0 w g (.slice HA hn hc) h m r rest e (.returned (.tuple #[.slice none 0 0, .int .i64 4])) w') := Lib.hid (fun w' w2 hb2 hkp => by
    obtain ⟨x', k1, k2, k3⟩ := hkp
    refine ⟨4, [], none, 0, 0, whyC m r.s.a, rfl, ⟨x', k1, k2, ((p.ok.fr hb).trans (hk.fr hb2)).trans k3⟩, .inr ⟨by decide, (p.good.weak e (by omega)).why_ _, ?_⟩⟩
    rw [part_store _ _ _ hd, p.good.liveAll r.s.a 0, hl]; rfl)
  have HC : Hid (∀ W, Below w1.heap.size w1 W → Calls Try.prog 67 #[.slice HA hn hc, .int .i64 r.s.a] W fun e w' => e = .returned (.tuple #[.int .i64 0, .int .i64 3]) ∧ Below w1.heap.size w1 w') :=
    Lib.hid (fun W hW => by
      have hr2 := hr.below hW
      refine (Heap.get_c h HA hn hc r.s.a W (0, 3) (p.heap.below hr2.bel) (by have := p.hn; omega) hg).mono ?_
      rintro e w' ⟨h1, h2⟩
      exact ⟨h1, bl_trans hW h2⟩)
  have HD : Hid (∀ W, Below w1.heap.size w1 W → Calls Try.prog 68 #[.pointer (some ⟨g, 0, none⟩), .int .i64 r.s.a] W fun en w' => en = .returned (.tuple #[.slice none 0 0, .int .i64 4]) ∧ Kept K w0 W w' g (.slice HA hn hc) (whyC m r.s.a)) :=
    Lib.hid (fun W hW => bad_c r.s.a (hr.below hW) (hk.size hW.size))
  have q2 := HK.out.cell 1 _ rfl
  have q11 := hr.at8.2.2.2.1
  have BD : Hid (Below w1.heap.size w1 w1.drew) := Lib.hid (Below.refl _ _).drew
  clear hd hr hk hb p hl hg
  go_enter Try.func44, Try.ntmps44
  go_wp2_with fail
  rw [← hw1]
  clear hw1
  have i0 : w1.drew.cell? ⟨w.heap.size, 1, none⟩ = some (.int .i64 r.s.a) := q2
  have i1 : w1.drew.cell? ⟨g, 11, none⟩ = some (.slice HA hn hc) := q11
  go_region_held3 (fun w' => w'.cell? ⟨w.heap.size, 1, none⟩ = some (.int .i64 r.s.a) ∧ w'.cell? ⟨g, 11, none⟩ = some (.slice HA hn hc))
    (first | exact ⟨a0, a1⟩ | exact ⟨i0, i1⟩ | go_keep)
    ((go_at_call 67
      refine (HC.out _ BD.out).mono ?_
      rintro e w5 ⟨rfl, o5⟩
      have BA := Lib.hid o5
      have a0 := (HK.out.below BA.out).cell 1 _ rfl
      have a1 := (HR.out.below BA.out).at8.2.2.2.1
      clear o5))
  go_wp2_with fail
  refine (HD.out _ BA.out).mono ?_
  rintro e w6 ⟨rfl, o6⟩
  go_wp2
  go_ret2
  exact HP.out _ _ BA.out o6
theorem one_store (s : Step) (h : oneB s = true) (hd : s.d = 3) : 0 ≤ s.a ∧ s.a ≤ 63 := by
  unfold oneB at h
  rw [if_neg (by omega), if_neg (by omega), if_pos hd] at h
  simp at h; omega
set_option maxRecDepth 100000 in
set_option maxHeartbeats 2000000 in
theorem store_c {r : Raw} (hd : r.s.d = 3) (hl : Heap.liveAt h r.s.a = true) (p : Pre K w0 w g HA hn hc h m x r rest B rn rc e) :
    Calls Try.prog 44 #[.pointer (some ⟨g, 0, none⟩), .agg #[.int .i64 r.s.d, .int .i64 r.s.a, .int .i64 r.s.b, .slice r.T r.n r.c], .slice B rn rc] w (DoPost K w0 w g (.slice HA hn hc) h m r rest e) := by
  obtain ⟨a0, a63⟩ := one_store r.s p.one hd
  obtain ⟨w1, hw1⟩ : ∃ w1, w1 = w.alloc (.cells #[.int .i64 r.s.d, .int .i64 r.s.a, .int .i64 r.s.b, .slice r.T r.n r.c] 46) := ⟨_, rfl⟩
  have hb : Below w.heap.size w w1 := by rw [hw1]; exact bl_alloc (Below.refl _ _) _
  have HK : Hid (Blk w1 w.heap.size 46 #[.int .i64 r.s.d, .int .i64 r.s.a, .int .i64 r.s.b, .slice r.T r.n r.c]) := Lib.hid (by rw [hw1]; exact Blk.new _ _ _)
  have hr := p.run.below hb
  have HR := Lib.hid hr
  have hk := p.ok.size hb.size
  have HOK := Lib.hid hk
  obtain ⟨u, hu⟩ : ∃ u, Heap.valAt h r.s.a = u := ⟨_, rfl⟩
  have hg : Heap.getS h r.s.a = (u, 0) := by rw [p.good.get, hl, if_pos rfl, hu]
  obtain ⟨v, hv⟩ : ∃ v, Term.evalS r.s.t h m.regs = v := ⟨_, rfl⟩
  have htell : tellM (abs h m 0) r.s.t = v.1 := by rw [p.good.tell r.s.t (one_reck r.s p.one (.inr (.inl hd))) 0, hv]
  have hvb : Heap.vB v.1 = true := by rw [← htell]; exact tell_v _ _
  have hput : Writes.putS ⟨m.log, []⟩ ⟨r.s.a, v.1⟩ = (⟨m.log ++ [⟨r.s.a, v.1⟩], []⟩, 0) := by
    refine Writes.put_new _ _ ?_ (by show m.log.length ≠ 24; have := p.good.cnt; omega)
    rw [p.good.log, Bool.true_and]
    unfold Writes.oneB
    rw [decide_eq_true a0, hvb]; rfl
  have htn := p.tn (.inr (.inl hd))
  have HP : Hid (∀ W w8 x8, Below w1.heap.size w1 W → RunAt w0 w8 g (.slice HA hn hc) { m with log := m.log ++ [⟨r.s.a, v.1⟩] } x8 → KOK K w8 g x8 → Fr K W w8 → DoPost K w0 w g (.slice HA hn hc) h m r rest e (.returned (.tuple #[.slice B rn rc, .int .i64 1])) w8) := Lib.hid (fun W w8 x8 hb' hr8 hk8 hf8 => by
    refine ⟨1, rest, B, rn, rc, storeC m r.s.a v.1, rfl, ⟨x8, hr8, hk8, ((p.ok.fr hb).trans (hk.fr hb')).trans hf8⟩, .inl ⟨rfl, p.more, p.cap, p.rcc, p.all, p.tail, Nat.le_refl _, p.good.store_ _ _ hl hvb, p.why, ?_⟩⟩
    rw [part_store _ _ _ hd, p.good.liveAll r.s.a 0, hl, if_pos rfl, htell, store_abs _ _ _ a0])
  have HC : Hid (∀ W, Below w1.heap.size w1 W → Calls Try.prog 67 #[.slice HA hn hc, .int .i64 r.s.a] W fun e w' => e = .returned (.tuple #[.int .i64 u, .int .i64 0]) ∧ Below w1.heap.size w1 w') :=
    Lib.hid (fun W hW => by
      have hr2 := hr.below hW
      refine (Heap.get_c h HA hn hc r.s.a W (u, 0) (p.heap.below hr2.bel) (by have := p.hn; omega) hg).mono ?_
      rintro e w' ⟨h1, h2⟩
      exact ⟨h1, bl_trans hW h2⟩)
  have HT : Hid (∀ W, Below w1.heap.size w1 W → Calls Try.prog 70 #[.pointer (some ⟨g, 0, none⟩), .agg #[.int .i64 r.s.d, .int .i64 r.s.a, .int .i64 r.s.b, .slice r.T r.n r.c]] W fun e w' => e = .returned (.int .i64 v.1) ∧ Below w1.heap.size w1 w') :=
    Lib.hid (fun W hW => by
      have hr2 := hr.below hW
      refine (told_c r.s.t r.T r.n r.c r.s.d r.s.a r.s.b h HA hn hc g w0 W m x v hr2 (p.heap.below hr2.bel) (p.term.below hr2.bel) htn (by have := p.hn; omega) hv).mono ?_
      rintro e w' ⟨h1, h2⟩
      exact ⟨h1, bl_trans hW h2⟩)
  have HD : Hid (∀ W, Below w1.heap.size w1 W → Calls Try.prog 71 #[.agg #[.slice x.L x.ln x.lc, .slice x.M 0 x.mc], .agg #[.int .i64 r.s.a, .int .i64 v.1]] W (Writes.RetLP W (x.ln + 1) 0 ⟨m.log ++ [⟨r.s.a, v.1⟩], []⟩ 0)) :=
    Lib.hid (fun W hW => by
      exact Writes.put_p ⟨m.log, []⟩ x.L x.M x.ln x.lc 0 x.mc r.s.a v.1 W (⟨m.log ++ [⟨r.s.a, v.1⟩], []⟩, 0) (x.ln + 1) 0 (hr.below hW).logat (by have := p.good.cnt; have := hr.lens.1; omega) (by omega) hput (by show (m.log ++ [_]).length = _; rw [List.length_append, List.length_singleton, hr.lens.1]) rfl)
  have HQ : Hid (∀ W, Below w1.heap.size w1 W → W.cell? ⟨g, 9, none⟩ = some (.slice x.L x.ln x.lc) ∧ W.cell? ⟨g, 10, none⟩ = some (.slice x.M 0 x.mc)) := Lib.hid (fun W hW => ⟨(hr.below hW).at8.2.1, (hr.below hW).at8.2.2.1⟩)
  have q1 := HK.out.cell 1 _ rfl
  have q11 := hr.at8.2.2.2.1
  have BD : Hid (Below w1.heap.size w1 w1.drew) := Lib.hid (Below.refl _ _).drew
  have hne : w.heap.size ≠ g := blk_ne HK.out hr.blk (by decide)
  clear hd hr hk hb p hl hg hv a0 a63 hu htell hvb hput htn
  go_enter Try.func44, Try.ntmps44
  go_wp2_with fail
  rw [← hw1]
  clear hw1
  have i0 : w1.drew.cell? ⟨w.heap.size, 1, none⟩ = some (.int .i64 r.s.a) := q1
  have i1 : w1.drew.cell? ⟨g, 11, none⟩ = some (.slice HA hn hc) := q11
  go_region_held3 (fun w' => w'.cell? ⟨w.heap.size, 1, none⟩ = some (.int .i64 r.s.a) ∧ w'.cell? ⟨g, 11, none⟩ = some (.slice HA hn hc))
    (first | exact ⟨a0, a1⟩ | exact ⟨i0, i1⟩ | go_keep)
    ((go_at_call 67
      refine (HC.out _ BD.out).mono ?_
      rintro e w5 ⟨rfl, o5⟩
      have BA := Lib.hid o5
      have a0 := (HK.out.below BA.out).cell 1 _ rfl
      have a1 := (HR.out.below BA.out).at8.2.2.2.1
      clear o5))
  have BE : Hid (Below w1.heap.size w1 w5.drew) := Lib.hid BA.out.drew
  have b0 : w5.drew.cell? ⟨w.heap.size, 0, none⟩ = some (.int .i64 r.s.d) := (HK.out.below BE.out).cell 0 _ rfl
  have b1 : w5.drew.cell? ⟨w.heap.size, 1, none⟩ = some (.int .i64 r.s.a) := (HK.out.below BE.out).cell 1 _ rfl
  have b2 : w5.drew.cell? ⟨w.heap.size, 2, none⟩ = some (.int .i64 r.s.b) := (HK.out.below BE.out).cell 2 _ rfl
  have b3 : w5.drew.cell? ⟨w.heap.size, 3, none⟩ = some (.slice r.T r.n r.c) := (HK.out.below BE.out).cell 3 _ rfl
  obtain ⟨j1, j2⟩ := HQ.out _ BE.out
  clear i0 i1 a0 a1
  go_wp2_with fail
  refine wp_region_held_drew (S := fun (W : World) => W.cell? ⟨w.heap.size, 0, none⟩ = some (.int .i64 r.s.d) ∧ W.cell? ⟨w.heap.size, 1, none⟩ = some (.int .i64 r.s.a) ∧ W.cell? ⟨w.heap.size, 2, none⟩ = some (.int .i64 r.s.b) ∧ W.cell? ⟨w.heap.size, 3, none⟩ = some (.slice r.T r.n r.c)) (by kernel_rfl) ⟨b0, b1, b2, b3⟩ (fun hHeld => ?_)
  refine wpAnyH_take (i := 0) (v := .pointer (some ⟨g, 0, none⟩)) rfl (by kernel_rfl) (by kernel_rfl) (by kernel_rfl) (fun _ _ _ h => h) (Or.inl ⟨by rfl, fun W hS => by go_simp⟩) hHeld ?_
  try simp only [Act.put]
  try simp only [List.setIfInBounds_toArray]
  try simp only [List.set_cons_succ]
  try simp only [List.set_cons_zero]
  refine wpAnyH_take (i := 1) (v := .pointer (some ⟨g, 0, none⟩)) rfl (by kernel_rfl) (by kernel_rfl) (by kernel_rfl) (fun _ _ _ h => h) (Or.inl ⟨by rfl, fun W hS => by go_simp⟩) hHeld ?_
  try simp only [Act.put]
  try simp only [List.setIfInBounds_toArray]
  try simp only [List.set_cons_succ]
  try simp only [List.set_cons_zero]
  refine wpAnyH_take (i := 2) (v := .pointer (some ⟨g, 0, none⟩)) rfl (by kernel_rfl) (by kernel_rfl) (by kernel_rfl) (fun _ _ _ h => h) (Or.inl ⟨by rfl, fun W hS => by go_simp⟩) hHeld ?_
  try simp only [Act.put]
  try simp only [List.setIfInBounds_toArray]
  try simp only [List.set_cons_succ]
  try simp only [List.set_cons_zero]
  refine wpAnyH_take (i := 3) (v := .pointer (some ⟨g, 0, none⟩)) rfl (by kernel_rfl) (by kernel_rfl) (by kernel_rfl) (fun _ _ _ h => h) (Or.inl ⟨by rfl, fun W hS => by go_simp⟩) hHeld ?_
  try simp only [Act.put]
  try simp only [List.setIfInBounds_toArray]
  try simp only [List.set_cons_succ]
  try simp only [List.set_cons_zero]
  refine wpAnyH_take (i := 4) (v := .pointer (some ⟨g, 9, none⟩)) rfl (by kernel_rfl) (by kernel_rfl) (by kernel_rfl) (fun _ _ _ h => h) (Or.inl ⟨by rfl, fun W hS => by go_simp⟩) hHeld ?_
  try simp only [Act.put]
  try simp only [List.setIfInBounds_toArray]
  try simp only [List.set_cons_succ]
  try simp only [List.set_cons_zero]
  refine wpAnyH_take (i := 6) (v := .pointer (some ⟨w.heap.size, 1, none⟩)) rfl (by kernel_rfl) (by kernel_rfl) (by kernel_rfl) (fun _ _ _ h => h) (Or.inl ⟨by rfl, fun W hS => by go_simp⟩) hHeld ?_
  try simp only [Act.put]
  try simp only [List.setIfInBounds_toArray]
  try simp only [List.set_cons_succ]
  try simp only [List.set_cons_zero]
  refine wpAnyH_take (i := 7) (v := .int .i64 r.s.a) rfl (by kernel_rfl) (by kernel_rfl) (by kernel_rfl) (fun _ _ _ h => h) (Or.inl ⟨by rfl, fun W hS => by have k1 := hS.2.1; go_simp⟩) hHeld ?_
  try simp only [Act.put]
  try simp only [List.setIfInBounds_toArray]
  try simp only [List.set_cons_succ]
  try simp only [List.set_cons_zero]
  refine wpAnyH_take (i := 8) (v := .pointer (some ⟨g, 0, none⟩)) rfl (by kernel_rfl) (by kernel_rfl) (by kernel_rfl) (fun _ _ _ h => h) (Or.inl ⟨by rfl, fun W hS => by go_simp⟩) hHeld ?_
  try simp only [Act.put]
  try simp only [List.setIfInBounds_toArray]
  try simp only [List.set_cons_succ]
  try simp only [List.set_cons_zero]
  refine wpAnyH_take (i := 9) (v := .agg #[.int .i64 r.s.d, .int .i64 r.s.a, .int .i64 r.s.b, .slice r.T r.n r.c]) rfl (by kernel_rfl) (by kernel_rfl) (by kernel_rfl) (fun _ _ _ h => h) (Or.inl ⟨by rfl, fun W hS => by obtain ⟨k0, k1, k2, k3⟩ := hS; go_simp⟩) hHeld ?_
  try simp only [Act.put]
  try simp only [List.setIfInBounds_toArray]
  try simp only [List.set_cons_succ]
  try simp only [List.set_cons_zero]
  refine wpAnyH_ready (rs := [5, 10]) (by kernel_rfl) (by simp) ?_
  refine AllReadyH.cons rfl (fun KK hK => ?_) (AllReadyH.cons rfl (fun KK hK => ?_) AllReadyH.nil)
  · go_simp
    refine hK.out _ _ ⟨b0, b1, b2, b3⟩ (fun hHeld5 => ?_)
    try simp only [Act.put]
    try simp only [List.setIfInBounds_toArray]
    try simp only [List.set_cons_succ]
    try simp only [List.set_cons_zero]
    clear hK KK
    refine wpAnyH_ready (rs := [10]) (by kernel_rfl) (by simp) ?_
    refine AllReadyH.cons rfl (fun KK hK => ?_) AllReadyH.nil
    refine calls_step (by rfl) 70 #[.pointer (some ⟨g, 0, none⟩), .agg #[.int .i64 r.s.d, .int .i64 r.s.a, .int .i64 r.s.b, .slice r.T r.n r.c]] (.int .i64 v.1) (fun w' => Below w1.heap.size w1 w') (HT.out _ BE.out) ?_ ?_
    · focus (go_simp; done)
    intro w6 o6
    have BF := Lib.hid o6
    have c0 := (HK.out.below BF.out).cell 0 _ rfl
    have c1 := (HK.out.below BF.out).cell 1 _ rfl
    have c2 := (HK.out.below BF.out).cell 2 _ rfl
    have c3 := (HK.out.below BF.out).cell 3 _ rfl
    obtain ⟨k1, k2⟩ := HQ.out _ BF.out
    clear o6
    refine hK.out _ _ ⟨c0, c1, c2, c3⟩ (fun hHeld6 => ?_)
    try simp only [Act.put]
    try simp only [List.setIfInBounds_toArray]
    try simp only [List.set_cons_succ]
    try simp only [List.set_cons_zero]
    clear hK KK
    refine wpAnyH_take (i := 11) (v := .agg #[.int .i64 r.s.a, .int .i64 v.1]) rfl (by kernel_rfl) (by kernel_rfl) (by kernel_rfl) (fun _ _ _ h => h) (Or.inl ⟨by rfl, fun W hS => by go_simp⟩) hHeld6 ?_
    try simp only [Act.put]
    try simp only [List.setIfInBounds_toArray]
    try simp only [List.set_cons_succ]
    try simp only [List.set_cons_zero]
    refine wpAnyH_ready (rs := [12]) (by kernel_rfl) (by simp) ?_
    refine AllReadyH.cons rfl (fun KK hK => ?_) AllReadyH.nil
    refine calls_step2 (by rfl) 71 #[.agg #[.slice x.L x.ln x.lc, .slice x.M 0 x.mc], .agg #[.int .i64 r.s.a, .int .i64 v.1]] _ (HD.out _ BF.out) ?_ ?_
    · focus (go_simp; done)
    rintro e w7 ⟨A7, c7, B7, d7, rfl, o7⟩
    refine ⟨_, rfl, ?_⟩
    have O7 := Lib.hid o7
    have e0 := (HK.out.below (bl_trans BF.out o7.ol.2)).cell 0 _ rfl
    have e1 := (HK.out.below (bl_trans BF.out o7.ol.2)).cell 1 _ rfl
    have e2 := (HK.out.below (bl_trans BF.out o7.ol.2)).cell 2 _ rfl
    have e3 := (HK.out.below (bl_trans BF.out o7.ol.2)).cell 3 _ rfl
    obtain ⟨l1, l2⟩ := HQ.out _ (bl_trans BF.out o7.ol.2)
    have lz := (HR.out.below (bl_trans BF.out o7.ol.2)).blk.frozen
    clear o7
    refine hK.out _ _ ⟨e0, e1, e2, e3⟩ (fun hHeld7 => ?_)
    try simp only [Act.put]
    try simp only [List.setIfInBounds_toArray]
    try simp only [List.set_cons_succ]
    try simp only [List.set_cons_zero]
    clear hK KK
    refine wpAnyH_take (i := 13) (v := .tuple #[.agg #[.slice A7 (x.ln + 1) c7, .slice B7 0 d7], .int .i64 0]) rfl (by kernel_rfl) (by kernel_rfl) (by kernel_rfl) (fun _ _ _ h => h) (Or.inl ⟨by rfl, fun W hS => by go_simp⟩) hHeld7 ?_
    try simp only [Act.put]
    try simp only [List.setIfInBounds_toArray]
    try simp only [List.set_cons_succ]
    try simp only [List.set_cons_zero]
    refine wpAnyH_take (i := 14) (v := .agg #[.slice A7 (x.ln + 1) c7, .slice B7 0 d7]) rfl (by kernel_rfl) (by kernel_rfl) (by kernel_rfl) (fun _ _ _ h => h) (Or.inl ⟨by rfl, fun W hS => by go_simp⟩) hHeld7 ?_
    try simp only [Act.put]
    try simp only [List.setIfInBounds_toArray]
    try simp only [List.set_cons_succ]
    try simp only [List.set_cons_zero]
    refine wpAnyH_take (i := 15) (v := .int .i64 0) rfl (by kernel_rfl) (by kernel_rfl) (by kernel_rfl) (fun _ _ _ h => h) (Or.inl ⟨by rfl, fun W hS => by go_simp⟩) hHeld7 ?_
    try simp only [Act.put]
    try simp only [List.setIfInBounds_toArray]
    try simp only [List.set_cons_succ]
    try simp only [List.set_cons_zero]
    refine wpAnyH_take (i := 16) (v := .pointer (some ⟨g, 0, none⟩)) rfl (by kernel_rfl) (by kernel_rfl) (by kernel_rfl) (fun _ _ _ h => h) (Or.inl ⟨by rfl, fun W hS => by go_simp⟩) hHeld7 ?_
    try simp only [Act.put]
    try simp only [List.setIfInBounds_toArray]
    try simp only [List.set_cons_succ]
    try simp only [List.set_cons_zero]
    refine wpAnyH_take (i := 17) (v := .pointer (some ⟨g, 0, none⟩)) rfl (by kernel_rfl) (by kernel_rfl) (by kernel_rfl) (fun _ _ _ h => h) (Or.inl ⟨by rfl, fun W hS => by go_simp⟩) hHeld7 ?_
    try simp only [Act.put]
    try simp only [List.setIfInBounds_toArray]
    try simp only [List.set_cons_succ]
    try simp only [List.set_cons_zero]
    refine wpAnyH_take (i := 18) (v := .pointer (some ⟨g, 9, none⟩)) rfl (by kernel_rfl) (by kernel_rfl) (by kernel_rfl) (fun _ _ _ h => h) (Or.inl ⟨by rfl, fun W hS => by go_simp⟩) hHeld7 ?_
    try simp only [Act.put]
    try simp only [List.setIfInBounds_toArray]
    try simp only [List.set_cons_succ]
    try simp only [List.set_cons_zero]
    refine wpAnyH_ready (rs := [19]) (by kernel_rfl) (by simp) ?_
    refine AllReadyH.cons rfl (fun KK hK => ?_) AllReadyH.nil
    go_simp
    refine hK.out _ _ ⟨?_, ?_, ?_, ?_⟩ (fun _ => ?_)
    iterate 4 (rotate_left)
    · clear hK KK
      refine wpAnyH_done (by kernel_rfl) ?_ _
      obtain ⟨r8, k8, f8⟩ := RunAt.note (L' := A7) (M' := B7) (ln' := x.ln + 1) (lc' := c7) (mc' := d7) (HR.out.below BF.out) (HOK.out.size BF.out.size) O7.out.ol
      go_wp2
      go_ret2
      exact HP.out _ _ _ BF.out r8 k8 f8
    all_goals (rw [cell_set_ne (Ne.symm hne), cell_set_ne (Ne.symm hne)]; assumption)
  · refine calls_step (by rfl) 70 #[.pointer (some ⟨g, 0, none⟩), .agg #[.int .i64 r.s.d, .int .i64 r.s.a, .int .i64 r.s.b, .slice r.T r.n r.c]] (.int .i64 v.1) (fun w' => Below w1.heap.size w1 w') (HT.out _ BE.out) ?_ ?_
    · focus (go_simp; done)
    intro w6 o6
    have BF := Lib.hid o6
    have c0 := (HK.out.below BF.out).cell 0 _ rfl
    have c1 := (HK.out.below BF.out).cell 1 _ rfl
    have c2 := (HK.out.below BF.out).cell 2 _ rfl
    have c3 := (HK.out.below BF.out).cell 3 _ rfl
    obtain ⟨k1, k2⟩ := HQ.out _ BF.out
    clear o6
    refine hK.out _ _ ⟨c0, c1, c2, c3⟩ (fun hHeld6 => ?_)
    try simp only [Act.put]
    try simp only [List.setIfInBounds_toArray]
    try simp only [List.set_cons_succ]
    try simp only [List.set_cons_zero]
    clear hK KK
    refine wpAnyH_take (i := 11) (v := .agg #[.int .i64 r.s.a, .int .i64 v.1]) rfl (by kernel_rfl) (by kernel_rfl) (by kernel_rfl) (fun _ _ _ h => h) (Or.inl ⟨by rfl, fun W hS => by go_simp⟩) hHeld6 ?_
    try simp only [Act.put]
    try simp only [List.setIfInBounds_toArray]
    try simp only [List.set_cons_succ]
    try simp only [List.set_cons_zero]
    refine wpAnyH_ready (rs := [5]) (by kernel_rfl) (by simp) ?_
    refine AllReadyH.cons rfl (fun KK hK => ?_) AllReadyH.nil
    go_simp
    refine hK.out _ _ ⟨c0, c1, c2, c3⟩ (fun hHeld8 => ?_)
    try simp only [Act.put]
    try simp only [List.setIfInBounds_toArray]
    try simp only [List.set_cons_succ]
    try simp only [List.set_cons_zero]
    clear hK KK
    refine wpAnyH_ready (rs := [12]) (by kernel_rfl) (by simp) ?_
    refine AllReadyH.cons rfl (fun KK hK => ?_) AllReadyH.nil
    refine calls_step2 (by rfl) 71 #[.agg #[.slice x.L x.ln x.lc, .slice x.M 0 x.mc], .agg #[.int .i64 r.s.a, .int .i64 v.1]] _ (HD.out _ BF.out) ?_ ?_
    · focus (go_simp; done)
    rintro e w7 ⟨A7, c7, B7, d7, rfl, o7⟩
    refine ⟨_, rfl, ?_⟩
    have O7 := Lib.hid o7
    have e0 := (HK.out.below (bl_trans BF.out o7.ol.2)).cell 0 _ rfl
    have e1 := (HK.out.below (bl_trans BF.out o7.ol.2)).cell 1 _ rfl
    have e2 := (HK.out.below (bl_trans BF.out o7.ol.2)).cell 2 _ rfl
    have e3 := (HK.out.below (bl_trans BF.out o7.ol.2)).cell 3 _ rfl
    obtain ⟨l1, l2⟩ := HQ.out _ (bl_trans BF.out o7.ol.2)
    have lz := (HR.out.below (bl_trans BF.out o7.ol.2)).blk.frozen
    clear o7
    refine hK.out _ _ ⟨e0, e1, e2, e3⟩ (fun hHeld7 => ?_)
    try simp only [Act.put]
    try simp only [List.setIfInBounds_toArray]
    try simp only [List.set_cons_succ]
    try simp only [List.set_cons_zero]
    clear hK KK
    refine wpAnyH_take (i := 13) (v := .tuple #[.agg #[.slice A7 (x.ln + 1) c7, .slice B7 0 d7], .int .i64 0]) rfl (by kernel_rfl) (by kernel_rfl) (by kernel_rfl) (fun _ _ _ h => h) (Or.inl ⟨by rfl, fun W hS => by go_simp⟩) hHeld7 ?_
    try simp only [Act.put]
    try simp only [List.setIfInBounds_toArray]
    try simp only [List.set_cons_succ]
    try simp only [List.set_cons_zero]
    refine wpAnyH_take (i := 14) (v := .agg #[.slice A7 (x.ln + 1) c7, .slice B7 0 d7]) rfl (by kernel_rfl) (by kernel_rfl) (by kernel_rfl) (fun _ _ _ h => h) (Or.inl ⟨by rfl, fun W hS => by go_simp⟩) hHeld7 ?_
    try simp only [Act.put]
    try simp only [List.setIfInBounds_toArray]
    try simp only [List.set_cons_succ]
    try simp only [List.set_cons_zero]
    refine wpAnyH_take (i := 15) (v := .int .i64 0) rfl (by kernel_rfl) (by kernel_rfl) (by kernel_rfl) (fun _ _ _ h => h) (Or.inl ⟨by rfl, fun W hS => by go_simp⟩) hHeld7 ?_
    try simp only [Act.put]
    try simp only [List.setIfInBounds_toArray]
    try simp only [List.set_cons_succ]
    try simp only [List.set_cons_zero]
    refine wpAnyH_take (i := 16) (v := .pointer (some ⟨g, 0, none⟩)) rfl (by kernel_rfl) (by kernel_rfl) (by kernel_rfl) (fun _ _ _ h => h) (Or.inl ⟨by rfl, fun W hS => by go_simp⟩) hHeld7 ?_
    try simp only [Act.put]
    try simp only [List.setIfInBounds_toArray]
    try simp only [List.set_cons_succ]
    try simp only [List.set_cons_zero]
    refine wpAnyH_take (i := 17) (v := .pointer (some ⟨g, 0, none⟩)) rfl (by kernel_rfl) (by kernel_rfl) (by kernel_rfl) (fun _ _ _ h => h) (Or.inl ⟨by rfl, fun W hS => by go_simp⟩) hHeld7 ?_
    try simp only [Act.put]
    try simp only [List.setIfInBounds_toArray]
    try simp only [List.set_cons_succ]
    try simp only [List.set_cons_zero]
    refine wpAnyH_take (i := 18) (v := .pointer (some ⟨g, 9, none⟩)) rfl (by kernel_rfl) (by kernel_rfl) (by kernel_rfl) (fun _ _ _ h => h) (Or.inl ⟨by rfl, fun W hS => by go_simp⟩) hHeld7 ?_
    try simp only [Act.put]
    try simp only [List.setIfInBounds_toArray]
    try simp only [List.set_cons_succ]
    try simp only [List.set_cons_zero]
    refine wpAnyH_ready (rs := [19]) (by kernel_rfl) (by simp) ?_
    refine AllReadyH.cons rfl (fun KK hK => ?_) AllReadyH.nil
    go_simp
    refine hK.out _ _ ⟨?_, ?_, ?_, ?_⟩ (fun _ => ?_)
    iterate 4 (rotate_left)
    · clear hK KK
      refine wpAnyH_done (by kernel_rfl) ?_ _
      obtain ⟨r8, k8, f8⟩ := RunAt.note (L' := A7) (M' := B7) (ln' := x.ln + 1) (lc' := c7) (mc' := d7) (HR.out.below BF.out) (HOK.out.size BF.out.size) O7.out.ol
      go_wp2
      go_ret2
      exact HP.out _ _ _ BF.out r8 k8 f8
    all_goals (rw [cell_set_ne (Ne.symm hne), cell_set_ne (Ne.symm hne)]; assumption)
end
end Go.Proofs.Ytlmkhnjdifamgaa.Model
