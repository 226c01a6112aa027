/-
  WHAT THE LAYER model DOES, AS IT IS WRITTEN: Load. No conditions beyond those that each theorem states.
-/
import Derived.Test.YtlmkhnjdifamgaaModelDo3
import Derived.Test.YtlmkhnjdifamgaaWritesA
namespace Go.Proofs.Ytlmkhnjdifamgaa.Model
open Go.ChangeShapes Go.WideShapes Go.ChangeAt Go.RowKit Mem Go.Proofs.Ytlmkhnjdifamgaa.Code

theorem RunAt.logat {w0 w : World} {g : Nat} {H : Value} {m : CS} {x : RL} (h : RunAt w0 w g H m x) : Writes.LogAt w x.L x.ln x.lc x.M 0 x.mc ⟨m.log, []⟩ := by
  obtain ⟨_, h1, h2⟩ := own_cap h.log
  exact ⟨h2, ⟨rfl, fun h0 => absurd h0 (by omega)⟩, h1, Nat.zero_le _⟩
theorem RunAt.lens {w0 w : World} {g : Nat} {H : Value} {m : CS} {x : RL} (h : RunAt w0 w g H m x) : m.log.length = x.ln ∧ m.path.length = x.pn ∧ m.seen.length = x.sn := by
  refine ⟨h.logat.ln, ?_, ?_⟩
  · have := h.path.1.1; rw [zs_map, List.length_map] at this; omega
  · have := h.seen.1.1; rw [zs_map, List.length_map] at this; omega
theorem one_load (s : Step) (h : oneB s = true) (hd : s.d = 1) : 0 ≤ s.a ∧ s.a ≤ 7 ∧ 0 ≤ s.b ∧ s.b ≤ 63 := by
  unfold oneB at h
  rw [if_pos hd] at h
  simp at h; omega
section
variable {K : Nat → Nat → Prop} {w0 w : World} {g : Nat} {HA : Option Addr} {hn hc : Nat} {h : List Heap.Cell} {m : CS} {x : RL} {rest : List Raw} {B : Option Addr} {rn rc e : Nat}
theorem blk_ne {w : World} {a b : Nat} {t u : TypeId} {xs ys : Array Value} (h : Blk w a t xs) (k : Blk w b u ys) (ht : t ≠ u) : a ≠ b := by
  intro e
  subst e
  unfold Blk at h k
  rw [h] at k
  injection k with k
  injection k with _ k
  exact ht k
set_option maxRecDepth 100000 in
theorem load_bad {r : Raw} (hd : r.s.d = 1) (hl : Heap.liveAt h r.s.b = false) (p : Pre K w0 w g HA hn hc h m x r rest B rn rc e) :
    Calls Try.prog 42 #[.pointer (some ⟨g, 0, none⟩), .agg #[.int .i64 r.s.d, .int .i64 r.s.a, .int .i64 r.s.b, .slice r.T r.n r.c], .slice B rn rc] w (DoPost K w0 w g (.slice HA hn hc) h m r rest e) := by
  obtain ⟨w1, hw1⟩ : ∃ w1, w1 = w.alloc (.cells #[.int .i64 r.s.d, .int .i64 r.s.a, .int .i64 r.s.b, .slice r.T r.n r.c] 46) := ⟨_, rfl⟩
  have hb : Below w.heap.size w w1 := by rw [hw1]; exact bl_alloc (Below.refl _ _) _
  have HK : Hid (Blk w1 w.heap.size 46 #[.int .i64 r.s.d, .int .i64 r.s.a, .int .i64 r.s.b, .slice r.T r.n r.c]) := Lib.hid (by rw [hw1]; exact Blk.new _ _ _)
  have hr := p.run.below hb
  have HR := Lib.hid hr
  have hk := p.ok.size hb.size
  have hg : Heap.getS h r.s.b = (0, 3) := by rw [p.good.get, hl]; rfl
  have HP : Hid (∀ w' w2, Below w1.heap.size w1 w2 → Kept K w0 w2 w' g (.slice HA hn hc) (whyC m r.s.b) → DoPost K w0 w g (.slice HA hn hc) h m r rest e (.returned (.tuple #[.slice none 0 0, .int .i64 4])) w') := Lib.hid (fun w' w2 hb2 hkp => by
    obtain ⟨x', k1, k2, k3⟩ := hkp
    refine ⟨4, [], none, 0, 0, whyC m r.s.b, rfl, ⟨x', k1, k2, ((p.ok.fr hb).trans (hk.fr hb2)).trans k3⟩, .inr ⟨by decide, (p.good.weak e (by omega)).why_ _, ?_⟩⟩
    rw [part_load _ _ _ hd, p.good.liveAll r.s.b 0, hl]; rfl)
  have HC : Hid (∀ W, Below w1.heap.size w1 W → Calls Try.prog 67 #[.slice HA hn hc, .int .i64 r.s.b] W fun e w' => e = .returned (.tuple #[.int .i64 0, .int .i64 3]) ∧ Below w1.heap.size w1 w') :=
    Lib.hid (fun W hW => by
      have hr2 := hr.below hW
      refine (Heap.get_c h HA hn hc r.s.b W (0, 3) (p.heap.below hr2.bel) (by have := p.hn; omega) hg).mono ?_
      rintro e w' ⟨h1, h2⟩
      exact ⟨h1, bl_trans hW h2⟩)
  have HD : Hid (∀ W, Below w1.heap.size w1 W → Calls Try.prog 68 #[.pointer (some ⟨g, 0, none⟩), .int .i64 r.s.b] W fun en w' => en = .returned (.tuple #[.slice none 0 0, .int .i64 4]) ∧ Kept K w0 W w' g (.slice HA hn hc) (whyC m r.s.b)) :=
    Lib.hid (fun W hW => bad_c r.s.b (hr.below hW) (hk.size hW.size))
  have q2 := HK.out.cell 2 _ rfl
  have q11 := hr.at8.2.2.2.1
  have BD : Hid (Below w1.heap.size w1 w1.drew) := Lib.hid (Below.refl _ _).drew
  clear hd hr hk hb p hl hg
  go_enter Try.func42, Try.ntmps42
  go_wp2_with fail
  rw [← hw1]
  clear hw1
  have i0 : w1.drew.cell? ⟨w.heap.size, 2, none⟩ = some (.int .i64 r.s.b) := q2
  have i1 : w1.drew.cell? ⟨g, 11, none⟩ = some (.slice HA hn hc) := q11
  go_region_held3 (fun w' => w'.cell? ⟨w.heap.size, 2, none⟩ = some (.int .i64 r.s.b) ∧ w'.cell? ⟨g, 11, none⟩ = some (.slice HA hn hc))
    (first | exact ⟨a0, a1⟩ | exact ⟨i0, i1⟩ | go_keep)
    ((go_at_call 67
      refine (HC.out _ BD.out).mono ?_
      rintro e w5 ⟨rfl, o5⟩
      have BA := Lib.hid o5
      have a0 := (HK.out.below BA.out).cell 2 _ rfl
      have a1 := (HR.out.below BA.out).at8.2.2.2.1
      clear o5))
  go_wp2_with fail
  refine (HD.out _ BA.out).mono ?_
  rintro e w6 ⟨rfl, o6⟩
  go_wp2
  go_ret2
  exact HP.out _ _ BA.out o6
set_option maxRecDepth 100000 in
set_option maxHeartbeats 1000000 in
theorem load_old {r : Raw} (v : Int) (hd : r.s.d = 1) (hl : Heap.liveAt h r.s.b = true) (hv : Writes.getL m.log r.s.b = some v) (p : Pre K w0 w g HA hn hc h m x r rest B rn rc e) :
    Calls Try.prog 42 #[.pointer (some ⟨g, 0, none⟩), .agg #[.int .i64 r.s.d, .int .i64 r.s.a, .int .i64 r.s.b, .slice r.T r.n r.c], .slice B rn rc] w (DoPost K w0 w g (.slice HA hn hc) h m r rest e) := by
  obtain ⟨a0, a7, b0, b63⟩ := one_load r.s p.one hd
  obtain ⟨ra, hra⟩ : ∃ ra : Nat, r.s.a = (ra : Int) := ⟨r.s.a.toNat, by omega⟩
  obtain ⟨w1, hw1⟩ : ∃ w1, w1 = w.alloc (.cells #[.int .i64 r.s.d, .int .i64 (ra : Int), .int .i64 r.s.b, .slice r.T r.n r.c] 46) := ⟨_, rfl⟩
  have hb : Below w.heap.size w w1 := by rw [hw1]; exact bl_alloc (Below.refl _ _) _
  have HK : Hid (Blk w1 w.heap.size 46 #[.int .i64 r.s.d, .int .i64 (ra : Int), .int .i64 r.s.b, .slice r.T r.n r.c]) := Lib.hid (by rw [hw1]; exact Blk.new _ _ _)
  have hr := p.run.below hb
  have HR := Lib.hid hr
  have hk := p.ok.size hb.size
  obtain ⟨u, hu⟩ : ∃ u, Heap.valAt h r.s.b = u := ⟨_, rfl⟩
  have hg : Heap.getS h r.s.b = (u, 0) := by rw [p.good.get, hl, if_pos rfl, hu]
  have hgl : Writes.getS ⟨m.log, []⟩ r.s.b = (v, true) := by rw [p.good.logget, hv]; rfl
  have HP : Hid (∀ w', Below w1.heap.size w1 w' → DoPost K w0 w g (.slice HA hn hc) h m r rest e (.returned (.tuple #[.slice B rn rc, .int .i64 1])) (w'.setCell ⟨g, ra, none⟩ (.int .i64 v))) := Lib.hid (fun w' hb' => by
    have hk' := hk.size hb'.size
    have hlc : loadC h m r.s.a r.s.b = { m with regs := m.regs.set ra v } := by unfold loadC; rw [hv, hra, Int.toNat_natCast]
    refine ⟨1, rest, B, rn, rc, loadC h m r.s.a r.s.b, rfl, ⟨x, ?_, hk'.size (by rw [set_size]; exact Nat.le_refl _), ((p.ok.fr hb).trans (hk.fr hb')).trans (hk'.set ra _)⟩, .inl ⟨rfl, p.more, p.cap, p.rcc, p.all, p.tail, Nat.le_refl _, p.good.load_ _ _ ⟨b0, by omega⟩, by rw [hlc]; exact p.why, ?_⟩⟩
    · rw [hlc]
      exact (hr.below hb').put_reg ra (by omega) v
    · rw [part_load _ _ _ hd, p.good.liveAll r.s.b 0, hl, if_pos rfl, load_abs p.good _ _ hl])
  have HC : Hid (∀ W, Below w1.heap.size w1 W → Calls Try.prog 67 #[.slice HA hn hc, .int .i64 r.s.b] W fun e w' => e = .returned (.tuple #[.int .i64 u, .int .i64 0]) ∧ Below w1.heap.size w1 w') :=
    Lib.hid (fun W hW => by
      have hr2 := hr.below hW
      refine (Heap.get_c h HA hn hc r.s.b W (u, 0) (p.heap.below hr2.bel) (by have := p.hn; omega) hg).mono ?_
      rintro e w' ⟨h1, h2⟩
      exact ⟨h1, bl_trans hW h2⟩)
  have HD : Hid (∀ W, Below w1.heap.size w1 W → Calls Try.prog 69 #[.agg #[.slice x.L x.ln x.lc, .slice x.M 0 x.mc], .int .i64 r.s.b] W fun en w' => en = .returned (.tuple #[.int .i64 v, .bool true]) ∧ Below w1.heap.size w1 w') :=
    Lib.hid (fun W hW => by
      refine (Writes.get_c ⟨m.log, []⟩ x.L x.M x.ln x.lc 0 x.mc r.s.b W (v, true) (hr.below hW).logat (by have := p.good.cnt; have := hr.lens.1; omega) (by omega) hgl).mono ?_
      rintro e w' ⟨h1, h2⟩
      exact ⟨h1, bl_trans hW h2⟩)
  obtain ⟨y, hy⟩ : ∃ y, m.regs[ra]? = some y := ⟨_, List.getElem?_eq_getElem (by have := p.run.r8; omega)⟩
  have HY : Hid (∀ W, Below w1.heap.size w1 W → W.cell? ⟨g, ra, none⟩ = some (.int .i64 y) ∧ W.frozen? ⟨g, ra, none⟩ = false) := Lib.hid (fun W hW => ⟨(hr.below hW).reg ra y hy, (hr.below hW).blk.frozen ra⟩)
  have HQ : Hid (∀ W, Below w1.heap.size w1 W → W.cell? ⟨g, 9, none⟩ = some (.slice x.L x.ln x.lc) ∧ W.cell? ⟨g, 10, none⟩ = some (.slice x.M 0 x.mc)) := Lib.hid (fun W hW => ⟨(hr.below hW).at8.2.1, (hr.below hW).at8.2.2.1⟩)
  have q2 := HK.out.cell 2 _ rfl
  have q11 := hr.at8.2.2.2.1
  have BD : Hid (Below w1.heap.size w1 w1.drew) := Lib.hid (Below.refl _ _).drew
  have hr8 : ¬ ((8 : Int) ≤ (ra : Int)) := by omega
  have hne : w.heap.size ≠ g := blk_ne HK.out hr.blk (by decide)
  rw [hra]
  clear hd hr hk hb p hl hg hgl hv hy a0 a7 b0 b63 hra hu
  go_enter Try.func42, Try.ntmps42
  go_wp2_with fail
  rw [← hw1]
  clear hw1
  have i0 : w1.drew.cell? ⟨w.heap.size, 2, none⟩ = some (.int .i64 r.s.b) := q2
  have i1 : w1.drew.cell? ⟨g, 11, none⟩ = some (.slice HA hn hc) := q11
  go_region_held3 (fun w' => w'.cell? ⟨w.heap.size, 2, none⟩ = some (.int .i64 r.s.b) ∧ w'.cell? ⟨g, 11, none⟩ = some (.slice HA hn hc))
    (first | exact ⟨a0, a1⟩ | exact ⟨i0, i1⟩ | go_keep)
    ((go_at_call 67
      refine (HC.out _ BD.out).mono ?_
      rintro e w5 ⟨rfl, o5⟩
      have BA := Lib.hid o5
      have a0 := (HK.out.below BA.out).cell 2 _ rfl
      have a1 := (HR.out.below BA.out).at8.2.2.2.1
      clear o5))
  have BE : Hid (Below w1.heap.size w1 w5.drew) := Lib.hid BA.out.drew
  have j0 : w5.drew.cell? ⟨w.heap.size, 2, none⟩ = some (.int .i64 r.s.b) := a0
  obtain ⟨j1, j2⟩ := HQ.out _ BE.out
  clear i0 i1 a0 a1
  go_wp2_with fail
  go_region_held3 (fun w' => w'.cell? ⟨w.heap.size, 2, none⟩ = some (.int .i64 r.s.b) ∧ w'.cell? ⟨g, 9, none⟩ = some (.slice x.L x.ln x.lc) ∧ w'.cell? ⟨g, 10, none⟩ = some (.slice x.M 0 x.mc))
    (first | exact ⟨c0, c1, c2⟩ | exact ⟨j0, j1, j2⟩ | go_keep)
    ((go_at_call 69
      refine (HD.out _ BE.out).mono ?_
      rintro e w6 ⟨rfl, o6⟩
      have BF := Lib.hid o6
      have c0 := (HK.out.below BF.out).cell 2 _ rfl
      obtain ⟨c1, c2⟩ := HQ.out _ BF.out
      clear o6))
  have BG : Hid (Below w1.heap.size w1 w6.drew) := Lib.hid BF.out.drew
  have d1 : w6.drew.cell? ⟨w.heap.size, 1, none⟩ = some (.int .i64 (ra : Int)) := (HK.out.below BF.out).cell 1 _ rfl
  obtain ⟨dy, dz⟩ := HY.out _ BG.out
  clear j0 j1 j2 c0 c1 c2
  go_wp2_with fail
  go_still_tail 8, (by kernel_rfl)
  go_wp2
  go_ret2
  exact HP.out _ BG.out
end
end Go.Proofs.Ytlmkhnjdifamgaa.Model
