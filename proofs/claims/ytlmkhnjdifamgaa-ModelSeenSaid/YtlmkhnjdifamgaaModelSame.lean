/-
  WHAT THE DOCUMENT'S COMPARISON OF TWO ENDS RETURNS, of equal ones. No conditions beyond those that each theorem states.
-/
import Derived.Test.YtlmkhnjdifamgaaModelA
import Derived.LoopTactic
import Derived.Deep.QuietTactic
import Derived.BigQuiet
import Derived.RegionTactic
import Derived.Laws.StructEq
namespace Go.Proofs.Ytlmkhnjdifamgaa.Model
open Go.ChangeShapes Go.WideShapes Go.ChangeAt Go.RowKit Mem Go.Proofs.Ytlmkhnjdifamgaa.Code

theorem numbers_q (x : List Int) (A B : Option Addr) (n c d : Nat) (w : World) (hx : Rd w 1 A n (zs x)) (hy : Rd w 1 B n (zs x)) (hn : n ≤ 1000000) :
    Calls Try.prog 23 #[.slice A n c, .slice B n d] w (fun e w' => e = .returned (.bool true) ∧ ∃ q, w' = w.drewN q) := by
  go_enter Try.func23, Try.ntmps23
  go_wp2
  go_loopw [5] (fun i wr => ∃ k q : Nat, k ≤ n ∧ i = .int .i64 k ∧ wr = w.drewN q) (fun i _ => n - (intOf i).toNat)
  case atStart => exact ⟨0, 0, Nat.zero_le _, rfl, rfl⟩
  case round =>
    obtain ⟨k, q, hk, rfl, rfl⟩ := hrel
    by_cases hlt : k < n
    · obtain ⟨b, off, z, rfl, gx, c0⟩ := at_z hx k hlt
      obtain ⟨b', off', z', rfl, gy, c0'⟩ := at_z hy k hlt
      obtain rfl : z = z' := by rw [gx] at gy; injection gy
      clear gx gy
      go_wp2
      go_quiet (fail)
      go_wp2
      go_roundw
      case rel => exact ⟨k + 1, _, by omega, by go_num, rfl⟩
      case measure => simp [intOf]; omega
    · go_wp2
      go_ret
      exact ⟨ret_bool (by simp), _, rfl⟩
/-- An end in memory. -/
structure OutAt (w : World) (o : Out) (A1 A2 A3 A4 : Option Addr) (n1 n2 n3 n4 : Nat) : Prop where
  regs : Rd w 1 A1 n1 (zs o.regs)
  path : Rd w 1 A2 n2 (zs o.path)
  seen : Rd w 1 A3 n3 (zs o.seen)
  writes : Rd w 2 A4 n4 (Heap.ws o.writes)
theorem OutAt.below {w w' : World} {o : Out} {A1 A2 A3 A4 : Option Addr} {n1 n2 n3 n4 : Nat} (h : OutAt w o A1 A2 A3 A4 n1 n2 n3 n4) (hb : Below w.heap.size w w') : OutAt w' o A1 A2 A3 A4 n1 n2 n3 n4 :=
  ⟨h.regs.below hb, h.path.below hb, h.seen.below hb, h.writes.below hb⟩
set_option maxRecDepth 100000 in
set_option maxHeartbeats 800000 in
theorem same_r (o : Out) (A1 A2 A3 A4 B1 B2 B3 B4 : Option Addr) (n1 n2 n3 n4 c1 c2 c3 c4 d1 d2 d3 d4 : Nat) (w : World) (ha : OutAt w o A1 A2 A3 A4 n1 n2 n3 n4) (hb : OutAt w o B1 B2 B3 B4 n1 n2 n3 n4)
    (h1 : n1 ≤ 1000000) (h2 : n2 ≤ 1000000) (h3 : n3 ≤ 1000000) (h4 : n4 ≤ 1000000) :
    Calls Try.prog 11 #[.agg #[.int .i64 o.kind, .int .i64 o.why, .slice A1 n1 c1, .slice A2 n2 c2, .slice A3 n3 c3, .slice A4 n4 c4], .agg #[.int .i64 o.kind, .int .i64 o.why, .slice B1 n1 d1, .slice B2 n2 d2, .slice B3 n3 d3, .slice B4 n4 d4]] w (RetB w true) := by
  obtain ⟨w2, hw2⟩ : ∃ w2, w2 = (w.alloc (.cells #[.int .i64 o.kind, .int .i64 o.why, .slice A1 n1 c1, .slice A2 n2 c2, .slice A3 n3 c3, .slice A4 n4 c4] 37)).alloc (.cells #[.int .i64 o.kind, .int .i64 o.why, .slice B1 n1 d1, .slice B2 n2 d2, .slice B3 n3 d3, .slice B4 n4 d4] 37) := ⟨_, rfl⟩
  have e1 : (w.alloc (.cells #[.int .i64 o.kind, .int .i64 o.why, .slice A1 n1 c1, .slice A2 n2 c2, .slice A3 n3 c3, .slice A4 n4 c4] 37)).heap.size = w.heap.size + 1 := by simp
  have hB1 : Blk w2 w.heap.size 37 #[.int .i64 o.kind, .int .i64 o.why, .slice A1 n1 c1, .slice A2 n2 c2, .slice A3 n3 c3, .slice A4 n4 c4] := by rw [hw2]; exact (Blk.new _ _ _).alloc _
  have hB2 : Blk w2 (w.heap.size + 1) 37 #[.int .i64 o.kind, .int .i64 o.why, .slice B1 n1 d1, .slice B2 n2 d2, .slice B3 n3 d3, .slice B4 n4 d4] := by
    rw [hw2, ← e1]; exact Blk.new _ _ _
  have hbw : Below w.heap.size w w2 := by rw [hw2]; exact bl_alloc (bl_alloc (Below.refl _ _) _) _
  have BW := Lib.hid hbw
  have HA := ha.below hbw
  have HB := hb.below hbw
  have p0 := hB1.cell 0 _ rfl
  have p1 := hB1.cell 1 _ rfl
  have p2 := hB1.cell 2 _ rfl
  have p3 := hB1.cell 3 _ rfl
  have p4 := hB1.cell 4 _ rfl
  have p5 := hB1.cell 5 _ rfl
  have q0 := hB2.cell 0 _ rfl
  have q1 := hB2.cell 1 _ rfl
  have q2 := hB2.cell 2 _ rfl
  have q3 := hB2.cell 3 _ rfl
  have q4 := hB2.cell 4 _ rfl
  have q5 := hB2.cell 5 _ rfl
  have hc1 := fun m => numbers_q o.regs A1 B1 n1 c1 d1 (w2.drewN m) (HA.regs.drewN m) (HB.regs.drewN m) h1
  have hc2 := fun m => numbers_q o.path A2 B2 n2 c2 d2 (w2.drewN m) (HA.path.drewN m) (HB.path.drewN m) h2
  have hc3 := fun m => numbers_q o.seen A3 B3 n3 c3 d3 (w2.drewN m) (HA.seen.drewN m) (HB.seen.drewN m) h3
  have HC1 := Lib.hid hc1
  have HC2 := Lib.hid hc2
  have HC3 := Lib.hid hc3
  have HWA := Lib.hid HA.writes
  have HWB := Lib.hid HB.writes
  clear hB1 hB2 hbw HA HB ha hb e1 hc1 hc2 hc3
  go_enter Try.func11, Try.ntmps11
  go_wp2_with fail
  rw [← hw2]
  clear hw2
  go_quiet (first | (go_at_call_of 23 (Value.slice A1 n1 c1); exact Calls.quiet_of (HC1.out _)) | (go_at_call_of 23 (Value.slice A2 n2 c2); exact Calls.quiet_of (HC2.out _)) | (go_at_call_of 23 (Value.slice A3 n3 c3); exact Calls.quiet_of (HC3.out _)))
  go_wp2
  go_loopw [8] (fun i wr => ∃ k q : Nat, k ≤ n4 ∧ i = .int .i64 k ∧ wr = w2.drewN q) (fun i _ => n4 - (intOf i).toNat)
  case atStart => exact ⟨0, nq, Nat.zero_le _, rfl, rfl⟩
  case round =>
    obtain ⟨k, q, hk, rfl, rfl⟩ := hrel
    by_cases hlt : k < n4
    · obtain ⟨b, off, z, rfl, gx, x0, x1⟩ := Heap.at_write HWA.out k hlt
      obtain ⟨b', off', z', rfl, gy, y0, y1⟩ := Heap.at_write HWB.out k hlt
      obtain rfl : z = z' := by rw [gx] at gy; injection gy
      obtain ⟨zc, zv⟩ := z
      simp only at x0 x1 y0 y1
      clear gx gy
      go_wp2
      go_quiet (fail)
      go_wp2
      go_roundw
      case rel => exact ⟨k + 1, _, by omega, by go_num, by first | rfl | (rw [World.drewN_drewN]; done)⟩
      case measure => simp [intOf]; omega
    · go_wp2
      go_ret
      exact ⟨ret_bool (by simp), bl_drewN BW.out _⟩
end Go.Proofs.Ytlmkhnjdifamgaa.Model
