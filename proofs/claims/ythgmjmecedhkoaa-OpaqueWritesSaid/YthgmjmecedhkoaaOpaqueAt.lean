/-
  WHAT THE FUNCTION At OF THE LAYER opaque RETURNS, AS IT IS WRITTEN: a loop over slices.Backward, whose iterator is walked as it is written.
-/
import Derived.Test.YthgmjmecedhkoaaOpaqueCode3
import Derived.RangeFuncNested
import Derived.RangeFuncBound
import Derived.RangeFuncCalls
import Derived.RangeFuncLeaves
import Derived.Shelf.Abstract
import Derived.Shelf.RegionOpen
import Derived.OwnWalkIn
import Derived.TacticsInMore
import Derived.LoopNIn
import Derived.LoopIn
namespace Go.Proofs.Ythgmjmecedhkoaa.Opaque
open Go.ChangeShapes Go.WideShapes Go.ChangeAt Go.RowKit Go.Shelf Mem
attribute [local go_sem] Oper.semAt_some

/-- The row at a place. -/
def rowS (L : List RawS) (j : Nat) : RawS := (L[j]?).getD default
theorem row_at (L : List RawS) (j : Nat) (h : j < L.length) : L[j]? = some (rowS L j) := by unfold rowS; rw [List.getElem?_eq_getElem h]; rfl
def encB (L : List RawS) (n : Nat) (x : { j : Nat // j < n }) : Array Value := #[.int .i64 (x.1 : Int), .agg #[.int .i64 (rowS L x.1).v, .slice (rowS L x.1).A (rowS L x.1).n (rowS L x.1).c]]
/-- The k-th place from behind. -/
def bk (n : Nat) (h : 0 < n) (k : Nat) : { j : Nat // j < n } := ⟨n - 1 - k, by omega⟩
def upto {α : Type} (f : Nat → α) (k : Nat) : List α := (List.range k).map f
theorem upto_snoc {α : Type} (f : Nat → α) (k : Nat) : upto f (k + 1) = upto f k ++ [f k] := by simp [upto, List.range_succ]
theorem upto_len {α : Type} (f : Nat → α) (k : Nat) : (upto f k).length = k := by simp [upto]

set_option maxRecDepth 100000 in
set_option maxHeartbeats 4000000 in
/-- The iterator's own function: for every loop body that keeps what lay below n₀. -/
theorem back1_in (F : Fence) (m : Nat) (hF : F.fn 24) (hro : F.round = none) (hm : 1 ≤ m) (l Bs n₀ n c : Nat) (A : Option Addr) (L : List RawS) (h0 : 0 < n) (hL : L.length = n) (hn : n ≤ 1000000) (hBs : Bs < n₀)
    (hA : ∀ b off, A = some ⟨b, off, none⟩ → b < n₀) (J Jx : List { j : Nat // j < n } → World → Prop)
    (hY : ∀ pre x W, J pre W → pre.length < n → YieldAt F (m - 1) Try.prog l (encB L n x) W fun e W' =>
      (e = .returned (.bool true) ∧ J (pre ++ [x]) W' ∧ Below n₀ W W') ∨ (e = .returned (.bool false) ∧ Jx (pre ++ [x]) W'))
    (W : World) (hc : W.cell? ⟨Bs, 0, none⟩ = some (.slice A n c)) (hr : Rd W 2 A n (ss L)) (hJ : J [] W) :
    CallsIn F m Try.prog 24 #[.func (.yield l) #[] #[], .pointer (some ⟨Bs, 0, none⟩)] W fun e W' => (∃ v, e = .returned v) ∧
      ((∃ ys, ys = upto (bk n h0) n ∧ J ys W') ∨ (∃ pre, (∃ k, k ≤ n ∧ pre = upto (bk n h0) k) ∧ Jx pre W')) := by
  obtain ⟨b, off, rfl, hcell⟩ := hr.2 h0
  have hb := hA b off rfl
  have HCELL := Lib.hid hcell
  clear hr hcell hA
  refine callsIn_of_wp Try.func24 rfl hF ?_ hro
  simp only [Try.ntmps24, List.size_toArray, List.length_cons, List.length_nil, Nat.reduceAdd, Nat.reduceSub, Array.replicate_succ, Array.replicate_zero, List.push_toArray, List.append_toArray, List.nil_append, List.cons_append]
  gi_wp2
  gi_loopw [3] (fun i wr => ∃ (k : Nat) (z : Int), k ≤ n ∧ i = .int .i64 z ∧ Hid (z = (n : Int) - 1 - (k : Int)) ∧ J (upto (bk n h0) k) wr ∧ Below n₀ W wr)
    (fun i _ => (intOf i + 1).toNat)
  case atStart => exact ⟨0, (n : Int) - 1, Nat.zero_le _, rfl, Lib.hid (by simp), hJ, Below.refl _ _⟩
  case round =>
    obtain ⟨k, z, hk, rfl, hz, hJs, hnx⟩ := hrel
    by_cases hlt : k < n
    · obtain ⟨j, rfl⟩ : ∃ j : Nat, z = (j : Int) := ⟨n - 1 - k, by have := hz.out; omega⟩
      have hjn : j < n := by have := hz.out; omega
      have HBK : Hid (bk n h0 k = ⟨j, hjn⟩) := Lib.hid (Subtype.ext (by have := hz.out; show n - 1 - k = j; omega))
      have hx := row_at L j (by omega)
      have hss := flat_at sc_len L j _ hx
      have c0 : wr.cell? ⟨b, off + j * 2, none⟩ = some (.int .i64 (rowS L j).v) := (hnx.cell (p := ⟨b, off + j * 2, none⟩) hb).trans (HCELL.out (j * 2) _ (by have := hss 0 (by decide); rw [Nat.add_zero] at this; exact this))
      have c1 : wr.cell? ⟨b, off + j * 2 + 1, none⟩ = some (.slice (rowS L j).A (rowS L j).n (rowS L j).c) := by
        have e := (hnx.cell (p := ⟨b, off + (j * 2 + 1), none⟩) hb).trans (HCELL.out (j * 2 + 1) _ (hss 1 (by decide)))
        rwa [← Nat.add_assoc] at e
      have cB := (hnx.cell (p := ⟨Bs, 0, none⟩) hBs).trans hc
      obtain ⟨fn, tmps, assign, body, hy, hR⟩ := hY _ ⟨j, hjn⟩ wr hJs (by rw [upto_len]; exact hlt)
      dsimp only [encB] at hy
      clear hx hss
      gi_wp2
      refine hR.mono ?_
      rintro e W3 (⟨rfl, hJ3, hk3⟩ | ⟨rfl, hJx3⟩)
      · gi_wp2
        go_roundw
        case rel => exact ⟨k + 1, (j : Int) - 1, by omega, by first | rfl | go_num, Lib.hid (by have := hz.out; omega), by rw [upto_snoc, HBK.out]; exact hJ3, hnx.trans hk3⟩
        case measure => simp [intOf]
      · gi_wp2
        refine bodyPost_ret (results_none rfl _ _ _) rfl ?_
        exact ⟨⟨_, rfl⟩, .inr ⟨_, ⟨k + 1, by omega, by rw [upto_snoc, HBK.out]⟩, hJx3⟩⟩
    · obtain rfl : k = n := by omega
      obtain rfl : z = -1 := by have := hz.out; omega
      gi_wp2
      go_end0
      exact ⟨⟨_, rfl⟩, .inl ⟨_, rfl, hJs⟩⟩

set_option maxRecDepth 100000 in
/-- The slice is boxed; the function value captures the box. -/
theorem back_in (F : Fence) (m : Nat) (hF : F.fn 17) (hro : F.round = none) (A : Option Addr) (n c : Nat) (w : World) :
    CallsIn F m Try.prog 17 #[.slice A n c] w fun e w' => e = .returned (.func (.func 24) #[] #[.pointer (some ⟨w.heap.size, 0, none⟩)]) ∧ w' = w.alloc (.cells #[.slice A n c] 22) := by
  refine callsIn_of_wp Try.func17 rfl hF ?_ hro
  simp only [Try.ntmps17, List.size_toArray, List.length_cons, List.length_nil, Nat.reduceAdd, Nat.reduceSub, Array.replicate_succ, Array.replicate_zero, List.push_toArray, List.append_toArray, List.nil_append, List.cons_append]
  gi_wp2
  go_ret
  exact ⟨rfl, rfl⟩

theorem back_stops (F : Fence) (m : Nat) (hF : F.fn 24) (hro : F.round = none) (hm : 1 ≤ m) (Bs n c : Nat) (A : Option Addr) (L : List RawS) (h0 : 0 < n) (hL : L.length = n) (hn : n ≤ 1000000) (w : World)
    (hc : w.cell? ⟨Bs, 0, none⟩ = some (.slice A n c)) (hr : Rd w 2 A n (ss L)) :
    SeqStopsK F m Try.prog 24 #[.pointer (some ⟨Bs, 0, none⟩)] (encB L n) (Below w.heap.size) (fun ys => ys = upto (bk n h0) n) (fun pre => ∃ k, k ≤ n ∧ pre = upto (bk n h0) k) n w := fun l J Jx W hW _ _ hY hJ =>
  back1_in F m hF hro hm l Bs w.heap.size n c A L h0 hL hn (cell_lt hc) (fun b off e => rd_lt hr (by decide) h0 e) J Jx hY W ((hW.cell (cell_lt hc)).trans hc) (hr.below hW) hJ
end Go.Proofs.Ythgmjmecedhkoaa.Opaque
