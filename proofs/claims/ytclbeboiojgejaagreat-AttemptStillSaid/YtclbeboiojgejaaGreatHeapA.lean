/-
  'copy' BETWEEN SLICES OF ELEMENTS OF k CELLS, of my own: the run, and the law for the walk. No conditions beyond those that each theorem states. Nothing of the program is named here.
-/
import Derived.Test.YtclbeboiojgejaaGreatMemA
import Derived.Test.YtclbeboiojgejaaGreatRows
import Derived.LoopTactic
import Derived.Deep.QuietTactic
import Derived.BigQuiet
import Derived.RegionTactic
import Derived.Laws.StructEq
import Derived.StillTailTactics
import Derived.WalkKit
import Derived.ProofKit
import Derived.OpenShut
import Derived.Lib.Hide
import Derived.OwnWalk
import Derived.Lib.SliceRun
import Derived.Laws.CopyOwn
import Derived.Lib.AppendZerosOnto
import Derived.Laws.NewBlocks
import Derived.Lib.Overlaps
namespace Go.Proofs.YtclbeboiojgejaaGreat.Heap
open Go.ChangeShapes Go.WideShapes Go.ChangeAt Go.RowKit

structure Cell where
  live : Bool
  value : Int
  deriving DecidableEq, Inhabited

def cc (c : Cell) : List Value := [.bool c.live, .int .i64 c.value]
def cs (h : List Cell) : List Value := h.flatMap cc

theorem cs_len (h : List Cell) : (cs h).length = h.length * 2 := by
  induction h with
  | nil => rfl
  | cons c h ih => simp [cs, cc] at *; omega
theorem cs_0 (h : List Cell) (k : Nat) (hk : k < h.length) : (cs h)[k * 2]? = some (.bool (h[k]'hk).live) := by
  induction h generalizing k with
  | nil => simp at hk
  | cons c h ih =>
    cases k with
    | zero => rfl
    | succ k =>
      have : (k + 1) * 2 = k * 2 + 2 := by omega
      rw [this]
      simpa [cs, cc] using ih k (by simpa using hk)
theorem cs_1 (h : List Cell) (k : Nat) (hk : k < h.length) : (cs h)[k * 2 + 1]? = some (.int .i64 (h[k]'hk).value) := by
  induction h generalizing k with
  | nil => simp at hk
  | cons c h ih =>
    cases k with
    | zero => rfl
    | succ k =>
      have : (k + 1) * 2 + 1 = k * 2 + 1 + 2 := by omega
      rw [this]
      simpa [cs, cc] using ih k (by simpa using hk)

/-- One cell of the heap, in memory. -/
theorem at_cell {w : World} {A : Option Addr} {n : Nat} {h : List Cell} (hr : Mem.Rd w 2 A n (cs h)) (k : Nat) (hk : k < n) :
    ∃ b off, ∃ x : Cell, A = some ⟨b, off, none⟩ ∧ h[k]? = some x ∧ w.cell? ⟨b, off + k * 2, none⟩ = some (.bool x.live) ∧ w.cell? ⟨b, off + k * 2 + 1, none⟩ = some (.int .i64 x.value) := by
  have hl : h.length = n := by have := hr.1; rw [cs_len] at this; omega
  obtain ⟨b, off, rfl, hc⟩ := hr.2 (by omega)
  have hkl : k < h.length := by omega
  exact ⟨b, off, h[k], rfl, List.getElem?_eq_getElem hkl, hc _ _ (cs_0 h k hkl), by rw [Nat.add_assoc]; exact hc _ _ (cs_1 h k hkl)⟩

def vB (n : Int) : Bool := decide (-2147483648 ≤ n ∧ n ≤ 2147483647)
/-- May it stand in a heap? -/
def cellB (c : Cell) : Bool := vB c.value && (c.live || c.value == 0)
def rightB (h : List Cell) : Bool := decide (0 < h.length ∧ h.length < 65) && h.all cellB
theorem take_all {α : Type} (h : List α) (p : α → Bool) (k : Nat) (x : α) (hk : h[k]? = some x) : (h.take (k + 1)).all p = ((h.take k).all p && p x) := by
  obtain ⟨hl, rfl⟩ := List.getElem?_eq_some_iff.1 hk
  rw [List.take_succ_eq_append_getElem hl, List.all_append]; simp
theorem right_bad (h : List Cell) (k : Nat) (x : Cell) (hk : h[k]? = some x) (hb : cellB x = false) : rightB h = false := by
  obtain ⟨hl, rfl⟩ := List.getElem?_eq_some_iff.1 hk
  unfold rightB
  rw [Bool.and_eq_false_iff]; right
  rw [List.all_eq_false]
  exact ⟨h[k], List.getElem_mem hl, by simp [hb]⟩
theorem take_eq {α : Type} (x y : List α) (k : Nat) (c : α) (hx : x[k]? = some c) (hy : y[k]? = some c) (h : x.take k = y.take k) : x.take (k + 1) = y.take (k + 1) := by
  rw [List.take_add_one, List.take_add_one, h, hx, hy]
theorem take_ne {α : Type} [DecidableEq α] (x y : List α) (k : Nat) (c d : α) (hx : x[k]? = some c) (hy : y[k]? = some d) (h : c ≠ d) : decide (x = y) = false := by
  refine decide_eq_false ?_
  rintro rfl
  rw [hx] at hy; injection hy with e; exact h e
/-- With another cell at a place, if there is one. -/
def setAt (h : List Cell) (at_ : Int) (c : Cell) : List Cell := if at_ < 0 then h else h.set at_.toNat c
theorem setAt_len (h : List Cell) (a : Int) (c : Cell) : (setAt h a c).length = h.length := by unfold setAt; split <;> simp
theorem setAt_at (h : List Cell) (k : Nat) (c x : Cell) (hk : h[k]? = some x) : (setAt h (k : Int) c)[k]? = some c := by
  obtain ⟨hl, rfl⟩ := List.getElem?_eq_some_iff.1 hk
  unfold setAt; rw [if_neg (by omega)]; simp [hl]
theorem setAt_ne (h : List Cell) (a : Int) (k : Nat) (c x : Cell) (hk : h[k]? = some x) (hne : (k : Int) ≠ a) : (setAt h a c)[k]? = some x := by
  unfold setAt; split
  · exact hk
  · rw [List.getElem?_set_ne (by omega)]; exact hk
/-- Is there such a cell that is live? -/
def liveAt (h : List Cell) (cell : Int) : Bool := if cell < 0 then false else (h[cell.toNat]?.map Cell.live).getD false
def valAt (h : List Cell) (cell : Int) : Int := (h[cell.toNat]?.map Cell.value).getD 0
theorem live_at (h : List Cell) (k : Nat) (x : Cell) (hk : h[k]? = some x) : liveAt h (k : Int) = x.live := by
  unfold liveAt; rw [if_neg (by omega)]; simp [hk]
theorem val_at (h : List Cell) (k : Nat) (x : Cell) (hk : h[k]? = some x) : valAt h (k : Int) = x.value := by
  unfold valAt; simp [hk]
theorem live_in (h : List Cell) (cell : Int) (hl : liveAt h cell = true) : 0 ≤ cell ∧ cell.toNat < h.length ∧ ∃ x, h[cell.toNat]? = some x ∧ x.live = true := by
  unfold liveAt at hl
  split at hl
  · cases hl
  · rename_i hc
    cases hx : h[cell.toNat]? with
    | none => simp [hx] at hl
    | some x => simp [hx] at hl; exact ⟨by omega, (List.getElem?_eq_some_iff.1 hx).1, x, rfl, hl⟩
theorem live_out (h : List Cell) (cell : Int) (hc : cell < 0 ∨ (h.length : Int) ≤ cell) : liveAt h cell = false := by
  unfold liveAt; split
  · rfl
  · rw [List.getElem?_eq_none (by omega)]; rfl

def getS (h : List Cell) (cell : Int) : Int × Int :=
  if rightB h = true then (if liveAt h cell = true then (valAt h cell, 0) else (0, 3)) else (0, 1)
structure Write where
  cell : Int
  value : Int
  deriving DecidableEq, Inhabited
def putAll (h : List Cell) (l : List Write) : List Cell := l.foldl (fun h w => setAt h w.cell ⟨true, w.value⟩) h
def putS (h : List Cell) (l : List Write) : List Cell × Int :=
  if (rightB h && l.all (fun w => vB w.value)) = true then (if l.all (fun w => liveAt h w.cell) = true then (putAll h l, 0) else (h, 3)) else (h, 1)

def wc (c : Write) : List Value := [.int .i64 c.cell, .int .i64 c.value]
def ws (h : List Write) : List Value := h.flatMap wc
theorem ws_len (h : List Write) : (ws h).length = h.length * 2 := by
  induction h with
  | nil => rfl
  | cons c h ih => simp [ws, wc] at *; omega
theorem ws_at (h : List Write) (k : Nat) (x : Write) (hk : h[k]? = some x) : (ws h)[k * 2]? = some (.int .i64 x.cell) ∧ (ws h)[k * 2 + 1]? = some (.int .i64 x.value) := by
  induction h generalizing k with
  | nil => simp at hk
  | cons c h ih =>
    cases k with
    | zero => simp at hk; subst hk; exact ⟨rfl, rfl⟩
    | succ k =>
      have e1 : (k + 1) * 2 = k * 2 + 2 := by omega
      have e2 : (k + 1) * 2 + 1 = k * 2 + 1 + 2 := by omega
      rw [e1]
      obtain ⟨i1, i2⟩ := ih k (by simpa using hk)
      exact ⟨by simpa [ws, wc] using i1, by simpa [ws, wc] using i2⟩
theorem at_write {w : World} {A : Option Addr} {n : Nat} {h : List Write} (hr : Mem.Rd w 2 A n (ws h)) (k : Nat) (hk : k < n) :
    ∃ b off, ∃ x : Write, A = some ⟨b, off, none⟩ ∧ h[k]? = some x ∧ w.cell? ⟨b, off + k * 2, none⟩ = some (.int .i64 x.cell) ∧ w.cell? ⟨b, off + k * 2 + 1, none⟩ = some (.int .i64 x.value) := by
  have hl : h.length = n := by have := hr.1; rw [ws_len] at this; omega
  obtain ⟨b, off, rfl, hc⟩ := hr.2 (by omega)
  have hkl : k < h.length := by omega
  have hx := List.getElem?_eq_getElem hkl
  obtain ⟨i1, i2⟩ := ws_at h k _ hx
  exact ⟨b, off, _, rfl, hx, hc _ _ i1, by rw [Nat.add_assoc]; exact hc _ _ i2⟩
end Go.Proofs.YtclbeboiojgejaaGreat.Heap

namespace Go.Proofs.YtclbeboiojgejaaGreat.Heap

theorem set_right (h : List Cell) (a : Int) (c : Cell) (hr : rightB h = true) (hc : cellB c = true) : rightB (setAt h a c) = true := by
  unfold rightB at *
  rw [setAt_len]
  rw [Bool.and_eq_true] at *
  refine ⟨hr.1, ?_⟩
  rw [List.all_eq_true] at *
  intro x hx
  unfold setAt at hx
  split at hx
  · exact hr.2 x hx
  · rcases List.mem_or_eq_of_mem_set hx with hx | rfl
    · exact hr.2 x hx
    · exact hc
end Go.Proofs.YtclbeboiojgejaaGreat.Heap

namespace Go.Proofs.YtclbeboiojgejaaGreat.Heap

/-- A write of a live cell leaves who is live. -/
theorem set_live (h : List Cell) (a : Int) (v : Int) (hl : liveAt h a = true) (c : Int) : liveAt (setAt h a ⟨true, v⟩) c = liveAt h c := by
  obtain ⟨h0, h1, x, hx, hlv⟩ := live_in h a hl
  obtain ⟨k, rfl⟩ := Int.eq_ofNat_of_zero_le h0
  simp only [Int.toNat_natCast] at hx h1
  by_cases hc : 0 ≤ c
  · obtain ⟨j, rfl⟩ := Int.eq_ofNat_of_zero_le hc
    by_cases hj : j < h.length
    · by_cases e : j = k
      · subst e
        rw [live_at _ j _ (setAt_at h j _ _ hx), hl]
      · rw [live_at _ j _ (setAt_ne h k j _ _ (List.getElem?_eq_getElem hj) (by omega)), live_at _ j _ (List.getElem?_eq_getElem hj)]
    · rw [live_out _ _ (by rw [setAt_len]; omega), live_out _ _ (by omega)]
  · rw [live_out _ _ (by omega), live_out _ _ (by omega)]
theorem putAll_right (h : List Cell) (l : List Write) (hr : rightB h = true) (hv : l.all (fun w => vB w.value) = true) : rightB (putAll h l) = true := by
  induction l generalizing h with
  | nil => exact hr
  | cons x l ih =>
    simp only [List.all_cons, Bool.and_eq_true] at hv
    exact ih (setAt h x.cell ⟨true, x.value⟩) (set_right h _ _ hr (by unfold cellB; simp [hv.1])) hv.2
/-- What a cell holds behind many writes: the last one of it. -/
def lastV (i : Nat) (l : List Write) (v : Int) : Int := l.foldl (fun v w => if w.cell = (i : Int) then w.value else v) v
theorem putAll_at (h : List Cell) (l : List Write) (hl : l.all (fun w => liveAt h w.cell) = true) (i : Nat) (x : Cell) (hx : h[i]? = some x) : (putAll h l)[i]? = some ⟨x.live, lastV i l x.value⟩ := by
  induction l generalizing h x with
  | nil => simpa [putAll, lastV] using hx
  | cons y l ih =>
    simp only [List.all_cons, Bool.and_eq_true] at hl
    have hs := set_live h y.cell y.value hl.1
    have hl' : l.all (fun w => liveAt (setAt h y.cell ⟨true, y.value⟩) w.cell) = true := by
      rw [List.all_eq_true] at *
      intro z hz; rw [hs]; exact hl.2 z hz
    show (putAll (setAt h y.cell ⟨true, y.value⟩) l)[i]? = _
    by_cases e : y.cell = (i : Int)
    · have hli := hl.1
      rw [e, live_at h i _ hx] at hli
      have := ih (setAt h y.cell ⟨true, y.value⟩) hl' ⟨true, y.value⟩ (by rw [e]; exact setAt_at h i _ _ hx)
      rw [this, hli]
      simp [lastV, e]
    · have := ih (setAt h y.cell ⟨true, y.value⟩) hl' x (setAt_ne h y.cell i _ _ hx (fun h => e h.symm))
      rw [this]
      simp [lastV, e]
end Go.Proofs.YtclbeboiojgejaaGreat.Heap

namespace Go.Proofs.YtclbeboiojgejaaGreat.Heap
open Go.ChangeShapes Go.WideShapes Go.ChangeAt Go.RowKit Mem

set_option maxRecDepth 100000 in
theorem tCell : SliceT Tryz.prog 48 76 2 16 := SliceT.mk_ (z := .agg #[.bool false, .int .i64 0]) Tryz.underlying48 (by kernel_rfl) rfl (by decide)

set_option maxRecDepth 100000 in
theorem ref01right_any (n : Int) (w : World) :
    Calls Tryz.prog 91 #[.int .i64 n] w fun e w' => e = .returned (.bool (vB n)) ∧ w = w' := by
  by_cases h1 : -2147483648 ≤ n
  all_goals by_cases h2 : n ≤ 2147483647
  all_goals
    go_enter Tryz.func91, Tryz.ntmps91
    go_wp2
    go_ret
    exact ⟨ret_bool (by unfold vB; simp [h1, h2]), rfl⟩

set_option maxRecDepth 100000 in
theorem right_any (h : List Cell) (A : Option Addr) (n c : Nat) (w : World) (hr : Rd w 2 A n (cs h)) (hn : n ≤ 1000000) :
    Calls Tryz.prog 45 #[.slice A n c] w fun e w' => e = .returned (.bool (rightB h)) ∧ w = w' := by
  have hl : h.length = n := by have := hr.1; rw [cs_len] at this; omega
  have HL := Lib.hid hl
  clear hl
  have HR := Lib.hid hr
  clear hr
  go_enter Tryz.func45, Tryz.ntmps45
  go_wp2
  go_loop [3] (fun i => ∃ k : Nat, k ≤ n ∧ i = .int .i64 k ∧ Hid ((h.take k).all cellB = true)) (fun i => n - (intOf i).toNat)
  case atStart => exact ⟨0, Nat.zero_le _, rfl, rfl⟩
  case round =>
    obtain ⟨k, hk, rfl, hall⟩ := hrel
    by_cases hlt : k < n
    · obtain ⟨b, off, ⟨lv, vl⟩, rfl, hx, c0, c1⟩ := at_cell HR.out k hlt
      have HX := Lib.hid hx
      clear hx
      have hs := Lib.hid (take_all h cellB k _ HX.out)
      by_cases hok : cellB ⟨lv, vl⟩ = true
      · have t1 : vB vl = true := by unfold cellB at hok; simp at hok; exact hok.1
        have t2 : lv = true ∨ vl = 0 := by unfold cellB at hok; simp at hok; exact hok.2
        have HOK := Lib.hid hok
        clear hok
        rcases t2 with rfl | rfl
        all_goals try cases lv
        all_goals
          go_wp2_with (go_at_call 91; refine (ref01right_any _ _).mono ?_; rintro e w' ⟨rfl, rfl⟩)
          go_round
          case rel => exact ⟨k + 1, by omega, by go_num, Lib.hid (by rw [hs.out, hall.out, HOK.out]; rfl)⟩
          case measure => simp [intOf]; omega
      · have hf : rightB h = false := right_bad h k _ HX.out (by simpa using hok)
        have HF := Lib.hid hf
        clear hf
        by_cases t1 : vB vl = true
        · have t2 : lv = false ∧ (vl != 0) = true := by unfold cellB at hok; simp [t1] at hok; simpa using hok
          obtain ⟨rfl, t3⟩ := t2
          clear hok
          go_wp2_with (go_at_call 91; refine (ref01right_any _ _).mono ?_; rintro e w' ⟨rfl, rfl⟩)
          go_ret
          exact ⟨ret_bool HF.out.symm, rfl⟩
        · have t1' : vB vl = false := by simpa using t1
          clear t1 hok
          go_wp2_with (go_at_call 91; refine (ref01right_any _ _).mono ?_; rintro e w' ⟨rfl, rfl⟩)
          go_ret
          exact ⟨ret_bool HF.out.symm, rfl⟩
    · have hkn : k = n := by omega
      have hf : rightB h = decide (0 < n ∧ n < 65) := by
        have := hall.out
        rw [hkn, ← HL.out, List.take_length] at this
        unfold rightB; rw [this, HL.out]; simp
      have HF := Lib.hid hf
      clear hf hkn
      by_cases h1 : 0 < n
      all_goals by_cases h2 : n < 65
      all_goals
        go_wp2
        go_ret
        exact ⟨ret_bool (by rw [HF.out]; first | (simp [h1, h2]; done) | (simp [h1, h2]; omega)), rfl⟩

set_option maxRecDepth 100000 in
theorem same_any (x y : List Cell) (A B : Option Addr) (n m c d : Nat) (w : World) (hx : Rd w 2 A n (cs x)) (hy : Rd w 2 B m (cs y)) (hn : n ≤ 1000000) (hm : m ≤ 1000000) :
    Calls Tryz.prog 27 #[.slice A n c, .slice B m d] w fun e w' => e = .returned (.bool (decide (x = y))) ∧ ∃ q, w' = w.drewN q := by
  have HX := Lib.hid hx
  have HY := Lib.hid hy
  clear hx hy
  by_cases hnm : n = m
  · subst hnm
    go_enter Tryz.func27, Tryz.ntmps27
    go_wp2
    go_loopw [5] (fun i wr => ∃ k q : Nat, k ≤ n ∧ i = .int .i64 k ∧ wr = w.drewN q ∧ Hid (x.take k = y.take k)) (fun i _ => n - (intOf i).toNat)
    case atStart => exact ⟨0, 0, Nat.zero_le _, rfl, rfl, Lib.hid rfl⟩
    case round =>
      obtain ⟨k, q, hk, rfl, rfl, hall⟩ := hrel
      by_cases hlt : k < n
      · obtain ⟨b, off, ⟨lv, vl⟩, rfl, hx, c0, c1⟩ := at_cell HX.out k hlt
        obtain ⟨b', off', ⟨lv', vl'⟩, rfl, hx', c0', c1'⟩ := at_cell HY.out k hlt
        have GX := Lib.hid hx
        have GY := Lib.hid hx'
        clear hx hx'
        by_cases heq : lv = lv' ∧ vl = vl'
        · obtain ⟨rfl, rfl⟩ := heq
          have hs : Hid (x.take (k + 1) = y.take (k + 1)) := Lib.hid (take_eq x y k _ GX.out GY.out hall.out)
          go_wp2
          go_quiet (fail)
          go_wp2
          go_roundw
          case rel => exact ⟨k + 1, _, by omega, by go_num, rfl, hs⟩
          case measure => simp [intOf]; omega
        · have hf : Hid (decide (x = y) = false) := Lib.hid (take_ne x y k _ _ GX.out GY.out (by intro e; injection e with e1 e2; exact heq ⟨e1, e2⟩))
          by_cases h1 : lv = lv'
          · subst h1
            have h2 : ¬ vl = vl' := fun e => heq ⟨rfl, e⟩
            clear heq
            go_wp2
            go_quiet (fail)
            go_wp2
            go_ret
            exact ⟨ret_bool hf.out.symm, _, by first | exact World.drewN_drewN _ _ _ | rfl⟩
          · clear heq
            go_wp2
            go_quiet (fail)
            go_wp2
            go_ret
            exact ⟨ret_bool hf.out.symm, _, by first | exact World.drewN_drewN _ _ _ | rfl⟩
      · have hf : Hid (decide (x = y) = true) := by
          refine Lib.hid (decide_eq_true ?_)
          have := hall.out
          have l1 := HX.out.1
          have l2 := HY.out.1
          rw [cs_len] at l1 l2
          rwa [List.take_of_length_le (by omega), List.take_of_length_le (by omega)] at this
        go_wp2
        go_ret
        exact ⟨ret_bool hf.out.symm, _, by first | exact World.drewN_drewN _ _ _ | rfl⟩
  · have hf : Hid (decide (x = y) = false) := by
      refine Lib.hid (decide_eq_false ?_)
      intro e
      have l1 := HX.out.1
      have l2 := HY.out.1
      rw [e] at l1
      exact hnm (by omega)
    go_enter Tryz.func27, Tryz.ntmps27
    go_wp2
    go_ret
    exact ⟨ret_bool hf.out.symm, 0, rfl⟩

end Go.Proofs.YtclbeboiojgejaaGreat.Heap

namespace Go.Proofs.YtclbeboiojgejaaGreat.Heap
open Go.ChangeShapes Go.WideShapes Go.ChangeAt Go.RowKit Mem

end Go.Proofs.YtclbeboiojgejaaGreat.Heap

namespace Go.Proofs.YtclbeboiojgejaaGreat.Heap
open Go.ChangeShapes Go.WideShapes Go.ChangeAt Go.RowKit Mem

end Go.Proofs.YtclbeboiojgejaaGreat.Heap

namespace Go.Proofs.YtclbeboiojgejaaGreat.Span

/-- The value to which a number goes round. -/
def sw (n : Int) : Int := (n + 2147483648) % 4294967296 - 2147483648

theorem sw_bd (n : Int) : -2147483648 ≤ sw n ∧ sw n ≤ 2147483647 := by unfold sw; omega
theorem sw_emod (n : Int) : sw n % 4294967296 = n % 4294967296 := by unfold sw; omega
theorem sw_of (a b : Int) (h : a % 4294967296 = b % 4294967296) : sw a = sw b := by unfold sw; omega
theorem sw_add (a b : Int) : sw (sw a + sw b) = sw (a + b) :=
  sw_of _ _ (by rw [Int.add_emod, sw_emod, sw_emod, ← Int.add_emod])
theorem sw_sub (a b : Int) : sw (sw a - sw b) = sw (a - b) :=
  sw_of _ _ (by rw [Int.sub_emod, sw_emod, sw_emod, ← Int.sub_emod])
theorem sw_mul (a b : Int) : sw (sw a * sw b) = sw (a * b) :=
  sw_of _ _ (by rw [Int.mul_emod, sw_emod, sw_emod, ← Int.mul_emod])
/-- A product of two values fits well into 64 bits. -/
theorem mul_bd (x y : Int) (hx : -2147483648 ≤ x ∧ x ≤ 2147483647) (hy : -2147483648 ≤ y ∧ y ≤ 2147483648) :
    -4611686018427387904 ≤ x * y ∧ x * y ≤ 4611686018427387904 := by
  have h1 : x * y ≤ x.natAbs * y.natAbs := by
    rw [← Int.natCast_mul, ← Int.natAbs_mul]; omega
  have h2 : -(x.natAbs * y.natAbs : Int) ≤ x * y := by
    rw [← Int.natCast_mul, ← Int.natAbs_mul]; omega
  have h3 : x.natAbs * y.natAbs ≤ 2147483648 * 2147483648 := Nat.mul_le_mul (by omega) (by omega)
  have h4 : ((x.natAbs * y.natAbs : Nat) : Int) ≤ 4611686018427387904 := by omega
  rw [Int.natCast_mul] at h4
  omega
end Go.Proofs.YtclbeboiojgejaaGreat.Span

namespace Go.Proofs.YtclbeboiojgejaaGreat.Span
open Go.ChangeShapes Go.WideShapes Go.ChangeAt Go.RowKit

theorem ret_int {k : IntKind} {a b : Int} (h : a = b) : Ending.returned (.int k a) = .returned (.int k b) := by rw [h]
theorem ret_bool {a b : Bool} (h : a = b) : Ending.returned (.bool a) = .returned (.bool b) := by rw [h]

/-- Is it a value? -/
def rightB (n : Int) : Bool := decide (-2147483648 ≤ n ∧ n ≤ 2147483647)

set_option maxRecDepth 100000 in
theorem right_any (n : Int) (w : World) :
    Calls Tryz.prog 107 #[.int .i64 n] w fun e w' => e = .returned (.bool (rightB n)) ∧ w = w' := by
  by_cases h1 : -2147483648 ≤ n
  all_goals by_cases h2 : n ≤ 2147483647
  all_goals
    go_enter Tryz.func107, Tryz.ntmps107
    go_wp2
    go_ret
    exact ⟨ret_bool (by unfold rightB; simp [h1, h2]), rfl⟩

set_option maxRecDepth 100000 in
theorem wrap_any (n : Int) (w : World) :
    Calls Tryz.prog 180 #[.int .i64 n] w fun e w' => e = .returned (.int .i64 (sw n)) ∧ w = w' := by
  have hb := sw_bd n
  have e : wrap32 n = sw n := by unfold wrap32 sw; rfl
  go_enter Tryz.func180, Tryz.ntmps180
  go_wp2
  go_ret
  exact ⟨rfl, rfl⟩

set_option maxRecDepth 100000 in
theorem add_any (a b : Int) (w : World) :
    Calls Tryz.prog 181 #[.int .i64 a, .int .i64 b] w fun e w' => e = .returned (.int .i64 (sw (a + b))) ∧ w = w' := by
  have ha := sw_bd a
  have hb := sw_bd b
  go_enter Tryz.func181, Tryz.ntmps181
  go_wp2_with (go_at_call 180; refine (wrap_any _ _).mono ?_; rintro e w' ⟨rfl, rfl⟩)
  go_ret
  exact ⟨ret_int (sw_add a b), rfl⟩

set_option maxRecDepth 100000 in
theorem sub_any (a b : Int) (w : World) :
    Calls Tryz.prog 182 #[.int .i64 a, .int .i64 b] w fun e w' => e = .returned (.int .i64 (sw (a - b))) ∧ w = w' := by
  have ha := sw_bd a
  have hb := sw_bd b
  go_enter Tryz.func182, Tryz.ntmps182
  go_wp2_with (go_at_call 180; refine (wrap_any _ _).mono ?_; rintro e w' ⟨rfl, rfl⟩)
  go_ret
  exact ⟨ret_int (sw_sub a b), rfl⟩

set_option maxRecDepth 100000 in
theorem mul_any (a b : Int) (w : World) :
    Calls Tryz.prog 183 #[.int .i64 a, .int .i64 b] w fun e w' => e = .returned (.int .i64 (sw (a * b))) ∧ w = w' := by
  have ha := sw_bd a
  have hb := sw_bd b
  have hm := mul_bd (sw a) (sw b) ha (by omega)
  go_enter Tryz.func183, Tryz.ntmps183
  go_wp2_with (go_at_call 180; refine (wrap_any _ _).mono ?_; rintro e w' ⟨rfl, rfl⟩)
  go_ret
  exact ⟨ret_int (sw_mul a b), rfl⟩

/-- 1 for true, 0 for false. -/
def truthI (b : Bool) : Int := if b then 1 else 0

set_option maxRecDepth 100000 in
theorem truth_any (b : Bool) (w : World) :
    Calls Tryz.prog 178 #[.bool b] w fun e w' => e = .returned (.int .i64 (truthI b)) ∧ w = w' := by
  cases b
  all_goals
    go_enter Tryz.func178, Tryz.ntmps178
    go_wp2
    go_ret
    exact ⟨rfl, rfl⟩

theorem refright_any (n : Int) (w : World) :
    Calls Tryz.prog 91 #[.int .i64 n] w fun e w' => e = .returned (.bool (rightB n)) ∧ w = w' := by
  by_cases h1 : -2147483648 ≤ n
  all_goals by_cases h2 : n ≤ 2147483647
  all_goals
    go_enter Tryz.func91, Tryz.ntmps91
    go_wp2
    go_ret
    exact ⟨ret_bool (by unfold rightB; simp [h1, h2]), rfl⟩

end Go.Proofs.YtclbeboiojgejaaGreat.Span

namespace Go.Proofs.YtclbeboiojgejaaGreat.Heap
open Go.ChangeShapes Go.WideShapes Go.ChangeAt Go.RowKit Mem

def ic (k : Nat) : List Value := [.int .i64 (k : Int)]
def is (l : List Nat) : List Value := l.flatMap ic

def RetB (w : World) (b : Bool) (e : Ending) (w' : World) : Prop := e = .returned (.bool b) ∧ Below w.heap.size w w'
def RetG (w : World) (r : Int × Int) (e : Ending) (w' : World) : Prop := e = .returned (.tuple #[.int .i64 r.1, .int .i64 r.2]) ∧ Below w.heap.size w w'
def RetI (w : World) (m : Nat) (r : List Nat) (e : Ending) (w' : World) : Prop :=
  ∃ B d, e = .returned (.slice B m d) ∧ Rd w' 1 B m (is r) ∧ Below w.heap.size w w'

set_option maxRecDepth 100000 in
theorem same_b (x y : List Cell) (A B : Option Addr) (n m c d : Nat) (w : World) (b : Bool) (hx : Rd w 2 A n (cs x)) (hy : Rd w 2 B m (cs y)) (hn : n ≤ 1000000) (hm : m ≤ 1000000) (hb : decide (x = y) = b) :
    Calls Tryz.prog 27 #[.slice A n c, .slice B m d] w (RetB w b) := by
  subst hb
  refine (same_any x y A B n m c d w hx hy hn hm).mono ?_
  rintro e w' ⟨rfl, q, rfl⟩
  exact ⟨rfl, bl_drewN (Below.refl _ _) q⟩


/-- The numbers of a struct fit 64 bits. -/
def Fits (n : Int) : Prop := -9223372036854775808 ≤ n ∧ n ≤ 9223372036854775807
set_option maxRecDepth 100000 in
theorem open_cells {H : Type} {enc : TypeId × Value → H} {W : World} {A : Option Addr} {n c : Nat} {d : DataW H} {p : List MemPlace}
    (h : DataW.Trod enc Tryz.prog W 0 (fun _ => true) true 48 (.slice A n c) d p) :
    n ≤ c ∧ c ≤ 9223372036854775807 ∧ ∃ xs : List Cell, Rd W 2 A n (cs xs) ∧ xs.length = n ∧ ∀ x ∈ xs, Fits x.value := by
  refine open_rows Tryz.underlying48 2 (by kernel_rfl) (by decide) cc (fun _ => rfl) (fun x => Fits x.value) ?_ h
  intro fuel cs' x hl ht
  obtain ⟨xs, n', _, _, _, hxl, hf⟩ := DataW.trod_struct Tryz.underlying76 ht
  match cs', hl with
  | [c0, c1], _ =>
    have g0 := hf 0 _ rfl
    have g1 := hf 1 _ rfl
    have k3 : Tryz.prog.cellsOf 3 = 1 := by kernel_rfl
    have k4 : Tryz.prog.cellsOf 4 = 1 := by kernel_rfl
    match xs, hxl with
    | [y0, y1], _ =>
      simp [k3, k4] at g0 g1
      obtain ⟨b, e0, _⟩ := DataW.trod_bool Tryz.underlying4 g0
      obtain ⟨m, e1, _, wf⟩ := DataW.trod_int Tryz.underlying3 g1
      simp at e0 e1
      subst e0 e1
      exact ⟨⟨b, m⟩, rfl, bounds_i64 wf⟩
end Go.Proofs.YtclbeboiojgejaaGreat.Heap

namespace Go.Proofs.YtclbeboiojgejaaGreat.Heap
open Go.ChangeShapes Go.WideShapes Go.ChangeAt Go.RowKit Mem

theorem own_set {w0 w : World} {e size n cap g : Nat} {xs : List Value} (h : Own w0 w e size (.slice (some ⟨g, 0, none⟩) n cap) n xs) (j : Nat) (u : Value) :
    Own w0 (w.setCell ⟨g, j, none⟩ u) e size (.slice (some ⟨g, 0, none⟩) n cap) n (xs.set j u) :=
  ⟨(h.1.stored j u).1, h.2.setCell (h.base g rfl) u⟩
theorem own_lay {w0 w : World} {e size n : Nat} {v : Value} {xs : List Value} (h : Own w0 w e size v n xs) (hn : 0 < n) : ∃ g cap, v = .slice (some ⟨g, 0, none⟩) n cap := by
  rcases h.1.2 with ⟨_, h0⟩ | ⟨g, cap, cur, rfl, _⟩
  · omega
  · exact ⟨g, cap, rfl⟩
theorem cs_one (h : List Cell) : ∀ u ∈ cs h, u.oneCell' = true := by
  intro u hu
  obtain ⟨x, _, hx⟩ := List.mem_flatMap.1 hu
  unfold cc at hx
  simp at hx
  rcases hx with rfl | rfl <;> rfl
set_option maxRecDepth 100000 in
theorem spanright_any (n : Int) (w : World) :
    Calls Tryz.prog 107 #[.int .i64 n] w fun e w' => e = .returned (.bool (vB n)) ∧ w = w' := by
  by_cases h1 : -2147483648 ≤ n
  all_goals by_cases h2 : n ≤ 2147483647
  all_goals
    go_enter Tryz.func107, Tryz.ntmps107
    go_wp2
    go_ret
    exact ⟨ret_bool (by unfold vB; simp [h1, h2]), rfl⟩

def lenB (n : Int) : Bool := decide (1 ≤ n ∧ n ≤ 64)
set_option maxRecDepth 100000 in
theorem length_any (n : Int) (w : World) :
    Calls Tryz.prog 80 #[.int .i64 n] w fun e w' => e = .returned (.bool (lenB n)) ∧ w = w' := by
  by_cases h1 : 1 ≤ n
  all_goals by_cases h2 : n ≤ 64
  all_goals
    go_enter Tryz.func80, Tryz.ntmps80
    go_wp2
    go_ret
    exact ⟨ret_bool (by unfold lenB; simp [h1, h2]), rfl⟩

set_option maxRecDepth 100000 in
theorem cell_any (lv : Bool) (vl : Int) (w : World) (b : Bool) (hb : cellB ⟨lv, vl⟩ = b) :
    Calls Tryz.prog 81 #[.agg #[.bool lv, .int .i64 vl]] w (RetB w b) := by
  subst hb
  by_cases h1 : vB vl = true
  · cases lv
    · by_cases h2 : vl = 0
      · subst h2
        go_enter Tryz.func81, Tryz.ntmps81
        go_wp2_with (go_at_call 107; refine (spanright_any _ _).mono ?_; rintro e w' ⟨rfl, rfl⟩)
        go_ret
        exact ⟨ret_bool (by decide), bl_alloc (Below.refl _ _) _⟩
      · have h3 : (vl == 0) = false := beq_eq_false_iff_ne.2 h2
        clear h2
        go_enter Tryz.func81, Tryz.ntmps81
        go_wp2_with (go_at_call 107; refine (spanright_any _ _).mono ?_; rintro e w' ⟨rfl, rfl⟩)
        go_ret
        exact ⟨ret_bool (by unfold cellB; simp [h3]), bl_alloc (Below.refl _ _) _⟩
    · go_enter Tryz.func81, Tryz.ntmps81
      go_wp2_with (go_at_call 107; refine (spanright_any _ _).mono ?_; rintro e w' ⟨rfl, rfl⟩)
      go_ret
      exact ⟨ret_bool (by unfold cellB; simp [h1]), bl_alloc (Below.refl _ _) _⟩
  · have h1' : vB vl = false := by simpa using h1
    clear h1
    go_enter Tryz.func81, Tryz.ntmps81
    go_wp2_with (go_at_call 107; refine (spanright_any _ _).mono ?_; rintro e w' ⟨rfl, rfl⟩)
    go_ret
    exact ⟨ret_bool (by unfold cellB; simp [h1']), bl_alloc (Below.refl _ _) _⟩

set_option maxRecDepth 100000 in
theorem islive_any (h : List Cell) (A : Option Addr) (n c : Nat) (cell : Int) (w : World) (b : Bool) (hr : Rd w 2 A n (cs h)) (hb : liveAt h cell = b) :
    Calls Tryz.prog 106 #[.slice A n c, .int .i64 cell] w fun e w' => e = .returned (.bool b) ∧ w = w' := by
  have HL : Hid (h.length = n) := Lib.hid (by have := hr.1; rw [cs_len] at this; omega)
  by_cases h1 : 0 ≤ cell
  · obtain ⟨k, rfl⟩ := Int.eq_ofNat_of_zero_le h1
    clear h1
    by_cases h2 : k < n
    · obtain ⟨b, off, ⟨lv, vl⟩, rfl, hx, c0, c1⟩ := at_cell hr k h2
      have HF := Lib.hid ((live_at h k _ hx).symm.trans hb)
      clear hx hb hr
      go_enter Tryz.func106, Tryz.ntmps106
      go_wp2
      go_ret
      exact ⟨ret_bool HF.out, rfl⟩
    · have HF := Lib.hid ((live_out h k (by rw [HL.out]; omega)).symm.trans hb)
      clear hb hr
      go_enter Tryz.func106, Tryz.ntmps106
      go_wp2
      go_ret
      exact ⟨ret_bool HF.out, rfl⟩
  · have HF := Lib.hid ((live_out h cell (by omega)).symm.trans hb)
    clear hb hr
    go_enter Tryz.func106, Tryz.ntmps106
    go_wp2
    go_ret
    exact ⟨ret_bool HF.out, rfl⟩

set_option maxRecDepth 100000 in
theorem right_c (h : List Cell) (A : Option Addr) (n c : Nat) (w : World) (b : Bool) (hr : Rd w 2 A n (cs h)) (hn : n ≤ 1000000) (hb : rightB h = b) :
    Calls Tryz.prog 41 #[.slice A n c] w (RetB w b) := by
  subst hb
  have HL : Hid (h.length = n) := Lib.hid (by have := hr.1; rw [cs_len] at this; omega)
  have HR := Lib.hid hr
  clear hr
  by_cases hlen : lenB (n : Int) = true
  · have HN : Hid (0 < n ∧ n < 65) := Lib.hid (by unfold lenB at hlen; simp at hlen; omega)
    go_enter Tryz.func41, Tryz.ntmps41
    go_wp2_with (go_at_call 80; refine (length_any _ _).mono ?_; rintro e w' ⟨rfl, rfl⟩)
    go_loopw [11] (fun i wr => ∃ k : Nat, k ≤ n ∧ i = .int .i64 k ∧ Hid (Below w.heap.size w wr) ∧ Hid ((h.take k).all cellB = true)) (fun i _ => n - (intOf i).toNat)
    case atStart => exact ⟨0, Nat.zero_le _, rfl, Lib.hid (Below.refl _ _), Lib.hid rfl⟩
    case round =>
      obtain ⟨k, hk, rfl, HB, hall⟩ := hrel
      by_cases hlt : k < n
      · obtain ⟨b, off, ⟨lv, vl⟩, rfl, hx, c0, c1⟩ := at_cell (HR.out.below HB.out) k hlt
        have hs := Lib.hid (take_all h cellB k _ hx)
        by_cases hok : cellB ⟨lv, vl⟩ = true
        · have HOK := Lib.hid hok
          clear hx hok
          go_wp2_with fail
          refine (cell_any _ _ _ true HOK.out).mono ?_
          rintro e w1 ⟨rfl, b1⟩
          have HB1 := Lib.hid (bl_trans (bl_alloc HB.out _) b1)
          clear b1
          go_wp2_with fail
          go_roundw
          case rel => exact ⟨k + 1, by omega, by go_num, HB1, Lib.hid (by rw [hs.out, hall.out, HOK.out]; rfl)⟩
          case measure => simp [intOf]; omega
        · have HOK : Hid (cellB ⟨lv, vl⟩ = false) := Lib.hid (by simpa using hok)
          have HF : Hid (rightB h = false) := Lib.hid (right_bad h k _ hx HOK.out)
          clear hx hok
          go_wp2_with fail
          refine (cell_any _ _ _ false HOK.out).mono ?_
          rintro e w1 ⟨rfl, b1⟩
          have HB1 := Lib.hid (bl_trans (bl_alloc HB.out _) b1)
          clear b1
          go_wp2_with fail
          go_ret
          exact ⟨ret_bool HF.out.symm, HB1.out⟩
      · have HF : Hid (rightB h = true) := Lib.hid (by
          have := hall.out
          rw [List.take_of_length_le (by rw [HL.out]; omega)] at this
          unfold rightB; rw [this, HL.out]; simpa using HN.out)
        go_wp2
        go_ret
        exact ⟨ret_bool HF.out.symm, HB.out⟩
  · have hlen' : lenB (n : Int) = false := by simpa using hlen
    have HF : Hid (rightB h = false) := Lib.hid (by
      unfold lenB at hlen'; simp at hlen'
      unfold rightB; rw [HL.out, Bool.and_eq_false_iff]; left; simp; omega)
    clear hlen
    go_enter Tryz.func41, Tryz.ntmps41
    go_wp2_with (go_at_call 80; refine (length_any _ _).mono ?_; rintro e w' ⟨rfl, rfl⟩)
    go_ret
    exact ⟨ret_bool HF.out.symm, Below.refl _ _⟩

set_option maxRecDepth 100000 in
theorem get_c (h : List Cell) (A : Option Addr) (n c : Nat) (cell : Int) (w : World) (r : Int × Int) (hr : Rd w 2 A n (cs h)) (hn : n ≤ 1000000) (hg : getS h cell = r) :
    Calls Tryz.prog 66 #[.slice A n c, .int .i64 cell] w (RetG w r) := by
  subst hg
  have HL : Hid (h.length = n) := Lib.hid (by have := hr.1; rw [cs_len] at this; omega)
  have HR := Lib.hid hr
  clear hr
  by_cases h1 : rightB h = true
  · have H1 := Lib.hid h1
    by_cases h2 : liveAt h cell = true
    · have H2 := Lib.hid h2
      obtain ⟨hc0, hc1, x, hx, _⟩ := live_in h cell h2
      obtain ⟨k, rfl⟩ := Int.eq_ofNat_of_zero_le hc0
      simp only [Int.toNat_natCast] at hx hc1
      have hkn : k < n := by rw [← HL.out]; exact hc1
      have HF : Hid (getS h (k : Int) = (x.value, 0)) := Lib.hid (by unfold getS; rw [if_pos h1, if_pos h2, val_at h k _ hx])
      have HX := Lib.hid hx
      clear hx hc1 hc0 h1 h2
      go_enter Tryz.func66, Tryz.ntmps66
      go_wp2_with fail
      refine (right_c h _ _ _ _ true HR.out hn H1.out).mono ?_
      rintro e w1 ⟨rfl, b1⟩
      obtain ⟨b, off, y, rfl, hy, c0, c1⟩ := at_cell (HR.out.below b1) k hkn
      obtain rfl : x = y := by have := HX.out; rw [hy] at this; injection this with e; exact e.symm
      have HB := Lib.hid b1
      clear b1 hy
      go_wp2_with (go_at_call 106; refine (islive_any h _ _ _ _ _ true (HR.out.below HB.out) H2.out).mono ?_; rintro e w' ⟨rfl, rfl⟩)
      go_ret2
      exact ⟨by rw [HF.out]; rfl, HB.out⟩
    · have H2 : Hid (liveAt h cell = false) := Lib.hid (by simpa using h2)
      have HF : Hid (getS h cell = (0, 3)) := Lib.hid (by unfold getS; rw [if_pos h1, if_neg h2])
      clear h2 h1
      go_enter Tryz.func66, Tryz.ntmps66
      go_wp2_with fail
      refine (right_c h _ _ _ _ true HR.out hn H1.out).mono ?_
      rintro e w1 ⟨rfl, b1⟩
      have HB := Lib.hid b1
      clear b1
      go_wp2_with (go_at_call 106; refine (islive_any h _ _ _ _ _ false (HR.out.below HB.out) H2.out).mono ?_; rintro e w' ⟨rfl, rfl⟩)
      go_ret2
      exact ⟨by rw [HF.out]; rfl, HB.out⟩
  · have H1 : Hid (rightB h = false) := Lib.hid (by simpa using h1)
    have HF : Hid (getS h cell = (0, 1)) := Lib.hid (by unfold getS; rw [if_neg h1])
    clear h1
    go_enter Tryz.func66, Tryz.ntmps66
    go_wp2_with fail
    refine (right_c h _ _ _ _ false HR.out hn H1.out).mono ?_
    rintro e w1 ⟨rfl, b1⟩
    have HB := Lib.hid b1
    clear b1
    go_wp2_with fail
    go_ret2
    exact ⟨by rw [HF.out]; rfl, HB.out⟩
end Go.Proofs.YtclbeboiojgejaaGreat.Heap

namespace Go.Proofs.YtclbeboiojgejaaGreat.Heap
open Go.ChangeShapes Go.WideShapes Go.ChangeAt Go.RowKit Mem

end Go.Proofs.YtclbeboiojgejaaGreat.Heap

namespace Go.Proofs.YtclbeboiojgejaaGreat.Heap
open Go.ChangeShapes Go.WideShapes Go.ChangeAt Go.RowKit Mem


end Go.Proofs.YtclbeboiojgejaaGreat.Heap

namespace Go.Proofs.YtclbeboiojgejaaGreat.Mem
open Go.ChangeShapes Go.WideShapes Go.ChangeAt Go.RowKit

section
variable {P : Program}
theorem run_copy_k (w : World) (dT sT ty elem : TypeId) (k g o dLen dCap : Nat) (a : Addr) (sLen sCap : Nat) (cur : List Value) (t : TypeId) (cs : List Value)
    (hu : P.underlying dT = some (.slice elem)) (hs : (P.info? elem).map (·.size) = some k)
    (hg : w.heap[g]? = some (.cells cur.toArray t (0, 0))) (z : Nat) (hz : Nat.min sLen dLen = z) (hn : cs.length = z * k)
    (hsrc : ∀ j v, cs[j]? = some v → w.cell? (a.add j) = some v) (hfit : o + cs.length ≤ cur.length) (h1 : ∀ v ∈ cs, v.oneCell' = true) :
    (Builtin.copy_ #[dT, sT] ty #[.slice (some ⟨g, o, none⟩) dLen dCap, .slice (some a) sLen sCap]).run P w = .ok (goInt z) (w.setRow g (splice cur o cs).toArray) := by
  have hl := run_loadCells_list (P := P) w a cs hsrc
  have hst : (storeCells ⟨g, o, none⟩ cs 0).run P w = .ok () (w.setRow g (splice cur o cs).toArray) := by
    rw [run_storeCells_at P g o t cs 0 cur.toArray w hg (by simpa using hfit) h1]
    unfold splice; simp
  generalize (splice cur o cs).toArray = row at *
  cases hq : P.info? elem with
  | none => simp [hq] at hs
  | some i =>
    have hi : i.size = k := by simpa [hq] using hs
    have hz2 : min sLen dLen = z := hz
    simp [Builtin.copy_, run_underlying hu, Builtin.lenOf, Builtin.firstCells, sizeOf, typeInfo, hq, hi, hz2, ← hn, hl, hst]

/-- As one step of a region that draws. -/
theorem step_copy_k {w : World} {ops : Array Oper} {o : Oper} {a : Act} {K : Act → World → Prop} {Q : Exit → Act → World → Prop} {E : Prop} (hgd : o.guard = none) (d s : Operand) (dT sT : TypeId)
    (ho : o.op = .call { callee := .builtin .copy, args := #[d, s], argTypes := #[dT, sT] }) (elem : TypeId) (hu : P.underlying dT = some (.slice elem)) (k : Nat) (hsz : (P.info? elem).map (·.size) = some k)
    (g off dLen dCap : Nat) (ad : Addr) (sLen sCap : Nat) (hd : a.eval d = .slice (some ⟨g, off, none⟩) dLen dCap) (hs : a.eval s = .slice (some ad) sLen sCap)
    (cur : List Value) (t : TypeId) (hg : w.heap[g]? = some (.cells cur.toArray t (0, 0))) (cs : List Value) (z : Nat) (hz : Nat.min sLen dLen = z) (hn : cs.length = z * k)
    (hsrc : ∀ j v, cs[j]? = some v → w.cell? (ad.add j) = some v) (hfit : off + cs.length ≤ cur.length) (h1 : ∀ v ∈ cs, v.oneCell' = true)
    (h : K (a.put o.dst (goInt z)) (w.setRow g (splice cur off cs).toArray)) : if Region.wanted o (yielded ops a.tmps) = true then Oper.wp P o a w K Q else E := by
  have hw : Region.wanted o (yielded ops a.tmps) = true := by simp [Region.wanted, hgd]
  rw [if_pos hw]
  have hrun := run_copy_k (P := P) w dT sT o.type elem k g off dLen dCap ad sLen sCap cur t cs hu hsz hg z hz hn hsrc hfit h1
  unfold Oper.wp
  simp [execOp, ho, resolve, invoke, builtin, hd, hs, hrun, Result.andThen]
  exact h
end
end Go.Proofs.YtclbeboiojgejaaGreat.Mem
