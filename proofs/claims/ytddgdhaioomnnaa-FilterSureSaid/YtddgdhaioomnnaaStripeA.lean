/-
  WHAT THE DOCUMENT'S ANSWER FOR LAYER 3 RETURNS: Of, Held.
-/
import Derived.Test.YtddgdhaioomnnaaMemA
import Derived.Test.YtddgdhaioomnnaaRows
import Derived.LoopTactic
import Derived.Deep.QuietTactic
import Derived.BigQuiet
import Derived.RegionTactic
import Derived.Laws.StructEq
namespace Go.Proofs.Ytddgdhaioomnnaa.Stripe
open Mem

structure Rec where
  version : Int
  owner : Int
  deriving DecidableEq, Inhabited

def rc (r : Rec) : List Value := [.int .i64 r.version, .int .i64 r.owner]
def rs (t : List Rec) : List Value := t.flatMap rc
theorem rc_len (r : Rec) : (rc r).length = 2 := rfl
theorem rc_one (r : Rec) : ∀ u ∈ rc r, u.oneCell' = true := one_cons rfl (one_cons rfl one_nil)
theorem at_rec {w : World} {A : Option Addr} {n : Nat} {t : List Rec} (hr : Rd w 2 A n (rs t)) (k : Nat) (hk : k < n) :
    ∃ b off, ∃ x : Rec, A = some ⟨b, off, none⟩ ∧ t[k]? = some x ∧ w.cell? ⟨b, off + k * 2, none⟩ = some (.int .i64 x.version) ∧ w.cell? ⟨b, off + k * 2 + 1, none⟩ = some (.int .i64 x.owner) :=
  at_2 Rec.version Rec.owner (fun _ => rfl) hr k hk
theorem rs_len {w : World} {A : Option Addr} {n : Nat} {t : List Rec} (hr : Rd w 2 A n (rs t)) : t.length = n := Rd.len rc_len hr (by decide)
theorem rs_take (t : List Rec) (k : Nat) (x : Rec) (hk : t[k]? = some x) : rs (t.take (k + 1)) = rs (t.take k) ++ [.int .i64 x.version, .int .i64 x.owner] := flat_take t k x hk

def recB (r : Rec) : Bool := decide (0 ≤ r.version ∧ r.version ≤ 2147483647 ∧ 0 ≤ r.owner ∧ r.owner ≤ 8)
def rightB (t : List Rec) : Bool := decide (0 < t.length ∧ t.length < 17) && t.all recB
def whoB (n : Int) : Bool := decide (0 < n ∧ n < 9)
def cellsB (l : List Int) : Bool := l.all (fun c => decide (0 ≤ c))
/-- Is the record at place k one of the cells'? -/
def hit (n : Nat) (l : List Int) (k : Nat) : Bool := l.any (fun c => decide (c % (n : Int) = (k : Int)))
def ofS (t : List Rec) (l : List Int) : List Int := if (rightB t && cellsB l) = true then pick (hit t.length l) t.length else []
def holds (t : List Rec) (who : Int) (k : Nat) : Bool := match t[k]? with | some r => r.owner == who | none => false
def heldS (t : List Rec) (who : Int) : List Int := if (rightB t && whoB who) = true then pick (holds t who) t.length else []
def lock1 (n : Nat) (who : Int) (l : List Int) (k : Nat) (r : Rec) : Rec := if hit n l k = true then ⟨r.version, who⟩ else r
def lockAll (t : List Rec) (who : Int) (l : List Int) : List Rec := t.mapIdx (lock1 t.length who l)
/-- May who have the record at place k? -/
def may1 (n : Nat) (who : Int) (l : List Int) (k : Nat) (r : Rec) : Bool := !(hit n l k) || decide (r.owner ≤ 0) || r.owner == who
def mayAll (t : List Rec) (who : Int) (l : List Int) : Bool := (t.mapIdx (may1 t.length who l)).all id
def lockS (t : List Rec) (who : Int) (l : List Int) : List Rec × Int :=
  if (rightB t && whoB who && cellsB l) = true then (if mayAll t who l = true then (lockAll t who l, 0) else (t, 7)) else (t, 1)
def let1 (who : Int) (r : Rec) : Rec := if r.owner = who then ⟨r.version, 0⟩ else r
def letS (t : List Rec) (who : Int) : List Rec := if (rightB t && whoB who) = true then t.map (let1 who) else t
def stamp1 (who v : Int) (r : Rec) : Rec := if r.owner = who then ⟨v, 0⟩ else r
def below1 (who v : Int) (r : Rec) : Bool := r.owner != who || decide (r.version < v)
def stampS (t : List Rec) (who v : Int) : List Rec × Int :=
  if (rightB t && whoB who) = true then (if 0 ≤ v ∧ v ≤ 2147483647 then (if t.all (below1 who v) = true then (t.map (stamp1 who v), 0) else (t, 6)) else (t, 6)) else (t, 1)
def newS (n : Int) : List Rec × Int := if 1 ≤ n ∧ n ≤ 16 then (List.replicate n.toNat ⟨0, 0⟩, 0) else ([], 1)
end Go.Proofs.Ytddgdhaioomnnaa.Stripe

namespace Go.Proofs.Ytddgdhaioomnnaa.Stripe
open Mem

theorem of_len (t : List Rec) (l : List Int) : (ofS t l).length ≤ t.length := by
  unfold ofS; split
  · exact pick_len _ _
  · simp
theorem held_len' (t : List Rec) (who : Int) : (heldS t who).length ≤ t.length := by
  unfold heldS; split
  · exact pick_len _ _
  · simp
theorem new_yes (n : Int) (h : 1 ≤ n ∧ n ≤ 16) : newS n = (List.replicate n.toNat ⟨0, 0⟩, 0) := by unfold newS; rw [if_pos h]
theorem new_no (n : Int) (h : ¬ (1 ≤ n ∧ n ≤ 16)) : newS n = ([], 1) := by unfold newS; rw [if_neg h]
end Go.Proofs.Ytddgdhaioomnnaa.Stripe

namespace Go.Proofs.Ytddgdhaioomnnaa.Stripe
open Go.ChangeShapes Go.WideShapes Go.ChangeAt Go.RowKit Mem

set_option maxRecDepth 100000 in
theorem tInt : SliceT Try.prog 28 3 1 8 := SliceT.mk_ (z := .int .i64 0) Try.underlying28 (by kernel_rfl) rfl (by decide)






set_option maxRecDepth 100000 in
theorem numbers_b (x y : List Int) (A B : Option Addr) (n m c d : Nat) (w : World) (v : Bool) (hx : Rd w 1 A n (zs x)) (hy : Rd w 1 B m (zs y)) (hn : n ≤ 1000000) (hm : m ≤ 1000000) (hv : decide (x = y) = v) :
    Calls Try.prog 22 #[.slice A n c, .slice B m d] w (RetB w v) := by
  subst hv
  have HX := Lib.hid (zs_len hx)
  have HY := Lib.hid (zs_len hy)
  by_cases hnm : n = m
  · subst hnm
    go_enter Try.func22, Try.ntmps22
    go_wp2
    go_loopw [5] (fun i wr => ∃ k q : Nat, k ≤ n ∧ i = .int .i64 k ∧ wr = w.drewN q ∧ Hid (x.take k = y.take k)) (fun i _ => n - (intOf i).toNat)
    case atStart => exact ⟨0, 0, Nat.zero_le _, rfl, rfl, Lib.hid rfl⟩
    case round =>
      obtain ⟨k, q, hk, rfl, rfl, hall⟩ := hrel
      by_cases hlt : k < n
      · obtain ⟨b, off, z, rfl, gx, c0⟩ := at_z hx k hlt
        obtain ⟨b', off', z', rfl, gy, c0'⟩ := at_z hy k hlt
        have GX := Lib.hid gx
        have GY := Lib.hid gy
        clear gx gy
        by_cases heq : z = z'
        · obtain rfl := heq
          have hs : Hid (x.take (k + 1) = y.take (k + 1)) := Lib.hid (take_eq x y k _ GX.out GY.out hall.out)
          go_wp2
          go_quiet (fail)
          go_wp2
          go_roundw
          case rel => exact ⟨k + 1, _, by omega, by go_num, rfl, hs⟩
          case measure => simp [intOf]; omega
        · have hf : Hid (decide (x = y) = false) := Lib.hid (take_ne x y k _ _ GX.out GY.out (by exact heq))
          have h1 : (z != z') = true := by simpa using heq
          clear heq
          go_wp2
          go_quiet (fail)
          go_wp2
          go_ret
          exact ⟨ret_bool hf.out.symm, by first | exact bl_drewN (bl_drewN (Below.refl _ _) _) _ | exact bl_drewN (Below.refl _ _) _⟩
      · have hf : Hid (decide (x = y) = true) := by
          refine Lib.hid (decide_eq_true ?_)
          have := hall.out
          rwa [List.take_of_length_le (by rw [HX.out]; omega), List.take_of_length_le (by rw [HY.out]; omega)] at this
        go_wp2
        go_ret
        exact ⟨ret_bool hf.out.symm, bl_drewN (Below.refl _ _) _⟩
  · have hf : Hid (decide (x = y) = false) := by
      refine Lib.hid (decide_eq_false ?_)
      intro e
      have l1 := HX.out
      have l2 := HY.out
      rw [e] at l1
      exact hnm (by omega)
    go_enter Try.func22, Try.ntmps22
    go_wp2
    go_ret
    exact ⟨ret_bool hf.out.symm, Below.refl _ _⟩
end Go.Proofs.Ytddgdhaioomnnaa.Stripe

namespace Go.Proofs.Ytddgdhaioomnnaa.Stripe
open Go.ChangeShapes Go.WideShapes Go.ChangeAt Go.RowKit Mem

theorem hit_any (n : Nat) (l : List Int) (k : Nat) : (l.map (fun c => c % (n : Int))).any (fun x => x == (k : Int)) = hit n l k := by
  unfold hit; rw [List.any_map]
  congr 1
theorem own_pick {w0 w : World} {e : Nat} {v : Value} {p : Nat → Bool} {k : Nat} (h : Own w0 w e 1 v ((pick p k).length + 1) (zs (pick p k) ++ [.int .i64 (k : Int)])) (hp : p k = true) :
    Own w0 w e 1 v (pick p (k + 1)).length (zs (pick p (k + 1))) := by
  rw [pick_yes p k hp, zs_app, List.length_append]; exact h


end Go.Proofs.Ytddgdhaioomnnaa.Stripe
