/-
  PLAIN DEFINITIONS: records, tables, and what the chapter on stripes asks of them. No conditions. Nothing of the program is named here.
-/
import Derived.Test.YthgmjmecedhkoaaData
namespace Go.Proofs.Ythgmjmecedhkoaa.Stripe
open Mem

structure Rec where
  version : Int
  owner : Int
  deriving DecidableEq, Inhabited

def rc (r : Rec) : List Value := [.int .i64 r.version, .int .i64 r.owner]
def rs (t : List Rec) : List Value := t.flatMap rc
theorem rc_len (r : Rec) : (rc r).length = 2 := rfl
theorem rc_one (r : Rec) : ∀ u ∈ rc r, u.oneCell' = true := one_cons rfl (one_cons rfl one_nil)
theorem at_rec {w : World} {A : Option Addr} {n : Nat} {t : List Rec} (hr : Rd w 2 A n (rs t)) (k : Nat) (hk : k < n) :
    ∃ b off, ∃ x : Rec, A = some ⟨b, off, none⟩ ∧ t[k]? = some x ∧ w.cell? ⟨b, off + k * 2, none⟩ = some (.int .i64 x.version) ∧ w.cell? ⟨b, off + k * 2 + 1, none⟩ = some (.int .i64 x.owner) :=
  at_2 Rec.version Rec.owner (fun _ => rfl) hr k hk
theorem rs_len {w : World} {A : Option Addr} {n : Nat} {t : List Rec} (hr : Rd w 2 A n (rs t)) : t.length = n := Rd.len rc_len hr (by decide)
theorem rs_take (t : List Rec) (k : Nat) (x : Rec) (hk : t[k]? = some x) : rs (t.take (k + 1)) = rs (t.take k) ++ [.int .i64 x.version, .int .i64 x.owner] := flat_take t k x hk

def recB (r : Rec) : Bool := decide (0 ≤ r.version ∧ r.version ≤ 2147483647 ∧ 0 ≤ r.owner ∧ r.owner ≤ 8)
def rightB (t : List Rec) : Bool := decide (0 < t.length ∧ t.length < 17) && t.all recB
def whoB (n : Int) : Bool := decide (0 < n ∧ n < 9)
def cellsB (l : List Int) : Bool := l.all (fun c => decide (0 ≤ c))
/-- Is the record at place k one of the cells'? -/
def hit (n : Nat) (l : List Int) (k : Nat) : Bool := l.any (fun c => decide (c % (n : Int) = (k : Int)))
def ofS (t : List Rec) (l : List Int) : List Int := if (rightB t && cellsB l) = true then pick (hit t.length l) t.length else []
def holds (t : List Rec) (who : Int) (k : Nat) : Bool := match t[k]? with | some r => r.owner == who | none => false
def heldS (t : List Rec) (who : Int) : List Int := if (rightB t && whoB who) = true then pick (holds t who) t.length else []
def lock1 (n : Nat) (who : Int) (l : List Int) (k : Nat) (r : Rec) : Rec := if hit n l k = true then ⟨r.version, who⟩ else r
def lockAll (t : List Rec) (who : Int) (l : List Int) : List Rec := t.mapIdx (lock1 t.length who l)
/-- May who have the record at place k? -/
def may1 (n : Nat) (who : Int) (l : List Int) (k : Nat) (r : Rec) : Bool := !(hit n l k) || decide (r.owner ≤ 0) || r.owner == who
def mayAll (t : List Rec) (who : Int) (l : List Int) : Bool := (t.mapIdx (may1 t.length who l)).all id
def lockS (t : List Rec) (who : Int) (l : List Int) : List Rec × Int :=
  if (rightB t && whoB who && cellsB l) = true then (if mayAll t who l = true then (lockAll t who l, 0) else (t, 7)) else (t, 1)
def let1 (who : Int) (r : Rec) : Rec := if r.owner = who then ⟨r.version, 0⟩ else r
def letS (t : List Rec) (who : Int) : List Rec := if (rightB t && whoB who) = true then t.map (let1 who) else t
def stamp1 (who v : Int) (r : Rec) : Rec := if r.owner = who then ⟨v, 0⟩ else r
def below1 (who v : Int) (r : Rec) : Bool := r.owner != who || decide (r.version < v)
def stampS (t : List Rec) (who v : Int) : List Rec × Int :=
  if (rightB t && whoB who) = true then (if 0 ≤ v ∧ v ≤ 2147483647 then (if t.all (below1 who v) = true then (t.map (stamp1 who v), 0) else (t, 6)) else (t, 6)) else (t, 1)
def newS (n : Int) : List Rec × Int := if 1 ≤ n ∧ n ≤ 16 then (List.replicate n.toNat ⟨0, 0⟩, 0) else ([], 1)
end Go.Proofs.Ythgmjmecedhkoaa.Stripe
