/-
  WHAT EACH FUNCTION OF THE LAYER stripe RETURNS, AS IT IS WRITTEN: Of.
-/
import Derived.Test.YtclbeboiojgejaaGreatMemA
import Derived.Test.YtclbeboiojgejaaGreatRows
import Derived.LoopTactic
import Derived.Deep.QuietTactic
import Derived.BigQuiet
import Derived.RegionTactic
import Derived.Laws.StructEq
namespace Go.Proofs.YtclbeboiojgejaaGreat.Stripe
open Mem

structure Rec where
  version : Int
  owner : Int
  deriving DecidableEq, Inhabited

def rc (r : Rec) : List Value := [.int .i64 r.version, .int .i64 r.owner]
def rs (t : List Rec) : List Value := t.flatMap rc
theorem rc_len (r : Rec) : (rc r).length = 2 := rfl
theorem at_rec {w : World} {A : Option Addr} {n : Nat} {t : List Rec} (hr : Rd w 2 A n (rs t)) (k : Nat) (hk : k < n) :
    ∃ b off, ∃ x : Rec, A = some ⟨b, off, none⟩ ∧ t[k]? = some x ∧ w.cell? ⟨b, off + k * 2, none⟩ = some (.int .i64 x.version) ∧ w.cell? ⟨b, off + k * 2 + 1, none⟩ = some (.int .i64 x.owner) :=
  at_2 Rec.version Rec.owner (fun _ => rfl) hr k hk
theorem rs_len {w : World} {A : Option Addr} {n : Nat} {t : List Rec} (hr : Rd w 2 A n (rs t)) : t.length = n := Rd.len rc_len hr (by decide)
def recB (r : Rec) : Bool := decide (0 ≤ r.version ∧ r.version ≤ 2147483647 ∧ 0 ≤ r.owner ∧ r.owner ≤ 8)
def rightB (t : List Rec) : Bool := decide (0 < t.length ∧ t.length < 17) && t.all recB
def whoB (n : Int) : Bool := decide (0 < n ∧ n < 9)
def cellsB (l : List Int) : Bool := l.all (fun c => decide (0 ≤ c))
/-- Is the record at place k one of the cells'? -/
def hit (n : Nat) (l : List Int) (k : Nat) : Bool := l.any (fun c => decide (c % (n : Int) = (k : Int)))
def ofS (t : List Rec) (l : List Int) : List Int := if (rightB t && cellsB l) = true then pick (hit t.length l) t.length else []
end Go.Proofs.YtclbeboiojgejaaGreat.Stripe

namespace Go.Proofs.YtclbeboiojgejaaGreat.Stripe
open Mem

end Go.Proofs.YtclbeboiojgejaaGreat.Stripe

namespace Go.Proofs.YtclbeboiojgejaaGreat.Stripe
open Go.ChangeShapes Go.WideShapes Go.ChangeAt Go.RowKit Mem

set_option maxRecDepth 100000 in
theorem tInt : SliceT Tryz.prog 27 3 1 8 := SliceT.mk_ (z := .int .i64 0) Tryz.underlying27 (by kernel_rfl) rfl (by decide)

set_option maxRecDepth 100000 in
theorem who_any (n : Int) (w : World) :
    Calls Tryz.prog 32 #[.int .i64 n] w fun e w' => e = .returned (.bool (whoB n)) ∧ w = w' := by
  by_cases h1 : 0 < n
  all_goals by_cases h2 : n < 9
  all_goals
    go_enter Tryz.func32, Tryz.ntmps32
    go_wp2
    go_ret
    exact ⟨ret_bool (by unfold whoB; simp [h1, h2]), rfl⟩

set_option maxRecDepth 100000 in
theorem right_any (t : List Rec) (A : Option Addr) (n c : Nat) (w : World) (hr : Rd w 2 A n (rs t)) (hn : n ≤ 1000000) :
    Calls Tryz.prog 46 #[.slice A n c] w fun e w' => e = .returned (.bool (rightB t)) ∧ w = w' := by
  have HL := Lib.hid (rs_len hr)
  go_enter Tryz.func46, Tryz.ntmps46
  go_wp2
  go_loop [3] (fun i => ∃ k : Nat, k ≤ n ∧ i = .int .i64 k ∧ Hid ((t.take k).all recB = true)) (fun i => n - (intOf i).toNat)
  case atStart => exact ⟨0, Nat.zero_le _, rfl, Lib.hid rfl⟩
  case round =>
    obtain ⟨k, hk, rfl, hall⟩ := hrel
    by_cases hlt : k < n
    · obtain ⟨b, off, ⟨vr, ow⟩, rfl, hx, c0, c1⟩ := at_rec hr k hlt
      have hs := Lib.hid (take_all t recB k _ hx)
      have HX := Lib.hid hx
      clear hx
      by_cases hok : recB ⟨vr, ow⟩ = true
      · have HOK := Lib.hid hok
        unfold recB at hok
        simp only [decide_eq_true_eq] at hok
        obtain ⟨t1, t2, t3, t4⟩ := hok
        go_wp2
        go_round
        case rel => exact ⟨k + 1, by omega, by go_num, Lib.hid (by rw [hs.out, hall.out, HOK.out]; rfl)⟩
        case measure => simp [intOf]; omega
      · have HF : Hid (rightB t = false) := Lib.hid (by
          unfold rightB; rw [all_bad t recB k _ HX.out (by simpa using hok)]; simp)
        unfold recB at hok
        simp only [decide_eq_true_eq] at hok
        by_cases t1 : vr < 0
        · go_wp2
          go_ret
          exact ⟨ret_bool HF.out.symm, rfl⟩
        · by_cases t2 : 2147483647 < vr
          · go_wp2
            go_ret
            exact ⟨ret_bool HF.out.symm, rfl⟩
          · by_cases t3 : ow < 0
            · go_wp2
              go_ret
              exact ⟨ret_bool HF.out.symm, rfl⟩
            · have t4 : 8 < ow := by omega
              clear hok
              go_wp2
              go_ret
              exact ⟨ret_bool HF.out.symm, rfl⟩
    · have hkn : k = n := by omega
      have HF : Hid (rightB t = decide (0 < n ∧ n < 17)) := Lib.hid (by
        have := hall.out
        rw [hkn, ← HL.out, List.take_length] at this
        unfold rightB; rw [this, HL.out]; simp)
      clear hkn
      by_cases h1 : 0 < n
      all_goals by_cases h2 : n < 17
      all_goals
        go_wp2
        go_ret
        exact ⟨ret_bool (by rw [HF.out]; first | (simp [h1, h2]; done) | (simp [h1, h2]; omega)), rfl⟩




set_option maxRecDepth 100000 in
theorem numbers_b (x y : List Int) (A B : Option Addr) (n m c d : Nat) (w : World) (v : Bool) (hx : Rd w 1 A n (zs x)) (hy : Rd w 1 B m (zs y)) (hn : n ≤ 1000000) (hm : m ≤ 1000000) (hv : decide (x = y) = v) :
    Calls Tryz.prog 38 #[.slice A n c, .slice B m d] w (RetB w v) := by
  subst hv
  have HX := Lib.hid (zs_len hx)
  have HY := Lib.hid (zs_len hy)
  by_cases hnm : n = m
  · subst hnm
    go_enter Tryz.func38, Tryz.ntmps38
    go_wp2
    go_loopw [5] (fun i wr => ∃ k q : Nat, k ≤ n ∧ i = .int .i64 k ∧ wr = w.drewN q ∧ Hid (x.take k = y.take k)) (fun i _ => n - (intOf i).toNat)
    case atStart => exact ⟨0, 0, Nat.zero_le _, rfl, rfl, Lib.hid rfl⟩
    case round =>
      obtain ⟨k, q, hk, rfl, rfl, hall⟩ := hrel
      by_cases hlt : k < n
      · obtain ⟨b, off, z, rfl, gx, c0⟩ := at_z hx k hlt
        obtain ⟨b', off', z', rfl, gy, c0'⟩ := at_z hy k hlt
        have GX := Lib.hid gx
        have GY := Lib.hid gy
        clear gx gy
        by_cases heq : z = z'
        · obtain rfl := heq
          have hs : Hid (x.take (k + 1) = y.take (k + 1)) := Lib.hid (take_eq x y k _ GX.out GY.out hall.out)
          go_wp2
          go_quiet (fail)
          go_wp2
          go_roundw
          case rel => exact ⟨k + 1, _, by omega, by go_num, rfl, hs⟩
          case measure => simp [intOf]; omega
        · have hf : Hid (decide (x = y) = false) := Lib.hid (take_ne x y k _ _ GX.out GY.out (by exact heq))
          have h1 : (z != z') = true := by simpa using heq
          clear heq
          go_wp2
          go_quiet (fail)
          go_wp2
          go_ret
          exact ⟨ret_bool hf.out.symm, by first | exact bl_drewN (bl_drewN (Below.refl _ _) _) _ | exact bl_drewN (Below.refl _ _) _⟩
      · have hf : Hid (decide (x = y) = true) := by
          refine Lib.hid (decide_eq_true ?_)
          have := hall.out
          rwa [List.take_of_length_le (by rw [HX.out]; omega), List.take_of_length_le (by rw [HY.out]; omega)] at this
        go_wp2
        go_ret
        exact ⟨ret_bool hf.out.symm, bl_drewN (Below.refl _ _) _⟩
  · have hf : Hid (decide (x = y) = false) := by
      refine Lib.hid (decide_eq_false ?_)
      intro e
      have l1 := HX.out
      have l2 := HY.out
      rw [e] at l1
      exact hnm (by omega)
    go_enter Tryz.func38, Tryz.ntmps38
    go_wp2
    go_ret
    exact ⟨ret_bool hf.out.symm, Below.refl _ _⟩
end Go.Proofs.YtclbeboiojgejaaGreat.Stripe

namespace Go.Proofs.YtclbeboiojgejaaGreat.Stripe
open Go.ChangeShapes Go.WideShapes Go.ChangeAt Go.RowKit Mem

theorem own_pick {w0 w : World} {e : Nat} {v : Value} {p : Nat → Bool} {k : Nat} (h : Own w0 w e 1 v ((pick p k).length + 1) (zs (pick p k) ++ [.int .i64 (k : Int)])) (hp : p k = true) :
    Own w0 w e 1 v (pick p (k + 1)).length (zs (pick p (k + 1))) := by
  rw [pick_yes p k hp, zs_app, List.length_append]; exact h


end Go.Proofs.YtclbeboiojgejaaGreat.Stripe

namespace Go.Proofs.YtclbeboiojgejaaGreat.Stripe
open Go.ChangeShapes Go.WideShapes Go.ChangeAt Go.RowKit Mem



/-- The numbers of a struct fit 64 bits. -/
def Fits (n : Int) : Prop := -9223372036854775808 ≤ n ∧ n ≤ 9223372036854775807
set_option maxRecDepth 100000 in
theorem open_recs {H : Type} {enc : TypeId × Value → H} {W : World} {A : Option Addr} {n c : Nat} {d : DataW H} {p : List MemPlace}
    (h : DataW.Trod enc Tryz.prog W 0 (fun _ => true) true 49 (.slice A n c) d p) :
    n ≤ c ∧ c ≤ 9223372036854775807 ∧ ∃ xs : List Rec, Rd W 2 A n (rs xs) ∧ xs.length = n ∧ ∀ x ∈ xs, Fits x.version ∧ Fits x.owner := by
  refine open_rows Tryz.underlying49 2 (by kernel_rfl) (by decide) rc (fun _ => rfl) (fun x => Fits x.version ∧ Fits x.owner) ?_ h
  intro fuel cs' x hl ht
  obtain ⟨xs, n', _, _, _, hxl, hf⟩ := DataW.trod_struct Tryz.underlying65 ht
  match cs', hl with
  | [c0, c1], _ =>
    have g0 := hf 0 _ rfl
    have g1 := hf 1 _ rfl
    have k3 : Tryz.prog.cellsOf 3 = 1 := by kernel_rfl
    match xs, hxl with
    | [y0, y1], _ =>
      simp [k3] at g0 g1
      obtain ⟨m0, e0, _, wf0⟩ := DataW.trod_int Tryz.underlying3 g0
      obtain ⟨m, e1, _, wf⟩ := DataW.trod_int Tryz.underlying3 g1
      simp at e0 e1
      subst e0 e1
      exact ⟨⟨m0, m⟩, rfl, bounds_i64 wf0, bounds_i64 wf⟩
end Go.Proofs.YtclbeboiojgejaaGreat.Stripe

namespace Go.Proofs.YtclbeboiojgejaaGreat.Stripe
open Go.ChangeShapes Go.WideShapes Go.ChangeAt Go.RowKit Mem


def lenB (n : Int) : Bool := decide (1 ≤ n ∧ n ≤ 16)
set_option maxRecDepth 100000 in
theorem length_any (n : Int) (w : World) :
    Calls Tryz.prog 82 #[.int .i64 n] w fun e w' => e = .returned (.bool (lenB n)) ∧ w = w' := by
  by_cases h1 : 1 ≤ n
  all_goals by_cases h2 : n ≤ 16
  all_goals
    go_enter Tryz.func82, Tryz.ntmps82
    go_wp2
    go_ret
    exact ⟨ret_bool (by unfold lenB; simp [h1, h2]), rfl⟩
def verB (n : Int) : Bool := decide (0 ≤ n ∧ n ≤ 2147483647)
set_option maxRecDepth 100000 in
theorem version_any (n : Int) (w : World) :
    Calls Tryz.prog 115 #[.int .i64 n] w fun e w' => e = .returned (.bool (verB n)) ∧ w = w' := by
  by_cases h1 : 0 ≤ n
  all_goals by_cases h2 : n ≤ 2147483647
  all_goals
    go_enter Tryz.func115, Tryz.ntmps115
    go_wp2
    go_ret
    exact ⟨ret_bool (by unfold verB; simp [h1, h2]), rfl⟩
set_option maxRecDepth 100000 in
theorem rwho_any (n : Int) (w : World) :
    Calls Tryz.prog 116 #[.int .i64 n] w fun e w' => e = .returned (.bool (whoB n)) ∧ w = w' := by
  by_cases h1 : 1 ≤ n
  all_goals by_cases h2 : n ≤ 8
  all_goals
    go_enter Tryz.func116, Tryz.ntmps116
    go_wp2
    go_ret
    exact ⟨ret_bool (by unfold whoB; first | (simp; omega) | (symm; simp; omega) | (rw [Bool.eq_iff_iff]; simp; omega)), rfl⟩
theorem rec_parts (v o : Int) : recB ⟨v, o⟩ = (verB v && (o == 0 || whoB o)) := by
  rw [Bool.eq_iff_iff]; unfold recB verB whoB; simp; omega

set_option maxRecDepth 100000 in
theorem record_any (vr ow : Int) (w : World) (b : Bool) (hb : recB ⟨vr, ow⟩ = b) :
    Calls Tryz.prog 83 #[.agg #[.int .i64 vr, .int .i64 ow]] w (RetB w b) := by
  rw [rec_parts] at hb
  have HB := Lib.hid hb
  clear hb
  cases h1 : verB vr
  · go_enter Tryz.func83, Tryz.ntmps83
    go_wp2_with (go_at_call 115; refine (version_any _ _).mono ?_; rintro e w' ⟨rfl, rfl⟩)
    go_ret
    exact ⟨ret_bool (by have := HB.out; rw [h1] at this; exact this), bl_alloc (Below.refl _ _) _⟩
  · by_cases h2 : ow = 0
    · subst h2
      go_enter Tryz.func83, Tryz.ntmps83
      go_wp2_with (go_at_call 115; refine (version_any _ _).mono ?_; rintro e w' ⟨rfl, rfl⟩)
      go_ret
      exact ⟨ret_bool (by have := HB.out; rw [h1] at this; exact this), bl_alloc (Below.refl _ _) _⟩
    · have h3 : (ow == 0) = false := beq_eq_false_iff_ne.2 h2
      clear h2
      cases h4 : whoB ow
      all_goals
        go_enter Tryz.func83, Tryz.ntmps83
        go_wp2_with (first
          | (go_at_call 115; refine (version_any _ _).mono ?_; rintro e w' ⟨rfl, rfl⟩)
          | (go_at_call 116; refine (rwho_any _ _).mono ?_; rintro e w' ⟨rfl, rfl⟩))
        go_ret
        exact ⟨ret_bool (by have := HB.out; rw [h1, h3, h4] at this; exact this), bl_alloc (Below.refl _ _) _⟩

set_option maxRecDepth 100000 in
theorem right_c (t : List Rec) (A : Option Addr) (n c : Nat) (w : World) (b : Bool) (hr : Rd w 2 A n (rs t)) (hn : n ≤ 1000000) (hb : rightB t = b) :
    Calls Tryz.prog 42 #[.slice A n c] w (RetB w b) := by
  subst hb
  have HL := Lib.hid (rs_len hr)
  have HR := Lib.hid hr
  clear hr
  by_cases hlen : lenB (n : Int) = true
  · have HN : Hid (0 < n ∧ n < 17) := Lib.hid (by unfold lenB at hlen; simp at hlen; omega)
    go_enter Tryz.func42, Tryz.ntmps42
    go_wp2_with (go_at_call 82; refine (length_any _ _).mono ?_; rintro e w' ⟨rfl, rfl⟩)
    go_loopw [11] (fun i wr => ∃ k : Nat, k ≤ n ∧ i = .int .i64 k ∧ Hid (Below w.heap.size w wr) ∧ Hid ((t.take k).all recB = true)) (fun i _ => n - (intOf i).toNat)
    case atStart => exact ⟨0, Nat.zero_le _, rfl, Lib.hid (Below.refl _ _), Lib.hid rfl⟩
    case round =>
      obtain ⟨k, hk, rfl, HB, hall⟩ := hrel
      by_cases hlt : k < n
      · obtain ⟨b, off, ⟨vr, ow⟩, rfl, hx, c0, c1⟩ := at_rec (HR.out.below HB.out) k hlt
        have hs := Lib.hid (take_all t recB k _ hx)
        by_cases hok : recB ⟨vr, ow⟩ = true
        · have HOK := Lib.hid hok
          clear hx hok
          go_wp2_with fail
          refine (record_any _ _ _ true HOK.out).mono ?_
          rintro e w1 ⟨rfl, b1⟩
          have HB1 := Lib.hid (bl_trans (bl_alloc HB.out _) b1)
          clear b1
          go_wp2_with fail
          go_roundw
          case rel => exact ⟨k + 1, by omega, by go_num, HB1, Lib.hid (by rw [hs.out, hall.out, HOK.out]; rfl)⟩
          case measure => simp [intOf]; omega
        · have HOK : Hid (recB ⟨vr, ow⟩ = false) := Lib.hid (by simpa using hok)
          have HF : Hid (rightB t = false) := Lib.hid (by
            unfold rightB; rw [all_bad t recB k _ hx HOK.out]; simp)
          clear hx hok
          go_wp2_with fail
          refine (record_any _ _ _ false HOK.out).mono ?_
          rintro e w1 ⟨rfl, b1⟩
          have HB1 := Lib.hid (bl_trans (bl_alloc HB.out _) b1)
          clear b1
          go_wp2_with fail
          go_ret
          exact ⟨ret_bool HF.out.symm, HB1.out⟩
      · have HF : Hid (rightB t = true) := Lib.hid (by
          have := hall.out
          rw [List.take_of_length_le (by rw [HL.out]; omega)] at this
          unfold rightB; rw [this, HL.out]; simpa using HN.out)
        go_wp2
        go_ret
        exact ⟨ret_bool HF.out.symm, HB.out⟩
  · have hlen' : lenB (n : Int) = false := by simpa using hlen
    have HF : Hid (rightB t = false) := Lib.hid (by
      unfold lenB at hlen'; simp at hlen'
      unfold rightB; rw [HL.out, Bool.and_eq_false_iff]; left; simp; omega)
    clear hlen
    go_enter Tryz.func42, Tryz.ntmps42
    go_wp2_with (go_at_call 82; refine (length_any _ _).mono ?_; rintro e w' ⟨rfl, rfl⟩)
    go_ret
    exact ⟨ret_bool HF.out.symm, Below.refl _ _⟩

set_option maxRecDepth 100000 in
theorem rcells_any (l : List Int) (A : Option Addr) (n c : Nat) (w : World) (hr : Rd w 1 A n (zs l)) (hn : n ≤ 1000000) :
    Calls Tryz.prog 172 #[.slice A n c] w fun e w' => e = .returned (.bool (cellsB l)) ∧ w = w' := by
  have HL := Lib.hid (zs_len hr)
  go_enter Tryz.func172, Tryz.ntmps172
  go_wp2
  go_loop [7] (fun i => ∃ k : Nat, k ≤ n ∧ i = .int .i64 k ∧ Hid ((l.take k).all (fun c => decide (0 ≤ c)) = true)) (fun i => n - (intOf i).toNat)
  case atStart => exact ⟨0, Nat.zero_le _, rfl, Lib.hid rfl⟩
  case round =>
    obtain ⟨k, hk, rfl, hall⟩ := hrel
    by_cases hlt : k < n
    · obtain ⟨b, off, x, rfl, hx, c0⟩ := at_z hr k hlt
      have hs := Lib.hid (take_all l (fun c => decide (0 ≤ c)) k _ hx)
      have HX := Lib.hid hx
      clear hx
      by_cases he : 0 ≤ x
      · go_wp2
        go_round
        case rel => exact ⟨k + 1, by omega, by go_num, Lib.hid (by rw [hs.out, hall.out]; simpa using he)⟩
        case measure => simp [intOf]; omega
      · have HF : Hid (cellsB l = false) := Lib.hid (all_bad l _ k _ HX.out (by simpa using he))
        go_wp2
        go_ret
        exact ⟨ret_bool HF.out.symm, rfl⟩
    · have HF : Hid (cellsB l = true) := Lib.hid (by
        have := hall.out
        rwa [List.take_of_length_le (by rw [HL.out]; omega)] at this)
      go_wp2
      go_ret
      exact ⟨ret_bool HF.out.symm, rfl⟩

end Go.Proofs.YtclbeboiojgejaaGreat.Stripe

namespace Go.Proofs.YtclbeboiojgejaaGreat.Stripe
open Go.ChangeShapes Go.WideShapes Go.ChangeAt Go.RowKit Mem

/-- The local marks, by place. -/
def marks (n : Nat) (l : List Int) : Array Value := ((List.range 16).map (fun p => Value.bool (hit n l p))).toArray
theorem marks_at (n : Nat) (l : List Int) (i : Nat) (hi : i < 16) : (marks n l)[i]? = some (.bool (hit n l i)) := by
  unfold marks; rw [List.getElem?_toArray, List.getElem?_map, List.getElem?_range hi]; rfl
theorem marks_set (n : Nat) (l : List Int) (k : Nat) (x : Int) (q : Nat) (hx : l[k]? = some x) (hq : x % (n : Int) = (q : Int)) :
    (marks n (l.take k)).setIfInBounds q (.bool true) = marks n (l.take (k + 1)) := by
  apply Array.ext'
  apply List.ext_getElem?
  intro i
  unfold marks
  rw [Array.toList_setIfInBounds, List.getElem?_set, List.getElem?_map, List.getElem?_map]
  have hh : hit n (l.take (k + 1)) i = (hit n (l.take k) i || decide (x % (n : Int) = (i : Int))) := take_any l _ k x hx
  by_cases hi : i < 16
  · rw [List.getElem?_range hi]
    simp only [Option.map_some, List.length_map, List.length_range]
    by_cases e : q = i
    · subst e
      rw [if_pos rfl, if_pos hi, hh, hq]; simp
    · have : decide (x % (n : Int) = (i : Int)) = false := by rw [hq]; simpa using fun h : (q : Int) = i => e (by omega)
      rw [if_neg e, hh, this]; simp
  · rw [List.getElem?_eq_none (by simpa using hi)]
    by_cases e : q = i
    · subst e; rw [if_pos rfl, if_neg (by simpa using hi)]; rfl
    · rw [if_neg e]; rfl

set_option maxRecDepth 100000 in
set_option maxHeartbeats 1000000 in
theorem of_o (t : List Rec) (l : List Int) (A D : Option Addr) (n c m d : Nat) (w : World) (r : List Int) (q : Nat) (hr : Rd w 2 A n (rs t)) (hl : Rd w 1 D m (zs l)) (hn : n ≤ 1000000) (hm : m ≤ 1000000)
    (hofs : ofS t l = r) (hq : r.length = q) :
    Calls Tryz.prog 156 #[.slice A n c, .slice D m d] w (RetO w 3 1 q (zs r)) := by
  have HN := Lib.hid (rs_len hr)
  have HM := Lib.hid (zs_len hl)
  have HR := Lib.hid hr
  have HL := Lib.hid hl
  have HO := Lib.hid hofs
  have HQ := Lib.hid hq
  clear hofs hq hr hl
  cases h1 : rightB t
  · have HP : Hid (r = []) := Lib.hid (by rw [← HO.out]; unfold ofS; rw [h1]; rfl)
    obtain rfl : 0 = q := by rw [← HQ.out, HP.out]; rfl
    have H1 := Lib.hid h1
    clear h1
    go_enter Tryz.func156, Tryz.ntmps156
    go_wp2_with fail
    refine (right_c t _ _ _ _ false HR.out hn H1.out).mono ?_
    rintro e w1 ⟨rfl, b1⟩
    have HB1 := Lib.hid b1
    clear b1
    go_wp2_with fail
    go_ret
    exact ⟨_, rfl, by rw [HP.out]; exact Own.nil_ HB1.out⟩
  · cases h2 : cellsB l
    · have HP : Hid (r = []) := Lib.hid (by rw [← HO.out]; unfold ofS; rw [h1, h2]; rfl)
      obtain rfl : 0 = q := by rw [← HQ.out, HP.out]; rfl
      have H1 := Lib.hid h1
      clear h1
      go_enter Tryz.func156, Tryz.ntmps156
      go_wp2_with fail
      refine (right_c t _ _ _ _ true HR.out hn H1.out).mono ?_
      rintro e w1 ⟨rfl, b1⟩
      have HB1 := Lib.hid b1
      clear b1
      go_wp2_with (go_at_call 172; refine (rcells_any l _ _ _ _ (HL.out.below HB1.out) hm).mono ?_; rintro e w' ⟨rfl, rfl⟩)
      go_ret
      exact ⟨_, rfl, by rw [HP.out]; exact Own.nil_ HB1.out⟩
    · have HP : Hid (r = pick (hit n l) n) := Lib.hid (by rw [← HO.out]; unfold ofS; rw [h1, h2, HN.out]; rfl)
      have hn2 : 0 < n ∧ n < 17 := by
        have := h1; unfold rightB at this; rw [Bool.and_eq_true] at this
        have := this.1; rw [HN.out] at this; simpa using this
      obtain ⟨hn0, hn1⟩ := hn2
      have H1 := Lib.hid h1
      have HC := Lib.hid h2
      clear h1
      go_enter Tryz.func156, Tryz.ntmps156
      go_wp2_with fail
      refine (right_c t _ _ _ _ true HR.out hn H1.out).mono ?_
      rintro e w1 ⟨rfl, b1⟩
      have HB1 := Lib.hid b1
      clear b1
      go_wp2_with (go_at_call 172; refine (rcells_any l _ _ _ _ (HL.out.below HB1.out) hm).mono ?_; rintro e w' ⟨rfl, rfl⟩)
      go_loopw [20] (fun i wr => ∃ k : Nat, k ≤ m ∧ i = .int .i64 k ∧ Hid (Below w.heap.size w wr) ∧ Hid (Blk wr w1.heap.size 224 (marks n (l.take k)))) (fun i _ => m - (intOf i).toNat)
      case atStart => exact ⟨0, Nat.zero_le _, rfl, Lib.hid (bl_alloc HB1.out _), Lib.hid (Blk.new w1 _ _)⟩
      case round =>
        obtain ⟨k, hk, rfl, HB, HM2⟩ := hrel
        by_cases hlt : k < m
        · obtain ⟨b, off, x, rfl, hx, c0⟩ := at_z (HL.out.below HB.out) k hlt
          have hx0 : 0 ≤ x := by
            have := HC.out; unfold cellsB at this
            have := List.all_eq_true.1 this x (List.mem_of_getElem? hx); simpa using this
          obtain ⟨q', hq'⟩ := Int.eq_ofNat_of_zero_le (Int.emod_nonneg x (show (n : Int) ≠ 0 by omega))
          have hq2 : q' < n := by have := Int.emod_lt_of_pos x (show (0 : Int) < n by omega); omega
          have HS := Lib.hid (marks_set n l k x q' hx hq')
          have hdn : ((n : Int) == 0) = false := beq_eq_false_iff_ne.2 (by omega)
          have c1 := HM2.out.cell q' _ (marks_at n _ q' (by omega))
          have f1 := HM2.out.frozen q'
          have hq16 : q' < 16 := by omega
          clear hx
          go_wp2
          go_roundw
          case rel => exact ⟨k + 1, by omega, by go_num, Lib.hid (bl_set HB.out HB1.out.size _), Lib.hid (by rw [← HS.out]; exact HM2.out.set_ q' _)⟩
          case measure => simp [intOf]; omega
        · have HT : Hid (l.take k = l) := Lib.hid (List.take_of_length_le (by rw [HM.out]; omega))
          generalize wr = w2 at *
          have HM3 : Hid (Blk w2 w1.heap.size 224 (marks n l)) := Lib.hid (by have := HM2.out; rwa [HT.out] at this)
          clear HM2 HT
          go_wp2
          go_loopw [8, 32] (fun v i wq => ∃ j : Nat, j ≤ n ∧ i = .int .i64 j ∧ Hid (Own w2 wq 3 1 v (pick (hit n l) j).length (zs (pick (hit n l) j)))) (fun _ i _ => n - (intOf i).toNat)
          case atStart => exact ⟨0, Nat.zero_le _, rfl, Lib.hid (Own.nil_ (Below.refl _ _))⟩
          case round =>
            obtain ⟨j, hj, rfl, hown⟩ := hrel
            have hpl := pick_len (hit n l) j
            by_cases hlt2 : j < n
            · have hj16 : j < 16 := by omega
              have c1 := (HM3.out.below hown.out.2).cell j _ (marks_at n l j hj16)
              cases hh : hit n l j with
              | true =>
                have HH := Lib.hid hh
                rw [hh] at c1
                clear hh
                go_wp2_with (at_builtin; refine append_rd rfl _ _ 27 rfl tInt w2 _ _ _ rfl (hown.out.alloc _) _ 1 1 [.int .i64 (j : Int)] rfl (Rd.built _ 1 1 [.int .i64 (j : Int)] _ rfl) (one_cons rfl one_nil) (by omega) (by omega) ?_; intro v' w' hown' hg; have HO2 := Lib.hid hown'; clear hg hown')
                go_roundw
                case rel => exact ⟨j + 1, by omega, by go_num, Lib.hid (own_pick HO2.out HH.out)⟩
                case measure => simp [intOf]; omega
              | false =>
                have HH := Lib.hid hh
                rw [hh] at c1
                clear hh
                go_wp2
                go_roundw
                case rel => exact ⟨j + 1, by omega, by go_num, by rw [pick_no _ _ HH.out]; exact hown⟩
                case measure => simp [intOf]; omega
            · have hjn : j = n := by omega
              subst hjn
              have HL2 : Hid ((pick (hit j l) j).length = q) := Lib.hid (by rw [← HP.out]; exact HQ.out)
              rw [HL2.out] at hown
              clear hpl
              go_wp2
              go_ret
              exact ⟨_, rfl, by rw [HP.out]; exact hown.out.wide HB.out⟩
theorem of_c (t : List Rec) (l : List Int) (A D : Option Addr) (n c m d : Nat) (w : World) (r : List Int) (q : Nat) (hr : Rd w 2 A n (rs t)) (hl : Rd w 1 D m (zs l)) (hn : n ≤ 1000000) (hm : m ≤ 1000000)
    (hofs : ofS t l = r) (hq : r.length = q) :
    Calls Tryz.prog 156 #[.slice A n c, .slice D m d] w (RetS w 1 q (zs r)) := (of_o t l A D n c m d w r q hr hl hn hm hofs hq).mono fun _ _ h => h.toS
end Go.Proofs.YtclbeboiojgejaaGreat.Stripe
