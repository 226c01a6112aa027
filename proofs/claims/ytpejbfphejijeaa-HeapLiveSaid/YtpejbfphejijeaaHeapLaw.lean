/-
  WHAT THE LAWS OF LAYER 2 ASK OF THE LAYER'S FUNCTIONS ('Said'), and what they make of it: the fixed answer awake.
-/
import Derived.Test.YtpejbfphejijeaaRef02c
import Derived.Test.YtpejbfphejijeaaOpen
import Derived.Test.YtpejbfphejijeaaHeapMore2
namespace Go.Proofs.Ytpejbfphejijeaa.Heap
open Go.ChangeShapes Go.WideShapes Go.ChangeAt Go.RowKit Mem

def ic (k : Nat) : List Value := [.int .i64 (k : Int)]
def is (l : List Nat) : List Value := l.flatMap ic

theorem is_len (l : List Nat) : (is l).length = l.length := by
  induction l with
  | nil => rfl
  | cons x l ih => simp [is, ic] at *; omega
theorem is_at (l : List Nat) (k x : Nat) (hk : l[k]? = some x) : (is l)[k]? = some (.int .i64 (x : Int)) := by
  induction l generalizing k with
  | nil => simp at hk
  | cons y l ih =>
    cases k with
    | zero => simp at hk; subst hk; rfl
    | succ k => simpa [is, ic] using ih k (by simpa using hk)
theorem at_int {w : World} {A : Option Addr} {n : Nat} {l : List Nat} (hr : Rd w 1 A n (is l)) (k x : Nat) (hk : l[k]? = some x) :
    k < n ∧ ∃ b off, A = some ⟨b, off, none⟩ ∧ w.cell? ⟨b, off + k, none⟩ = some (.int .i64 (x : Int)) := by
  have hl : k < l.length := (List.getElem?_eq_some_iff.1 hk).1
  have h1 := hr.1
  rw [is_len] at h1
  obtain ⟨b, off, rfl, hc⟩ := hr.2 (by omega)
  exact ⟨by omega, b, off, rfl, hc _ _ (is_at l k x hk)⟩

def RetB (w : World) (b : Bool) (e : Ending) (w' : World) : Prop := e = .returned (.bool b) ∧ Below w.heap.size w w'
def RetG (w : World) (r : Int × Int) (e : Ending) (w' : World) : Prop := e = .returned (.tuple #[.int .i64 r.1, .int .i64 r.2]) ∧ Below w.heap.size w w'
def RetI (w : World) (m : Nat) (r : List Nat) (e : Ending) (w' : World) : Prop :=
  ∃ B d, e = .returned (.slice B m d) ∧ Rd w' 1 B m (is r) ∧ Below w.heap.size w w'

theorem same_b (x y : List Cell) (A B : Option Addr) (n m c d : Nat) (w : World) (b : Bool) (hx : Rd w 2 A n (cs x)) (hy : Rd w 2 B m (cs y)) (hn : n ≤ 1000000) (hm : m ≤ 1000000) (hb : decide (x = y) = b) :
    Calls Try.prog 20 #[.slice A n c, .slice B m d] w (RetB w b) := by
  subst hb
  refine (same_any x y A B n m c d w hx hy hn hm).mono ?_
  rintro e w' ⟨rfl, q, rfl⟩
  exact ⟨rfl, bl_drewN (Below.refl _ _) q⟩

/-- The layer's functions do what the chapter asks. -/
structure Said : Prop where
  new : ∀ (n : Int) (w : World) (r : List Cell × Int) (m : Nat), newS n = r → r.1.length = m → Calls Try.prog 21 #[.int .i64 n] w (RetH w m r)
  right : ∀ (h : List Cell) (A : Option Addr) (n c : Nat) (w : World) (b : Bool), Rd w 2 A n (cs h) → n ≤ 1000000 → rightB h = b → Calls Try.prog 18 #[.slice A n c] w (RetB w b)
  live : ∀ (h : List Cell) (A : Option Addr) (n c : Nat) (w : World) (r : List Nat) (m : Nat), Rd w 2 A n (cs h) → n ≤ 1000000 → liveS h = r → r.length = m → Calls Try.prog 22 #[.slice A n c] w (RetI w m r)
  alloc : ∀ (h : List Cell) (A : Option Addr) (n c : Nat) (value : Int) (w : World) (r : List Cell × Int × Int), Rd w 2 A n (cs h) → n ≤ 1000000 → allocS h value = r → Calls Try.prog 10 #[.slice A n c, .int .i64 value] w (RetA w n r)
  free : ∀ (h : List Cell) (A : Option Addr) (n c : Nat) (cell : Int) (w : World) (r : List Cell × Int), Rd w 2 A n (cs h) → n ≤ 1000000 → freeS h cell = r → Calls Try.prog 12 #[.slice A n c, .int .i64 cell] w (RetH w n r)
  get : ∀ (h : List Cell) (A : Option Addr) (n c : Nat) (cell : Int) (w : World) (r : Int × Int), Rd w 2 A n (cs h) → n ≤ 1000000 → getS h cell = r → Calls Try.prog 14 #[.slice A n c, .int .i64 cell] w (RetG w r)
  put : ∀ (h : List Cell) (l : List Write) (A D : Option Addr) (n c m d : Nat) (w : World) (r : List Cell × Int), Rd w 2 A n (cs h) → Rd w 2 D m (ws l) → n ≤ 1000000 → m ≤ 1000000 → putS h l = r → Calls Try.prog 16 #[.slice A n c, .slice D m d] w (RetH w n r)

/-- The numbers of a struct fit 64 bits. -/
def Fits (n : Int) : Prop := -9223372036854775808 ≤ n ∧ n ≤ 9223372036854775807
theorem open_cells {H : Type} {enc : TypeId × Value → H} {W : World} {A : Option Addr} {n c : Nat} {d : DataW H} {p : List MemPlace}
    (h : DataW.Trod enc Try.prog W 0 (fun _ => true) true 22 (.slice A n c) d p) :
    n ≤ c ∧ c ≤ 9223372036854775807 ∧ ∃ xs : List Cell, Rd W 2 A n (cs xs) ∧ xs.length = n ∧ ∀ x ∈ xs, Fits x.value := by
  refine open_rows Try.underlying22 2 (by kernel_rfl) (by decide) cc (fun _ => rfl) (fun x => Fits x.value) ?_ h
  intro fuel cs' x hl ht
  obtain ⟨xs, n', _, _, _, hxl, hf⟩ := DataW.trod_struct Try.underlying48 ht
  match cs', hl with
  | [c0, c1], _ =>
    have g0 := hf 0 _ rfl
    have g1 := hf 1 _ rfl
    have k3 : Try.prog.cellsOf 3 = 1 := by kernel_rfl
    have k4 : Try.prog.cellsOf 4 = 1 := by kernel_rfl
    match xs, hxl with
    | [y0, y1], _ =>
      simp [k3, k4] at g0 g1
      obtain ⟨b, e0, _⟩ := DataW.trod_bool Try.underlying4 g0
      obtain ⟨m, e1, _, wf⟩ := DataW.trod_int Try.underlying3 g1
      simp at e0 e1
      subst e0 e1
      exact ⟨⟨b, m⟩, rfl, bounds_i64 wf⟩
theorem open_writes {H : Type} {enc : TypeId × Value → H} {W : World} {A : Option Addr} {n c : Nat} {d : DataW H} {p : List MemPlace}
    (h : DataW.Trod enc Try.prog W 0 (fun _ => true) true 23 (.slice A n c) d p) :
    n ≤ c ∧ c ≤ 9223372036854775807 ∧ ∃ xs : List Write, Rd W 2 A n (ws xs) ∧ xs.length = n ∧ ∀ x ∈ xs, Fits x.cell ∧ Fits x.value := by
  refine open_rows Try.underlying23 2 (by kernel_rfl) (by decide) wc (fun _ => rfl) (fun x => Fits x.cell ∧ Fits x.value) ?_ h
  intro fuel cs' x hl ht
  obtain ⟨xs, n', _, _, _, hxl, hf⟩ := DataW.trod_struct Try.underlying51 ht
  match cs', hl with
  | [c0, c1], _ =>
    have g0 := hf 0 _ rfl
    have g1 := hf 1 _ rfl
    have k3 : Try.prog.cellsOf 3 = 1 := by kernel_rfl
    match xs, hxl with
    | [y0, y1], _ =>
      simp [k3] at g0 g1
      obtain ⟨m0, e0, _, wf0⟩ := DataW.trod_int Try.underlying3 g0
      obtain ⟨m, e1, _, wf⟩ := DataW.trod_int Try.underlying3 g1
      simp at e0 e1
      subst e0 e1
      exact ⟨⟨m0, m⟩, rfl, bounds_i64 wf0, bounds_i64 wf⟩

theorem awake_any (S : Said) (w : World) : Calls Try.prog 9 #[] w (RetB w true) := by
  have HS := Lib.hid S
  clear S
  go_enter Try.func9, Try.ntmps9
  go_wp2_with fail
  refine (HS.out.new 2 _ ([⟨false, 0⟩, ⟨false, 0⟩], 0) 2 (by decide) rfl).mono ?_
  rintro e w1 ⟨B1, d1, rfl, r1, b1⟩
  go_wp2_with fail
  refine (HS.out.alloc [⟨false, 0⟩, ⟨false, 0⟩] _ _ _ 5 _ ([⟨true, 5⟩, ⟨false, 0⟩], 0, 0) r1 (by decide) (by decide)).mono ?_
  rintro e w2 ⟨B2, d2, rfl, r2, b2⟩
  go_wp2_with fail
  refine (HS.out.alloc [⟨true, 5⟩, ⟨false, 0⟩] _ _ _ 6 _ ([⟨true, 5⟩, ⟨true, 6⟩], 1, 0) r2 (by decide) (by decide)).mono ?_
  rintro e w3 ⟨B3, d3, rfl, r3, b3⟩
  go_wp2_with fail
  refine (HS.out.alloc [⟨true, 5⟩, ⟨true, 6⟩] _ _ _ 7 _ ([⟨true, 5⟩, ⟨true, 6⟩], 0, 4) r3 (by decide) (by decide)).mono ?_
  rintro e w4 ⟨B4, d4, rfl, r4, b4⟩
  replace r3 := r3.below b4
  go_wp2_with fail
  refine (HS.out.put [⟨true, 5⟩, ⟨true, 6⟩] [⟨1, 9⟩, ⟨1, 8⟩] _ _ _ _ _ _ _ ([⟨true, 5⟩, ⟨true, 8⟩], 0) (r3.alloc _) (Rd.built w4 2 2 (ws [⟨1, 9⟩, ⟨1, 8⟩]) _ rfl) (by decide) (by decide) (by decide)).mono ?_
  rintro e w5 ⟨B5, d5, rfl, r5, b5⟩
  go_wp2_with fail
  refine (HS.out.get [⟨true, 5⟩, ⟨true, 8⟩] _ _ _ 1 _ (8, 0) r5 (by decide) (by decide)).mono ?_
  rintro e w6 ⟨rfl, b6⟩
  replace r5 := r5.below b6
  go_wp2_with fail
  refine (HS.out.free [⟨true, 5⟩, ⟨true, 8⟩] _ _ _ 0 _ ([⟨false, 0⟩, ⟨true, 8⟩], 0) r5 (by decide) (by decide)).mono ?_
  rintro e w7 ⟨B7, d7, rfl, r7, b7⟩
  go_wp2_with fail
  refine (HS.out.get [⟨false, 0⟩, ⟨true, 8⟩] _ _ _ 0 _ (0, 3) r7 (by decide) (by decide)).mono ?_
  rintro e w8 ⟨rfl, b8⟩
  replace r7 := r7.below b8
  go_wp2_with fail
  refine (HS.out.live [⟨false, 0⟩, ⟨true, 8⟩] _ _ _ _ [1] 1 r7 (by decide) (by decide) rfl).mono ?_
  rintro e w9 ⟨B9, d9, rfl, r9, b9⟩
  replace r7 := r7.below b9
  obtain ⟨lb, loff, rfl, lc⟩ := r9.2 (by decide)
  have c0 : w9.cell? ⟨lb, loff, none⟩ = some (.int .i64 1) := lc 0 _ rfl
  have hz : Hid (Below w.heap.size w w9) := Lib.hid (by
    have q1 := b1.size
    have q2 := b2.size
    have q3 := b3.size
    have q4 := b4.size
    have q5 := b5.size
    have q6 := b6.size
    have q7 := b7.size
    have q8 := b8.size
    simp at q5
    refine b1.trans ((b2.mono (by omega)).trans ((b3.mono (by omega)).trans ((b4.mono (by omega)).trans ?_)))
    refine ((Below.refl _ _).alloc (by omega) _).trans ((b5.mono (by simp; omega)).trans ((b6.mono (by omega)).trans ((b7.mono (by omega)).trans ((b8.mono (by omega)).trans (b9.mono (by omega))))))
    )
  clear lc r9 b1 b2 b3 b4 b5 b6 b7 b8 b9 r1 r2 r3 r4 r5
  go_wp2_with fail
  refine (HS.out.right [⟨false, 0⟩, ⟨true, 8⟩] _ _ _ _ true r7 (by decide) (by decide)).mono ?_
  rintro e w10 ⟨rfl, b10⟩
  go_wp2_with fail
  go_ret
  exact ⟨rfl, hz.out.trans (b10.mono hz.out.size)⟩
end Go.Proofs.Ytpejbfphejijeaa.Heap
