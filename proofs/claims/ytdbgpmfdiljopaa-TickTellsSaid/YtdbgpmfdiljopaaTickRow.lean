/-
  A ROW OF NATURAL NUMBERS IN MEMORY OF THE CALL'S OWN ('Rw'), lists that are exchanged at two places, and the exchange of two stretches of it (slices.swapRangeCmpFunc). No conditions beyond those that each theorem states.
-/
import Derived.Test.YtdbgpmfdiljopaaTickCode
import Derived.Test.YtdbgpmfdiljopaaOwn
import Derived.BigQuiet
import Derived.BigRegion
import Derived.Deep.QuietTactic
import Derived.Shelf.Abstract
namespace Go.Proofs.Ytdbgpmfdiljopaa.Tick
open Go.ChangeShapes Go.WideShapes Go.ChangeAt Go.RowKit Mem

def nz (d : List Nat) : List Value := zs (d.map Int.ofNat)
theorem nz_eq (d : List Nat) : nz d = d.map (fun x : Nat => Value.int .i64 (x : Int)) := by
  induction d with
  | nil => rfl
  | cons x d ih => show Value.int .i64 (x : Int) :: nz d = _; rw [ih]; rfl
theorem nz_at (d : List Nat) (j x : Nat) (h : d[j]? = some x) : (nz d)[j]? = some (.int .i64 (x : Int)) := by
  rw [nz_eq, List.getElem?_map, h]; rfl
theorem nz_set (d : List Nat) (j y : Nat) : (nz d).set j (.int .i64 (y : Int)) = nz (d.set j y) := by
  rw [nz_eq, nz_eq, List.map_set]
theorem nz_len (d : List Nat) : (nz d).length = d.length := by rw [nz_eq, List.length_map]

/-- Since the world w0: the slice of q numbers at block g, of the call's own, holds d. -/
def Rw (w0 : World) (g q cap : Nat) (d : List Nat) (W : World) : Prop := Own w0 W 3 1 (.slice (some ⟨g, 0, none⟩) q cap) q (nz d)
section
variable {w0 W : World} {g q cap : Nat} {d : List Nat}
theorem Rw.len (h : Rw w0 g q cap d W) : d.length = q := by
  have := h.1.1
  rw [nz_len] at this; omega
theorem Rw.drewN (h : Rw w0 g q cap d W) (m : Nat) : Rw w0 g q cap d (W.drewN m) := ⟨h.1, bl_drewN h.2 m⟩
theorem Rw.drew (h : Rw w0 g q cap d W) : Rw w0 g q cap d W.drew := Own.drew h
theorem Rw.cell (h : Rw w0 g q cap d W) (j x : Nat) (hx : d[j]? = some x) : W.cell? ⟨g, j, none⟩ = some (.int .i64 (x : Int)) := by
  have hl := (List.getElem?_eq_some_iff.1 hx).1
  rw [h.len] at hl
  exact (h.1.cellAt j (by omega)).trans (nz_at d j x hx)
theorem Rw.frozen (h : Rw w0 g q cap d W) (j : Nat) : W.frozen? ⟨g, j, none⟩ = false := h.1.frozenAt j
theorem Rw.set_ (h : Rw w0 g q cap d W) (j y : Nat) : Rw w0 g q cap (d.set j y) (W.setCell ⟨g, j, none⟩ (.int .i64 (y : Int))) := by
  have := own_set h j (.int .i64 (y : Int))
  rwa [nz_set] at this
theorem Rw.swap (h : Rw w0 g q cap d W) (i j x y : Nat) : Rw w0 g q cap ((d.set i y).set j x) ((W.setCell ⟨g, i, none⟩ (.int .i64 (y : Int))).setCell ⟨g, j, none⟩ (.int .i64 (x : Int))).drew :=
  ((h.set_ i y).set_ j x).drew
theorem Rw.second (h : Rw w0 g q cap d W) (i j y : Nat) (hj : j < q) : ∃ u, (W.setCell ⟨g, i, none⟩ (.int .i64 (y : Int))).cell? ⟨g, j, none⟩ = some u := by
  have h2 := h.set_ i y
  have hl : j < (d.set i y).length := by rw [h2.len]; exact hj
  exact ⟨_, h2.cell j _ (List.getElem?_eq_getElem hl)⟩
end

theorem at_app (A C : List Nat) (x i : Nat) (h : A.length = i) : (A ++ x :: C)[i]? = some x := by subst h; simp
theorem at_app2 (A B C : List Nat) (x z j : Nat) (h : A.length + 1 + B.length = j) : (A ++ x :: (B ++ z :: C))[j]? = some z := by
  have e : A ++ x :: (B ++ z :: C) = (A ++ x :: B) ++ z :: C := by simp
  rw [e]; exact at_app _ _ _ _ (by simp; omega)
theorem set_app (A C : List Nat) (x y i : Nat) (h : A.length = i) : (A ++ x :: C).set i y = A ++ y :: C := by subst h; simp
theorem swap_app (A B C : List Nat) (x z i j : Nat) (h : A.length = i) (h2 : A.length + 1 + B.length = j) : ((A ++ x :: (B ++ z :: C)).set i z).set j x = A ++ z :: (B ++ x :: C) := by
  rw [set_app A _ x z i h]
  have e : A ++ z :: (B ++ z :: C) = (A ++ z :: B) ++ z :: C := by simp
  rw [e, set_app _ _ _ _ _ (by simp; omega)]; simp

/-- Two stretches of one length, exchanged up to place i. -/
def swRow (P X Y Z Q : List Nat) (i : Nat) : List Nat := P ++ (Z.take i ++ (X.drop i ++ (Y ++ (X.take i ++ (Z.drop i ++ Q)))))
theorem swRow_zero (P X Y Z Q : List Nat) : swRow P X Y Z Q 0 = P ++ (X ++ (Y ++ (Z ++ Q))) := by simp [swRow]
theorem swRow_end (P X Y Z Q : List Nat) (n : Nat) (hx : X.length = n) (hz : Z.length = n) : swRow P X Y Z Q n = P ++ (Z ++ (Y ++ (X ++ Q))) := by
  unfold swRow
  rw [List.take_of_length_le (by omega), List.take_of_length_le (by omega), List.drop_of_length_le (by omega), List.drop_of_length_le (by omega)]; simp
theorem swRow_step (P X Y Z Q : List Nat) (n i : Nat) (hx : X.length = n) (hz : Z.length = n) (hi : i < n) :
    ∃ A B C x z, swRow P X Y Z Q i = A ++ x :: (B ++ z :: C) ∧ swRow P X Y Z Q (i + 1) = A ++ z :: (B ++ x :: C) ∧ A.length = P.length + i ∧ A.length + 1 + B.length = P.length + n + Y.length + i := by
  have h1 : i < X.length := by omega
  have h2 : i < Z.length := by omega
  refine ⟨P ++ Z.take i, X.drop (i + 1) ++ (Y ++ X.take i), Z.drop (i + 1) ++ Q, X[i], Z[i], ?_, ?_, ?_, ?_⟩
  · unfold swRow
    rw [List.drop_eq_getElem_cons h1, List.drop_eq_getElem_cons h2]; simp only [List.append_assoc, List.cons_append]
  · unfold swRow
    rw [List.take_succ_eq_append_getElem h1, List.take_succ_eq_append_getElem h2]; simp only [List.append_assoc, List.cons_append, List.nil_append]
  · simp; omega
  · simp; omega

set_option maxRecDepth 100000 in
set_option maxHeartbeats 4000000 in
theorem swap_c (w0 : World) (g q cap a b n : Nat) (P X Y Z Q : List Nat) (fv : Value) (W : World) (hR : Rw w0 g q cap (P ++ (X ++ (Y ++ (Z ++ Q)))) W) (hq : q ≤ 1000000)
    (ha : P.length = a) (hb : P.length + n + Y.length = b) (hx : X.length = n) (hz : Z.length = n) :
    Calls Try.prog 28 #[.slice (some ⟨g, 0, none⟩) q cap, .int .i64 a, .int .i64 b, .int .i64 n, fv] W fun e w' => e = .returned (.tuple #[]) ∧ Rw w0 g q cap (P ++ (Z ++ (Y ++ (X ++ Q)))) w' := by
  have HL : Hid (b + n ≤ q ∧ a + n ≤ b) := Lib.hid (by have := hR.len; simp at this; omega)
  have HST : Hid (∀ i, i < n → ∃ A B C x z, swRow P X Y Z Q i = A ++ x :: (B ++ z :: C) ∧ swRow P X Y Z Q (i + 1) = A ++ z :: (B ++ x :: C) ∧ A.length = a + i ∧ A.length + 1 + B.length = b + i) := Lib.hid (fun i hi => by
    have := swRow_step P X Y Z Q n i hx hz hi
    rwa [ha, show a + n + Y.length = b by omega] at this)
  have HE := Lib.hid (swRow_end P X Y Z Q n hx hz)
  rw [← swRow_zero] at hR
  have HR := Lib.hid hR
  clear hR hx hz ha hb
  go_enter Try.func28, Try.ntmps28
  go_wp2
  go_loopw [10] (fun s wr => ∃ i : Nat, i ≤ n ∧ s = .int .i64 i ∧ Hid (Rw w0 g q cap (swRow P X Y Z Q i) wr)) (fun s _ => n - (intOf s).toNat)
  case atStart => exact ⟨0, Nat.zero_le _, rfl, HR⟩
  case round =>
    obtain ⟨i, hi, rfl, HI⟩ := hrel
    clear HR
    by_cases hlt : i < n
    · obtain ⟨A, B, C, x, z, e1, e2, l1, l2⟩ := HST.out i hlt
      obtain ⟨s, hs⟩ : ∃ s, a + i = s := ⟨_, rfl⟩
      obtain ⟨t, ht⟩ : ∃ t, b + i = t := ⟨_, rfl⟩
      rw [hs] at l1
      rw [ht] at l2
      rw [e1] at HI
      have hl := HL.out
      have S2 : Hid (Rw w0 g q cap (swRow P X Y Z Q (i + 1)) ((wr.setCell ⟨g, s, none⟩ (.int .i64 (z : Int))).setCell ⟨g, t, none⟩ (.int .i64 (x : Int))).drew) := Lib.hid (by
        have := HI.out.swap s t x z
        rwa [swap_app A B C x z s t l1 l2, ← e2] at this)
      have ca := HI.out.cell s x (at_app A _ x s l1)
      have cb := HI.out.cell t z (at_app2 A B C x z t l2)
      have fa := HI.out.frozen s
      have fb := HI.out.frozen t
      obtain ⟨u, cc⟩ := HI.out.second s t z (by omega)
      have ea : ((a : Int) + (i : Int)).toNat = s := by omega
      have pa : (0 : Int) ≤ (a : Int) + (i : Int) := by omega
      have ba : (a : Int) + (i : Int) < (q : Int) := by omega
      have ra : IntKind.i64.wrap ((a : Int) + (i : Int)) = (a : Int) + (i : Int) := by rw [IntKind.wrap_i64]; omega
      have eb : ((b : Int) + (i : Int)).toNat = t := by omega
      have pb : (0 : Int) ≤ (b : Int) + (i : Int) := by omega
      have bb : (b : Int) + (i : Int) < (q : Int) := by omega
      have rb : IntKind.i64.wrap ((b : Int) + (i : Int)) = (b : Int) + (i : Int) := by rw [IntKind.wrap_i64]; omega
      clear hs ht e1 e2 l1 l2 hl HI
      go_wp2_with fail
      go_big_region
      clear ca cb cc fa fb
      generalize ((wr.setCell ⟨g, s, none⟩ (.int .i64 (z : Int))).setCell ⟨g, t, none⟩ (.int .i64 (x : Int))).drew = w2 at *
      go_wp2
      go_roundw
      case rel => exact ⟨i + 1, by omega, by go_num, S2⟩
      case measure => simp [intOf]; omega
    · have hin : i = n := by omega
      subst hin
      rw [HE.out] at HI
      go_wp2
      go_end0
      exact ⟨rfl, HI.out⟩
end Go.Proofs.Ytdbgpmfdiljopaa.Tick
