/-
  THE LIBRARY'S slices.Insert OF ONE api.Write INTO A SLICE OF THE CALL'S OWN: walked as it is written.
-/
import Derived.Test.YtjmilnfemjnhoaaWritesCode
import Derived.Test.YtjmilnfemjnhoaaCopy
import Derived.Deep.RegionLaw
namespace Go.Proofs.Ytjmilnfemjnhoaa.Writes
open Go.ChangeShapes Go.WideShapes Go.ChangeAt Go.RowKit Mem
open Heap (Write wc ws ws_len vB at_write)

/-- What is returned: a slice of one's own since w0. -/
def RetOw (w0 : World) (n : Nat) (l : List Write) (e : Ending) (w' : World) : Prop := ∃ v, e = .returned v ∧ Own w0 w' 27 2 v n (ws l)

theorem insert_end (w0 W : World) (v : Value) (n : Nat) (L : List Write) (x : Write) (vb vc : Nat) (ho : Own w0 W 27 2 v n (ws L)) (hn : n ≤ 1000000)
    (hx : Rd W 2 (some ⟨vb, 0, none⟩) 1 (wc x)) :
    Calls Try.prog 35 #[v, .int .i64 n, .slice (some ⟨vb, 0, none⟩) 1 vc] W (RetOw w0 (n + 1) (L ++ [x])) := by
  obtain ⟨A, c, rfl, hnc, hrd⟩ := own_room ho
  have HO := Lib.hid ho
  have HX := Lib.hid hx
  have HE : Hid (ws (L ++ [x]) = ws L ++ wc x) := Lib.hid (by unfold ws; rw [List.flatMap_append]; simp)
  clear ho hx hrd
  go_enter Try.func35, Try.ntmps35
  go_wp2_with (at_builtin; refine append_rd rfl _ _ 22 rfl tWrite w0 (.slice A n c) n _ rfl HO.out _ 1 vc (wc x) rfl HX.out (wc_one _) (by omega) (by omega) ?_; intro v5 w5 o5 g5; have HO5 := Lib.hid o5; clear o5 g5)
  all_goals
    go_ret
    exact ⟨v5, rfl, by rw [HE.out]; exact HO5.out⟩

theorem splice_two (P Q R X : List Value) (hX : X.length = 2) (hR : 2 ≤ R.length) : splice (splice (P ++ Q ++ R) (P.length + 2) Q) P.length X = P ++ (X ++ Q) ++ R.drop 2 := by
  have h1 : splice (P ++ Q ++ R) (P.length + 2) Q = P ++ ((Q ++ R).take 2 ++ (Q ++ R.drop 2)) := by
    unfold splice
    have e1 : (P ++ Q ++ R).take (P.length + 2) = P ++ (Q ++ R).take 2 := by
      rw [List.append_assoc, List.take_append]; simp; exact List.take_of_length_le (by omega)
    have e2 : (P ++ Q ++ R).drop (P.length + 2 + Q.length) = R.drop 2 := by
      have : P.length + 2 + Q.length = (P ++ Q).length + 2 := by simp; omega
      rw [this, List.drop_append]; simp
    rw [e1, e2]; simp
  have hl : ((Q ++ R).take 2).length = 2 := by simp; omega
  rw [h1]
  generalize (Q ++ R).take 2 = T at *
  unfold splice
  have e3 : (P ++ (T ++ (Q ++ R.drop 2))).take P.length = P := by simp
  have e4 : (P ++ (T ++ (Q ++ R.drop 2))).drop (P.length + X.length) = Q ++ R.drop 2 := by
    rw [hX, ← hl, ← List.append_assoc, ← List.length_append, List.drop_left]
  rw [e3, e4]; simp
/-- A row, opened at a place, one more laid there. -/
theorem ins_cells (L : List Write) (x : Write) (i n : Nat) (R : List Value) (hl : L.length = n) (hi : i < n) (hR : 2 ≤ R.length) :
    splice (splice (ws L ++ R) ((i + 1) * 2) (ws (L.drop i))) (i * 2) (wc x) = ws (L.take i ++ x :: L.drop i) ++ R.drop 2 := by
  have e1 : ws L = ws (L.take i) ++ ws (L.drop i) := by unfold ws; rw [← List.flatMap_append, List.take_append_drop]
  have l1 : (ws (L.take i)).length = i * 2 := by rw [ws_len, List.length_take, hl]; omega
  have e3 : ws (L.take i ++ x :: L.drop i) = ws (L.take i) ++ (wc x ++ ws (L.drop i)) := by unfold ws; simp
  rw [e3, e1, ← splice_two _ _ _ _ rfl hR, l1, show (i + 1) * 2 = i * 2 + 2 by omega]
/-- A new row, filled. -/
theorem grow_cells (P Q Z X : List Value) (hX : X.length = 2) : splice (splice (P ++ Z) P.length X) (P.length + 2) Q = P ++ (X ++ Q) ++ Z.drop (2 + Q.length) := by
  have h1 : splice (P ++ Z) P.length X = P ++ (X ++ Z.drop 2) := by
    unfold splice
    have e2 : (P ++ Z).drop (P.length + X.length) = Z.drop 2 := by rw [hX, List.drop_append]; simp
    rw [e2]; simp
  rw [h1]
  unfold splice
  have e1 : (P ++ (X ++ Z.drop 2)).take (P.length + 2) = P ++ X := by rw [← hX, ← List.append_assoc, ← List.length_append, List.take_left]
  have e2 : (P ++ (X ++ Z.drop 2)).drop (P.length + 2 + Q.length) = Z.drop (2 + Q.length) := by
    rw [← List.append_assoc, show P.length + 2 + Q.length = (P ++ X).length + Q.length by simp [hX], List.drop_append]
    simp
  rw [e1, e2]; simp
end Go.Proofs.Ytjmilnfemjnhoaa.Writes
