/-
  THE LIBRARY'S slices.Insert OF ONE sleep.Sleeper INTO A SLICE OF THE CALL'S OWN: walked as it is written.
-/
import Derived.Test.YtddgdhaioomnnaaSleepClone
import Derived.Test.YtddgdhaioomnnaaHeapA
import Derived.Deep.RegionLaw
namespace Go.Proofs.Ytddgdhaioomnnaa.Sleep
open Go.ChangeShapes Go.WideShapes Go.ChangeAt Go.RowKit Mem

/-- What is returned: a slice of one's own since w0. -/
def RetOw (w0 W : World) (row : Option Nat) (n : Nat) (l : List RawS) (e : Ending) (w' : World) : Prop := ∃ v, e = .returned v ∧ Own w0 w' 36 5 v n (ss l) ∧ W.grownBy w' row
theorem grown_trans {a b c : World} {row : Option Nat} (h : a.grownBy b row) (k : b.grownBy c row) : a.grownBy c row := ⟨k.os.trans h.os, k.tape.trans h.tape, k.output.trans h.output, Nat.le_trans h.size k.size, fun i hi hne => (k.block i (Nat.lt_of_lt_of_le hi h.size) hne).trans (h.block i hi hne)⟩
theorem setRow_grown (w : World) (g : Nat) (cs : Array Value) : w.grownBy (w.setRow g cs) (some g) := ⟨rfl, rfl, rfl, by simp [World.setRow], fun k _ hne => setRow_other w g k cs (fun e => hne (by rw [e]))⟩
theorem below_grown {w w' : World} {row : Option Nat} (h : Below w.heap.size w w') : w.grownBy w' row := ⟨h.os, h.tape, h.output, h.size, fun k hk _ => h.block k hk⟩

set_option maxRecDepth 100000 in
theorem insert_end (w0 W : World) (v : Value) (n : Nat) (L : List RawS) (x : RawS) (vb vc : Nat) (ho : Own w0 W 36 5 v n (ss L)) (hn : n ≤ 1000000)
    (hx : Rd W 5 (some ⟨vb, 0, none⟩) 1 (sc x)) :
    Calls Try.prog 54 #[v, .int .i64 n, .slice (some ⟨vb, 0, none⟩) 1 vc] W (RetOw w0 W v.ownBlock (n + 1) (L ++ [x])) := by
  obtain ⟨A, c, rfl, hnc, hrd⟩ := own_room ho
  have HO := Lib.hid ho
  have HX := Lib.hid hx
  have HE : Hid (ss (L ++ [x]) = ss L ++ sc x) := Lib.hid (by unfold ss; rw [List.flatMap_append]; simp)
  clear ho hx hrd
  go_enter Try.func54, Try.ntmps54
  go_wp2_with (at_builtin; refine append_rd rfl _ _ 22 rfl tSleeper w0 (.slice A n c) n _ rfl HO.out _ 1 vc (sc x) rfl HX.out (sc_one _) (by omega) (by omega) ?_; intro v5 w5 o5 g5; have HO5 := Lib.hid o5; have HG5 := Lib.hid g5; clear o5 g5)
  all_goals
    go_ret
    exact ⟨v5, rfl, by rw [HE.out]; exact HO5.out, by first | exact HG5.out | (cases A <;> exact HG5.out)⟩

theorem splice_two (P Q R X : List Value) (hX : X.length = 5) (hR : 5 ≤ R.length) : splice (splice (P ++ Q ++ R) (P.length + 5) Q) P.length X = P ++ (X ++ Q) ++ R.drop 5 := by
  have h1 : splice (P ++ Q ++ R) (P.length + 5) Q = P ++ ((Q ++ R).take 5 ++ (Q ++ R.drop 5)) := by
    unfold splice
    have e1 : (P ++ Q ++ R).take (P.length + 5) = P ++ (Q ++ R).take 5 := by
      rw [List.append_assoc, List.take_append]; simp; exact List.take_of_length_le (by omega)
    have e2 : (P ++ Q ++ R).drop (P.length + 5 + Q.length) = R.drop 5 := by
      have : P.length + 5 + Q.length = (P ++ Q).length + 5 := by simp; omega
      rw [this, List.drop_append]; simp
    rw [e1, e2]; simp
  have hl : ((Q ++ R).take 5).length = 5 := by simp; omega
  rw [h1]
  generalize (Q ++ R).take 5 = T at *
  unfold splice
  have e3 : (P ++ (T ++ (Q ++ R.drop 5))).take P.length = P := by simp
  have e4 : (P ++ (T ++ (Q ++ R.drop 5))).drop (P.length + X.length) = Q ++ R.drop 5 := by
    rw [hX, ← hl, ← List.append_assoc, ← List.length_append, List.drop_left]
  rw [e3, e4]; simp
/-- A row, opened at a place, one more laid there. -/
theorem ins_cells (L : List RawS) (x : RawS) (i n : Nat) (R : List Value) (hl : L.length = n) (hi : i < n) (hR : 5 ≤ R.length) :
    splice (splice (ss L ++ R) ((i + 1) * 5) (ss (L.drop i))) (i * 5) (sc x) = ss (L.take i ++ x :: L.drop i) ++ R.drop 5 := by
  have e1 : ss L = ss (L.take i) ++ ss (L.drop i) := by unfold ss; rw [← List.flatMap_append, List.take_append_drop]
  have l1 : (ss (L.take i)).length = i * 5 := by rw [ss_len, List.length_take, hl]; omega
  have e3 : ss (L.take i ++ x :: L.drop i) = ss (L.take i) ++ (sc x ++ ss (L.drop i)) := by unfold ss; simp
  rw [e3, e1, ← splice_two _ _ _ _ rfl hR, l1, show (i + 1) * 5 = i * 5 + 5 by omega]
/-- A new row, filled. -/
theorem grow_cells (P Q Z X : List Value) (hX : X.length = 5) : splice (splice (P ++ Z) P.length X) (P.length + 5) Q = P ++ (X ++ Q) ++ Z.drop (5 + Q.length) := by
  have h1 : splice (P ++ Z) P.length X = P ++ (X ++ Z.drop 5) := by
    unfold splice
    have e2 : (P ++ Z).drop (P.length + X.length) = Z.drop 5 := by rw [hX, List.drop_append]; simp
    rw [e2]; simp
  rw [h1]
  unfold splice
  have e1 : (P ++ (X ++ Z.drop 5)).take (P.length + 5) = P ++ X := by rw [← hX, ← List.append_assoc, ← List.length_append, List.take_left]
  have e2 : (P ++ (X ++ Z.drop 5)).drop (P.length + 5 + Q.length) = Z.drop (5 + Q.length) := by
    rw [← List.append_assoc, show P.length + 5 + Q.length = (P ++ X).length + Q.length by simp [hX], List.drop_append]
    simp
  rw [e1, e2]; simp
end Go.Proofs.Ytddgdhaioomnnaa.Sleep
