/-
  WHAT THE DOCUMENT'S ANSWER FOR LAYER 7 RETURNS: start, deep.
-/
import Derived.Test.YtilfkohckmknkaaTermRef
namespace Go.Proofs.Ytilfkohckmknkaa.Term
open Go.ChangeShapes Go.WideShapes Go.ChangeAt Go.RowKit Mem

/-- The last operation of a part. -/
theorem part_at (P Q X : List Op) (o : Op) (k : Nat) (hk : k = P.length + X.length) : (P ++ (X ++ [o] ++ Q))[k]? = some o := by
  subst hk
  rw [List.getElem?_append_right (by omega), show P.length + X.length - P.length = X.length from by omega, List.append_assoc, List.getElem?_append_right (Nat.le_refl _), Nat.sub_self]; rfl
theorem same_at {w : World} {A : Option Addr} {n : Nat} {l : List Op} (hr : Rd w 2 A n (ops l)) (k : Nat) (o : Op) (ho : l[k]? = some o) :
    ∃ b off, A = some ⟨b, off, none⟩ ∧ k < n ∧ w.cell? ⟨b, off + k * 2, none⟩ = some (.int .i64 o.kind) ∧ w.cell? ⟨b, off + k * 2 + 1, none⟩ = some (.int .i64 o.n) := by
  have hkn : k < n := by rw [← ops_len hr]; exact (List.getElem?_eq_some_iff.1 ho).1
  obtain ⟨b, off, x, hA, hx, c0, c1⟩ := at_op hr k hkn
  rw [ho] at hx; injection hx with e; subst e
  exact ⟨b, off, hA, hkn, c0, c1⟩

set_option maxHeartbeats 400000 in
/-- The part that ends at a place begins where its tree does. -/
theorem refstart_tree (T : Tree) : T.ok → ∀ (P Q l : List Op) (A : Option Addr) (n c k p : Nat) (w : World), Rd w 2 A n (ops l) → n ≤ 1000000 → l = P ++ (T.ops ++ Q) → k + 1 = P.length + T.ops.length → P.length = p → ∀ z : Int, z = (k : Int) →
    Calls Try.prog 53 #[.slice A n c, .int .i64 z] w fun e w' => e = .returned (.int .i64 (p : Int)) ∧ w = w' := by
  induction T with
  | leaf o =>
    intro hok P Q l A n c k p w hr hn hl hk hp z hz
    subst hz
    have h3 : o.kind ≤ 3 := takes_0 _ hok
    have hkp : k = p := by simp [Tree.ops] at hk; omega
    obtain ⟨b, off, rfl, hkn, c0, c1⟩ := same_at hr k o (by rw [hl]; have := part_at P Q [] o k (by simp; omega); simpa [Tree.ops] using this)
    subst hkp
    clear hr hl hk hp hok c1
    go_enter Try.func53, Try.ntmps53
    go_wp2
    go_ret
    exact ⟨rfl, rfl⟩
  | un o a iha =>
    intro hok P Q l A n c k p w hr hn hl hk hp z hz
    subst hz
    obtain ⟨h1, h2⟩ : takes o.kind = 1 ∧ a.ok := hok
    have hk11 := takes_1 _ h1
    have hap := a.pos
    obtain ⟨j, rfl⟩ : ∃ j, k = j + 1 := ⟨k - 1, by simp [Tree.ops] at hk; omega⟩
    have ih := Lib.hid (iha h2 P ([o] ++ Q) l A n c j p w hr hn (by rw [hl]; simp [Tree.ops]) (by simp [Tree.ops] at hk; omega) hp)
    obtain ⟨b, off, rfl, hkn, c0, c1⟩ := same_at hr (j + 1) o (by rw [hl]; exact part_at P Q a.ops o (j + 1) (by simp [Tree.ops] at hk; omega))
    obtain ⟨kd, nn⟩ := o
    obtain rfl : kd = 11 := hk11
    obtain ⟨k, hkj⟩ : ∃ k, k = j + 1 := ⟨_, rfl⟩
    rw [← hkj] at hkn c0 c1 ⊢
    have e1 : (k : Int) - 1 = (j : Int) := by omega
    have HJ := Lib.hid hkj
    clear hr hl hk hp c1 h1 h2 hap hkj iha
    go_enter Try.func53, Try.ntmps53
    go_wp2_with (go_at_call 53; refine (ih.out _ (by omega)).mono ?_; rintro e w' ⟨rfl, rfl⟩)
    go_ret
    exact ⟨rfl, rfl⟩
  | bin o a b iha ihb =>
    intro hok P Q l A n c k p w hr hn hl hk hp z hz
    subst hz
    obtain ⟨h1, h2, h3⟩ : takes o.kind = 2 ∧ a.ok ∧ b.ok := hok
    obtain ⟨hk4, hk11⟩ := takes_2 _ h1
    have hap := a.pos
    have hbp := b.pos
    obtain ⟨j, hj⟩ : ∃ j, k = j + 1 := ⟨k - 1, by simp [Tree.ops] at hk; omega⟩
    obtain ⟨i, hi⟩ : ∃ i, P.length + a.ops.length = i + 1 := ⟨P.length + a.ops.length - 1, by omega⟩
    obtain ⟨q, hq⟩ : ∃ q, q = i + 1 := ⟨_, rfl⟩
    replace ihb := Lib.hid (ihb h3 (P ++ a.ops) ([o] ++ Q) l A n c j q w hr hn (by rw [hl]; simp [Tree.ops]) (by simp [Tree.ops] at hk ⊢; omega) (by simp; omega))
    replace iha := Lib.hid (iha h2 P (b.ops ++ ([o] ++ Q)) l A n c i p w hr hn (by rw [hl]; simp [Tree.ops]) (by omega) hp)
    obtain ⟨bb, off, rfl, hkn, c0, c1⟩ := same_at hr k o (by rw [hl]; have := part_at P Q (a.ops ++ b.ops) o k (by simp [Tree.ops] at hk ⊢; omega); simpa [Tree.ops] using this)
    obtain ⟨kd, nn⟩ := o
    have hk4 : 4 ≤ kd := hk4
    have e11 : (kd == 11) = false := beq_eq_false_iff_ne.2 hk11
    have e1 : (k : Int) - 1 = (j : Int) := by omega
    have e2 : (q : Int) - 1 = (i : Int) := by omega
    have hib : i ≤ 1000000 := by have hln := ops_len hr; rw [hl] at hln; simp [Tree.ops] at hln; omega
    have HJ := Lib.hid hj
    clear hr hl hk hp c1 h1 h2 h3 hk11 hap hbp hj hi hq
    go_enter Try.func53, Try.ntmps53
    go_wp2_with fail
    refine (ihb.out _ (by omega)).mono ?_
    rintro e w' ⟨rfl, rfl⟩
    go_wp2_with fail
    refine (iha.out _ (by omega)).mono ?_
    rintro e w' ⟨rfl, rfl⟩
    go_wp2_with fail
    go_ret
    exact ⟨rfl, rfl⟩

/-- There is a tree that begins at a place and ends ahead of another one. -/
def Begins (l : List Op) (b : Int) (q : Int) : Prop := ∃ (T : Tree) (P Q : List Op), T.ok ∧ l = P ++ (T.ops ++ Q) ∧ (P.length : Int) = b ∧ ((P.length + T.ops.length : Nat) : Int) = q + 1
theorem cut_at {α : Type} (l : List α) (k : Nat) (x : α) (h : l[k]? = some x) : l = l.take k ++ ([x] ++ l.drop (k + 1)) := by
  obtain ⟨hl, rfl⟩ := List.getElem?_eq_some_iff.1 h
  simp
theorem begins_leaf (l : List Op) (k : Nat) (o : Op) (ho : l[k]? = some o) (h : o.kind ≤ 3) : Begins l k k := by
  have hl := (List.getElem?_eq_some_iff.1 ho).1
  exact ⟨.leaf o, l.take k, l.drop (k + 1), by show takes o.kind = 0; unfold takes; rw [if_pos h], cut_at l k o ho, by simp; omega, by simp [Tree.ops]; omega⟩
theorem begins_un (l : List Op) (b : Int) (j : Nat) (o : Op) (ho : l[j + 1]? = some o) (h : o.kind = 11) (hb : Begins l b j) : Begins l b ((j + 1 : Nat) : Int) := by
  obtain ⟨T, P, Q, h1, h2, h3, h4⟩ := hb
  have hq : Q = [o] ++ Q.drop 1 := by
    have : Q[0]? = some o := by
      rw [h2, ← List.append_assoc, List.getElem?_append_right (by simp; omega)] at ho
      rwa [show j + 1 - (P ++ T.ops).length = 0 from by simp; omega] at ho
    exact cut_at Q 0 o this
  exact ⟨.un o T, P, Q.drop 1, ⟨by unfold takes; rw [if_neg (by omega), if_pos h], h1⟩, by rw [h2]; simp only [Tree.ops, List.append_assoc]; rw [← hq], h3, by simp [Tree.ops]; omega⟩
theorem begins_bin (l : List Op) (b c : Int) (j : Nat) (o : Op) (ho : l[j + 1]? = some o) (h3 : ¬ o.kind ≤ 3) (h11 : o.kind ≠ 11) (hb : Begins l b j) (hc : Begins l c (b - 1)) : Begins l c ((j + 1 : Nat) : Int) := by
  obtain ⟨T, P, Q, g1, g2, g3, g4⟩ := hb
  obtain ⟨U, P', Q', u1, u2, u3, u4⟩ := hc
  have hq : Q = [o] ++ Q.drop 1 := by
    have : Q[0]? = some o := by
      rw [g2, ← List.append_assoc, List.getElem?_append_right (by simp; omega)] at ho
      rwa [show j + 1 - (P ++ T.ops).length = 0 from by simp; omega] at ho
    exact cut_at Q 0 o this
  have hP : P' ++ U.ops = P := by
    have e : (P' ++ U.ops) ++ Q' = P ++ (T.ops ++ Q) := by rw [List.append_assoc, ← u2, g2]
    have hlen : (P' ++ U.ops).length = P.length := by simp; omega
    exact (List.append_inj e hlen).1
  refine ⟨.bin o U T, P', Q.drop 1, ⟨by unfold takes; rw [if_neg h3, if_neg h11], u1, g1⟩, ?_, u3, ?_⟩
  · rw [g2, ← hP]; simp only [Tree.ops, List.append_assoc]; rw [← hq]
  · have : (P' ++ U.ops).length = P.length := by rw [hP]
    simp [Tree.ops] at this ⊢; omega

set_option maxRecDepth 100000 in
/-- Whatever stands there: where a tree begins, or -1. -/
theorem refstart_any (l : List Op) (A : Option Addr) (n c : Nat) (w : World) (hr : Rd w 2 A n (ops l)) (hn : n ≤ 1000000) : (m : Nat) → ∀ (q : Int), -1 ≤ q → q < m → q < n →
    Calls Try.prog 53 #[.slice A n c, .int .i64 q] w fun e w' => (∃ b : Int, e = .returned (.int .i64 b) ∧ -1 ≤ b ∧ b ≤ q ∧ Hid (0 ≤ b → Begins l b q)) ∧ w = w'
  | m, q, h1, h2, h3 => by
    by_cases h0 : q < 0
    · obtain rfl : q = -1 := by omega
      clear hr
      go_enter Try.func53, Try.ntmps53
      go_wp2
      go_ret
      exact ⟨⟨-1, rfl, by omega, by omega, Lib.hid (fun h => by omega)⟩, rfl⟩
    obtain ⟨k, rfl⟩ := Int.eq_ofNat_of_zero_le (by omega : 0 ≤ q)
    have HR := Lib.hid hr
    obtain ⟨b0, off, ⟨kd, nn⟩, rfl, hx, c0, c1⟩ := at_op hr k (by omega)
    have HX := Lib.hid hx
    clear hx c1 hr
    by_cases h4 : kd ≤ 3
    · go_enter Try.func53, Try.ntmps53
      go_wp2
      go_ret
      exact ⟨⟨k, rfl, by omega, by omega, Lib.hid (fun _ => begins_leaf l k _ HX.out h4)⟩, rfl⟩
    · obtain ⟨m', rfl⟩ : ∃ m', m = m' + 1 := ⟨m - 1, by omega⟩
      have ih := Lib.hid (refstart_any l (some ⟨b0, off, none⟩) n c w HR.out hn m')
      go_enter Try.func53, Try.ntmps53
      go_wp2_with fail
      refine (ih.out ((k : Int) - 1) (by omega) (by omega) (by omega)).mono ?_
      rintro e w' ⟨⟨b, rfl, b1, b2, HB⟩, rfl⟩
      by_cases h5 : b < 0
      · go_wp2_with fail
        go_ret
        exact ⟨⟨b, rfl, b1, by omega, Lib.hid (fun h => by omega)⟩, rfl⟩
      · have HJ : Hid (∃ j : Nat, k = j + 1) := Lib.hid ⟨k - 1, by omega⟩
        have HB2 : Hid (∀ j : Nat, k = j + 1 → Begins l b j) := Lib.hid (fun j hj => by have := HB.out (by omega); rwa [show (k : Int) - 1 = (j : Int) from by omega] at this)
        by_cases h6 : kd = 11
        · subst h6
          go_wp2_with fail
          go_ret
          exact ⟨⟨b, rfl, b1, by omega, Lib.hid (fun h => by obtain ⟨j, rfl⟩ := HJ.out; exact begins_un l b j _ HX.out rfl (HB2.out j rfl))⟩, rfl⟩
        · have e11 : (kd == 11) = false := beq_eq_false_iff_ne.2 h6
          have H6 := Lib.hid h6
          clear h6
          go_wp2_with fail
          refine (ih.out (b - 1) (by omega) (by omega) (by omega)).mono ?_
          rintro e w' ⟨⟨b', rfl, d1, d2, HD⟩, rfl⟩
          go_wp2_with fail
          go_ret
          exact ⟨⟨b', rfl, d1, by omega, Lib.hid (fun h => by obtain ⟨j, rfl⟩ := HJ.out; exact begins_bin l b b' j _ HX.out (by show ¬ kd ≤ 3; omega) H6.out (HB2.out j rfl) (HD.out h))⟩, rfl⟩

end Go.Proofs.Ytilfkohckmknkaa.Term
