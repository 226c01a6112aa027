/-
  WHAT THE DOCUMENT'S ANSWER FOR LAYER 9 RETURNS: four, Code.
-/
import Derived.Test.YtilfkohckmknkaaShapeMem
namespace Go.Proofs.Ytilfkohckmknkaa.Shape
open Go.ChangeShapes Go.WideShapes Go.ChangeAt Go.RowKit Mem Go.Proofs.Ytilfkohckmknkaa.Code

theorem cell_up {w w' : World} {a : Addr} {v : Value} (h : w.cell? a = some v) (hb : Below w.heap.size w w') : w'.cell? a = some v := (hb.cell (cell_lt h)).trans h
theorem tByte : SliceT Try.prog 25 5 1 1 := SliceT.mk_ (z := .int .u8 0) Try.underlying25 (by kernel_rfl) rfl (by decide)
theorem own_built (w : World) (e : TypeId) (size n : Nat) (xs : List Value) (h : xs.length = n * size) (hn : n ≤ 1000000) : Own w (w.alloc (.cells xs.toArray e)) e size (.slice (some ⟨w.heap.size, 0, none⟩) n n) n xs :=
  ⟨⟨h, .inr ⟨w.heap.size, n, xs.toArray, rfl, Nat.le_refl _, heap_alloc_new w _, Nat.le_refl _, by unfold maxLen; omega, by simpa using h, by rw [← h]; simp⟩⟩, bl_alloc (Below.refl _ _) _⟩
theorem reffour (n : Int) (w : World) (h1 : -2147483648 ≤ n) (h2 : n ≤ 2147483647) :
    Calls Try.prog 27 #[.int .i64 n] w (RetS w 1 4 (bs (fourS n))) := by
  by_cases h0 : n < 0
  · have HF : Hid (bs (fourS n) = [.int .u8 ((n + 4294967296) / 16777216), .int .u8 ((n + 4294967296) / 65536 % 256), .int .u8 ((n + 4294967296) / 256 % 256), .int .u8 ((n + 4294967296) % 256)]) := Lib.hid (by
      have e : (n + 4294967296) / 16777216 = (n + 4294967296) / 16777216 % 256 := by omega
      rw [e]; unfold fourS highS; rw [if_pos h0]; rfl)
    go_enter Try.func27, Try.ntmps27
    go_wp2
    go_ret
    exact ⟨_, _, rfl, by rw [HF.out]; exact Rd.built _ 1 4 _ _ rfl, bl_alloc (Below.refl _ _) _⟩
  · have HF : Hid (bs (fourS n) = [.int .u8 (n / 16777216), .int .u8 (n / 65536 % 256), .int .u8 (n / 256 % 256), .int .u8 (n % 256)]) := Lib.hid (by
      have e : n / 16777216 = n / 16777216 % 256 := by omega
      rw [e]; unfold fourS highS; rw [if_neg h0]; rfl)
    go_enter Try.func27, Try.ntmps27
    go_wp2
    go_ret
    exact ⟨_, _, rfl, by rw [HF.out]; exact Rd.built _ 1 4 _ _ rfl, bl_alloc (Below.refl _ _) _⟩

theorem steps_take (c : List Step) (k : Nat) (s : Step) (hk : c[k]? = some s) : (c.take (k + 1)).flatMap stepS = (c.take k).flatMap stepS ++ stepS s := by
  rw [List.take_add_one, hk, List.flatMap_append]; simp
theorem ops_take (t : List Term.Op) (k : Nat) (o : Term.Op) (hk : t[k]? = some o) : (t.take (k + 1)).flatMap opS = (t.take k).flatMap opS ++ opS o := by
  rw [List.take_add_one, hk, List.flatMap_append]; simp
set_option maxRecDepth 100000 in
set_option maxHeartbeats 2000000 in
theorem refcode (l : List Raw) (A : Option Addr) (n c : Nat) (w : World) (q : Nat) (hat : At w A n l) (hfit : FitC (ss l)) (hq : (codeS (ss l)).length = q) :
    Calls Try.prog 16 #[.slice A n c] w (RetO w 5 1 q (bs (codeS (ss l)))) := by
  have HL := Lib.hid hat.len
  have HA := Lib.hid hat
  have HQ := Lib.hid hq
  have hn : n < 256 := by have := hfit.1; rw [ss_len, hat.len] at this; exact this
  have HFT := Lib.hid hfit.2
  have HO1 : Hid (Own w (w.alloc (.cells #[.int .u8 (n : Int)] 5)) 5 1 (.slice (some ⟨w.heap.size, 0, none⟩) 1 1) 1 (bs [(n : Int)])) := Lib.hid (own_built w _ 1 1 (bs [(n : Int)]) rfl (by decide))
  clear hat hfit hq
  go_enter Try.func16, Try.ntmps16
  go_wp2
  go_loopw [3, 4] (fun v i wr => ∃ (k u : Nat), k ≤ n ∧ i = .int .i64 k ∧ u ≤ 1 + k * 2000 ∧ Own w wr 5 1 v u (bs ((n : Int) :: ((ss l).take k).flatMap stepS))) (fun _ i _ => n - (intOf i).toNat)
  case atStart => exact ⟨0, 1, Nat.zero_le _, rfl, by omega, HO1.out⟩
  case round =>
    obtain ⟨k, u, hk, rfl, hu, hown⟩ := hrel
    generalize wr = w1 at *
    by_cases hlt : k < n
    · obtain ⟨b, off, ⟨⟨sd, sa, sb, st⟩, T, tn, tc⟩, rfl, hx, c0, c1, c2, c3, hrd, _⟩ := (HA.out.below hown.2).at_ k hlt
      simp only at c0 c1 c2 c3
      obtain ⟨⟨d0, d1⟩, ⟨a0, a1⟩, ⟨b0, b1⟩, ht, hto⟩ := HFT.out _ (List.mem_of_getElem? (ss_at l k _ hx))
      simp only at d0 d1 a0 a1 b0 b1 ht hto
      have htl : st.length = tn := Term.ops_len hrd
      rw [htl] at ht
      obtain ⟨P, hP⟩ : ∃ P, (n : Int) :: ((ss l).take k).flatMap stepS = P := ⟨_, rfl⟩
      have HT : Hid ((n : Int) :: ((ss l).take (k + 1)).flatMap stepS = (P ++ [sd, sa, sb, (tn : Int)]) ++ st.flatMap opS) := Lib.hid (by
        rw [steps_take _ _ _ (ss_at l k _ hx), ← List.cons_append, hP, List.append_assoc]
        unfold stepS; rw [← htl]; rfl)
      rw [hP] at hown
      obtain ⟨B0, e0, rfl, _⟩ := hown.form
      have HOWN := Lib.hid hown
      have HTO := Lib.hid hto
      have HTL := Lib.hid htl
      have HX := Lib.hid hx
      have HNE : Hid ((Value.slice B0 u e0).ownBlock ≠ some w1.heap.size) := Lib.hid (by intro e; have := HOWN.out.lt _ e; omega)
      have HBK : Hid (Blk (w1.alloc (.cells #[.int .i64 sd, .int .i64 sa, .int .i64 sb, .slice T tn tc] 58)) w1.heap.size 58 #[.int .i64 sd, .int .i64 sa, .int .i64 sb, .slice T tn tc]) := Lib.hid (Blk.new _ _ _)
      have htc : tn ≤ 9223372036854775807 := by omega
      clear hx hrd hown hto htl hP
      go_wp2_with (at_builtin; refine append_at rfl _ _ 25 rfl tByte w _ u (bs P) rfl ((HOWN.out.alloc _).alloc _) _ 4 4 (bs [sd, sa, sb, (tn : Int)]) rfl (Rd.builtAt _ 1 4 (bs [sd, sa, sb, (tn : Int)]) _ rfl (by simp)) (bs_one _) (by omega) (by omega) ?_; intro v' w' ho' hg hat; have HO9 := Lib.hid ho'; have HB9 := Lib.hid ((HBK.out.alloc _).grown hg HNE.out); have HN9 := Lib.hid (grown_ne hat HNE.out (by simp; omega)); clear ho' hg hat)
      go_loopw [3, 6] (fun v i wr => ∃ (j u2 : Nat), j ≤ tn ∧ i = .int .i64 j ∧ u2 ≤ 1 + k * 2000 + 4 + 5 * j ∧ Own w wr 5 1 v u2 (bs ((P ++ [sd, sa, sb, (tn : Int)]) ++ (st.take j).flatMap opS)) ∧ Hid (Blk wr w1.heap.size 58 #[.int .i64 sd, .int .i64 sa, .int .i64 sb, .slice T tn tc]) ∧ Hid (v.ownBlock ≠ some w1.heap.size)) (fun _ i _ => tn - (intOf i).toNat)
      case atStart => exact ⟨0, u + 4, Nat.zero_le _, rfl, by omega, by rw [List.take_zero, List.flatMap_nil, List.append_nil, bs_app]; exact HO9.out, HB9, HN9⟩
      case round =>
        obtain ⟨j, u2, hj, rfl, hu2, hown, HBJ, HNJ⟩ := hrel
        generalize wr = w2 at *
        have q3 := HBJ.out.cell 3 _ rfl
        by_cases hjt : j < tn
        · have hr0 : Rd w 2 T tn (Term.ops st) := (HA.out.2 _ (List.mem_of_getElem? HX.out)).1
          obtain ⟨tb, to, ⟨kd, nn⟩, rfl, hox, o0, o1⟩ := Term.at_op hr0 j hjt
          obtain ⟨⟨f0, f1⟩, f2, f3⟩ := HTO.out _ (List.mem_of_getElem? hox)
          simp only at f0 f1 f2 f3 o0 o1
          have HT2 := Lib.hid (ops_take st j _ hox)
          obtain ⟨P2, hP2⟩ : ∃ P2, (P ++ [sd, sa, sb, (tn : Int)]) ++ (st.take j).flatMap opS = P2 := ⟨_, rfl⟩
          rw [hP2] at hown
          have HT3 : Hid ((P ++ [sd, sa, sb, (tn : Int)]) ++ (st.take (j + 1)).flatMap opS = (P2 ++ [kd]) ++ fourS nn) := Lib.hid (by
            rw [HT2.out, ← hP2]; unfold opS; simp)
          obtain ⟨B1, e1, rfl, _⟩ := hown.form
          have HOWN2 := Lib.hid hown
          have HO1' := Lib.hid o1
          have p0 := cell_up o0 hown.2
          clear hr0 hox hown hP2 o0 o1
          have T1 : True := trivial
          have T2 : True := trivial
          go_wp2_with (first
            | (at_builtin; clear T1; refine append_at rfl _ _ 25 rfl tByte w _ u2 (bs P2) rfl (HOWN2.out.alloc _) _ 1 1 (bs [kd]) rfl (Rd.built _ 1 1 (bs [kd]) _ rfl) (bs_one _) (by omega) (by omega) ?_; intro v3 w3 ho3 hg3 hat3; have HO3 := Lib.hid ho3; have HB3 := Lib.hid ((HBJ.out.alloc _).grown hg3 HNJ.out); have HN3 := Lib.hid (grown_ne hat3 HNJ.out (by have := HBJ.out.lt; simp; omega)); have q3' := HB3.out.cell 3 _ rfl; have p1 := cell_up HO1'.out ho3.2; clear ho3 hg3 hat3)
            | (go_at_call 27; refine (reffour nn _ f2 f3).mono ?_; rintro e w4 ⟨B4, d4, rfl, r4, b4⟩; have R4 := Lib.hid r4; have HB4 := Lib.hid b4; clear r4 b4)
            | (at_builtin; clear T2; refine append_at rfl _ _ 25 rfl tByte w _ (u2 + 1) (bs P2 ++ bs [kd]) rfl (HO3.out.below HB4.out) _ 4 _ (bs (fourS nn)) rfl R4.out (bs_one _) (by omega) (by omega) ?_; intro v5 w5 ho5 hg5 hat5; have HO5 := Lib.hid ho5; have HB5 := Lib.hid ((HB3.out.below HB4.out).grown hg5 HN3.out); have HN5 := Lib.hid (grown_ne hat5 HN3.out (HB3.out.below HB4.out).lt); clear ho5 hg5 hat5))
          go_roundw
          case rel => exact ⟨j + 1, u2 + 1 + 4, by omega, by go_num, by omega, by rw [HT3.out, bs_app, bs_app]; exact HO5.out, HB5, HN5⟩
          case measure => simp [intOf]; omega
        · have HE : Hid (st.take j = st) := Lib.hid (List.take_of_length_le (by rw [HTL.out]; omega))
          have HOW := Lib.hid hown
          clear hown
          go_wp2
          go_roundw
          case rel => exact ⟨k + 1, u2, by omega, by go_num, by omega, by rw [HT.out]; have := HOW.out; rwa [HE.out] at this⟩
          case measure => simp [intOf]; omega
    · have HE : Hid ((ss l).take k = ss l) := Lib.hid (List.take_of_length_le (by rw [ss_len, HL.out]; omega))
      have HOW := Lib.hid hown
      have HUQ : Hid (u = q) := Lib.hid (by
        have h1 := hown.1.1
        rw [HE.out, bs_count] at h1
        rw [← HQ.out]
        unfold codeS
        rw [ss_len, HL.out]
        omega)
      clear hown
      go_wp2
      go_ret
      exact ⟨_, rfl, by have := HOW.out; rw [HE.out, HUQ.out] at this; unfold codeS; rw [ss_len, HL.out]; exact this⟩
end Go.Proofs.Ytilfkohckmknkaa.Shape
