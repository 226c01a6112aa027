/-
  WHAT THE FUNCTIONS putNumber AND putCode RETURN: bytes of the call's own, with more behind. No conditions beyond those that each theorem states.
-/
import Derived.Test.YtilfkohckmknkaaShapeRef2
namespace Go.Proofs.Ytilfkohckmknkaa.Shape
open Go.ChangeShapes Go.WideShapes Go.ChangeAt Go.RowKit Mem Go.Proofs.Ytilfkohckmknkaa.Code

/-- The slice is the one that it was, or lies in a block that is newer than w. -/
def Nx (w : World) (v v' : Value) : Prop := ∀ g, v'.ownBlock = some g → v.ownBlock = some g ∨ w.heap.size ≤ g
theorem Nx.ne {w : World} {v v' : Value} {g : Nat} (h : Nx w v v') (hv : v.ownBlock ≠ some g) (hg : g < w.heap.size) : v'.ownBlock ≠ some g := by
  intro e
  rcases h g e with h1 | h1
  · exact hv h1
  · omega
theorem Nx.of {w w1 : World} {v v' : Value} (hat : v'.ownBlock = v.ownBlock ∨ v'.ownBlock = some w1.heap.size) (hs : w.heap.size ≤ w1.heap.size) : Nx w v v' := by
  intro g e
  rcases hat with h | h
  · exact .inl (by rw [← h]; exact e)
  · rw [h] at e; injection e with e; exact .inr (by omega)
theorem grown_alloc {w w1 : World} {r : Option Nat} {o : Obj} (h : (w.alloc o).grownBy w1 r) : w.grownBy w1 r :=
  ⟨h.os, h.tape, h.output, Nat.le_trans (bl_alloc (Below.refl w.heap.size w) o).size h.size, fun k hk hne => (h.block k (Nat.lt_of_lt_of_le hk (bl_alloc (Below.refl w.heap.size w) o).size) hne).trans (Below.heap_alloc w o k hk)⟩
theorem four_bytes (n : Int) : fourS n = [n / 16777216 % 256, n / 65536 % 256, n / 256 % 256, n % 256] := by
  unfold fourS highS
  split
  · have e1 : (n + 4294967296) / 16777216 % 256 = n / 16777216 % 256 := by omega
    have e2 : (n + 4294967296) / 65536 % 256 = n / 65536 % 256 := by omega
    have e3 : (n + 4294967296) / 256 % 256 = n / 256 % 256 := by omega
    have e4 : (n + 4294967296) % 256 = n % 256 := by omega
    rw [e1, e2, e3, e4]
  · rfl
set_option maxRecDepth 100000 in
theorem putnum (w0 : World) (v : Value) (u : Nat) (P : List Int) (n : Int) (w : World) (hown : Own w0 w 5 1 v u (bs P)) (hu : u ≤ 1000000000) :
    Calls Try.prog 36 #[v, .int .i64 n] w fun e w' => ∃ v', e = .returned v' ∧ Own w0 w' 5 1 v' (u + 4) (bs (P ++ fourS n)) ∧ w.grownBy w' v.ownBlock ∧ Nx w v v' := by
  have HOWN := Lib.hid hown
  have HF := Lib.hid (four_bytes n)
  obtain ⟨B0, e0, rfl, _⟩ := hown.form
  clear hown
  go_enter Try.func36, Try.ntmps36
  go_wp2_with (at_builtin; refine append_at rfl _ _ 25 rfl tByte w0 (.slice B0 u e0) u (bs P) rfl (HOWN.out.alloc _) _ 4 4 (bs [n / 16777216 % 256, n / 65536 % 256, n / 256 % 256, n % 256]) rfl (Rd.built _ 1 4 (bs [n / 16777216 % 256, n / 65536 % 256, n / 256 % 256, n % 256]) _ rfl) (bs_one _) (by omega) (by omega) ?_; intro v' w' ho' hg hat; have HO9 := Lib.hid ho'; have HG9 := Lib.hid (grown_alloc hg); have HN9 := Lib.hid (Nx.of (w := w) hat (by simp)); clear ho' hg hat)
  go_ret
  exact ⟨v', rfl, by rw [HF.out, bs_app]; exact HO9.out, HG9.out, HN9.out⟩
theorem grown_chain {w w1 w2 : World} {v v1 : Value} (h : w.grownBy w1 v.ownBlock) (k : w1.grownBy w2 v1.ownBlock) (hn : Nx w v v1) : w.grownBy w2 v.ownBlock :=
  ⟨k.os.trans h.os, k.tape.trans h.tape, k.output.trans h.output, Nat.le_trans h.size k.size, fun i hi hne =>
    (k.block i (Nat.lt_of_lt_of_le hi h.size) (fun e => by
      rcases hn i e.symm with h1 | h1
      · exact hne h1.symm
      · omega)).trans (h.block i hi hne)⟩
theorem Nx.trans {w w1 : World} {v v1 v2 : Value} (h : Nx w v v1) (k : Nx w1 v1 v2) (hs : w.heap.size ≤ w1.heap.size) : Nx w v v2 := by
  intro g e
  rcases k g e with h1 | h1
  · exact h g h1
  · exact .inr (by omega)
set_option maxRecDepth 100000 in
set_option maxHeartbeats 2000000 in
theorem putcode (w0 : World) (v0 : Value) (uz : Nat) (P0 : List Int) (l : List Raw) (A : Option Addr) (n c : Nat) (w : World) (q : Nat) (hown : Own w0 w 5 1 v0 uz (bs P0)) (huz : uz ≤ 100000000) (hat : At w0 A n l) (hfit : FitC (ss l)) (hq : (codeS (ss l)).length = q) :
    Calls Try.prog 23 #[v0, .slice A n c] w (fun e w' => ∃ v', e = .returned v' ∧ Own w0 w' 5 1 v' (uz + q) (bs (P0 ++ codeS (ss l)))) := by
  have HL := Lib.hid hat.len
  have HA := Lib.hid hat
  have HQ := Lib.hid hq
  have hn : n < 256 := by have := hfit.1; rw [ss_len, hat.len] at this; exact this
  have HFT := Lib.hid hfit.2
  have HOWN0 := Lib.hid hown
  obtain ⟨B0, e0, rfl, _⟩ := hown.form
  clear hat hfit hq hown
  go_enter Try.func23, Try.ntmps23
  go_wp2_with (at_builtin; refine append_at rfl _ _ 25 rfl tByte w0 (.slice B0 uz e0) uz (bs P0) rfl (HOWN0.out.alloc _) _ 1 1 (bs [(n : Int)]) rfl (Rd.built _ 1 1 (bs [(n : Int)]) _ rfl) (bs_one _) (by omega) (by omega) ?_; intro v1 w1 ho1 hg1 hat1; have HO1 := Lib.hid ho1; clear ho1 hg1 hat1)
  go_loopw [0, 17] (fun v i wr => ∃ (k u : Nat), k ≤ n ∧ i = .int .i64 k ∧ u ≤ uz + 1 + k * 2000 ∧ Own w0 wr 5 1 v u (bs ((P0 ++ [(n : Int)]) ++ ((ss l).take k).flatMap stepS))) (fun _ i _ => n - (intOf i).toNat)
  case atStart => exact ⟨0, uz + 1, Nat.zero_le _, rfl, by omega, by rw [List.take_zero, List.flatMap_nil, List.append_nil, bs_app]; exact HO1.out⟩
  case round =>
    obtain ⟨k, u, hk, rfl, hu, hown⟩ := hrel
    generalize wr = w1 at *
    by_cases hlt : k < n
    · obtain ⟨b, off, ⟨⟨sd, sa, sb, st⟩, T, tn, tc⟩, rfl, hx, c0, c1, c2, c3, hrd, _⟩ := (HA.out.below hown.2).at_ k hlt
      simp only at c0 c1 c2 c3
      obtain ⟨⟨d0, d1⟩, ⟨a0, a1⟩, ⟨b0, b1⟩, ht, hto⟩ := HFT.out _ (List.mem_of_getElem? (ss_at l k _ hx))
      simp only at d0 d1 a0 a1 b0 b1 ht hto
      have htl : st.length = tn := Term.ops_len hrd
      rw [htl] at ht
      obtain ⟨P, hP⟩ : ∃ P, (P0 ++ [(n : Int)]) ++ ((ss l).take k).flatMap stepS = P := ⟨_, rfl⟩
      have HT : Hid ((P0 ++ [(n : Int)]) ++ ((ss l).take (k + 1)).flatMap stepS = (P ++ [sd, sa, sb, (tn : Int)]) ++ st.flatMap opS) := Lib.hid (by
        rw [steps_take _ _ _ (ss_at l k _ hx), ← List.append_assoc, hP, List.append_assoc]
        unfold stepS; rw [← htl]; rfl)
      rw [hP] at hown
      obtain ⟨B4, e4, rfl, _⟩ := hown.form
      have HOWN := Lib.hid hown
      have HTO := Lib.hid hto
      have HTL := Lib.hid htl
      have HX := Lib.hid hx
      have HNE : Hid ((Value.slice B4 u e4).ownBlock ≠ some w1.heap.size) := Lib.hid (by intro e; have := HOWN.out.lt _ e; omega)
      have HBK : Hid (Blk (w1.alloc (.cells #[.int .i64 sd, .int .i64 sa, .int .i64 sb, .slice T tn tc] 53)) w1.heap.size 53 #[.int .i64 sd, .int .i64 sa, .int .i64 sb, .slice T tn tc]) := Lib.hid (Blk.new _ _ _)
      have htc : tn ≤ 9223372036854775807 := by omega
      clear hx hrd hown hto htl hP
      go_wp2_with (at_builtin; refine append_at rfl _ _ 25 rfl tByte w0 (.slice B4 u e4) u (bs P) rfl ((HOWN.out.alloc _).alloc _) _ 4 4 (bs [sd, sa, sb, (tn : Int)]) rfl (Rd.builtAt _ 1 4 (bs [sd, sa, sb, (tn : Int)]) _ rfl (by simp)) (bs_one _) (by omega) (by omega) ?_; intro v' w' ho' hg hat; have HO9 := Lib.hid ho'; have HB9 := Lib.hid ((HBK.out.alloc _).grown hg HNE.out); have q3 := HB9.out.cell 3 _ rfl; clear ho' hg hat)
      go_loopw [0, 40] (fun v i wr => ∃ (j uy : Nat), j ≤ tn ∧ i = .int .i64 j ∧ uy ≤ uz + 1 + k * 2000 + 4 + 5 * j ∧ Own w0 wr 5 1 v uy (bs ((P ++ [sd, sa, sb, (tn : Int)]) ++ (st.take j).flatMap opS))) (fun _ i _ => tn - (intOf i).toNat)
      case atStart => exact ⟨0, u + 4, Nat.zero_le _, rfl, by omega, by rw [List.take_zero, List.flatMap_nil, List.append_nil, bs_app]; exact HO9.out⟩
      case round =>
        obtain ⟨j, uy, hj, rfl, hu2, hown⟩ := hrel
        generalize wr = w2 at *
        by_cases hjt : j < tn
        · have hr0 : Rd w0 2 T tn (Term.ops st) := (HA.out.2 _ (List.mem_of_getElem? HX.out)).1
          obtain ⟨tb, to, ⟨kd, nn⟩, rfl, hox, o0', o1'⟩ := Term.at_op hr0 j hjt
          obtain ⟨⟨f0, f1⟩, f2, f3⟩ := HTO.out _ (List.mem_of_getElem? hox)
          simp only at f0 f1 f2 f3 o0' o1'
          have HT2 := Lib.hid (ops_take st j _ hox)
          obtain ⟨P2, hP2⟩ : ∃ P2, (P ++ [sd, sa, sb, (tn : Int)]) ++ (st.take j).flatMap opS = P2 := ⟨_, rfl⟩
          rw [hP2] at hown
          have HT3 : Hid ((P ++ [sd, sa, sb, (tn : Int)]) ++ (st.take (j + 1)).flatMap opS = (P2 ++ [kd]) ++ fourS nn) := Lib.hid (by
            rw [HT2.out, ← hP2]; unfold opS; simp)
          obtain ⟨B1, e1, rfl, _⟩ := hown.form
          have HOWN2 := Lib.hid hown
          have o0 := cell_up o0' hown.2
          have o1 := cell_up o1' hown.2
          have HNE2 : Hid ((Value.slice B1 uy e1).ownBlock ≠ some w2.heap.size) := Lib.hid (by intro e; have := HOWN2.out.lt _ e; omega)
          have HBO : Hid (Blk (w2.alloc (.cells #[.int .i64 kd, .int .i64 nn] 50)) w2.heap.size 50 #[.int .i64 kd, .int .i64 nn]) := Lib.hid (Blk.new _ _ _)
          clear hr0 hox hown hP2 o0' o1'
          go_wp2_with (first
            | (at_builtin; refine append_at rfl _ _ 25 rfl tByte w0 (.slice B1 uy e1) uy (bs P2) rfl ((HOWN2.out.alloc _).alloc _) _ 1 1 (bs [kd]) rfl (Rd.builtAt _ 1 1 (bs [kd]) _ rfl (by simp)) (bs_one _) (by omega) (by omega) ?_; intro v3 w3 ho3 hg3 hat3; have HO3 := Lib.hid ho3; have HB3 := Lib.hid ((HBO.out.alloc _).grown hg3 HNE2.out); have p1 := HB3.out.cell 1 _ rfl; clear ho3 hg3 hat3)
            | (go_at_call 36; refine (putnum w0 v3 (uy + 1) (P2 ++ [kd]) nn _ (by rw [bs_app]; exact HO3.out) (by omega)).mono ?_; rintro e w4 ⟨v4, rfl, ho4, _, _⟩; have HO4 := Lib.hid ho4; clear ho4))
          go_roundw
          case rel => exact ⟨j + 1, uy + 1 + 4, by omega, by go_num, by omega, by rw [HT3.out]; exact HO4.out⟩
          case measure => simp [intOf]; omega
        · have HE : Hid (st.take j = st) := Lib.hid (List.take_of_length_le (by rw [HTL.out]; omega))
          have HOW := Lib.hid hown
          clear hown
          go_wp2
          go_roundw
          case rel => exact ⟨k + 1, uy, by omega, by go_num, by omega, by rw [HT.out]; have := HOW.out; rwa [HE.out] at this⟩
          case measure => simp [intOf]; omega
    · have HE : Hid ((ss l).take k = ss l) := Lib.hid (List.take_of_length_le (by rw [ss_len, HL.out]; omega))
      have HOW := Lib.hid hown
      have HUQ : Hid (u = uz + q) := Lib.hid (by
        have h1 := hown.1.1
        have h2 := HOWN0.out.1.1
        rw [HE.out, bs_count, List.length_append, List.length_append] at h1
        rw [bs_count] at h2
        rw [← HQ.out]
        unfold codeS
        rw [ss_len, HL.out]
        simp only [List.length_cons, List.length_nil] at *
        omega)
      clear hown
      go_wp2
      go_ret
      exact ⟨_, rfl, by have := HOW.out; rw [HE.out, HUQ.out, List.append_assoc] at this; unfold codeS; rw [ss_len, HL.out]; exact this⟩
end Go.Proofs.Ytilfkohckmknkaa.Shape
