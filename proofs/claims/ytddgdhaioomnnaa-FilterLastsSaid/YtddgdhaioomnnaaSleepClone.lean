/-
  WHAT THE FUNCTIONS OF THE LAYER sleep RETURN, AS THEY ARE WRITTEN: cloneOne, clone (with the library's Clone).
-/
import Derived.Test.YtddgdhaioomnnaaSleepMem
import Derived.Test.YtddgdhaioomnnaaWritesA
import Derived.OwnWalk
import Derived.Lib.SliceRun
namespace Go.Proofs.Ytddgdhaioomnnaa.Sleep
open Go.ChangeShapes Go.WideShapes Go.ChangeAt Go.RowKit Mem
open Heap (Write)

theorem tSleeper : SliceT Try.prog 22 36 5 72 := SliceT.mk_ (z := .agg #[.int .i64 0, .int .i64 0, .int .i64 0, .slice none 0 0, .slice none 0 0]) Try.underlying22 (by kernel_rfl) rfl (by decide)
theorem tTOp : SliceT Try.prog 34 59 2 16 := SliceT.mk_ (z := .agg #[.int .i64 0, .int .i64 0]) Try.underlying34 (by kernel_rfl) rfl (by decide)
set_option maxRecDepth 100000 in
theorem clones_any (L : List RawS) (A : Option Addr) (n c : Nat) (w : World) (hr : Rd w 5 A n (ss L)) (hn : n ≤ 1000000) :
    Calls Try.prog 59 #[.slice A n c] w (RetO w 36 5 n (ss L)) := by
  have hnil := fun W => Lib.run_eql_slice_nil (P := Try.prog) W 22 36 A n c 0 0 Try.underlying22
  rcases A with _ | ad
  · obtain ⟨rfl, h0⟩ := rd_nil hr
    have HX := Lib.hid h0
    clear hr h0
    go_enter Try.func59, Try.ntmps59
    go_wp2
    go_ret
    exact ⟨_, rfl, by rw [HX.out]; exact Own.nil_ (Below.refl _ _)⟩
  · have HR := Lib.hid hr
    clear hr
    go_enter Try.func59, Try.ntmps59
    go_wp2_with (at_builtin; refine append_rd rfl _ _ 22 rfl tSleeper w _ 0 [] rfl (Own.empty w _ _) _ n c (ss L) rfl (HR.out.alloc _) (ss_one L) (by omega) (by omega) ?_; intro v' w' hown' hg; have HO := Lib.hid hown'; clear hown' hg)
    go_ret
    exact ⟨v', rfl, by have := HO.out; simpa using this⟩
set_option maxRecDepth 100000 in
theorem clonet_any (L : List Term.Op) (A : Option Addr) (n c : Nat) (w : World) (hr : Rd w 2 A n (Term.ops L)) (hn : n ≤ 1000000) :
    Calls Try.prog 49 #[.slice A n c] w (RetO w 59 2 n (Term.ops L)) := by
  have hnil := fun W => Lib.run_eql_slice_nil (P := Try.prog) W 34 59 A n c 0 0 Try.underlying34
  rcases A with _ | ad
  · obtain ⟨rfl, h0⟩ := rd_nil hr
    have HX := Lib.hid h0
    clear hr h0
    go_enter Try.func49, Try.ntmps49
    go_wp2
    go_ret
    exact ⟨_, rfl, by rw [HX.out]; exact Own.nil_ (Below.refl _ _)⟩
  · have HR := Lib.hid hr
    clear hr
    go_enter Try.func49, Try.ntmps49
    go_wp2_with (at_builtin; refine append_rd rfl _ _ 34 rfl tTOp w _ 0 [] rfl (Own.empty w _ _) _ n c (Term.ops L) rfl (HR.out.alloc _) (Term.ops_one L) (by omega) (by omega) ?_; intro v' w' hown' hg; have HO := Lib.hid hown'; clear hown' hg)
    go_ret
    exact ⟨v', rfl, by have := HO.out; simpa using this⟩

/-- The slices of it lie in blocks that are no older than so. -/
def New1 (base : Nat) (x : RawS) : Prop := (∀ b off, x.A = some ⟨b, off, none⟩ → 0 < x.n → base ≤ b) ∧ (∀ b off, x.B = some ⟨b, off, none⟩ → 0 < x.m → base ≤ b)
theorem Inner.set_ {w : World} {x : RawS} {g : Nat} (h : Inner w x) (hA : ∀ b off, x.A = some ⟨b, off, none⟩ → 0 < x.n → b ≠ g) (hB : ∀ b off, x.B = some ⟨b, off, none⟩ → 0 < x.m → b ≠ g) (i : Nat) (u : Value) : Inner (w.setCell ⟨g, i, none⟩ u) x := by
  refine ⟨?_, ?_⟩
  · rcases Nat.eq_zero_or_pos x.n with h0 | h0
    · exact ⟨h.1.1, fun hn => absurd hn (by omega)⟩
    · exact Rd.set_other h.1 (fun b off e => hA b off e h0) _ _
  · rcases Nat.eq_zero_or_pos x.m with h0 | h0
    · exact ⟨h.2.1, fun hn => absurd hn (by omega)⟩
    · exact Rd.set_other h.2 (fun b off e => hB b off e h0) _ _
/-- What is returned: the same sleeper, its slices laid anew. -/
def RetOne (w : World) (x : RawS) (e : Ending) (w' : World) : Prop := ∃ y, e = .returned (.agg (cS y)) ∧ st y = st x ∧ Inner w' y ∧ Lim1 y ∧ New1 w.heap.size y ∧ Below w.heap.size w w'
set_option maxRecDepth 100000 in
set_option maxHeartbeats 4000000 in
theorem clone1_c (x : RawS) (w : World) (hi : Inner w x) (hl : Lim1 x) : Calls Try.prog 25 #[.agg (cS x)] w (RetOne w x) := by
  obtain ⟨who, mode, til, A, n, c, W, B, m, d, T⟩ := x
  obtain ⟨x, hx⟩ : ∃ x : RawS, x = ⟨who, mode, til, A, n, c, W, B, m, d, T⟩ := ⟨_, rfl⟩
  rw [← hx]
  have HX := Lib.hid hx
  clear hx
  have HW : Hid (Rd w 2 A n (Heap.ws W)) := Lib.hid hi.1
  have HT : Hid (Rd w 2 B m (Term.ops T)) := Lib.hid hi.2
  have hn : n ≤ 1000000 := hl.1
  have hm : m ≤ 1000000 := hl.2
  clear hi hl
  have e0 : cS x = #[.int .i64 who, .int .i64 mode, .int .i64 til, .slice A n c, .slice B m d] := by rw [HX.out]; rfl
  rw [e0]
  clear e0
  obtain ⟨w1, hw1⟩ : ∃ w1, w1 = (w.alloc (.cells #[.int .i64 who, .int .i64 mode, .int .i64 til, .slice A n c, .slice B m d] 36)).alloc (.cells #[.int .i64 0, .int .i64 0, .int .i64 0, .slice none 0 0, .slice none 0 0] 36) := ⟨_, rfl⟩
  have K1 : Hid (Blk w1 w.heap.size 36 #[.int .i64 who, .int .i64 mode, .int .i64 til, .slice A n c, .slice B m d]) := Lib.hid (by rw [hw1]; exact (Blk.new w _ _).alloc _)
  have K2 : Hid (Blk w1 (w.heap.size + 1) 36 #[.int .i64 0, .int .i64 0, .int .i64 0, .slice none 0 0, .slice none 0 0]) := Lib.hid (by
    rw [hw1]; have := Blk.new (w.alloc (.cells #[.int .i64 who, .int .i64 mode, .int .i64 til, .slice A n c, .slice B m d] 36)) 36 #[.int .i64 0, .int .i64 0, .int .i64 0, .slice none 0 0, .slice none 0 0]; simpa only [World.size_alloc] using this)
  have B1 : Hid (Below w.heap.size w w1) := Lib.hid (by rw [hw1]; exact bl_alloc (bl_alloc (Below.refl _ _) _) _)
  have SZ1 : Hid (w1.heap.size = w.heap.size + 2) := Lib.hid (by rw [hw1]; simp only [World.size_alloc])
  have q3 := K1.out.cell 3 _ rfl
  have q4 := K1.out.cell 4 _ rfl
  go_enter Try.func25, Try.ntmps25
  rw [hw1] at q3 q4
  go_wp2_with fail
  rw [← hw1]
  clear hw1 q3 q4
  refine (Writes.clonew_c W _ _ _ _ (HW.out.below B1.out) hn).mono ?_
  rintro e w2 ⟨v2, rfl, o2⟩
  obtain ⟨A2, c2, rfl, r2⟩ := o2.form
  have O2 := Lib.hid o2
  have R2 := Lib.hid r2
  have L1 := Lib.hid (K1.out.below o2.2)
  have L2 := Lib.hid (K2.out.below o2.2)
  have B2 := Lib.hid (bl_trans B1.out o2.2)
  have SZ2 := Lib.hid o2.2.size
  clear o2 r2 K1 K2
  have q0 := L1.out.cell 0 _ rfl
  have q1 := L1.out.cell 1 _ rfl
  have q2 := L1.out.cell 2 _ rfl
  have q3 := L1.out.cell 3 _ rfl
  have q4 := L1.out.cell 4 _ rfl
  have qf := L1.out.frozen
  go_wp2_with fail
  have M1 := Lib.hid (L1.out.set_ 3 (.slice A2 n c2))
  have M2 := Lib.hid (L2.out.beside (show w.heap.size ≠ w.heap.size + 1 by omega) 3 (.slice A2 n c2))
  have B3 := Lib.hid (bl_set B2.out (p := ⟨w.heap.size, 3, none⟩) (Nat.le_refl _) (.slice A2 n c2))
  have R3 : Hid (Rd (w2.setCell ⟨w.heap.size, 3, none⟩ (.slice A2 n c2)) 2 A2 n (Heap.ws W)) := Lib.hid (Rd.set_other R2.out (fun b off e => by
    have := O2.out.base b (by rw [e]; rfl); have h := SZ1.out; omega) _ _)
  have SZ3 : Hid (w1.heap.size ≤ (w2.setCell ⟨w.heap.size, 3, none⟩ (.slice A2 n c2)).heap.size) := Lib.hid (by simp only [World.size_setCell]; exact SZ2.out)
  clear L1 L2 B2 R2 q0 q1 q2 q3 q4 qf
  generalize w2.setCell ⟨w.heap.size, 3, none⟩ (.slice A2 n c2) = w3 at *
  refine (clonet_any T _ _ _ _ (HT.out.below B3.out) hm).mono ?_
  rintro e w4 ⟨v4, rfl, o4⟩
  obtain ⟨A4, c4, rfl, r4⟩ := o4.form
  have O4 := Lib.hid o4
  have L1 := Lib.hid (M1.out.below o4.2)
  have L2 := Lib.hid (M2.out.below o4.2)
  have B4 := Lib.hid (bl_trans B3.out o4.2)
  have R4 := Lib.hid (R3.out.below o4.2)
  have T4 := Lib.hid r4
  clear o4 r4 M1 M2 B3 R3
  have N1 := Lib.hid (L1.out.set_ 4 (.slice A4 m c4))
  have q0 := L1.out.cell 0 _ rfl
  have q1 := L1.out.cell 1 _ rfl
  have q2 := L1.out.cell 2 _ rfl
  have q3 := L1.out.cell 3 _ rfl
  have q4 := L1.out.cell 4 _ rfl
  have qf := L1.out.frozen
  have d0 := L2.out.cell 0 _ rfl
  have d1 := L2.out.cell 1 _ rfl
  have d2 := L2.out.cell 2 _ rfl
  have d3 := L2.out.cell 3 _ rfl
  have d4 := L2.out.cell 4 _ rfl
  have df := L2.out.frozen
  go_wp2_with fail
  have P2 := (((((L2.out.beside (show w.heap.size ≠ w.heap.size + 1 by omega) 4 (.slice A4 m c4)).set_ 0 (.int .i64 who)).set_ 1 (.int .i64 mode)).set_ 2 (.int .i64 til)).set_ 3 (.slice A2 n c2)).set_ 4 (.slice A4 m c4)
  have g0 := P2.cell 0 _ rfl
  have g1 := P2.cell 1 _ rfl
  have g2 := P2.cell 2 _ rfl
  have g3 := P2.cell 3 _ rfl
  have g4 := P2.cell 4 _ rfl
  clear P2
  have hS1 : Hid (∀ b off, A2 = some ⟨b, off, none⟩ → w.heap.size + 2 ≤ b) := Lib.hid (fun b off e => by have := O2.out.base b (by rw [e]; rfl); have h := SZ1.out; omega)
  have hS2 : Hid (∀ b off, A4 = some ⟨b, off, none⟩ → w.heap.size + 2 ≤ b) := Lib.hid (fun b off e => by have := O4.out.base b (by rw [e]; rfl); have h := SZ1.out; have h3 := SZ3.out; omega)
  have IN : Hid (Inner w4 (⟨who, mode, til, A2, n, c2, W, A4, m, c4, T⟩ : RawS)) := Lib.hid ⟨R4.out, T4.out⟩
  have h0A : Hid (∀ b off, A2 = some ⟨b, off, none⟩ → 0 < n → b ≠ w.heap.size) := Lib.hid (fun b off e _ => by have := hS1.out b off e; omega)
  have h0B : Hid (∀ b off, A4 = some ⟨b, off, none⟩ → 0 < m → b ≠ w.heap.size) := Lib.hid (fun b off e _ => by have := hS2.out b off e; omega)
  have h1A : Hid (∀ b off, A2 = some ⟨b, off, none⟩ → 0 < n → b ≠ w.heap.size + 1) := Lib.hid (fun b off e _ => by have := hS1.out b off e; omega)
  have h1B : Hid (∀ b off, A4 = some ⟨b, off, none⟩ → 0 < m → b ≠ w.heap.size + 1) := Lib.hid (fun b off e _ => by have := hS2.out b off e; omega)
  refine bodyPost_ret (v := .agg #[.int .i64 who, .int .i64 mode, .int .i64 til, .slice A2 n c2, .slice A4 m c4]) (by simp [results, Try.results25, go_sem, g0, g1, g2, g3, g4]) rfl ?_
  refine ⟨⟨who, mode, til, A2, n, c2, W, A4, m, c4, T⟩, rfl, by rw [HX.out]; rfl, ?_, ⟨hn, hm⟩, ⟨fun b off e _ => by have := hS1.out b off e; omega, fun b off e _ => by have := hS2.out b off e; omega⟩, ?_⟩
  · exact (((((IN.out.set_ h0A.out h0B.out 4 _).set_ h1A.out h1B.out 0 _).set_ h1A.out h1B.out 1 _).set_ h1A.out h1B.out 2 _).set_ h1A.out h1B.out 3 _).set_ h1A.out h1B.out 4 _
  · exact bl_set (p := ⟨w.heap.size + 1, 4, none⟩) (bl_set (p := ⟨w.heap.size + 1, 3, none⟩) (bl_set (p := ⟨w.heap.size + 1, 2, none⟩) (bl_set (p := ⟨w.heap.size + 1, 1, none⟩) (bl_set (p := ⟨w.heap.size + 1, 0, none⟩) (bl_set (p := ⟨w.heap.size, 4, none⟩) B4.out (Nat.le_refl _) _) (Nat.le_succ _) _) (Nat.le_succ _) _) (Nat.le_succ _) _) (Nat.le_succ _) _) (Nat.le_succ _) _

theorem set5 (L : List RawS) (k : Nat) (x y : RawS) (hx : L[k]? = some x) :
    (((((ss L).set (k * 5) (.int .i64 y.who)).set (k * 5 + 1) (.int .i64 y.mode)).set (k * 5 + 2) (.int .i64 y.til)).set (k * 5 + 3) (.slice y.A y.n y.c)).set (k * 5 + 4) (.slice y.B y.m y.d) = ss (L.set k y) := by
  induction L generalizing k with
  | nil => simp at hx
  | cons a L ih =>
    have e : ss (a :: L) = [.int .i64 a.who, .int .i64 a.mode, .int .i64 a.til, .slice a.A a.n a.c, .slice a.B a.m a.d] ++ ss L := rfl
    cases k with
    | zero => rw [e]; rfl
    | succ k =>
      have := ih k (by simpa using hx)
      rw [e, List.set_cons_succ, show (k + 1) * 5 = k * 5 + 5 by omega]
      show _ = [.int .i64 a.who, .int .i64 a.mode, .int .i64 a.til, .slice a.A a.n a.c, .slice a.B a.m a.d] ++ ss (L.set k y)
      rw [← this]
      simp only [List.cons_append, List.nil_append, Nat.add_right_comm _ 5, List.set_cons_succ]
theorem own_set5 {w0 w : World} {te n cap g : Nat} {L : List RawS} (h : Own w0 w te 5 (.slice (some ⟨g, 0, none⟩) n cap) n (ss L)) (k : Nat) (x y : RawS) (hx : L[k]? = some x) :
    Own w0 (((((w.setCell ⟨g, k * 5, none⟩ (.int .i64 y.who)).setCell ⟨g, k * 5 + 1, none⟩ (.int .i64 y.mode)).setCell ⟨g, k * 5 + 2, none⟩ (.int .i64 y.til)).setCell ⟨g, k * 5 + 3, none⟩ (.slice y.A y.n y.c)).setCell ⟨g, k * 5 + 4, none⟩ (.slice y.B y.m y.d)) te 5 (.slice (some ⟨g, 0, none⟩) n cap) n (ss (L.set k y)) := by
  rw [← set5 L k x y hx]
  exact own_set (own_set (own_set (own_set (own_set h _ _) _ _) _ _) _ _) _ _
theorem Inner.set5 {w : World} {x : RawS} {g : Nat} (h : Inner w x) (hA : ∀ b off, x.A = some ⟨b, off, none⟩ → 0 < x.n → b ≠ g) (hB : ∀ b off, x.B = some ⟨b, off, none⟩ → 0 < x.m → b ≠ g) (k : Nat) (y : RawS) :
    Inner (((((w.setCell ⟨g, k * 5, none⟩ (.int .i64 y.who)).setCell ⟨g, k * 5 + 1, none⟩ (.int .i64 y.mode)).setCell ⟨g, k * 5 + 2, none⟩ (.int .i64 y.til)).setCell ⟨g, k * 5 + 3, none⟩ (.slice y.A y.n y.c)).setCell ⟨g, k * 5 + 4, none⟩ (.slice y.B y.m y.d)) x :=
  ((((h.set_ hA hB _ _).set_ hA hB _ _).set_ hA hB _ _).set_ hA hB _ _).set_ hA hB _ _
theorem off_ne {g n cap : Nat} {x : RawS} (h : Off1 (.slice (some ⟨g, 0, none⟩) n cap) x) : (∀ b off, x.A = some ⟨b, off, none⟩ → 0 < x.n → b ≠ g) ∧ (∀ b off, x.B = some ⟨b, off, none⟩ → 0 < x.m → b ≠ g) :=
  ⟨fun b off e hn e2 => h.1 b off e hn (by rw [e2]; rfl), fun b off e hn e2 => h.2 b off e hn (by rw [e2]; rfl)⟩

set_option maxRecDepth 100000 in
set_option maxHeartbeats 4000000 in
theorem clone_p (L : List RawS) (A : Option Addr) (n c : Nat) (w : World) (hr : Sls w A n L) (hn : n ≤ 1000000) (hl : Lim L) :
    Calls Try.prog 36 #[.slice A n c] w (RetOP 36 w n (cc L)) := by
  have HR := Lib.hid hr
  have HLim := Lib.hid hl
  have HLen := Lib.hid hr.len
  clear hr hl
  go_enter Try.func36, Try.ntmps36
  go_wp2_with fail
  refine (clones_any L _ _ _ _ HR.out.1 hn).mono ?_
  rintro e w1 ⟨v1, rfl, ho⟩
  rcases Nat.eq_zero_or_pos n with h0 | h0
  · subst h0
    obtain ⟨B, d, rfl, hrd⟩ := ho.form
    have HO := Lib.hid ho
    clear ho hrd
    go_wp2
    go_loopw [9] (fun i wr => i = .int .i64 0 ∧ wr = w1) (fun i _ => 0)
    case atStart => exact ⟨rfl, rfl⟩
    case round =>
      obtain ⟨rfl, rfl⟩ := hrel
      go_wp2
      go_ret
      exact ⟨_, L, rfl, HO.out, rfl, HR.out.2.below HO.out.2, HLim.out, off_old HO.out HR.out.2⟩
  · obtain ⟨g, cap, rfl⟩ := own_lay ho h0
    have HO := Lib.hid ho
    have HOF := Lib.hid (off_old ho HR.out.2)
    clear ho
    go_wp2
    go_loopw [9] (fun i wr => ∃ k : Nat, k ≤ n ∧ i = .int .i64 k ∧ Hid (∃ L' : List RawS, Own w wr 36 5 (.slice (some ⟨g, 0, none⟩) n cap) n (ss L') ∧ cc L' = cc L ∧ Inners wr L' ∧ Lim L' ∧ Off (.slice (some ⟨g, 0, none⟩) n cap) L')) (fun i _ => n - (intOf i).toNat)
    case atStart => exact ⟨0, Nat.zero_le _, rfl, Lib.hid ⟨L, HO.out, rfl, HR.out.2.below HO.out.2, HLim.out, HOF.out⟩⟩
    case round =>
      obtain ⟨k, hk, rfl, HI⟩ := hrel
      generalize wr = w2 at *
      by_cases hlt : k < n
      · obtain ⟨L', i1, i2, i3, i4, i5⟩ := HI.out
        have hlen : L'.length = n := by have := congrArg List.length i2; rw [cc_len, cc_len, HLen.out] at this; exact this
        obtain ⟨x, hx⟩ : ∃ x, L'[k]? = some x := ⟨_, List.getElem?_eq_getElem (by omega)⟩
        have hxin := i3 x (List.mem_of_getElem? hx)
        have hxn := i4 x (List.mem_of_getElem? hx)
        have hss := flat_at sc_len L' k x hx
        obtain ⟨xw, xm, xt, xA, xn, xc, xW, xB, xk, xd, xT⟩ := x
        have c0 : w2.cell? ⟨g, k * 5, none⟩ = some (.int .i64 xw) := (i1.1.cellAt (k * 5) (by omega)).trans (hss 0 (by decide))
        have c1 : w2.cell? ⟨g, k * 5 + 1, none⟩ = some (.int .i64 xm) := (i1.1.cellAt (k * 5 + 1) (by omega)).trans (hss 1 (by decide))
        have c2 : w2.cell? ⟨g, k * 5 + 2, none⟩ = some (.int .i64 xt) := (i1.1.cellAt (k * 5 + 2) (by omega)).trans (hss 2 (by decide))
        have c3 : w2.cell? ⟨g, k * 5 + 3, none⟩ = some (.slice xA xn xc) := (i1.1.cellAt (k * 5 + 3) (by omega)).trans (hss 3 (by decide))
        have c4 : w2.cell? ⟨g, k * 5 + 4, none⟩ = some (.slice xB xk xd) := (i1.1.cellAt (k * 5 + 4) (by omega)).trans (hss 4 (by decide))
        have HOWN := Lib.hid i1
        have HCC := Lib.hid i2
        have HINN := Lib.hid i3
        have HLL := Lib.hid i4
        have HOFF := Lib.hid i5
        have HX := Lib.hid hx
        have HXN := Lib.hid hxn
        have HXIN := Lib.hid hxin
        have HCL := Lib.hid (clone1_c ⟨xw, xm, xt, xA, xn, xc, xW, xB, xk, xd, xT⟩ (w2.alloc (.cells #[.int .i64 xw, .int .i64 xm, .int .i64 xt, .slice xA xn xc, .slice xB xk xd] 36)) (HXIN.out.alloc _) HXN.out)
        have HLT := Lib.hid (cell_lt c0)
        have HK : Hid (∀ V, Below w2.heap.size w2 V → V.cell? ⟨g, k * 5, none⟩ = some (.int .i64 xw) ∧ V.cell? ⟨g, k * 5 + 1, none⟩ = some (.int .i64 xm) ∧ V.cell? ⟨g, k * 5 + 2, none⟩ = some (.int .i64 xt) ∧ V.cell? ⟨g, k * 5 + 3, none⟩ = some (.slice xA xn xc) ∧ V.cell? ⟨g, k * 5 + 4, none⟩ = some (.slice xB xk xd)) :=
          Lib.hid (fun V h => ⟨(h.cell (cell_lt c0)).trans c0, (h.cell (cell_lt c1)).trans c1, (h.cell (cell_lt c2)).trans c2, (h.cell (cell_lt c3)).trans c3, (h.cell (cell_lt c4)).trans c4⟩)
        clear i1 i2 i3 i4 i5 HI hss hx hxin hlen hxn
        go_wp2_with fail
        refine HCL.out.mono ?_
        rintro e w3 ⟨y, rfl, hst, hin, hly, hnw, hb⟩
        have HB := Lib.hid (bl_trans (bl_alloc (Below.refl w2.heap.size w2) (.cells #[.int .i64 xw, .int .i64 xm, .int .i64 xt, .slice xA xn xc, .slice xB xk xd] 36)) hb)
        have HST := Lib.hid hst
        have HIN := Lib.hid hin
        have HLY := Lib.hid hly
        have HNW : Hid (New1 (w2.heap.size + 1) y) := Lib.hid (by simpa only [World.size_alloc] using hnw)
        have HOW3 := Lib.hid (HOWN.out.below HB.out)
        obtain ⟨c0', c1', c2', c3', c4'⟩ := HK.out _ HB.out
        have f0 := HOW3.out.1.frozenAt (k * 5)
        have f1 := HOW3.out.1.frozenAt (k * 5 + 1)
        have f2 := HOW3.out.1.frozenAt (k * 5 + 2)
        have f3 := HOW3.out.1.frozenAt (k * 5 + 3)
        have f4 := HOW3.out.1.frozenAt (k * 5 + 4)
        obtain ⟨yw, ym, yt, yA, yn, yc, yW, yB, yk, yd, yT⟩ := y
        clear hst hin hly hnw hb HCL c0 c1 c2 c3 c4
        simp only [cS]
        go_wp2
        go_roundw
        case rel =>
          refine ⟨k + 1, by omega, by go_num, Lib.hid ⟨L'.set k ⟨yw, ym, yt, yA, yn, yc, yW, yB, yk, yd, yT⟩, ?_, ?_, ?_, ?_, ?_⟩⟩
          · exact own_set5 HOW3.out k _ ⟨yw, ym, yt, yA, yn, yc, yW, yB, yk, yd, yT⟩ HX.out
          · rw [cc_set L' k _ (⟨yw, ym, yt, yA, yn, yc, yW, yB, yk, yd, yT⟩ : RawS) HX.out HST.out]; exact HCC.out
          · intro z hz
            rcases mem_set hz with hz | rfl
            · have h9 := off_ne (HOFF.out z hz)
              exact Inner.set5 ((HINN.out z hz).below HB.out) h9.1 h9.2 k ⟨yw, ym, yt, yA, yn, yc, yW, yB, yk, yd, yT⟩
            · have h8 : g < w2.heap.size := HLT.out
              exact Inner.set5 HIN.out (fun b off e hn' => by have := HNW.out.1 b off e hn'; omega) (fun b off e hn' => by have := HNW.out.2 b off e hn'; omega) k ⟨yw, ym, yt, yA, yn, yc, yW, yB, yk, yd, yT⟩
          · intro z hz
            rcases mem_set hz with hz | rfl
            · exact HLL.out z hz
            · exact HLY.out
          · intro z hz
            rcases mem_set hz with hz | rfl
            · exact HOFF.out z hz
            · have h8 : g < w2.heap.size := HLT.out
              refine ⟨fun b off e hn' e2 => ?_, fun b off e hn' e2 => ?_⟩
              · have := HNW.out.1 b off e hn'
                have e3 : g = b := by simpa [Value.ownBlock] using e2
                omega
              · have := HNW.out.2 b off e hn'
                have e3 : g = b := by simpa [Value.ownBlock] using e2
                omega
        case measure => simp [intOf]; omega
      · obtain rfl : k = n := by omega
        have HI2 := HI
        go_wp2
        go_ret
        obtain ⟨L', i1, i2, i3, i4, i5⟩ := HI2.out
        exact ⟨_, L', rfl, i1, i2, i3, i4, i5⟩
end Go.Proofs.Ytddgdhaioomnnaa.Sleep
